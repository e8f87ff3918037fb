/- The law ImageBack of layer 23 returns true for every argument. -/
import Derived.Test.YtkkjnahjmomjgaaWa10
namespace Go.Proofs.Ytkkjnahjmomjgaa
set_option linter.unusedVariables false
set_option linter.unusedSimpArgs false
open Go.RowKit Go.Maps
set_option maxHeartbeats 8000000
set_option maxRecDepth 100000
theorem back_walk (w : World) (g : Gv) (wg : GvOk w g) : Calls Try.prog 3 #[g.v] w (RetP (.bool true) w) := by
  have HK := Lib.hid known23_c
  have HFw := Lib.hid (fun W (b : Below w.heap.size w W) => few_c W g (wg.at_.up b))
  have HOf := Lib.hid (fun W (b : Below w.heap.size w W) (hs : FewP g) => of_c W g (wg.at_.up b) hs)
  have HEn := Lib.hid (fun W (b : Below w.heap.size w W) (hs : FewP g) => (iencode_c W g (wg.at_.up b) hs.small).mono fun r w' h => encX_e h)
  have HNd := Lib.hid (fun W (b : Below w.heap.size w W) (hs : FewP g) => ineed_c W g (wg.at_.up b) hs.small)
  have HAt := Lib.hid wg.at_
  obtain ⟨va, hva⟩ : ∃ v, v = g.v := ⟨_, rfl⟩
  obtain ⟨B, K, b1, B2, L, b2, ea⟩ : ∃ A N a1 A2 M a2, va = .agg #[.slice A N a1, .slice A2 M a2] := ⟨_, _, _, _, _, _, hva⟩
  rw [← hva] at HFw HOf HEn HNd ⊢
  subst ea
  have HVa := Lib.hid hva.symm
  clear hva wg
  go_enter Try.func3, Try.ntmps3
  go_wp2_with fail
  obtain ⟨G, hG⟩ : ∃ S, S = w.heap.size := ⟨_, rfl⟩
  obtain ⟨w1, hw1⟩ : ∃ W, W = w.alloc (.cells #[.slice B K b1, .slice B2 L b2] 25) := ⟨_, rfl⟩
  have hbk : Bk w1 G 25 #[.slice B K b1, .slice B2 L b2] := by rw [hw1, hG]; exact Bk.new w _ _
  have hb1 : Below w.heap.size w w1 := by rw [hw1]; exact Gw.alloc w _
  rw [← hw1, ← hG]
  have H1 := Lib.hid (And.intro hbk hb1)
  clear hw1 hG hbk hb1
  refine Calls.mono (HK.out w1) ?_
  rintro r w2 ⟨rfl, b2'⟩
  have H2 := Lib.hid (show Bk w2 G 25 #[.slice B K b1, .slice B2 L b2] ∧ Below w.heap.size w w2 from ⟨H1.out.1.below b2' H1.out.1.lt, H1.out.2.trans (b2'.mono H1.out.2.size)⟩)
  obtain ⟨g0, g1⟩ := H2.out.1.two
  have hGl := H2.out.1.lt
  clear b2' H1
  go_wp2_with fail
  refine Calls.mono (HFw.out w2 H2.out.2) ?_
  rintro r w3 ⟨bf, rfl, hfa, b3⟩
  have H3 := Lib.hid (show Bk w3 G 25 #[.slice B K b1, .slice B2 L b2] ∧ Below w.heap.size w w3 from ⟨H2.out.1.below b3 H2.out.1.lt, H2.out.2.trans (b3.mono H2.out.2.size)⟩)
  clear b3 H2 g0 g1 hGl
  cases bf with
  | false =>
    clear hfa
    go_wp2_with fail
    go_ret
    exact ⟨rfl, H3.out.2⟩
  | true =>
    have HP := Lib.hid (hfa rfl)
    clear hfa
    obtain ⟨g0, g1⟩ := H3.out.1.two
    have hGl := H3.out.1.lt
    go_wp2_with fail
    refine Calls.mono (HOf.out w3 H3.out.2 HP.out) ?_
    rintro r w4 ⟨gx, rfl, hx, hn, hr, b4⟩
    have hfx : FewP gx := by
      have h := HP.out
      unfold FewP at h ⊢
      rw [hn, hr]
      exact h
    have e1 : errG gx = errG g ∧ ckG gx = ckG g ∧ encW gx.n gx.r = encW g.n g.r ∧ wordsL gx.n = wordsL g.n ∧ gx.r.length = g.r.length := by
      have k1 : ckG gx = ckG g := by unfold ckG; rw [hn, hr]
      refine ⟨?_, k1, by rw [hn, hr], by rw [hn], by rw [hr]⟩
      unfold errG
      rw [k1, hn, hr]
    have HGx := Lib.hid (And.intro hx (And.intro hfx e1))
    have H4 := Lib.hid (show Bk w4 G 25 #[.slice B K b1, .slice B2 L b2] ∧ Below w.heap.size w w4 ∧ Below w3.heap.size w3 w4 from ⟨H3.out.1.below b4 H3.out.1.lt, H3.out.2.trans (b4.mono H3.out.2.size), b4⟩)
    have HRe := Lib.hid (fun W (b : Below w4.heap.size w4 W) => (rencodeX_c W gx (hx.up b) hfx).mono fun r w' h => encX_e h)
    have HRc := Lib.hid (fun W (b : Below w4.heap.size w4 W) => rcheck_c W gx (hx.up b) hfx)
    have HRn := Lib.hid (fun W (b : Below w4.heap.size w4 W) => rneed_c W gx (hx.up b) hfx)
    obtain ⟨vx, hvx⟩ : ∃ v, v = gx.v := ⟨_, rfl⟩
    obtain ⟨A, N, a1, A2, M, a2, ex⟩ : ∃ A N a1 A2 M a2, vx = .agg #[.slice A N a1, .slice A2 M a2] := ⟨_, _, _, _, _, _, hvx⟩
    rw [← hvx] at HRe HRc HRn ⊢
    subst ex
    clear hx hn hr b4 hfx e1 H3 g0 g1 hGl hvx
    obtain ⟨g0, g1⟩ := H4.out.1.two
    have hGl := H4.out.1.lt
    go_wp2_with fail
    obtain ⟨X, hX⟩ : ∃ S, S = w4.heap.size := ⟨_, rfl⟩
    obtain ⟨w5, hw5⟩ : ∃ W, W = w4.alloc (.cells #[.slice A N a1, .slice A2 M a2] 31) := ⟨_, rfl⟩
    have hbk : Bk w5 X 31 #[.slice A N a1, .slice A2 M a2] := by rw [hw5, hX]; exact Bk.new w4 _ _
    have hb5 : Below w4.heap.size w4 w5 := by rw [hw5]; exact Gw.alloc w4 _
    rw [← hw5, ← hX]
    have H5 := Lib.hid (show Bk w5 G 25 #[.slice B K b1, .slice B2 L b2] ∧ Bk w5 X 31 #[.slice A N a1, .slice A2 M a2] ∧ Below w.heap.size w w5 ∧ Below w4.heap.size w4 w5 from
      ⟨H4.out.1.below hb5 H4.out.1.lt, hbk, H4.out.2.1.trans (hb5.mono H4.out.2.1.size), hb5⟩)
    clear hw5 hX hbk hb5 g0 g1 hGl
    refine Calls.mono (HEn.out w5 H5.out.2.2.1 HP.out) ?_
    rintro r w6 ⟨xA, xn, xc, rfl, b6, hx1, hx2⟩
    have H6 := Lib.hid (show Bk w6 G 25 #[.slice B K b1, .slice B2 L b2] ∧ Bk w6 X 31 #[.slice A N a1, .slice A2 M a2] ∧ Below w.heap.size w w6 ∧ Below w4.heap.size w4 w6 from
      ⟨H5.out.1.below b6 H5.out.1.lt, H5.out.2.1.below b6 H5.out.2.1.lt, H5.out.2.2.1.trans (b6.mono H5.out.2.2.1.size), H5.out.2.2.2.trans (b6.mono H5.out.2.2.2.size)⟩)
    have HX := Lib.hid (And.intro hx1 hx2)
    obtain ⟨er, her⟩ : ∃ e, e = errG g := ⟨_, rfl⟩
    have HEr := Lib.hid her
    rw [← her]
    clear b6 hx1 hx2 her H5
    obtain ⟨x0, x1⟩ := H6.out.2.1.two
    have hXl := H6.out.2.1.lt
    go_wp2_with fail
    refine Calls.mono (HRe.out w6 H6.out.2.2.2) ?_
    rintro r w7 ⟨yA, yn, yc, rfl, b7, hy1, hy2⟩
    rw [HGx.out.2.2.1, ← HEr.out]
    rw [HGx.out.2.2.1] at hy1 hy2
    have H7 := Lib.hid (show Bk w7 G 25 #[.slice B K b1, .slice B2 L b2] ∧ Bk w7 X 31 #[.slice A N a1, .slice A2 M a2] ∧ Below w.heap.size w w7 ∧ Below w4.heap.size w4 w7 ∧ Below w6.heap.size w6 w7 from
      ⟨H6.out.1.below b7 H6.out.1.lt, H6.out.2.1.below b7 H6.out.2.1.lt, H6.out.2.2.1.trans (b7.mono H6.out.2.2.1.size), H6.out.2.2.2.trans (b7.mono H6.out.2.2.2.size), b7⟩)
    have HY := Lib.hid (And.intro hy1 hy2)
    clear b7 hy1 hy2 x0 x1 hXl
    by_cases he : er = 0
    · have he0 : errG g = 0 := by rw [← HEr.out]; exact he
      obtain ⟨c1, c2, c3, c4, c5⟩ := HX.out.1 he0
      obtain ⟨d1, d2, d3, d4, d5⟩ := HY.out.1 he0
      rw [HGx.out.2.2.2.2.1] at d3 d5
      have l1 := encW_len g.n g.r (fun r hr => (goodS_size ((ckG_ok c1).2.2 r hr).1).2)
      have HWd := Lib.hid (fun W (b : Below w7.heap.size w7 W) => show Calls Try.prog 12 #[.slice xA xn xc, .slice yA yn yc] W (RetP (.bool true) W) from by
        have h1 := words23_c W xA yA xc yc (encW g.n g.r) (encW g.n g.r) ((((c5.below H7.out.2.2.2.2).more H7.out.2.2.2.2.size).below b).more b.size) ((d5.below b).more b.size) (by omega) (by omega)
        rw [decide_eq_true rfl, ← c3] at h1
        rw [show yn = xn from d3.trans c3.symm]
        exact h1)
      have HDc := Lib.hid (fun W (b : Below w7.heap.size w7 W) => show Calls Try.prog 16 #[.slice xA xn xc] W (DecW (encW g.n g.r) W) from by
        have h1 := decode_c W xA xc (encW g.n g.r) ((((c5.below H7.out.2.2.2.2).more H7.out.2.2.2.2.size).below b).more b.size) (by omega)
        rw [← c3] at h1
        exact h1)
      have HC := Lib.hid (And.intro c1 (And.intro c2 (show xn = endL g.n (2 + 5 * g.r.length) by omega)))
      subst he
      clear he0 c1 c2 c3 c4 c5 d1 d2 d3 d4 d5 l1
      go_wp2_with fail
      refine Calls.mono (HWd.out w7 (Below.refl _ _)) ?_
      rintro r w8 ⟨rfl, b8⟩
      have H8 := Lib.hid (show Bk w8 G 25 #[.slice B K b1, .slice B2 L b2] ∧ Below w.heap.size w w8 ∧ Below w7.heap.size w7 w8 from
        ⟨H7.out.1.below b8 H7.out.1.lt, H7.out.2.2.1.trans (b8.mono H7.out.2.2.1.size), b8⟩)
      clear b8 HWd
      go_wp2_with fail
      refine Calls.mono (HDc.out w8 H8.out.2.2) ?_
      rintro r w9 (⟨_, _, hbad⟩ | ⟨h, rfl, hat, hck, hend, hee, b9, _, _⟩)
      · exact absurd rfl (hbad g HC.out.1 HC.out.2.1)
      · obtain ⟨s1, s2⟩ := enc_inj hck hend HC.out.1 HC.out.2.1 hee
        have H9 := Lib.hid (show Bk w9 G 25 #[.slice B K b1, .slice B2 L b2] ∧ Below w.heap.size w w9 from
          ⟨H8.out.1.below b9 H8.out.1.lt, H8.out.2.1.trans (b9.mono H8.out.2.1.size)⟩)
        have HEq := Lib.hid (fun W (b : Below w9.heap.size w9 W) => show Calls Try.prog 17 #[h.v, .agg #[.slice B K b1, .slice B2 L b2]] W (RetP (.bool true) W) from by
          have h1 := equalG_c W h g (hat.up b) ((HAt.out.up H9.out.2).up b) (ck_small hck hend)
          rw [same_norm.2 ⟨s1, s2⟩, HVa.out] at h1
          exact h1)
        have HN2 := Lib.hid (fun W (b : Below w9.heap.size w9 W) => show Calls Try.prog 14 #[.agg #[.slice B K b1, .slice B2 L b2]] W (RetP (.int .i64 (xn : Int)) W) from by
          have h1 := HNd.out W (H9.out.2.trans (b.mono H9.out.2.size)) HP.out
          have h2 := wordsL_end g.n (fun x hx => ((ckG_ok HC.out.1).1 x hx).2)
          rw [h2, show ((2 + 5 * g.r.length : Nat) : Int) + (endL g.n 0 : Int) = (xn : Int) from by have h3 := HC.out.2.2; rw [h3, endL_add g.n (2 + 5 * g.r.length)]; omega] at h1
          exact h1)
        obtain ⟨vh, hvh⟩ : ∃ v, v = h.v := ⟨_, rfl⟩
        obtain ⟨C, N3, c1, C2, M3, c2, eh⟩ : ∃ A N a1 A2 M a2, vh = .agg #[.slice A N a1, .slice A2 M a2] := ⟨_, _, _, _, _, _, hvh⟩
        rw [← hvh] at HEq ⊢
        subst eh
        obtain ⟨g0, g1⟩ := H9.out.1.two
        have hGl := H9.out.1.lt
        clear hat hck hend hee b9 s1 s2 hvh H8 HDc
        go_wp2_with fail
        refine Calls.mono (HEq.out _ (Gw.alloc w9 _)) ?_
        rintro r w10 ⟨rfl, b10⟩
        have b910 : Below w9.heap.size w9 w10 := (Gw.alloc w9 (.cells #[.slice C N3 c1, .slice C2 M3 c2] 25)).trans (b10.mono (Gw.alloc w9 _).size)
        have H10 := Lib.hid (show Bk w10 G 25 #[.slice B K b1, .slice B2 L b2] ∧ Below w9.heap.size w9 w10 from ⟨H9.out.1.below b910 H9.out.1.lt, b910⟩)
        clear b10 b910 g0 g1 hGl
        obtain ⟨g0, g1⟩ := H10.out.1.two
        have hGl := H10.out.1.lt
        go_wp2_with fail
        refine Calls.mono (HN2.out w10 H10.out.2) ?_
        rintro r w11 ⟨rfl, b11⟩
        have H11 := Lib.hid (H9.out.2.trans ((H10.out.2.trans (b11.mono H10.out.2.size)).mono H9.out.2.size))
        clear b11 g0 g1 hGl
        go_wp2_with fail
        go_ret
        exact ⟨rfl, H11.out⟩
    · have he0 : errG g ≠ 0 := by rw [← HEr.out]; exact he
      obtain ⟨r1, r2, r3⟩ := HX.out.2 he0
      obtain ⟨t1, t2, t3⟩ := HY.out.2 he0
      subst r1 r2 r3 t1 t2 t3
      have HWd := Lib.hid (fun W => show Calls Try.prog 12 #[.slice none 0 0, .slice none 0 0] W (RetP (.bool true) W) from by
        have h1 := words23_c W none none 0 0 [] [] Rd.nil Rd.nil (by decide) (by decide)
        rw [decide_eq_true rfl] at h1
        exact h1)
      have e1 : (er != 0) = true := by simpa using he
      have HE2 := Lib.hid he
      clear he he0
      go_wp2_with fail
      refine Calls.mono (HWd.out w7) ?_
      rintro r w8 ⟨rfl, b8⟩
      have H8 := Lib.hid (show Bk w8 G 25 #[.slice B K b1, .slice B2 L b2] ∧ Bk w8 X 31 #[.slice A N a1, .slice A2 M a2] ∧ Below w.heap.size w w8 ∧ Below w4.heap.size w4 w8 from
        ⟨H7.out.1.below b8 H7.out.1.lt, H7.out.2.1.below b8 H7.out.2.1.lt, H7.out.2.2.1.trans (b8.mono H7.out.2.2.1.size), H7.out.2.2.2.1.trans (b8.mono H7.out.2.2.2.1.size)⟩)
      clear b8 HWd H7
      by_cases h3 : er = 3
      · subst h3
        go_wp2_with fail
        have HSx := Lib.hid (show GBx w8 X gx (.slice A N a1) (.slice A2 M a2) from fun W b => ⟨(H8.out.2.1.below b H8.out.2.1.lt).cell 0, (H8.out.2.1.below b H8.out.2.1.lt).cell 1, (HGx.out.1.up H8.out.2.2.2).up b⟩)
        by_cases hck : ckG g = 0
        · have HSg := Lib.hid (GBx.of H8.out.1 (HAt.out.up H8.out.2.2.1))
          have HC0 := Lib.hid (fun W (b : Below w8.heap.size w8 W) => show Calls Try.prog 13 #[.agg #[.slice A N a1, .slice A2 M a2]] W (RetP (.int .i64 0) W) from by
            have h1 := HRc.out W (H8.out.2.2.2.trans (b.mono H8.out.2.2.2.size))
            rw [HGx.out.2.2.2.1, hck] at h1
            exact h1)
          obtain ⟨nd, hnd⟩ : ∃ nd, nd = 2 + 5 * (g.r.length : Int) + wordsL g.n := ⟨_, rfl⟩
          have HN1 := Lib.hid (fun W (b : Below w8.heap.size w8 W) => show Calls Try.prog 15 #[.agg #[.slice A N a1, .slice A2 M a2]] W (RetP (.int .i64 nd) W) from by
            have h1 := HRn.out W (H8.out.2.2.2.trans (b.mono H8.out.2.2.2.size))
            rw [HGx.out.2.2.2.2.2.1, HGx.out.2.2.2.2.2.2, ← hnd] at h1
            exact h1)
          have HN2 := Lib.hid (fun W (b : Below w8.heap.size w8 W) => show Calls Try.prog 14 #[.agg #[.slice B K b1, .slice B2 L b2]] W (RetP (.int .i64 nd) W) from by
            have h1 := HNd.out W (H8.out.2.2.1.trans (b.mono H8.out.2.2.1.size)) HP.out
            rw [show ((2 + 5 * g.r.length : Nat) : Int) + wordsL g.n = nd from by rw [hnd]; omega] at h1
            exact h1)
          clear hnd hck
          refine ib11c _ _ _ X G gx g A A2 B B2 N M K L a1 a2 b1 b2 nd HSx HSg HC0 HN1 HN2 (by simp) rfl ?_ ?_ ?_ ?_
          · rfl
          · rfl
          · rfl
          intro vals w9 hG h2'
          unfold IsV at h2'
          simp only [putD, Act.put, List.setIfInBounds_toArray, List.set_cons_zero, List.set_cons_succ, h2']
          have H9 := Lib.hid (H8.out.2.2.1.trans (hG.mono H8.out.2.2.1.size))
          clear hG h2'
          go_wp2_with fail
          go_ret
          exact ⟨rfl, H9.out⟩
        · have HC0 := Lib.hid (fun W (b : Below w8.heap.size w8 W) => show Calls Try.prog 13 #[.agg #[.slice A N a1, .slice A2 M a2]] W (RetP (.int .i64 (ckG g)) W) from by
            have h1 := HRc.out W (H8.out.2.2.2.trans (b.mono H8.out.2.2.2.size))
            rw [HGx.out.2.2.2.1] at h1
            exact h1)
          refine ib11b _ _ _ X gx A A2 N M a1 a2 (ckG g) hck HSx HC0 rfl ?_ ?_ ?_
          · rfl
          · rfl
          intro vals w9 hG h2'
          unfold IsV at h2'
          simp only [putD, Act.put, List.setIfInBounds_toArray, List.set_cons_zero, List.set_cons_succ, h2']
          have H9 := Lib.hid (H8.out.2.2.1.trans (hG.mono H8.out.2.2.1.size))
          clear hG h2'
          go_wp2_with fail
          go_ret
          exact ⟨rfl, H9.out⟩
      · have e3 : (er != 3) = true := by simpa using h3
        go_wp2_with fail
        refine ib11a _ _ _ er h3 rfl ?_ ?_
        · rfl
        intro vals w9 hG h2'
        unfold IsV at h2'
        simp only [putD, Act.put, List.setIfInBounds_toArray, List.set_cons_zero, List.set_cons_succ, h2']
        have H9 := Lib.hid (H8.out.2.2.1.trans (hG.mono H8.out.2.2.1.size))
        clear hG h2'
        go_wp2_with fail
        go_ret
        exact ⟨rfl, H9.out⟩
end Go.Proofs.Ytkkjnahjmomjgaa
namespace Go.Proofs.Ytkkjnahjmomjgaa.imageBack
open Go.ChangeShapes Go.WideShapes Go.ChangeAt Go.RowKit
open Go.ChangeMaps (open_string shut_string)
set_option linter.unusedVariables false
set_option maxRecDepth 100000 in
theorem lifted (os : Os) (started : os.Started) (H : Type) (enc : TypeId × Value → H) :
    ReturnsInHanded {} Try.checked os 3 .any (Rows.imageBackSpec.pre6 enc Try.prog Try.f3 Rows.imageBackRow.domain false) (Rows.imageBackSpec.post enc Try.prog Try.f3 false true false false) := by
  refine returnsInHanded_of_change (C := Try.checked) own started (by kernel_rfl) Try.func3
    (ChangeSpec.witness6 (enc := enc) (C := Try.checked) false ⟨#[], #[.agg #[.slice none 0 0, .slice none 0 0]], []⟩ 8 (by kernel_rfl) (by kernel_rfl) (by kernel_rfl) (by kernel_rfl)) ?_
  intro W base args ds gs before hval0 hW hcnd _
  have hval : ∀ (j : Nat) t v, Try.f3.params[j]? = some t → args[j]? = some v → Value.okWide Try.prog W .any base t v := hval0
  have hW' := hW
  obtain ⟨p, q, hA0, hV, rfl, hfz, hnd⟩ := hW
  have hA : DataW.TrodAll enc Try.prog W 0 (fun _ => true) true Try.f3.params.toList args.toList ds p := hA0
  rw [Try.params3] at hA hval
  obtain ⟨v0, vs0, d0, ds0, p0, q0, hargs, rfl, rfl, h0, r0⟩ := trodAll_cons hA
  obtain ⟨rfl, rfl, rfl⟩ := trodAll_nil r0
  obtain rfl : args = #[v0] := by cases args; simp_all
  obtain ⟨rfl, rfl⟩ := trodVars_none hV
  have k0 := h0
  have lt0 : ∀ x ∈ p0, x.block < W.heap.size := by obtain ⟨m, hm⟩ := k0; exact DataW.trod_lt m _ _ _ hm
  obtain ⟨a0, e0v, w0⟩ := open_str_Graph (hval 0 25 v0 rfl rfl) h0; subst e0v
  clear hA0 hval0
  refine (back_walk W a0 w0).mono fun e W' ⟨he, bel⟩ => ?_
  subst he
  exact ⟨_, rfl, _, _, _, [], _, [], hW', trodAll_mk1 (shut_bool Try.underlying4 _), (trodAll_cons_mk (Below.trod laidOut (by kernel_rfl) (of_decide_eq_true (by kernel_rfl)) k0 bel lt0) trodAll_mk0), rfl, bel.frame _, fun h => by cases h⟩
theorem over : Rows.imageBackRow.holds Try.pinned (OpenSpec.ofChange Rows.imageBackSpec) :=
  OpenClaim.holds_of_wide 3 Try.f3 rfl rfl rfl rfl rfl rfl rfl ⟨rfl, rfl, rfl, rfl, rfl⟩ rfl rfl rfl rfl rfl (by kernel_rfl) Try.func3 (by kernel_rfl)
    (of_decide_eq_true (by kernel_rfl)) (by unfold Func.isWrapper; first | (rw [if_pos (by decide +kernel)]; kernel_rfl) | (rw [if_neg (by decide +kernel)]; exact ⟨rfl, rfl⟩))
    (fun os started H enc _ => lifted os started H enc)
theorem proved : Rows.ImageBackSaid := over
end Go.Proofs.Ytkkjnahjmomjgaa.imageBack
