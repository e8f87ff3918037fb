/- The law ImageTrims of layer 23 returns true for every argument. -/
import Derived.Test.YtkkjnahjmomjgaaWc12
namespace Go.Proofs.Ytkkjnahjmomjgaa
set_option linter.unusedVariables false
set_option linter.unusedSimpArgs false
open Go.RowKit Go.Maps
set_option maxHeartbeats 8000000
set_option maxRecDepth 100000
theorem trims23_walk (w : World) (g : Gv) (wg : GvOk w g) : Calls Try.prog 6 #[g.v] w (RetP (.bool true) w) := by
  have HK := Lib.hid known23_c
  have HFw := Lib.hid (fun W (b : Below w.heap.size w W) => few_c W g (wg.at_.up b))
  have HOf := Lib.hid (fun W (b : Below w.heap.size w W) (hs : FewP g) => of_c W g (wg.at_.up b) hs)
  have HNd := Lib.hid (fun W (b : Below w.heap.size w W) (hs : FewP g) => ineed_c W g (wg.at_.up b) hs.small)
  have HTr := Lib.hid (fun W (b : Below w.heap.size w W) (hs : FewP g) (h0 : ckG g = 0) => show Calls Try.prog 20 #[g.v, .slice none 0 0] W _ from trim_g W g (wg.at_.up b) hs.small (can_ok h0 hs.small).rl (can_ok h0 hs.small).wp (can_ok h0 hs.small).wr none 0 [] Rd.nil (by decide))
  have HAt := Lib.hid wg.at_
  obtain ⟨va, hva⟩ : ∃ v, v = g.v := ⟨_, rfl⟩
  obtain ⟨B, K, b1, B2, L, b2, ea⟩ : ∃ A N a1 A2 M a2, va = .agg #[.slice A N a1, .slice A2 M a2] := ⟨_, _, _, _, _, _, hva⟩
  rw [← hva] at HFw HOf HNd HTr ⊢
  subst ea
  have HVa := Lib.hid hva.symm
  clear hva wg
  go_enter Try.func6, Try.ntmps6
  go_wp2_with fail
  obtain ⟨G, hG⟩ : ∃ S, S = w.heap.size := ⟨_, rfl⟩
  obtain ⟨w1, hw1⟩ : ∃ W, W = w.alloc (.cells #[.slice B K b1, .slice B2 L b2] 25) := ⟨_, rfl⟩
  have hbk : Bk w1 G 25 #[.slice B K b1, .slice B2 L b2] := by rw [hw1, hG]; exact Bk.new w _ _
  have hb1 : Below w.heap.size w w1 := by rw [hw1]; exact Gw.alloc w _
  rw [← hw1, ← hG]
  have H1 := Lib.hid (And.intro hbk hb1)
  clear hw1 hG hbk hb1
  refine Calls.mono (HK.out w1) ?_
  rintro r w2 ⟨rfl, b2'⟩
  have H2 := Lib.hid (show Bk w2 G 25 #[.slice B K b1, .slice B2 L b2] ∧ Below w.heap.size w w2 from ⟨H1.out.1.below b2' H1.out.1.lt, H1.out.2.trans (b2'.mono H1.out.2.size)⟩)
  obtain ⟨g0, g1⟩ := H2.out.1.two
  have hGl := H2.out.1.lt
  clear b2' H1
  go_wp2_with fail
  refine Calls.mono (HFw.out w2 H2.out.2) ?_
  rintro r w3 ⟨bf, rfl, hfa, b3⟩
  have H3 := Lib.hid (show Bk w3 G 25 #[.slice B K b1, .slice B2 L b2] ∧ Below w.heap.size w w3 from ⟨H2.out.1.below b3 H2.out.1.lt, H2.out.2.trans (b3.mono H2.out.2.size)⟩)
  clear b3 H2 g0 g1 hGl
  cases bf with
  | false =>
    clear hfa
    go_wp2_with fail
    go_ret
    exact ⟨rfl, H3.out.2⟩
  | true =>
    have HP := Lib.hid (hfa rfl)
    clear hfa
    obtain ⟨g0, g1⟩ := H3.out.1.two
    have hGl := H3.out.1.lt
    go_wp2_with fail
    refine Calls.mono (HOf.out w3 H3.out.2 HP.out) ?_
    rintro r w4 ⟨gx, rfl, hx, hn, hr, b4⟩
    have hfx : FewP gx := by
      have h := HP.out
      unfold FewP at h ⊢
      rw [hn, hr]
      exact h
    have e1 : ckG gx = ckG g := by unfold ckG; rw [hn, hr]
    have H4 := Lib.hid (show Bk w4 G 25 #[.slice B K b1, .slice B2 L b2] ∧ Below w.heap.size w w4 from ⟨H3.out.1.below b4 H3.out.1.lt, H3.out.2.trans (b4.mono H3.out.2.size)⟩)
    have hRc := rcheck_c w4 gx hx hfx
    rw [e1] at hRc
    obtain ⟨E, hE⟩ : ∃ E, E = ckG g := ⟨_, rfl⟩
    rw [← hE] at hRc
    have HE := Lib.hid hE
    have HRc := Lib.hid hRc
    clear hx hn hr b4 hfx e1 H3 g0 g1 hGl hRc hE
    go_wp2_with fail
    refine Calls.mono HRc.out ?_
    rintro r w5 ⟨rfl, b5⟩
    have H5 := Lib.hid (show Bk w5 G 25 #[.slice B K b1, .slice B2 L b2] ∧ Below w.heap.size w w5 from ⟨H4.out.1.below b5 H4.out.1.lt, H4.out.2.trans (b5.mono H4.out.2.size)⟩)
    clear b5 H4 HRc
    by_cases hE0 : E = 0
    · subst hE0
      obtain ⟨g0, g1⟩ := H5.out.1.two
      have hGl := H5.out.1.lt
      go_wp2_with fail
      refine Calls.mono (HTr.out w5 H5.out.2 HP.out HE.out.symm) ?_
      rintro r w6 ⟨L1, gt, q3, rfl, hT1, hT2, hT3, hT4, hT5, hT6, hT7, b6⟩
      have hgt : gt.At w6 w6.heap.size := ⟨hT1.rows.1, hT2.rows.1, hT1.rows.2.2, hT2.rows.2.2⟩
      have hft : FewP gt := fewp_trim HP.out hT4 hT5
      have hpu := itrims HE.out.symm hT6 hT7 hT4 hT5
      have HPu := Lib.hid hpu
      have HFt := Lib.hid hft
      have HEn := Lib.hid (fun W (b : Below w6.heap.size w6 W) => (iencode_c W gt (hgt.up b) hft.small).mono fun r w' h => encX_e h)
      have HNt := Lib.hid (fun W (b : Below w6.heap.size w6 W) => ineed_c W gt (hgt.up b) hft.small)
      have HAtt := Lib.hid hgt
      have H6 := Lib.hid (show Bk w6 G 25 #[.slice B K b1, .slice B2 L b2] ∧ Below w.heap.size w w6 from ⟨H5.out.1.below b6 H5.out.1.lt, H5.out.2.trans (b6.mono H5.out.2.size)⟩)
      obtain ⟨vt, hvt⟩ : ∃ v, v = gt.v := ⟨_, rfl⟩
      obtain ⟨A, N, a1, A2, M, a2, et⟩ : ∃ A N a1 A2 M a2, vt = .agg #[.slice A N a1, .slice A2 M a2] := ⟨_, _, _, _, _, _, hvt⟩
      rw [← hvt] at HEn HNt ⊢
      subst et
      have HVt := Lib.hid hvt.symm
      clear hgt hft hpu hT1 hT2 hT3 hT4 hT5 hT6 hT7 b6 hvt H5 g0 g1 hGl
      go_wp2_with fail
      obtain ⟨T, hT⟩ : ∃ S, S = w6.heap.size := ⟨_, rfl⟩
      obtain ⟨w7, hw7⟩ : ∃ W, W = w6.alloc (.cells #[.slice A N a1, .slice A2 M a2] 25) := ⟨_, rfl⟩
      have hbk : Bk w7 T 25 #[.slice A N a1, .slice A2 M a2] := by rw [hw7, hT]; exact Bk.new w6 _ _
      have hb7 : Below w6.heap.size w6 w7 := by rw [hw7]; exact Gw.alloc w6 _
      rw [← hw7, ← hT]
      have H7 := Lib.hid (show Bk w7 G 25 #[.slice B K b1, .slice B2 L b2] ∧ Bk w7 T 25 #[.slice A N a1, .slice A2 M a2] ∧ Below w.heap.size w w7 ∧ Below w6.heap.size w6 w7 from ⟨H6.out.1.below hb7 H6.out.1.lt, hbk, H6.out.2.trans (hb7.mono H6.out.2.size), hb7⟩)
      clear hw7 hT hbk hb7 H6
      refine Calls.mono (HEn.out w7 H7.out.2.2.2) ?_
      rintro r w8 ⟨xA, xn, xc, rfl, b8, hx1, hx2⟩
      have H8 := Lib.hid (show Bk w8 G 25 #[.slice B K b1, .slice B2 L b2] ∧ Bk w8 T 25 #[.slice A N a1, .slice A2 M a2] ∧ Below w.heap.size w w8 ∧ Below w6.heap.size w6 w8 from
        ⟨H7.out.1.below b8 H7.out.1.lt, H7.out.2.1.below b8 H7.out.2.1.lt, H7.out.2.2.1.trans (b8.mono H7.out.2.2.1.size), H7.out.2.2.2.trans (b8.mono H7.out.2.2.2.size)⟩)
      have HX := Lib.hid (And.intro hx1 hx2)
      obtain ⟨er, her⟩ : ∃ e, e = errG gt := ⟨_, rfl⟩
      have HEr := Lib.hid her
      rw [← her]
      clear b8 hx1 hx2 her H7
      have hend : wordsL gt.n = (endL gt.n 0 : Int) := wordsL_end gt.n (fun x hx => ((ckG_ok HPu.out.1).1 x hx).2)
      have HEnd := Lib.hid hend
      clear hend
      by_cases he : er = 0
      · have he0 : errG gt = 0 := by rw [← HEr.out]; exact he
        obtain ⟨c1, c2, c3, c4, c5⟩ := HX.out.1 he0
        have l1 := encW_len gt.n gt.r (fun r hr => (goodS_size ((ckG_ok c1).2.2 r hr).1).2)
        have HDc := Lib.hid (show Calls Try.prog 16 #[.slice xA xn xc] w8 (DecW (encW gt.n gt.r) w8) from by
          have h1 := decode_c w8 xA xc (encW gt.n gt.r) c5 (by omega)
          rw [← c3] at h1
          exact h1)
        have HC := Lib.hid (And.intro c1 c2)
        subst he
        clear he0 c1 c2 c3 c4 c5 l1
        go_wp2_with fail
        refine Calls.mono HDc.out ?_
        rintro r w9 (⟨_, _, hbad⟩ | ⟨h, rfl, hat, hck, hend, hee, b9, _, _⟩)
        · exact absurd rfl (hbad gt HC.out.1 HC.out.2)
        · obtain ⟨s1, s2⟩ := enc_inj hck hend HC.out.1 HC.out.2 hee
          obtain ⟨m1, m2⟩ := can_m (norm_m s1) s2
          have H9 := Lib.hid (show Bk w9 G 25 #[.slice B K b1, .slice B2 L b2] ∧ Bk w9 T 25 #[.slice A N a1, .slice A2 M a2] ∧ Below w.heap.size w w9 ∧ Below w6.heap.size w6 w9 from
            ⟨H8.out.1.below b9 H8.out.1.lt, H8.out.2.1.below b9 H8.out.2.1.lt, H8.out.2.2.1.trans (b9.mono H8.out.2.2.1.size), H8.out.2.2.2.trans (b9.mono H8.out.2.2.2.size)⟩)
          have HSm := Lib.hid (fun W (b : Below w9.heap.size w9 W) => show Calls Try.prog 21 #[h.v, .agg #[.slice B K b1, .slice B2 L b2]] W (RetP (.bool true) W) from by
            have h1 := csame_c W h g (hat.up b) ((HAt.out.up H9.out.2.2.1).up b) (can_ok hck (ck_small hck hend)) (can_ok HE.out.symm HP.out.small)
            rw [sameC_true (m1.trans HPu.out.2.2.2.2.1) (m2.trans HPu.out.2.2.2.2.2), HVa.out] at h1
            exact h1)
          have HAh := Lib.hid hat
          obtain ⟨vh, hvh⟩ : ∃ v, v = h.v := ⟨_, rfl⟩
          obtain ⟨C, X, d1, C2, Y, d2, eh⟩ : ∃ A N a1 A2 M a2, vh = .agg #[.slice A N a1, .slice A2 M a2] := ⟨_, _, _, _, _, _, hvh⟩
          rw [← hvh] at HSm ⊢
          subst eh
          clear hat hck hend hee b9 s1 s2 m1 m2 hvh H8 HDc
          go_wp2_with fail
          obtain ⟨S, hS⟩ : ∃ S, S = w9.heap.size := ⟨_, rfl⟩
          obtain ⟨wa, hwa⟩ : ∃ W, W = w9.alloc (.cells #[.slice C X d1, .slice C2 Y d2] 25) := ⟨_, rfl⟩
          have hbk : Bk wa S 25 #[.slice C X d1, .slice C2 Y d2] := by rw [hwa, hS]; exact Bk.new w9 _ _
          have hba : Below w9.heap.size w9 wa := by rw [hwa]; exact Gw.alloc w9 _
          rw [← hwa, ← hS]
          have Ha := Lib.hid (show GBx wa G g (.slice B K b1) (.slice B2 L b2) ∧ GBx wa T gt (.slice A N a1) (.slice A2 M a2) ∧ GBx wa S h (.slice C X d1) (.slice C2 Y d2) ∧ Below w.heap.size w wa ∧ Below w6.heap.size w6 wa ∧ Below w9.heap.size w9 wa from by
            have k1 := H9.out.2.2.1.trans (hba.mono H9.out.2.2.1.size)
            have k2 := H9.out.2.2.2.trans (hba.mono H9.out.2.2.2.size)
            exact ⟨GBx.of (H9.out.1.below hba H9.out.1.lt) (HAt.out.up k1), GBx.of (H9.out.2.1.below hba H9.out.2.1.lt) (HAtt.out.up k2), GBx.of hbk (HAh.out.up hba), k1, k2, hba⟩)
          clear hwa hS hbk hba H9
          obtain ⟨nt, hnt⟩ : ∃ nt, nt = ((2 + 5 * gt.r.length : Nat) : Int) + wordsL gt.n := ⟨_, rfl⟩
          obtain ⟨ng, hng⟩ : ∃ ng, ng = ((2 + 5 * g.r.length : Nat) : Int) + wordsL g.n := ⟨_, rfl⟩
          have hle : nt ≤ ng := by
            have h1 := HPu.out.2.1
            rw [hnt, hng, HPu.out.2.2.1]
            omega
          have HN1 := Lib.hid (fun W (b : Below wa.heap.size wa W) => show Calls Try.prog 14 #[.agg #[.slice A N a1, .slice A2 M a2]] W (RetP (.int .i64 nt) W) from by
            have h1 := HNt.out W (Ha.out.2.2.2.2.1.trans (b.mono Ha.out.2.2.2.2.1.size))
            rw [← hnt] at h1
            exact h1)
          have HN2 := Lib.hid (fun W (b : Below wa.heap.size wa W) => show Calls Try.prog 14 #[.agg #[.slice B K b1, .slice B2 L b2]] W (RetP (.int .i64 ng) W) from by
            have h1 := HNd.out W (Ha.out.2.2.2.1.trans (b.mono Ha.out.2.2.2.1.size)) HP.out
            rw [← hng] at h1
            exact h1)
          have HSa := Lib.hid (fun W (b : Below wa.heap.size wa W) => HSm.out W (Ha.out.2.2.2.2.2.trans (b.mono Ha.out.2.2.2.2.2.size)))
          clear hnt hng HSm
          refine it10 _ _ _ T G S gt g h A A2 B B2 C C2 N M K L X Y a1 a2 b1 b2 d1 d2 nt ng (Lib.hid Ha.out.2.1) (Lib.hid Ha.out.1) (Lib.hid Ha.out.2.2.1) HN1 HN2 HSa hle rfl ?_ ?_ ?_ ?_ ?_
          · rfl
          · rfl
          · rfl
          · rfl
          intro vals wb hG h2'
          unfold IsV at h2'
          simp only [putD, Act.put, List.setIfInBounds_toArray, List.set_cons_zero, List.set_cons_succ, h2']
          have Hb := Lib.hid (Ha.out.2.2.2.1.trans (hG.mono Ha.out.2.2.2.1.size))
          clear hG h2' hle
          go_wp2_with fail
          go_ret
          exact ⟨rfl, Hb.out⟩
      · have he0 : errG gt ≠ 0 := by rw [← HEr.out]; exact he
        obtain ⟨r1, r2, r3⟩ := HX.out.2 he0
        subst r1 r2 r3
        obtain ⟨nt, hnt⟩ : ∃ nt, nt = ((2 + 5 * gt.r.length : Nat) : Int) + wordsL gt.n := ⟨_, rfl⟩
        have hbig : 8192 < nt := by
          unfold errG at he0
          rw [if_pos HPu.out.1] at he0
          have h1 : 8192 < endL gt.n (2 + 5 * gt.r.length) := by
            by_cases c : 8192 < endL gt.n (2 + 5 * gt.r.length)
            · exact c
            · rw [if_neg c] at he0; exact absurd rfl he0
          rw [endL_add gt.n (2 + 5 * gt.r.length)] at h1
          rw [hnt, HEnd.out]
          omega
        have HN1 := Lib.hid (fun W (b : Below w8.heap.size w8 W) => show Calls Try.prog 14 #[.agg #[.slice A N a1, .slice A2 M a2]] W (RetP (.int .i64 nt) W) from by
          have h1 := HNt.out W (H8.out.2.2.2.trans (b.mono H8.out.2.2.2.size))
          rw [← hnt] at h1
          exact h1)
        have e1 : (er != 0) = true := by simpa using he
        obtain ⟨t0, t1⟩ := H8.out.2.1.two
        have hTl := H8.out.2.1.lt
        clear he he0 hnt
        go_wp2_with fail
        refine Calls.mono (HN1.out w8 (Below.refl _ _)) ?_
        rintro r w9 ⟨rfl, b9⟩
        have H9 := Lib.hid (H8.out.2.2.1.trans (b9.mono H8.out.2.2.1.size))
        clear b9 t0 t1 hTl
        go_wp2_with fail
        go_ret
        exact ⟨rfl, H9.out⟩
    · have e1 : (E != 0) = true := by simpa using hE0
      clear hE0
      go_wp2_with fail
      go_ret
      exact ⟨rfl, H5.out.2⟩
end Go.Proofs.Ytkkjnahjmomjgaa
namespace Go.Proofs.Ytkkjnahjmomjgaa.imageTrims
open Go.ChangeShapes Go.WideShapes Go.ChangeAt Go.RowKit
open Go.ChangeMaps (open_string shut_string)
set_option linter.unusedVariables false
set_option maxRecDepth 100000 in
theorem lifted (os : Os) (started : os.Started) (H : Type) (enc : TypeId × Value → H) :
    ReturnsInHanded {} Try.checked os 6 .any (Rows.imageTrimsSpec.pre6 enc Try.prog Try.f6 Rows.imageTrimsRow.domain false) (Rows.imageTrimsSpec.post enc Try.prog Try.f6 false true false false) := by
  refine returnsInHanded_of_change (C := Try.checked) own started (by kernel_rfl) Try.func6
    (ChangeSpec.witness6 (enc := enc) (C := Try.checked) false ⟨#[], #[.agg #[.slice none 0 0, .slice none 0 0]], []⟩ 8 (by kernel_rfl) (by kernel_rfl) (by kernel_rfl) (by kernel_rfl)) ?_
  intro W base args ds gs before hval0 hW hcnd _
  have hval : ∀ (j : Nat) t v, Try.f6.params[j]? = some t → args[j]? = some v → Value.okWide Try.prog W .any base t v := hval0
  have hW' := hW
  obtain ⟨p, q, hA0, hV, rfl, hfz, hnd⟩ := hW
  have hA : DataW.TrodAll enc Try.prog W 0 (fun _ => true) true Try.f6.params.toList args.toList ds p := hA0
  rw [Try.params6] at hA hval
  obtain ⟨v0, vs0, d0, ds0, p0, q0, hargs, rfl, rfl, h0, r0⟩ := trodAll_cons hA
  obtain ⟨rfl, rfl, rfl⟩ := trodAll_nil r0
  obtain rfl : args = #[v0] := by cases args; simp_all
  obtain ⟨rfl, rfl⟩ := trodVars_none hV
  have k0 := h0
  have lt0 : ∀ x ∈ p0, x.block < W.heap.size := by obtain ⟨m, hm⟩ := k0; exact DataW.trod_lt m _ _ _ hm
  obtain ⟨a0, e0v, w0⟩ := open_str_Graph (hval 0 25 v0 rfl rfl) h0; subst e0v
  clear hA0 hval0
  refine (trims23_walk W a0 w0).mono fun e W' ⟨he, bel⟩ => ?_
  subst he
  exact ⟨_, rfl, _, _, _, [], _, [], hW', trodAll_mk1 (shut_bool Try.underlying4 _), (trodAll_cons_mk (Below.trod laidOut (by kernel_rfl) (of_decide_eq_true (by kernel_rfl)) k0 bel lt0) trodAll_mk0), rfl, bel.frame _, fun h => by cases h⟩
theorem over : Rows.imageTrimsRow.holds Try.pinned (OpenSpec.ofChange Rows.imageTrimsSpec) :=
  OpenClaim.holds_of_wide 6 Try.f6 rfl rfl rfl rfl rfl rfl rfl ⟨rfl, rfl, rfl, rfl, rfl⟩ rfl rfl rfl rfl rfl (by kernel_rfl) Try.func6 (by kernel_rfl)
    (of_decide_eq_true (by kernel_rfl)) (by unfold Func.isWrapper; first | (rw [if_pos (by decide +kernel)]; kernel_rfl) | (rw [if_neg (by decide +kernel)]; exact ⟨rfl, rfl⟩))
    (fun os started H enc _ => lifted os started H enc)
theorem proved : Rows.ImageTrimsSaid := over
end Go.Proofs.Ytkkjnahjmomjgaa.imageTrims
