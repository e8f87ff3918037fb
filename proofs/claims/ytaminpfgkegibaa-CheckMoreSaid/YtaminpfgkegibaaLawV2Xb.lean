/- The law CheckMore of layer 26 returns true for every argument. -/
import Derived.Test.YtaminpfgkegibaaXb8
namespace Go.Proofs.Ytaminpfgkegibaa
set_option linter.unusedVariables false
set_option linter.unusedSimpArgs false
open Go.RowKit Go.Maps
set_option maxHeartbeats 8000000
set_option maxRecDepth 100000
theorem ow_empty0 (w : World) : Ow u64v 57 (w.alloc (.cells #[] 57)) w.heap.size (.slice (some ⟨w.heap.size, 0, none⟩) 0 0) [] := ⟨rfl, .inr ⟨w.heap.size, 0, #[], rfl, Nat.le_refl _, heap_alloc_new w _, Nat.le_refl _, by simp [maxLen], rfl, rfl⟩⟩
theorem ow_some {w : World} {B : Nat} {v : Value} {x : BitVec 64} {l : List (BitVec 64)} (h : Ow u64v 57 w B v (x :: l)) : ∃ q c, v = .slice (some ⟨q, 0, none⟩) (x :: l).length c ∧ (x :: l).length ≤ c ∧ B ≤ q ∧ q < w.heap.size := by
  rcases h.2 with ⟨e, hn⟩ | ⟨g, cap, cur, e, hb, hh, hc, _⟩
  · cases hn
  · exact ⟨g, cap, e, hc, hb, (Array.getElem?_eq_some_iff.1 hh).1⟩
theorem more_walk (w : World) (g : Gv) (wg : GvOk w g) (mo : Int) (hmo : (Lit.int .u8 mo).wf = true) (le : Int) (hle : (Lit.int .u8 le).wf = true) : Calls Try.prog 6 #[g.v, .int .u8 mo, .int .u8 le] w (RetP (.bool true) w) := by
  have hmo2 : 0 ≤ mo ∧ mo ≤ 255 := by simpa [Lit.wf, IntKind.min, IntKind.max, IntKind.signed, IntKind.bits] using hmo
  have hle2 : 0 ≤ le ∧ le ≤ 255 := by simpa [Lit.wf, IntKind.min, IntKind.max, IntKind.signed, IntKind.bits] using hle
  obtain ⟨m, rfl⟩ : ∃ m : Nat, mo = (m : Int) := ⟨mo.toNat, by omega⟩
  obtain ⟨d, rfl⟩ : ∃ m : Nat, le = (m : Int) := ⟨le.toNat, by omega⟩
  have HMD := Lib.hid (And.intro hmo2 hle2)
  obtain ⟨mI0, mI⟩ := hmo2
  obtain ⟨dI0, dI⟩ := hle2
  have HFew := Lib.hid (fun W (b : Below w.heap.size w W) => few_c W g (wg.at_.up b))
  have HOf := Lib.hid (fun W (b : Below w.heap.size w W) (hs : FewP g) => of_c W g (wg.at_.up b) hs)
  have HK := Lib.hid known26_c
  obtain ⟨A, ca, A2, ca2, ns, rs⟩ := g
  obtain ⟨N, hN⟩ : ∃ N, N = ns.length := ⟨_, rfl⟩
  obtain ⟨M, hM⟩ : ∃ M, M = rs.length := ⟨_, rfl⟩
  unfold Gv.v Gv.vn Gv.vr at HFew HOf ⊢
  simp only at HFew HOf ⊢
  rw [← hN, ← hM] at HFew HOf ⊢
  clear wg hmo hle hN hM
  go_enter Try.func6, Try.ntmps6
  go_wp2_with fail
  obtain ⟨G, hG⟩ : ∃ G, G = w.heap.size := ⟨_, rfl⟩
  obtain ⟨w1, hw1⟩ : ∃ W, W = w.alloc (.cells #[.slice A N ca, .slice A2 M ca2] 29) := ⟨_, rfl⟩
  have hbk : Bk w1 G 29 #[.slice A N ca, .slice A2 M ca2] := by rw [hw1, hG]; exact Bk.new w _ _
  have b1 : Below w.heap.size w w1 := by rw [hw1]; exact Gw.alloc w _
  rw [← hw1, ← hG]
  have H1 := Lib.hid (And.intro hbk b1)
  clear hw1 hG hbk b1
  refine Calls.mono (HK.out w1) ?_
  rintro r w2 ⟨rfl, b2⟩
  have H2 := Lib.hid (And.intro (H1.out.1.below b2 H1.out.1.lt) (H1.out.2.trans (b2.mono H1.out.2.size)))
  obtain ⟨g0, g1⟩ := H2.out.1.two
  clear b2
  go_wp2_with fail
  refine Calls.mono (HFew.out w2 H2.out.2) ?_
  rintro r w3 ⟨bf, rfl, hfew, b3⟩
  have H3 := Lib.hid (And.intro (H2.out.1.below b3 H2.out.1.lt) (H2.out.2.trans (b3.mono H2.out.2.size)))
  clear b3 g0 g1
  obtain ⟨g0, g1⟩ := H3.out.1.two
  cases bf with
  | false =>
    clear hfew
    go_wp2_with fail
    go_ret
    exact ⟨rfl, H3.out.2⟩
  | true =>
    have HFp := Lib.hid (hfew rfl)
    clear hfew
    go_wp2_with fail
    refine Calls.mono (HOf.out w3 H3.out.2 HFp.out) ?_
    rintro r w4 ⟨g', rfl, hg', en, er', b4⟩
    have hf' : FewP g' := by
      have h := HFp.out
      unfold FewP at h ⊢
      rw [en, er']
      exact h
    obtain ⟨gv, hgv⟩ : ∃ v : Value, v = .agg #[.slice g'.A g'.n.length g'.c, .slice g'.A2 g'.r.length g'.c2] := ⟨_, rfl⟩
    have HEnc := Lib.hid (show Calls Try.prog 18 #[gv] w4 (EncP g' w4) from by rw [hgv]; exact rencode_c w4 g' hg' hf')
    have H4 := Lib.hid (H3.out.2.trans (b4.mono H3.out.2.size))
    rw [← hgv]
    clear hg' b4 g0 g1 hf' hgv en er'
    go_wp2_with fail
    refine Calls.mono HEnc.out ?_
    rintro r w5 (⟨er, hne, rfl, b5⟩ | ⟨hck, hend, v, rfl, how, b5⟩)
    · have H5 := Lib.hid (H4.out.trans (b5.mono H4.out.size))
      have e1 : (er != 0) = true := by simpa using hne
      clear b5 hne
      go_wp2_with fail
      go_ret
      exact ⟨rfl, H5.out⟩
    · have hlen := encW_len g'.n g'.r (fun r hr => (goodS_size ((ckG_ok hck).2.2 r hr).1).2)
      obtain ⟨R, hR⟩ : ∃ R, R = g'.r.length := ⟨_, rfl⟩
      obtain ⟨t, ht⟩ : ∃ t, t = endL g'.n (2 + 5 * R) := ⟨_, rfl⟩
      have hR64 : R ≤ 64 := by rw [hR]; exact (ckG_ok hck).2.1
      obtain ⟨zs, hzs⟩ : ∃ zs, encW g'.n g'.r = 1296125772#64 :: BitVec.ofNat 64 (R + t * 65536) :: zs := ⟨_, by rw [ht, hR]; rfl⟩
      rw [hzs] at how hlen
      rw [← hR, ← ht] at hlen
      rw [← hR, ← ht] at hend
      obtain ⟨q, c, rfl, hc, hq1, hq2⟩ := ow_some how
      rw [hlen] at hc ⊢
      have H5 := Lib.hid (And.intro how (And.intro (H4.out.trans (b5.mono H4.out.size)) (And.intro hq2 (And.intro hlen (And.intro hR64 hend)))))
      have t2 : 2 ≤ t := by have h := congrArg List.length hzs; rw [← hlen]; simp
      have tI : (t : Int) ≤ 8192 := by omega
      have cI : (t : Int) ≤ (c : Int) := by omega
      clear how b5 hlen hzs hq1 hq2 hck ht hR HEnc HOf HFew
      by_cases hlong : 8000 < t
      · have k1 : (8000 : Int) < (t : Int) := by omega
        go_wp2_with fail
        go_ret
        exact ⟨rfl, H5.out.2.1⟩
      · have k1 : ¬ (8000 : Int) < (t : Int) := by omega
        obtain ⟨r1, hr1⟩ : ∃ r, r = m % 20 := ⟨_, rfl⟩
        have m1 : (m : Int) % 20 = (r1 : Int) := by omega
        have m2 : ((m : Int)).tmod 20 = (r1 : Int) := by rw [Int.tmod_eq_emod_of_nonneg (by omega)]; exact m1
        have m3 : (r1 : Int) < 20 := by omega
        obtain ⟨t1, ht1⟩ : ∃ r, r = t - 1 := ⟨_, rfl⟩
        have u1 : (t : Int) - 1 = (t1 : Int) := by omega
        obtain ⟨r2, hr2⟩ : ∃ r, r = d % t1 := ⟨_, rfl⟩
        have hr3 : r2 < t1 := by rw [hr2]; exact Nat.mod_lt _ (by omega)
        have v1 : (d : Int) % (t1 : Int) = (r2 : Int) := by rw [hr2]; rfl
        have v2 : ((d : Int)).tmod (t1 : Int) = (r2 : Int) := by rw [Int.tmod_eq_emod_of_nonneg (by omega)]; exact v1
        have v3 : ¬ (t1 : Int) = 0 := by omega
        obtain ⟨n2, hn2⟩ : ∃ r, r = t1 - r2 := ⟨_, rfl⟩
        have z1 : (t1 : Int) - (r2 : Int) = (n2 : Int) := by omega
        have z2 : (1 : Int) ≤ (n2 : Int) := by omega
        have z3 : (n2 : Int) ≤ (c : Int) := by omega
        have z4 : (n2 : Int) < (t : Int) := by omega
        obtain ⟨k, hk⟩ : ∃ k, k = 1 + r1 := ⟨_, rfl⟩
        have y1 : (1 : Int) + (r1 : Int) = (k : Int) := by omega
        have y2 : 0 < k ∧ k ≤ 20 := by omega
        have HN := Lib.hid (And.intro y2 (And.intro (show 1 ≤ n2 ∧ n2 < t by omega) (show t ≤ 8000 by omega)))
        have HRd := Lib.hid H5.out.1.rd
        clear hr1 ht1 hr2 hr3 hn2 hk y2 hlong
        obtain ⟨xw, hxw⟩ : ∃ x, x = BitVec.ofNat 64 (R + t * 65536) := ⟨_, rfl⟩
        rw [← hxw] at H5 HRd
        have HF1 := Lib.hid (show U64 (fieldB xw 48 16) = 0 ∧ U64 (fieldB xw 16 32) = (t : Int) from ⟨by rw [hxw]; exact field_hi _ (by omega), by rw [hxw]; exact field_mid R t (by omega) (by omega)⟩)
        have HLn := Lib.hid (show ([] : List (BitVec 64)).length + (1296125772#64 :: xw :: zs).length ≤ 4294967296 by rw [H5.out.2.2.2.1]; have := HN.out.2.2; simp; omega)
        have HRf := Lib.hid (HRd.out.below (Gw.alloc w5 (.cells #[] 57)))
        have HSm := Lib.hid (fun (W : World) (v : Value) (h : Ow u64v 57 W w5.heap.size v ([] ++ (1296125772#64 :: xw :: zs))) => show ∃ q c, v = .slice (some ⟨q, 0, none⟩) t c from by
          obtain ⟨q, c, e, _⟩ := ow_some h
          rw [H5.out.2.2.2.1] at e
          exact ⟨q, c, e⟩)
        have HSm2 := Lib.hid (fun (W : World) (v : Value) (h : Ow u64v 57 W w5.heap.size v ([] ++ (1296125772#64 :: xw :: zs) ++ List.replicate k 0#64)) => show ∃ q c, v = .slice (some ⟨q, 0, none⟩) (t + k) c ∧ q < W.heap.size ∧ W.cell? ⟨q, 0, none⟩ = some (.int .u64 1296125772) ∧ W.cell? ⟨q, 1, none⟩ = some (.int .u64 (U64 xw)) from by
          obtain ⟨q, c, e, _, _, hq⟩ := ow_some h
          have hl : (1296125772#64 :: ((xw :: zs) ++ List.replicate k 0#64)).length = t + k := by
            have h2 := H5.out.2.2.2.1
            simp at h2 ⊢
            omega
          subst e
          have hrd := h.rd
          obtain ⟨ad, had, _, h0⟩ := hrd 0 (Nat.zero_lt_succ _)
          injection had with had
          subst had
          obtain ⟨ad, had, _, h1⟩ := hrd 1 (Nat.succ_lt_succ (Nat.zero_lt_succ _))
          injection had with had
          subst had
          rw [add_off] at h0 h1
          exact ⟨q, c, by rw [← hl]; rfl, hq, h0, h1⟩)
        clear hxw hend hR64 hc t2
        go_wp2_with (at_builtin; first | (refine wp_app one64 u64v_one rfl (.tmp 31) (.tmp 32) rfl w5.heap.size _ [] rfl (ow_empty0 w5) (some ⟨q, 0, none⟩) t c (1296125772#64 :: xw :: zs) rfl H5.out.2.2.2.1.symm _ HRf.out HLn.out (by decide) (Gw.alloc w5 _).size ?_; intro v6 w6 ho6 hb6 hg6 hj6; obtain ⟨q6, c6, e6⟩ := HSm.out w6 v6 ho6; have H6 := Lib.hid (And.intro ho6 ((Gw.alloc w5 (.cells #[] 57)).trans hb6)); subst e6; clear ho6 hb6 hg6 hj6) | (refine wp_appU rfl (.tmp 33) (.tmp 37) rfl w5.heap.size q6 t c6 ([] ++ (1296125772#64 :: xw :: zs)) rfl H6.out.1 H5.out.2.2.2.1.symm k (k : Int) rfl rfl HN.out.1.1 (by have := HN.out.1.2; have := HN.out.2.2; omega) H6.out.2.size ?_; intro v8 w8 ho8 hb8; obtain ⟨q8, c8, e8, f1, f2, f3⟩ := HSm2.out w8 v8 ho8; have H8 := Lib.hid (And.intro f1 (And.intro f2 (And.intro f3 (H6.out.2.trans hb8)))); subst e8; clear ho8 hb8 f1 f2 f3))
        have HqA := Lib.hid (fun W (b : Below w8.heap.size w8 W) => imgW_c W q8 (t + k) c8 xw t (by have := HN.out.1; omega) (by have := HN.out.1; have := HN.out.2.2; omega) (Nat.lt_of_lt_of_le H8.out.1 b.size) ((b.cell (p := ⟨q8, 0, none⟩) H8.out.1).trans H8.out.2.1) (fun _ => (b.cell (p := ⟨q8, 1, none⟩) H8.out.1).trans H8.out.2.2.1) HF1.out.1 HF1.out.2 (by have := HN.out.1; omega))
        have HqB := Lib.hid (fun W (b : Below w5.heap.size w5 W) => imgW_c W q n2 c xw t (by have := HN.out.2.1; omega) (by have := HN.out.2; omega) (Nat.lt_of_lt_of_le H5.out.2.2.1 b.size)
          (by
            obtain ⟨ad, had, _, h0⟩ := HRd.out 0 (Nat.zero_lt_succ _)
            injection had with had
            subst had
            rw [add_off] at h0
            exact (b.cell (p := ⟨q, 0, none⟩) H5.out.2.2.1).trans h0)
          (fun _ => by
            obtain ⟨ad, had, _, h0⟩ := HRd.out 1 (Nat.succ_lt_succ (Nat.zero_lt_succ _))
            injection had with had
            subst had
            rw [add_off] at h0
            exact (b.cell (p := ⟨q, 1, none⟩) H5.out.2.2.1).trans h0) HF1.out.1 HF1.out.2 (by have := HN.out.2.1; omega))
        refine Calls.mono (HqA.out w8 (Below.refl _ _)) ?_
        rintro r w9 ⟨lf, rfl, h9, b9⟩
        obtain ⟨qf, cf, e0⟩ := fr_some (n := 1) h9 rfl
        subst e0
        obtain ⟨qq, hqq, hbb, hql, f0', f1'⟩ := h9.at_ 0 (by decide)
        injection hqq with hqq
        injection hqq with hqq
        subst hqq
        have f0 : w9.cell? ⟨qf, 0, none⟩ = some (.int .i64 1) := f0'
        have f1 : w9.cell? ⟨qf, 1, none⟩ = some (.string sizeS) := f1'
        have H9 := Lib.hid (And.intro hql (And.intro f0 (And.intro f1 (And.intro b9 (H8.out.2.2.2.trans (b9.mono H8.out.2.2.2.size))))))
        clear h9 b9 hql f0 f1 f0' f1' hbb
        go_wp2_with fail
        refine Calls.mono (HqB.out w9 H9.out.2.2.2.2) ?_
        rintro r w10 ⟨lg, rfl, h10, b10⟩
        obtain ⟨qg, cg, e0⟩ := fr_some (n := 1) h10 rfl
        subst e0
        obtain ⟨qq, hqq, hbb, hql, g0', g1'⟩ := h10.at_ 0 (by decide)
        injection hqq with hqq
        injection hqq with hqq
        subst hqq
        have g0 : w10.cell? ⟨qg, 0, none⟩ = some (.int .i64 1) := g0'
        have g1 : w10.cell? ⟨qg, 1, none⟩ = some (.string ⟨#[115, 105, 122, 101]⟩) := g1'
        have f0 : w10.cell? ⟨qf, 0, none⟩ = some (.int .i64 1) := (b10.cell (p := ⟨qf, 0, none⟩) H9.out.1).trans H9.out.2.1
        have f1 : w10.cell? ⟨qf, 1, none⟩ = some (.string ⟨#[115, 105, 122, 101]⟩) := (b10.cell (p := ⟨qf, 1, none⟩) H9.out.1).trans H9.out.2.2.1
        have H10 := Lib.hid (And.intro (H9.out.2.2.2.1.trans (b10.mono H9.out.2.2.2.1.size)) (H9.out.2.2.2.2.trans (b10.mono H9.out.2.2.2.2.size)))
        clear h10 b10 hql g0' g1' hbb
        go_wp2_with fail
        refine Calls.mono (rightW_c w10 q8 (t + k) c8 (HqA.out w10 H10.out.1)) ?_
        rintro r w11 ⟨rfl, b11⟩
        have H11 := Lib.hid (H10.out.2.trans (b11.mono H10.out.2.size))
        clear b11
        go_wp2_with fail
        refine Calls.mono (rightW_c w11 q n2 c (HqB.out w11 H11.out)) ?_
        rintro r w12 ⟨rfl, b12⟩
        have H12 := Lib.hid (H5.out.2.1.trans ((H11.out.trans (b12.mono H11.out.size)).mono H5.out.2.1.size))
        clear b12
        go_wp2_with fail
        go_ret
        exact ⟨rfl, H12.out⟩
end Go.Proofs.Ytaminpfgkegibaa
namespace Go.Proofs.Ytaminpfgkegibaa.checkMore
open Go.ChangeShapes Go.WideShapes Go.ChangeAt Go.RowKit
open Go.ChangeMaps (open_string shut_string)
set_option linter.unusedVariables false
set_option maxRecDepth 100000 in
theorem lifted (os : Os) (started : os.Started) (H : Type) (enc : TypeId × Value → H) :
    ReturnsInHanded {} Try.checked os 6 .any (Rows.checkMoreSpec.pre6 enc Try.prog Try.f6 Rows.checkMoreRow.domain false) (Rows.checkMoreSpec.post enc Try.prog Try.f6 false true false false) := by
  refine returnsInHanded_of_change (C := Try.checked) own started (by kernel_rfl) Try.func6
    (ChangeSpec.witness6 (enc := enc) (C := Try.checked) false ⟨#[], #[.agg #[.slice none 0 0, .slice none 0 0], .int .u8 0, .int .u8 0], []⟩ 8 (by kernel_rfl) (by kernel_rfl) (by kernel_rfl) (by kernel_rfl)) ?_
  intro W base args ds gs before hval0 hW hcnd _
  have hval : ∀ (j : Nat) t v, Try.f6.params[j]? = some t → args[j]? = some v → Value.okWide Try.prog W .any base t v := hval0
  have hW' := hW
  obtain ⟨p, q, hA0, hV, rfl, hfz, hnd⟩ := hW
  have hA : DataW.TrodAll enc Try.prog W 0 (fun _ => true) true Try.f6.params.toList args.toList ds p := hA0
  rw [Try.params6] at hA hval
  obtain ⟨v0, vs0, d0, ds0, p0, q0, hargs, rfl, rfl, h0, r0⟩ := trodAll_cons hA
  obtain ⟨v1, vs1, d1, ds1, p1, q1, rfl, rfl, rfl, h1, r1⟩ := trodAll_cons r0
  obtain ⟨v2, vs2, d2, ds2, p2, q2, rfl, rfl, rfl, h2, r2⟩ := trodAll_cons r1
  obtain ⟨rfl, rfl, rfl⟩ := trodAll_nil r2
  obtain rfl : args = #[v0, v1, v2] := by cases args; simp_all
  obtain ⟨rfl, rfl⟩ := trodVars_none hV
  have k0 := h0
  have lt0 : ∀ x ∈ p0, x.block < W.heap.size := by obtain ⟨m, hm⟩ := k0; exact DataW.trod_lt m _ _ _ hm
  obtain ⟨a0, e0v, w0⟩ := open_str_Graph (hval 0 29 v0 rfl rfl) h0; subst e0v
  have k1 := h1
  have lt1 : ∀ x ∈ p1, x.block < W.heap.size := by obtain ⟨m, hm⟩ := k1; exact DataW.trod_lt m _ _ _ hm
  obtain ⟨a1, e1v, _, _, w1⟩ := open_int Try.underlying5 (hval 1 5 v1 rfl rfl) h1; subst e1v
  have k2 := h2
  have lt2 : ∀ x ∈ p2, x.block < W.heap.size := by obtain ⟨m, hm⟩ := k2; exact DataW.trod_lt m _ _ _ hm
  obtain ⟨a2, e2v, _, _, w2⟩ := open_int Try.underlying5 (hval 2 5 v2 rfl rfl) h2; subst e2v
  clear hA0 hval0
  refine (more_walk W a0 w0 a1 w1 a2 w2).mono fun e W' ⟨he, bel⟩ => ?_
  subst he
  exact ⟨_, rfl, _, _, _, [], _, [], hW', trodAll_mk1 (shut_bool Try.underlying4 _), (trodAll_cons_mk (Below.trod laidOut (by kernel_rfl) (of_decide_eq_true (by kernel_rfl)) k0 bel lt0) (trodAll_cons_mk (Below.trod laidOut (by kernel_rfl) (of_decide_eq_true (by kernel_rfl)) k1 bel lt1) (trodAll_cons_mk (Below.trod laidOut (by kernel_rfl) (of_decide_eq_true (by kernel_rfl)) k2 bel lt2) trodAll_mk0))), rfl, bel.frame _, fun h => by cases h⟩
theorem over : Rows.checkMoreRow.holds Try.pinned (OpenSpec.ofChange Rows.checkMoreSpec) :=
  OpenClaim.holds_of_wide 6 Try.f6 rfl rfl rfl rfl rfl rfl rfl ⟨rfl, rfl, rfl, rfl, rfl⟩ rfl rfl rfl rfl rfl (by kernel_rfl) Try.func6 (by kernel_rfl)
    (of_decide_eq_true (by kernel_rfl)) (by unfold Func.isWrapper; first | (rw [if_pos (by decide +kernel)]; kernel_rfl) | (rw [if_neg (by decide +kernel)]; exact ⟨rfl, rfl⟩))
    (fun os started H enc _ => lifted os started H enc)
theorem proved : Rows.CheckMoreSaid := over
end Go.Proofs.Ytaminpfgkegibaa.checkMore
