/- The law GeomGrows of layer 4 returns true for every argument. No conditions. -/
import Derived.Test.YtgdgajieekkmdaaGeomG
import Derived.Test.YtgdgajieekkmdaaOpenS
namespace Go.Proofs.Ytgdgajieekkmdaa
set_option linter.unusedVariables false
set_option linter.unusedSimpArgs false
open Go.RowKit
theorem wfu8b {n : Int} (h : (Lit.int .u8 n).wf = true) : 0 ≤ n ∧ n ≤ 255 := by
  simpa [Lit.wf, IntKind.min, IntKind.max, IntKind.signed, IntKind.bits] using h
set_option maxHeartbeats 1000000
set_option maxRecDepth 100000
theorem grows_walk (w : World) (s : Int) (_ws : (Lit.int .i64 s).wf = true) (l : Int) (_wl : (Lit.int .i64 l).wf = true) (n : Int) (_wn : (Lit.int .i64 n).wf = true) (u : Int) (wu : (Lit.int .u8 u).wf = true) (v : Int) (wv : (Lit.int .u8 v).wf = true) :
    Calls Try.prog 8 #[.agg #[.int .i64 s, .int .i64 l, .int .i64 n], .int .u8 u, .int .u8 v] w (TruP (.bool true) w) := by
  obtain ⟨hu1, hu2⟩ := wfu8b wu
  obtain ⟨hv1, hv2⟩ := wfu8b wv
  clear wu wv
  cases hok : okG s l n
  · have hc : chkG s l n = 1 := by unfold chkG; rw [hok]; rfl
    have HC := Lib.hid (fun w => check_c s l n w)
    rw [hc] at HC
    unfold gV at *
    clear hok hc
    go_enter Try.func8, Try.ntmps8
    go_wp2_with fail
    refine Calls.mono (known4_c _) ?_
    rintro e w1 ⟨rfl, hb⟩
    obtain ⟨hk1, hB1⟩ := boxed hb
    obtain ⟨c1, c2, c3⟩ := hk1.three
    clear hb
    go_wp2_with (go_at_call 25; refine Calls.mono (HC.out _) ?_; rintro e w2 ⟨rfl, hb2⟩; have hB2 := hB1.trans (hb2.mono hB1.size))
    all_goals go_ret
    all_goals first | exact ⟨rfl, hB2⟩ | exact ⟨rfl, hB1⟩
  · have h := okG_out hok
    clear hok
    have HC := Lib.hid (fun w => check_c s l n w)
    rw [chkG_ok h] at HC
    have t1 : decide (s < 8) = false := by have := h.s1; simp; omega
    have t2 : decide (16384 < n) = false := by have := h.n2; simp; omega
    have t3 : decide (n < 0) = false := by have := h.n1; simp; omega
    have t4 : decide (2000 < l) = false := by have := h.l2; simp; omega
    have t5 : decide (l < 0) = false := by have := h.l1; simp; omega
    have q1 := h.s1
    have q2 := h.s2
    have q3 := h.n1
    have q4 := h.n2
    have q5 := h.l1
    have q6 := h.l2
    have HO := Lib.hid h
    clear h
    obtain ⟨c1v, HC1⟩ : ∃ x, Hid (∀ w, Calls Try.prog 25 #[gV s l (n + u)] w (RetP (.int .i64 x) w)) ∧ ((x = 0 ∧ OkG s l (n + u)) ∨ x = 1) := by
      refine ⟨chkG s l (n + u), Lib.hid (fun w => check_c s l (n + u) w), ?_⟩
      cases e : okG s l (n + u)
      · right; unfold chkG; rw [e]; rfl
      · left; exact ⟨chkG_ok (okG_out e), okG_out e⟩
    obtain ⟨c2v, HC2⟩ : ∃ x, Hid (∀ w, Calls Try.prog 25 #[gV s (l + v) n] w (RetP (.int .i64 x) w)) ∧ ((x = 0 ∧ OkG s (l + v) n) ∨ x = 1) := by
      refine ⟨chkG s (l + v) n, Lib.hid (fun w => check_c s (l + v) n w), ?_⟩
      cases e : okG s (l + v) n
      · right; unfold chkG; rw [e]; rfl
      · left; exact ⟨chkG_ok (okG_out e), okG_out e⟩
    obtain ⟨HC1, hd1⟩ := HC1
    obtain ⟨HC2, hd2⟩ := HC2
    have HD1 := Lib.hid hd1
    have HD2 := Lib.hid hd2
    clear hd1 hd2
    unfold gV at HC HC1 HC2
    go_enter Try.func8, Try.ntmps8
    go_wp2_with fail
    refine Calls.mono (known4_c _) ?_
    rintro e w1 ⟨rfl, hb⟩
    obtain ⟨hk1, hB1⟩ := boxed hb
    obtain ⟨c1, c2, c3⟩ := hk1.three
    clear hb
    go_wp2_with fail
    refine Calls.mono (HC.out _) ?_
    rintro e w2 ⟨rfl, hb⟩
    have hk2 := hk1.below hb hk1.lt
    obtain ⟨c1, c2, c3⟩ := hk2.three
    have hB2 := hB1.trans (hb.mono hB1.size)
    have hz := hk2.lt
    clear hb hB1 hk1
    go_wp2_with fail
    rcases HD1.out with ⟨rfl, oh⟩ | rfl
    · have OH := Lib.hid oh
      clear oh
      refine Calls.mono (HC1.out _) ?_
      rintro e w3 ⟨rfl, hb⟩
      obtain ⟨hh3, hkk3, hBx⟩ := boxedAA hb
      have hg3 := hk2.below hBx hk2.lt
      have hB3 := hB2.trans (hBx.mono hB2.size)
      obtain ⟨c1, c2, c3⟩ := hg3.three
      obtain ⟨d1, d2, d3⟩ := hh3.three
      obtain ⟨e1, e2, e3⟩ := hkk3.three
      clear hb hBx hB2 hk2 hz
      go_wp2_with fail
      rcases HD2.out with ⟨rfl, ok⟩ | rfl
      · have OK := Lib.hid ok
        clear ok
        refine Calls.mono (HC2.out _) ?_
        rintro e w4 ⟨rfl, hb⟩
        have hg4 := hg3.below hb hg3.lt
        have hh4 := hh3.below hb hh3.lt
        have hkk4 := hkk3.below hb hkk3.lt
        have hB4 := hB3.trans (hb.mono hB3.size)
        clear hb hB3 hg3 hh3 hkk3 c1 c2 c3 d1 d2 d3 e1 e2 e3
        go_wp2_with fail
        have ho := HO.out
        refine grows_r _ _ _ w.heap.size w2.heap.size (w2.heap.size + 1) s l n u v hg4 hh4 hkk4 ho OH.out OK.out hu1 hv1 hv2 q1 q2 q3 q4 (by have := (oneG_bd s n q1 q2 q3 q4).1; unfold totG; omega) ho.tot rfl rfl rfl rfl rfl ?_
        intro vals w5 hG h6
        unfold IsV at h6
        simp only [putD, Act.put, List.setIfInBounds_toArray, List.set_cons_zero, List.set_cons_succ, h6]
        have hB5 := hB4.trans (hG.mono hB4.size)
        clear h6 hG ho
        go_wp2_with fail
        go_ret
        exact ⟨rfl, hB5⟩
      · refine Calls.mono (HC2.out _) ?_
        rintro e w4 ⟨rfl, hb⟩
        have hB4 := hB3.trans (hb.mono hB3.size)
        clear hb
        go_wp2_with fail
        go_ret
        exact ⟨rfl, hB4⟩
    · refine Calls.mono (HC1.out _) ?_
      rintro e w3 ⟨rfl, hb⟩
      obtain ⟨hh3, hkk3, hBx⟩ := boxedAA hb
      have hB3 := hB2.trans (hBx.mono hB2.size)
      clear hb
      go_wp2_with fail
      go_ret
      exact ⟨rfl, hB3⟩
end Go.Proofs.Ytgdgajieekkmdaa
namespace Go.Proofs.Ytgdgajieekkmdaa.geomGrows
open Go.ChangeShapes Go.WideShapes Go.ChangeAt Go.RowKit
open Go.ChangeMaps (open_string shut_string)
set_option linter.unusedVariables false
set_option maxRecDepth 100000 in
theorem lifted (os : Os) (started : os.Started) (H : Type) (enc : TypeId × Value → H) :
    ReturnsInHanded {} Try.checked os 8 .any (Rows.geomGrowsSpec.pre6 enc Try.prog Try.f8 Rows.geomGrowsRow.domain false) (Rows.geomGrowsSpec.post enc Try.prog Try.f8 false true false false) := by
  refine returnsInHanded_of_change (C := Try.checked) own started (by kernel_rfl) Try.func8
    (ChangeSpec.witness6 (enc := enc) (C := Try.checked) false ⟨#[], #[.agg #[.int .i64 0, .int .i64 0, .int .i64 0], .int .u8 0, .int .u8 0], []⟩ 8 (by kernel_rfl) (by kernel_rfl) (by kernel_rfl) (by kernel_rfl)) ?_
  intro W base args ds gs before hval0 hW hcnd _
  have hval : ∀ (j : Nat) t v, Try.f8.params[j]? = some t → args[j]? = some v → Value.okWide Try.prog W .any base t v := hval0
  have hW' := hW
  obtain ⟨p, q, hA0, hV, rfl, hfz, hnd⟩ := hW
  have hA : DataW.TrodAll enc Try.prog W 0 (fun _ => true) true Try.f8.params.toList args.toList ds p := hA0
  rw [Try.params8] at hA hval
  obtain ⟨v0, vs0, d0, ds0, p0, q0, hargs, rfl, rfl, h0, r0⟩ := trodAll_cons hA
  obtain ⟨v1, vs1, d1, ds1, p1, q1, rfl, rfl, rfl, h1, r1⟩ := trodAll_cons r0
  obtain ⟨v2, vs2, d2, ds2, p2, q2, rfl, rfl, rfl, h2, r2⟩ := trodAll_cons r1
  obtain ⟨rfl, rfl, rfl⟩ := trodAll_nil r2
  obtain rfl : args = #[v0, v1, v2] := by cases args; simp_all
  obtain ⟨rfl, rfl⟩ := trodVars_none hV
  have k0 := h0
  have lt0 : ∀ x ∈ p0, x.block < W.heap.size := by obtain ⟨m, hm⟩ := k0; exact DataW.trod_lt m _ _ _ hm
  obtain ⟨a0x, a0y, a0z, e0v, w0x, w0y, w0z⟩ := open_ints3 .i64 .i64 .i64 Try.underlying36 (by kernel_rfl) (by kernel_rfl) (by kernel_rfl) (by kernel_rfl) (by kernel_rfl) (hval 0 36 v0 rfl rfl) h0; subst e0v
  have k1 := h1
  have lt1 : ∀ x ∈ p1, x.block < W.heap.size := by obtain ⟨m, hm⟩ := k1; exact DataW.trod_lt m _ _ _ hm
  obtain ⟨a1, e1v, _, _, w1⟩ := open_int Try.underlying5 (hval 1 5 v1 rfl rfl) h1; subst e1v
  have k2 := h2
  have lt2 : ∀ x ∈ p2, x.block < W.heap.size := by obtain ⟨m, hm⟩ := k2; exact DataW.trod_lt m _ _ _ hm
  obtain ⟨a2, e2v, _, _, w2⟩ := open_int Try.underlying5 (hval 2 5 v2 rfl rfl) h2; subst e2v
  clear hA0 hval0
  refine (grows_walk W a0x w0x a0y w0y a0z w0z a1 w1 a2 w2).mono fun e W' ⟨he, bel⟩ => ?_
  subst he
  exact ⟨_, rfl, _, _, _, [], _, [], hW', trodAll_mk1 (shut_bool Try.underlying4 _), (trodAll_cons_mk (Below.trod laidOut (by kernel_rfl) (of_decide_eq_true (by kernel_rfl)) k0 bel lt0) (trodAll_cons_mk (Below.trod laidOut (by kernel_rfl) (of_decide_eq_true (by kernel_rfl)) k1 bel lt1) (trodAll_cons_mk (Below.trod laidOut (by kernel_rfl) (of_decide_eq_true (by kernel_rfl)) k2 bel lt2) trodAll_mk0))), rfl, bel.frame _, fun h => by cases h⟩
theorem over : Rows.geomGrowsRow.holds Try.pinned (OpenSpec.ofChange Rows.geomGrowsSpec) :=
  OpenClaim.holds_of_wide 8 Try.f8 rfl rfl rfl rfl rfl rfl rfl ⟨rfl, rfl, rfl, rfl, rfl⟩ rfl rfl rfl rfl rfl (by kernel_rfl) Try.func8 (by kernel_rfl)
    (of_decide_eq_true (by kernel_rfl)) (by unfold Func.isWrapper; first | (rw [if_pos (by decide +kernel)]; kernel_rfl) | (rw [if_neg (by decide +kernel)]; exact ⟨rfl, rfl⟩))
    (fun os started H enc _ => lifted os started H enc)
theorem proved : Rows.GeomGrowsSaid := over
end Go.Proofs.Ytgdgajieekkmdaa.geomGrows
