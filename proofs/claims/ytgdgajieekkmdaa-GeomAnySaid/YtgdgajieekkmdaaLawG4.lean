/- The law GeomAny of layer 4 returns true for every argument. No conditions. -/
import Derived.Test.YtgdgajieekkmdaaGeomU
import Derived.Test.YtgdgajieekkmdaaOpenS
namespace Go.Proofs.Ytgdgajieekkmdaa
set_option linter.unusedVariables false
set_option linter.unusedSimpArgs false
open Go.RowKit
set_option maxHeartbeats 2000000
set_option maxRecDepth 100000
theorem any4_ok (w : World) (s l n i k x : Int) (h : OkG s l n) :
    Calls Try.prog 6 #[gV s l n, .int .i64 i, .int .i64 k, .int .i64 x] w (TruP (.bool true) w) := by
  have HC := Lib.hid (fun w => check_c s l n w)
  have HRC := Lib.hid (fun w => rcheck_c s l n w)
  rw [chkG_ok h] at HC HRC
  have HOF := Lib.hid (fun w => of_c s l n w)
  have HW := Lib.hid (fun w => word_c s l n i k w h)
  have HRW := Lib.hid (fun w => rword_c s l n i k w h)
  have HSL := Lib.hid (fun w => slots_c s l n w h)
  have t1 : decide (s < 8) = false := by have := h.s1; simp; omega
  have t2 : decide (1048576 < n) = false := by have := h.n2; simp; omega
  have t3 : decide (n < -1048576) = false := by have := h.n1; simp; omega
  have t4 : decide (1048576 < l) = false := by have := h.l2; simp; omega
  have t5 : decide (l < -1048576) = false := by have := h.l1; simp; omega
  have OG := Lib.hid h
  unfold gV at *
  obtain ⟨p1, p2⟩ : ∃ p, p = wordG s l n i k := ⟨_, rfl⟩
  rw [← p2] at HW HRW
  clear h p2
  go_enter Try.func6, Try.ntmps6
  go_wp2_with fail
  refine Calls.mono (known4_c _) ?_
  rintro e w1 ⟨rfl, hb⟩
  obtain ⟨hg, hB⟩ := boxed hb
  obtain ⟨c1, c2, c3⟩ := hg.three
  have z1 := hg.lt
  clear hb
  go_wp2_with fail
  refine Calls.mono (HOF.out _) ?_
  rintro e w2 ⟨rfl, hb⟩
  have hg2 := hg.below hb hg.lt
  have hB2 := hB.trans (hb.mono hB.size)
  obtain ⟨c1, c2, c3⟩ := hg2.three
  have z2 := hg2.lt
  clear hb hg hB z1
  go_wp2_with fail
  refine Calls.mono (HRC.out _) ?_
  rintro e w3 ⟨rfl, hb⟩
  obtain ⟨hx, hb'⟩ := boxed hb
  have hg := hg2.below hb' hg2.lt
  have hB := hB2.trans (hb'.mono hB2.size)
  obtain ⟨c1, c2, c3⟩ := hg.three
  obtain ⟨d1, d2, d3⟩ := hx.three
  clear hb hb' hg2 hB2
  go_wp2_with fail
  refine Calls.mono (HC.out _) ?_
  rintro e w9 ⟨rfl, hb⟩
  have hg2 := hg.below hb hg.lt
  have hx2 := hx.below hb hx.lt
  have hB2 := hB.trans (hb.mono hB.size)
  obtain ⟨c1, c2, c3⟩ := hg2.three
  obtain ⟨d1, d2, d3⟩ := hx2.three
  clear hb hg hx hB
  have hg := hg2
  have hx := hx2
  have hB := hB2
  clear hg2 hx2 hB2
  go_wp2_with fail
  refine Calls.mono (HW.out _) ?_
  rintro e w9 ⟨rfl, hb⟩
  have hg2 := hg.below hb hg.lt
  have hx2 := hx.below hb hx.lt
  have hB2 := hB.trans (hb.mono hB.size)
  obtain ⟨c1, c2, c3⟩ := hg2.three
  obtain ⟨d1, d2, d3⟩ := hx2.three
  clear hb hg hx hB
  have hg := hg2
  have hx := hx2
  have hB := hB2
  clear hg2 hx2 hB2
  go_wp2_with fail
  refine Calls.mono (HRW.out _) ?_
  rintro e w9 ⟨rfl, hb⟩
  have hg2 := hg.below hb hg.lt
  have hx2 := hx.below hb hx.lt
  have hB2 := hB.trans (hb.mono hB.size)
  obtain ⟨c1, c2, c3⟩ := hg2.three
  obtain ⟨d1, d2, d3⟩ := hx2.three
  clear hb hg hx hB
  have hg := hg2
  have hx := hx2
  have hB := hB2
  clear hg2 hx2 hB2
  go_wp2_with fail
  refine Calls.mono (HSL.out _) ?_
  rintro e w9 ⟨rfl, hb⟩
  have hg2 := hg.below hb hg.lt
  have hx2 := hx.below hb hx.lt
  have hB2 := hB.trans (hb.mono hB.size)
  obtain ⟨c1, c2, c3⟩ := hg2.three
  obtain ⟨d1, d2, d3⟩ := hx2.three
  clear hb hg hx hB
  have hg := hg2
  have hx := hx2
  have hB := hB2
  clear hg2 hx2 hB2
  go_wp2_with fail
  have hq := Bk.new w9 47 #[.int .i64 0, .int .i64 1, .int .i64 1, .int .i64 1]
  have hg2 := hg.alloc (.cells #[.int .i64 0, .int .i64 1, .int .i64 1, .int .i64 1] 47)
  have hx2 := hx.alloc (.cells #[.int .i64 0, .int .i64 1, .int .i64 1, .int .i64 1] 47)
  have hB2 := hB.alloc hB.size (.cells #[.int .i64 0, .int .i64 1, .int .i64 1, .int .i64 1] 47)
  refine any4_r _ _ _ w.heap.size _ _ s l n i x p1.1 p1.2 hg2 hx2 hq OG.out rfl rfl rfl rfl rfl rfl rfl rfl rfl rfl ?_
  intro vals w10 hG h8
  unfold IsV at h8
  simp only [putD, Act.put, List.setIfInBounds_toArray, List.set_cons_zero, List.set_cons_succ, h8]
  have hB3 := hB2.trans (hG.mono hB2.size)
  clear h8 hG hg2 hx2 hq hB2
  go_wp2_with fail
  go_ret
  exact ⟨rfl, hB3⟩
theorem any4_walk (w : World) (s : Int) (_ws : (Lit.int .i64 s).wf = true) (l : Int) (_wl : (Lit.int .i64 l).wf = true) (n : Int) (_wn : (Lit.int .i64 n).wf = true) (i : Int) (_wi : (Lit.int .i64 i).wf = true) (k : Int) (_wk : (Lit.int .i64 k).wf = true) (x : Int) (_wx : (Lit.int .i64 x).wf = true) :
    Calls Try.prog 6 #[.agg #[.int .i64 s, .int .i64 l, .int .i64 n], .int .i64 i, .int .i64 k, .int .i64 x] w (TruP (.bool true) w) := by
  cases hok : okG s l n
  · have hc : chkG s l n = 1 := by unfold chkG; rw [hok]; rfl
    have HC := Lib.hid (fun w => check_c s l n w)
    have HRC := Lib.hid (fun w => rcheck_c s l n w)
    have HOF := Lib.hid (fun w => of_c s l n w)
    rw [hc] at HC HRC
    unfold gV at *
    clear hok hc
    go_enter Try.func6, Try.ntmps6
    go_wp2_with fail
    refine Calls.mono (known4_c _) ?_
    rintro e w1 ⟨rfl, hb⟩
    obtain ⟨hg, hB⟩ := boxed hb
    obtain ⟨c1, c2, c3⟩ := hg.three
    have z1 := hg.lt
    clear hb
    go_wp2_with fail
    refine Calls.mono (HOF.out _) ?_
    rintro e w2 ⟨rfl, hb⟩
    have hg2 := hg.below hb hg.lt
    have hB2 := hB.trans (hb.mono hB.size)
    obtain ⟨c1, c2, c3⟩ := hg2.three
    have z2 := hg2.lt
    clear hb hg hB z1
    by_cases hr : n ≤ 1048576 ∧ -1048576 ≤ n ∧ l ≤ 1048576 ∧ -1048576 ≤ l ∧ 8 ≤ s
    · obtain ⟨r1, r2, r3, r4, r5⟩ := hr
      have t1 : decide (s < 8) = false := by simp; omega
      have t2 : decide (1048576 < n) = false := by simp; omega
      have t3 : decide (n < -1048576) = false := by simp; omega
      have t4 : decide (1048576 < l) = false := by simp; omega
      have t5 : decide (l < -1048576) = false := by simp; omega
      go_wp2_with fail
      refine Calls.mono (HRC.out _) ?_
      rintro e w3 ⟨rfl, hb⟩
      obtain ⟨hx, hb'⟩ := boxed hb
      have hg := hg2.below hb' hg2.lt
      have hB := hB2.trans (hb'.mono hB2.size)
      obtain ⟨c1, c2, c3⟩ := hg.three
      clear hb hb' hg2 hB2
      go_wp2_with fail
      refine Calls.mono (HC.out _) ?_
      rintro e w4 ⟨rfl, hb⟩
      have hB2 := hB.trans (hb.mono hB.size)
      clear hb
      go_wp2_with fail
      go_ret
      exact ⟨rfl, hB2⟩
    · have hq : 1048576 < n ∨ n < -1048576 ∨ 1048576 < l ∨ l < -1048576 ∨ s < 8 := by omega
      clear hr
      have hB3 := hB2.alloc hB2.size (.cells #[.int .i64 s, .int .i64 l, .int .i64 n] 37)
      go_wp2_with (go_at_call 25; refine Calls.mono (HC.out _) ?_; rintro e w3 ⟨rfl, hb3⟩; have hB4 := hB3.trans (hb3.mono hB3.size))
      all_goals first
        | (exfalso; omega)
        | (go_ret; exact ⟨rfl, hB4⟩)
  · exact any4_ok w s l n i k x (okG_out hok)
end Go.Proofs.Ytgdgajieekkmdaa
namespace Go.Proofs.Ytgdgajieekkmdaa.geomAny
open Go.ChangeShapes Go.WideShapes Go.ChangeAt Go.RowKit
open Go.ChangeMaps (open_string shut_string)
set_option linter.unusedVariables false
set_option maxRecDepth 100000 in
theorem lifted (os : Os) (started : os.Started) (H : Type) (enc : TypeId × Value → H) :
    ReturnsInHanded {} Try.checked os 6 .any (Rows.geomAnySpec.pre6 enc Try.prog Try.f6 Rows.geomAnyRow.domain false) (Rows.geomAnySpec.post enc Try.prog Try.f6 false true false false) := by
  refine returnsInHanded_of_change (C := Try.checked) own started (by kernel_rfl) Try.func6
    (ChangeSpec.witness6 (enc := enc) (C := Try.checked) false ⟨#[], #[.agg #[.int .i64 0, .int .i64 0, .int .i64 0], .int .i64 0, .int .i64 0, .int .i64 0], []⟩ 8 (by kernel_rfl) (by kernel_rfl) (by kernel_rfl) (by kernel_rfl)) ?_
  intro W base args ds gs before hval0 hW hcnd _
  have hval : ∀ (j : Nat) t v, Try.f6.params[j]? = some t → args[j]? = some v → Value.okWide Try.prog W .any base t v := hval0
  have hW' := hW
  obtain ⟨p, q, hA0, hV, rfl, hfz, hnd⟩ := hW
  have hA : DataW.TrodAll enc Try.prog W 0 (fun _ => true) true Try.f6.params.toList args.toList ds p := hA0
  rw [Try.params6] at hA hval
  obtain ⟨v0, vs0, d0, ds0, p0, q0, hargs, rfl, rfl, h0, r0⟩ := trodAll_cons hA
  obtain ⟨v1, vs1, d1, ds1, p1, q1, rfl, rfl, rfl, h1, r1⟩ := trodAll_cons r0
  obtain ⟨v2, vs2, d2, ds2, p2, q2, rfl, rfl, rfl, h2, r2⟩ := trodAll_cons r1
  obtain ⟨v3, vs3, d3, ds3, p3, q3, rfl, rfl, rfl, h3, r3⟩ := trodAll_cons r2
  obtain ⟨rfl, rfl, rfl⟩ := trodAll_nil r3
  obtain rfl : args = #[v0, v1, v2, v3] := by cases args; simp_all
  obtain ⟨rfl, rfl⟩ := trodVars_none hV
  have k0 := h0
  have lt0 : ∀ x ∈ p0, x.block < W.heap.size := by obtain ⟨m, hm⟩ := k0; exact DataW.trod_lt m _ _ _ hm
  obtain ⟨a0x, a0y, a0z, e0v, w0x, w0y, w0z⟩ := open_ints3 .i64 .i64 .i64 Try.underlying36 (by kernel_rfl) (by kernel_rfl) (by kernel_rfl) (by kernel_rfl) (by kernel_rfl) (hval 0 36 v0 rfl rfl) h0; subst e0v
  have k1 := h1
  have lt1 : ∀ x ∈ p1, x.block < W.heap.size := by obtain ⟨m, hm⟩ := k1; exact DataW.trod_lt m _ _ _ hm
  obtain ⟨a1, e1v, _, _, w1⟩ := open_int Try.underlying3 (hval 1 3 v1 rfl rfl) h1; subst e1v
  have k2 := h2
  have lt2 : ∀ x ∈ p2, x.block < W.heap.size := by obtain ⟨m, hm⟩ := k2; exact DataW.trod_lt m _ _ _ hm
  obtain ⟨a2, e2v, _, _, w2⟩ := open_int Try.underlying3 (hval 2 3 v2 rfl rfl) h2; subst e2v
  have k3 := h3
  have lt3 : ∀ x ∈ p3, x.block < W.heap.size := by obtain ⟨m, hm⟩ := k3; exact DataW.trod_lt m _ _ _ hm
  obtain ⟨a3, e3v, _, _, w3⟩ := open_int Try.underlying3 (hval 3 3 v3 rfl rfl) h3; subst e3v
  clear hA0 hval0
  refine (any4_walk W a0x w0x a0y w0y a0z w0z a1 w1 a2 w2 a3 w3).mono fun e W' ⟨he, bel⟩ => ?_
  subst he
  exact ⟨_, rfl, _, _, _, [], _, [], hW', trodAll_mk1 (shut_bool Try.underlying4 _), (trodAll_cons_mk (Below.trod laidOut (by kernel_rfl) (of_decide_eq_true (by kernel_rfl)) k0 bel lt0) (trodAll_cons_mk (Below.trod laidOut (by kernel_rfl) (of_decide_eq_true (by kernel_rfl)) k1 bel lt1) (trodAll_cons_mk (Below.trod laidOut (by kernel_rfl) (of_decide_eq_true (by kernel_rfl)) k2 bel lt2) (trodAll_cons_mk (Below.trod laidOut (by kernel_rfl) (of_decide_eq_true (by kernel_rfl)) k3 bel lt3) trodAll_mk0)))), rfl, bel.frame _, fun h => by cases h⟩
theorem over : Rows.geomAnyRow.holds Try.pinned (OpenSpec.ofChange Rows.geomAnySpec) :=
  OpenClaim.holds_of_wide 6 Try.f6 rfl rfl rfl rfl rfl rfl rfl ⟨rfl, rfl, rfl, rfl, rfl⟩ rfl rfl rfl rfl rfl (by kernel_rfl) Try.func6 (by kernel_rfl)
    (of_decide_eq_true (by kernel_rfl)) (by unfold Func.isWrapper; first | (rw [if_pos (by decide +kernel)]; kernel_rfl) | (rw [if_neg (by decide +kernel)]; exact ⟨rfl, rfl⟩))
    (fun os started H enc _ => lifted os started H enc)
theorem proved : Rows.GeomAnySaid := over
end Go.Proofs.Ytgdgajieekkmdaa.geomAny
