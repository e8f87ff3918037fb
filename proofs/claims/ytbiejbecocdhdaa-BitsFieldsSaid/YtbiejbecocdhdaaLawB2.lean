/- The law BitsFields of layer 1 returns true for every argument. No conditions. -/
import Derived.Test.YtbiejbecocdhdaaFrame
import Derived.Test.YtbiejbecocdhdaaKnown1
import Derived.Test.YtbiejbecocdhdaaBitsF
namespace Go.Proofs.Ytbiejbecocdhdaa
open Go.RowKit
attribute [local go_sem] i64_u64 beqI64 beqU64 shlU64 orU64
theorem tru2 {b : Bool} {w w' : World} (h : b = true) (hb : Below w.heap.size w w') : TruP (.bool true) w (.returned (.bool b)) w' := ⟨by rw [h], hb⟩
set_option maxHeartbeats 400000
theorem fields_walk (a0 : Int) (w0 : (Lit.int .u64 a0).wf = true) (p : Int) (wp : (Lit.int .i64 p).wf = true) (n : Int) (w1 : (Lit.int .i64 n).wf = true) (a3 : Int) (w3 : (Lit.int .u64 a3).wf = true) (w : World) :
    Calls Try.prog 5 #[.int .u64 a0, .int .i64 p, .int .i64 n, .int .u64 a3] w (TruP (.bool true) w) := by
  obtain ⟨hn1, hn2⟩ := wf64 w1
  obtain ⟨x, rfl⟩ : ∃ x, a0 = U64 x := ⟨_, wfu64 w0⟩
  obtain ⟨v, rfl⟩ : ∃ x, a3 = U64 x := ⟨_, wfu64 w3⟩
  clear w0 w1 w3 wp
  by_cases h : wB p n = true
  · obtain ⟨h1, h2, h3, h4, h5⟩ := wB_out h
    have e1 : (fieldB (withB x p n v) p n == fieldB v 0 n) = true := by rw [field_with _ _ _ _ h]; simp
    have e2 : (withB (withB x p n v) p n (fieldB x p n) == x) = true := by rw [with_field _ _ _ _ h]; simp
    clear h
    go_enter Try.func5, Try.ntmps5
    go_wp2_with (first | (go_at_call 10; refine (known_c _).mono ?_; rintro e w1 ⟨rfl, hb1⟩) | (go_at_call 20; refine (with_c _ _ _ _ _).go.mono ?_; rintro e w' ⟨rfl, mm, rfl⟩) | (go_at_call 15; refine (field_c _ _ _ _).go.mono ?_; rintro e w' ⟨rfl, mm, rfl⟩) | (go_at_call 22; refine (rwith_c _ _ _ _ hn2 hn1 _).go.mono ?_; rintro e w' ⟨rfl, mm, rfl⟩) | (go_at_call 21; refine (rfield_c _ _ _ hn2 hn1 _).go.mono ?_; rintro e w' ⟨rfl, mm, rfl⟩))
    go_ret
    exact tru2 rfl (bdrewN hb1 _)
  · have h' : ¬ (0 ≤ p ∧ p ≤ 63 ∧ 1 ≤ n ∧ n ≤ 64 ∧ p + n ≤ 64) := by simpa [wB] using h
    have e1 : (U64 (fieldB x p n) == 0) = true := by unfold fieldB; rw [if_neg h]; decide +kernel
    have e2 : (withB x p n v == x) = true := by unfold withB; rw [if_neg h]; simp
    clear h
    go_enter Try.func5, Try.ntmps5
    go_wp2_with (first | (go_at_call 10; refine (known_c _).mono ?_; rintro e w1 ⟨rfl, hb1⟩) | (go_at_call 20; refine (with_c _ _ _ _ _).go.mono ?_; rintro e w' ⟨rfl, mm, rfl⟩) | (go_at_call 15; refine (field_c _ _ _ _).go.mono ?_; rintro e w' ⟨rfl, mm, rfl⟩) | (go_at_call 22; refine (rwith_c _ _ _ _ hn2 hn1 _).go.mono ?_; rintro e w' ⟨rfl, mm, rfl⟩) | (go_at_call 21; refine (rfield_c _ _ _ hn2 hn1 _).go.mono ?_; rintro e w' ⟨rfl, mm, rfl⟩))
    all_goals try (exfalso; apply h'; omega)
    all_goals go_ret
    all_goals exact tru2 rfl (bdrewN hb1 _)
end Go.Proofs.Ytbiejbecocdhdaa
namespace Go.Proofs.Ytbiejbecocdhdaa.bitsFields
open Go.ChangeShapes Go.WideShapes Go.ChangeAt Go.RowKit
open Go.ChangeMaps (open_string shut_string)
set_option linter.unusedVariables false
set_option maxRecDepth 100000 in
theorem lifted (os : Os) (started : os.Started) (H : Type) (enc : TypeId × Value → H) :
    ReturnsInHanded {} Try.checked os 5 .any (Rows.bitsFieldsSpec.pre6 enc Try.prog Try.f5 Rows.bitsFieldsRow.domain false) (Rows.bitsFieldsSpec.post enc Try.prog Try.f5 false true false false) := by
  refine returnsInHanded_of_change (C := Try.checked) own started (by kernel_rfl) Try.func5
    (ChangeSpec.witness6 (enc := enc) (C := Try.checked) false ⟨#[], #[.int .u64 0, .int .i64 0, .int .i64 0, .int .u64 0], []⟩ 8 (by kernel_rfl) (by kernel_rfl) (by kernel_rfl) (by kernel_rfl)) ?_
  intro W base args ds gs before hval0 hW hcnd _
  have hval : ∀ (j : Nat) t v, Try.f5.params[j]? = some t → args[j]? = some v → Value.okWide Try.prog W .any base t v := hval0
  have hW' := hW
  obtain ⟨p, q, hA0, hV, rfl, hfz, hnd⟩ := hW
  have hA : DataW.TrodAll enc Try.prog W 0 (fun _ => true) true Try.f5.params.toList args.toList ds p := hA0
  rw [Try.params5] at hA hval
  obtain ⟨v0, vs0, d0, ds0, p0, q0, hargs, rfl, rfl, h0, r0⟩ := trodAll_cons hA
  obtain ⟨v1, vs1, d1, ds1, p1, q1, rfl, rfl, rfl, h1, r1⟩ := trodAll_cons r0
  obtain ⟨v2, vs2, d2, ds2, p2, q2, rfl, rfl, rfl, h2, r2⟩ := trodAll_cons r1
  obtain ⟨v3, vs3, d3, ds3, p3, q3, rfl, rfl, rfl, h3, r3⟩ := trodAll_cons r2
  obtain ⟨rfl, rfl, rfl⟩ := trodAll_nil r3
  obtain rfl : args = #[v0, v1, v2, v3] := by cases args; simp_all
  obtain ⟨rfl, rfl⟩ := trodVars_none hV
  have k0 := h0
  have lt0 : ∀ x ∈ p0, x.block < W.heap.size := by obtain ⟨m, hm⟩ := k0; exact DataW.trod_lt m _ _ _ hm
  obtain ⟨a0, e0v, _, _, w0⟩ := open_int Try.underlying23 (hval 0 23 v0 rfl rfl) h0; subst e0v
  have k1 := h1
  have lt1 : ∀ x ∈ p1, x.block < W.heap.size := by obtain ⟨m, hm⟩ := k1; exact DataW.trod_lt m _ _ _ hm
  obtain ⟨a1, e1v, _, _, w1⟩ := open_int Try.underlying3 (hval 1 3 v1 rfl rfl) h1; subst e1v
  have k2 := h2
  have lt2 : ∀ x ∈ p2, x.block < W.heap.size := by obtain ⟨m, hm⟩ := k2; exact DataW.trod_lt m _ _ _ hm
  obtain ⟨a2, e2v, _, _, w2⟩ := open_int Try.underlying3 (hval 2 3 v2 rfl rfl) h2; subst e2v
  have k3 := h3
  have lt3 : ∀ x ∈ p3, x.block < W.heap.size := by obtain ⟨m, hm⟩ := k3; exact DataW.trod_lt m _ _ _ hm
  obtain ⟨a3, e3v, _, _, w3⟩ := open_int Try.underlying23 (hval 3 23 v3 rfl rfl) h3; subst e3v
  clear hA0 hval0
  refine (fields_walk a0 w0 a1 w1 a2 w2 a3 w3 W).mono fun e W' ⟨he, bel⟩ => ?_
  subst he
  exact ⟨_, rfl, _, _, _, [], _, [], hW', trodAll_mk1 (shut_bool Try.underlying4 _), (trodAll_cons_mk (Below.trod laidOut (by kernel_rfl) (of_decide_eq_true (by kernel_rfl)) k0 bel lt0) (trodAll_cons_mk (Below.trod laidOut (by kernel_rfl) (of_decide_eq_true (by kernel_rfl)) k1 bel lt1) (trodAll_cons_mk (Below.trod laidOut (by kernel_rfl) (of_decide_eq_true (by kernel_rfl)) k2 bel lt2) (trodAll_cons_mk (Below.trod laidOut (by kernel_rfl) (of_decide_eq_true (by kernel_rfl)) k3 bel lt3) trodAll_mk0)))), rfl, bel.frame _, fun h => by cases h⟩
theorem over : Rows.bitsFieldsRow.holds Try.pinned (OpenSpec.ofChange Rows.bitsFieldsSpec) :=
  OpenClaim.holds_of_wide 5 Try.f5 rfl rfl rfl rfl rfl rfl rfl ⟨rfl, rfl, rfl, rfl, rfl⟩ rfl rfl rfl rfl rfl (by kernel_rfl) Try.func5 (by kernel_rfl)
    (of_decide_eq_true (by kernel_rfl)) (by unfold Func.isWrapper; first | (rw [if_pos (by decide +kernel)]; kernel_rfl) | (rw [if_neg (by decide +kernel)]; exact ⟨rfl, rfl⟩))
    (fun os started H enc _ => lifted os started H enc)
theorem proved : Rows.BitsFieldsSaid := over
end Go.Proofs.Ytbiejbecocdhdaa.bitsFields
