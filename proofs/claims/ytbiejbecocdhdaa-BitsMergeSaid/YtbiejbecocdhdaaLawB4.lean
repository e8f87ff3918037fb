/- The law BitsMerge of layer 1 returns true for every argument. No conditions. -/
import Derived.Test.YtbiejbecocdhdaaFrame
import Derived.Test.YtbiejbecocdhdaaKnown1
import Derived.Test.YtbiejbecocdhdaaBitsF
namespace Go.Proofs.Ytbiejbecocdhdaa
open Go.RowKit
attribute [local go_sem] i64_u64 beqI64 beqU64 shlU64 orU64
theorem tru4 {b : Bool} {w w' : World} (h : b = true) (hb : Below w.heap.size w w') : TruP (.bool true) w (.returned (.bool b)) w' := ⟨by rw [h], hb⟩
set_option maxHeartbeats 400000
theorem merge_walk (a0 : Int) (w0 : (Lit.int .u64 a0).wf = true) (c : Int) (wc : (Lit.int .i64 c).wf = true) (w : World) :
    Calls Try.prog 7 #[.int .u64 a0, .int .i64 c] w (TruP (.bool true) w) := by
  obtain ⟨hc1, hc2⟩ := wf64 wc
  obtain ⟨x, rfl⟩ : ∃ x, a0 = U64 x := ⟨_, wfu64 w0⟩
  clear w0 wc
  by_cases h : 1 ≤ c ∧ c ≤ 63
  · obtain ⟨h1, h2⟩ := h
    have e1 : (withB (fieldB x 0 c) c (64 - c) (fieldB x c (64 - c)) == x) = true := by rw [merge_with x c h1 h2]; simp
    have e2 : (fieldB x 0 c ||| fieldB x c (64 - c) <<< c.toNat == x) = true := by rw [merge_or x c h1 h2]; simp
    have e3 : (turnB x (64 - c) == fieldB x c (64 - c) ||| fieldB x 0 c <<< (64 - c).toNat) = true := by rw [merge_turn x c h1 h2]; simp
    go_enter Try.func7, Try.ntmps7
    go_wp2_with (first | (go_at_call 10; refine (known_c _).mono ?_; rintro e w1 ⟨rfl, hbel⟩) | (go_at_call 23; refine (turn_c _ _ _).go.mono ?_; rintro e w' ⟨rfl, mm, rfl⟩) | (go_at_call 24; refine (rturn_c _ _ _).go.mono ?_; rintro e w' ⟨rfl, mm, rfl⟩) | (go_at_call 20; refine (with_c _ _ _ _ _).go.mono ?_; rintro e w' ⟨rfl, mm, rfl⟩) | (go_at_call 15; refine (field_c _ _ _ _).go.mono ?_; rintro e w' ⟨rfl, mm, rfl⟩))
    go_ret
    exact tru4 rfl (by first | exact hbel | exact bdrewN hbel _)
  · go_enter Try.func7, Try.ntmps7
    go_wp2_with (first | (go_at_call 10; refine (known_c _).mono ?_; rintro e w1 ⟨rfl, hbel⟩))
    all_goals try (exfalso; apply h; omega)
    all_goals go_ret
    all_goals exact tru4 rfl (by first | exact hbel | exact bdrewN hbel _)
end Go.Proofs.Ytbiejbecocdhdaa
namespace Go.Proofs.Ytbiejbecocdhdaa.bitsMerge
open Go.ChangeShapes Go.WideShapes Go.ChangeAt Go.RowKit
open Go.ChangeMaps (open_string shut_string)
set_option linter.unusedVariables false
set_option maxRecDepth 100000 in
theorem lifted (os : Os) (started : os.Started) (H : Type) (enc : TypeId × Value → H) :
    ReturnsInHanded {} Try.checked os 7 .any (Rows.bitsMergeSpec.pre6 enc Try.prog Try.f7 Rows.bitsMergeRow.domain false) (Rows.bitsMergeSpec.post enc Try.prog Try.f7 false true false false) := by
  refine returnsInHanded_of_change (C := Try.checked) own started (by kernel_rfl) Try.func7
    (ChangeSpec.witness6 (enc := enc) (C := Try.checked) false ⟨#[], #[.int .u64 0, .int .i64 0], []⟩ 8 (by kernel_rfl) (by kernel_rfl) (by kernel_rfl) (by kernel_rfl)) ?_
  intro W base args ds gs before hval0 hW hcnd _
  have hval : ∀ (j : Nat) t v, Try.f7.params[j]? = some t → args[j]? = some v → Value.okWide Try.prog W .any base t v := hval0
  have hW' := hW
  obtain ⟨p, q, hA0, hV, rfl, hfz, hnd⟩ := hW
  have hA : DataW.TrodAll enc Try.prog W 0 (fun _ => true) true Try.f7.params.toList args.toList ds p := hA0
  rw [Try.params7] at hA hval
  obtain ⟨v0, vs0, d0, ds0, p0, q0, hargs, rfl, rfl, h0, r0⟩ := trodAll_cons hA
  obtain ⟨v1, vs1, d1, ds1, p1, q1, rfl, rfl, rfl, h1, r1⟩ := trodAll_cons r0
  obtain ⟨rfl, rfl, rfl⟩ := trodAll_nil r1
  obtain rfl : args = #[v0, v1] := by cases args; simp_all
  obtain ⟨rfl, rfl⟩ := trodVars_none hV
  have k0 := h0
  have lt0 : ∀ x ∈ p0, x.block < W.heap.size := by obtain ⟨m, hm⟩ := k0; exact DataW.trod_lt m _ _ _ hm
  obtain ⟨a0, e0v, _, _, w0⟩ := open_int Try.underlying23 (hval 0 23 v0 rfl rfl) h0; subst e0v
  have k1 := h1
  have lt1 : ∀ x ∈ p1, x.block < W.heap.size := by obtain ⟨m, hm⟩ := k1; exact DataW.trod_lt m _ _ _ hm
  obtain ⟨a1, e1v, _, _, w1⟩ := open_int Try.underlying3 (hval 1 3 v1 rfl rfl) h1; subst e1v
  clear hA0 hval0
  refine (merge_walk a0 w0 a1 w1 W).mono fun e W' ⟨he, bel⟩ => ?_
  subst he
  exact ⟨_, rfl, _, _, _, [], _, [], hW', trodAll_mk1 (shut_bool Try.underlying4 _), (trodAll_cons_mk (Below.trod laidOut (by kernel_rfl) (of_decide_eq_true (by kernel_rfl)) k0 bel lt0) (trodAll_cons_mk (Below.trod laidOut (by kernel_rfl) (of_decide_eq_true (by kernel_rfl)) k1 bel lt1) trodAll_mk0)), rfl, bel.frame _, fun h => by cases h⟩
theorem over : Rows.bitsMergeRow.holds Try.pinned (OpenSpec.ofChange Rows.bitsMergeSpec) :=
  OpenClaim.holds_of_wide 7 Try.f7 rfl rfl rfl rfl rfl rfl rfl ⟨rfl, rfl, rfl, rfl, rfl⟩ rfl rfl rfl rfl rfl (by kernel_rfl) Try.func7 (by kernel_rfl)
    (of_decide_eq_true (by kernel_rfl)) (by unfold Func.isWrapper; first | (rw [if_pos (by decide +kernel)]; kernel_rfl) | (rw [if_neg (by decide +kernel)]; exact ⟨rfl, rfl⟩))
    (fun os started H enc _ => lifted os started H enc)
theorem proved : Rows.BitsMergeSaid := over
end Go.Proofs.Ytbiejbecocdhdaa.bitsMerge
