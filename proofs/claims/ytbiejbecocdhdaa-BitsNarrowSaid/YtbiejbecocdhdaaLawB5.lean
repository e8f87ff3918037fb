/- The law BitsNarrow of layer 1 returns true for every argument. No conditions. -/
import Derived.Test.YtbiejbecocdhdaaFrame
import Derived.Test.YtbiejbecocdhdaaKnown1
import Derived.Test.YtbiejbecocdhdaaBitsF
namespace Go.Proofs.Ytbiejbecocdhdaa
open Go.RowKit
attribute [local go_sem] i64_u64 beqI64 beqU64 shlU64 orU64
theorem tru5 {b : Bool} {w w' : World} (h : b = true) (hb : Below w.heap.size w w') : TruP (.bool true) w (.returned (.bool b)) w' := ⟨by rw [h], hb⟩
set_option maxHeartbeats 400000
theorem narrow_walk (a0 : Int) (w0 : (Lit.int .i64 a0).wf = true) (a : Int) (wa : (Lit.int .i64 a).wf = true) (b : Int) (wb : (Lit.int .i64 b).wf = true) (w : World) :
    Calls Try.prog 9 #[.int .i64 a0, .int .i64 a, .int .i64 b] w (TruP (.bool true) w) := by
  obtain ⟨ha1, ha2⟩ := wf64 wa
  obtain ⟨hb1, hb2⟩ := wf64 wb
  obtain ⟨x, rfl⟩ : ∃ x, a0 = I64 x := ⟨_, wfi64 w0⟩
  clear w0 wa wb
  by_cases h : 1 ≤ a ∧ a ≤ 64 ∧ 1 ≤ b ∧ b ≤ a
  · obtain ⟨h1, h2, h3, h4⟩ := h
    have e1 : (signB (signB x a) b == signB x b) = true := by rw [signB_signB x a b h3 h4 h2]; simp
    cases e2 : (signB x b == x)
    · go_enter Try.func9, Try.ntmps9
      go_wp2_with (first | (go_at_call 10; refine (known_c _).mono ?_; rintro e w1 ⟨rfl, hbel⟩) | (go_at_call 18; refine (narrow_c _ _ _).go.mono ?_; rintro e w' ⟨rfl, mm, rfl⟩) | (go_at_call 19; refine (fits_c _ _ _).go.mono ?_; rintro e w' ⟨rfl, mm, rfl⟩))
      go_ret
      exact tru5 rfl (by first | exact hbel | exact bdrewN hbel _)
    · have e3 : (signB x a == x) = true := by rw [signB_fits x a b h3 h4 h2 (by simpa using e2)]; simp
      go_enter Try.func9, Try.ntmps9
      go_wp2_with (first | (go_at_call 10; refine (known_c _).mono ?_; rintro e w1 ⟨rfl, hbel⟩) | (go_at_call 18; refine (narrow_c _ _ _).go.mono ?_; rintro e w' ⟨rfl, mm, rfl⟩) | (go_at_call 19; refine (fits_c _ _ _).go.mono ?_; rintro e w' ⟨rfl, mm, rfl⟩))
      go_ret
      exact tru5 rfl (by first | exact hbel | exact bdrewN hbel _)
  · go_enter Try.func9, Try.ntmps9
    go_wp2_with (first | (go_at_call 10; refine (known_c _).mono ?_; rintro e w1 ⟨rfl, hbel⟩))
    all_goals try (exfalso; apply h; omega)
    all_goals go_ret
    all_goals exact tru5 rfl (by first | exact hbel | exact bdrewN hbel _)
end Go.Proofs.Ytbiejbecocdhdaa
namespace Go.Proofs.Ytbiejbecocdhdaa.bitsNarrow
open Go.ChangeShapes Go.WideShapes Go.ChangeAt Go.RowKit
open Go.ChangeMaps (open_string shut_string)
set_option linter.unusedVariables false
set_option maxRecDepth 100000 in
theorem lifted (os : Os) (started : os.Started) (H : Type) (enc : TypeId × Value → H) :
    ReturnsInHanded {} Try.checked os 9 .any (Rows.bitsNarrowSpec.pre6 enc Try.prog Try.f9 Rows.bitsNarrowRow.domain false) (Rows.bitsNarrowSpec.post enc Try.prog Try.f9 false true false false) := by
  refine returnsInHanded_of_change (C := Try.checked) own started (by kernel_rfl) Try.func9
    (ChangeSpec.witness6 (enc := enc) (C := Try.checked) false ⟨#[], #[.int .i64 0, .int .i64 0, .int .i64 0], []⟩ 8 (by kernel_rfl) (by kernel_rfl) (by kernel_rfl) (by kernel_rfl)) ?_
  intro W base args ds gs before hval0 hW hcnd _
  have hval : ∀ (j : Nat) t v, Try.f9.params[j]? = some t → args[j]? = some v → Value.okWide Try.prog W .any base t v := hval0
  have hW' := hW
  obtain ⟨p, q, hA0, hV, rfl, hfz, hnd⟩ := hW
  have hA : DataW.TrodAll enc Try.prog W 0 (fun _ => true) true Try.f9.params.toList args.toList ds p := hA0
  rw [Try.params9] at hA hval
  obtain ⟨v0, vs0, d0, ds0, p0, q0, hargs, rfl, rfl, h0, r0⟩ := trodAll_cons hA
  obtain ⟨v1, vs1, d1, ds1, p1, q1, rfl, rfl, rfl, h1, r1⟩ := trodAll_cons r0
  obtain ⟨v2, vs2, d2, ds2, p2, q2, rfl, rfl, rfl, h2, r2⟩ := trodAll_cons r1
  obtain ⟨rfl, rfl, rfl⟩ := trodAll_nil r2
  obtain rfl : args = #[v0, v1, v2] := by cases args; simp_all
  obtain ⟨rfl, rfl⟩ := trodVars_none hV
  have k0 := h0
  have lt0 : ∀ x ∈ p0, x.block < W.heap.size := by obtain ⟨m, hm⟩ := k0; exact DataW.trod_lt m _ _ _ hm
  obtain ⟨a0, e0v, _, _, w0⟩ := open_int Try.underlying2 (hval 0 2 v0 rfl rfl) h0; subst e0v
  have k1 := h1
  have lt1 : ∀ x ∈ p1, x.block < W.heap.size := by obtain ⟨m, hm⟩ := k1; exact DataW.trod_lt m _ _ _ hm
  obtain ⟨a1, e1v, _, _, w1⟩ := open_int Try.underlying3 (hval 1 3 v1 rfl rfl) h1; subst e1v
  have k2 := h2
  have lt2 : ∀ x ∈ p2, x.block < W.heap.size := by obtain ⟨m, hm⟩ := k2; exact DataW.trod_lt m _ _ _ hm
  obtain ⟨a2, e2v, _, _, w2⟩ := open_int Try.underlying3 (hval 2 3 v2 rfl rfl) h2; subst e2v
  clear hA0 hval0
  refine (narrow_walk a0 w0 a1 w1 a2 w2 W).mono fun e W' ⟨he, bel⟩ => ?_
  subst he
  exact ⟨_, rfl, _, _, _, [], _, [], hW', trodAll_mk1 (shut_bool Try.underlying4 _), (trodAll_cons_mk (Below.trod laidOut (by kernel_rfl) (of_decide_eq_true (by kernel_rfl)) k0 bel lt0) (trodAll_cons_mk (Below.trod laidOut (by kernel_rfl) (of_decide_eq_true (by kernel_rfl)) k1 bel lt1) (trodAll_cons_mk (Below.trod laidOut (by kernel_rfl) (of_decide_eq_true (by kernel_rfl)) k2 bel lt2) trodAll_mk0))), rfl, bel.frame _, fun h => by cases h⟩
theorem over : Rows.bitsNarrowRow.holds Try.pinned (OpenSpec.ofChange Rows.bitsNarrowSpec) :=
  OpenClaim.holds_of_wide 9 Try.f9 rfl rfl rfl rfl rfl rfl rfl ⟨rfl, rfl, rfl, rfl, rfl⟩ rfl rfl rfl rfl rfl (by kernel_rfl) Try.func9 (by kernel_rfl)
    (of_decide_eq_true (by kernel_rfl)) (by unfold Func.isWrapper; first | (rw [if_pos (by decide +kernel)]; kernel_rfl) | (rw [if_neg (by decide +kernel)]; exact ⟨rfl, rfl⟩))
    (fun os started H enc _ => lifted os started H enc)
theorem proved : Rows.BitsNarrowSaid := over
end Go.Proofs.Ytbiejbecocdhdaa.bitsNarrow
