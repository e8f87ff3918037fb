/- The law MemSizes of layer 13 returns true for every argument. No conditions. -/
import Derived.Test.YtobcpcobgdmleaaMmK
import Derived.Test.YtobcpcobgdmleaaFrame
namespace Go.Proofs.Ytobcpcobgdmleaa
set_option linter.unusedVariables false
set_option linter.unusedSimpArgs false
open Go.RowKit
set_option maxHeartbeats 400000
set_option maxRecDepth 100000
theorem sizes_in (w : World) (k : Nat) (hk : k ≤ 8192) : Calls Try.prog 5 #[.int .i64 k] w (TruP (.bool true) w) := by
  have t1 : decide ((0 : Int) ≤ (k : Int)) = true := by simp
  have t2 : decide ((k : Int) ≤ 8192) = true := by simp; omega
  have HN := Lib.hid (fun w => new_in w k hk)
  clear hk
  go_enter Try.func5, Try.ntmps5
  go_wp2_with fail
  refine Calls.mono (known13_c _) ?_
  rintro e w1 ⟨rfl, b1⟩
  have HB1 := Lib.hid b1
  clear b1
  go_wp2_with fail
  refine Calls.mono (HN.out _) ?_
  rintro e w2 ⟨g, v, rfl, h2, b2⟩
  have HB2 := Lib.hid (HB1.out.trans (b2.mono HB1.out.size))
  have hl := len_c _ _ _ _ _ h2
  rw [List.length_replicate] at hl
  have HL := Lib.hid hl
  clear hl h2 b2 HN HB1
  go_wp2_with fail
  refine Calls.mono HL.out ?_
  rintro e w3 ⟨rfl, rfl⟩
  go_wp2_with fail
  go_ret
  exact ⟨rfl, HB2.out⟩
theorem sizes_out (w : World) (n : Int) (h : n < 0 ∨ 8192 < n) (h1 : -9223372036854775808 ≤ n) (h2 : n ≤ 9223372036854775807) : Calls Try.prog 5 #[.int .i64 n] w (TruP (.bool true) w) := by
  have HN := Lib.hid (fun w => new_out w n h h1 h2)
  obtain ⟨r1, t1⟩ : ∃ r, decide ((0 : Int) ≤ n) = r := ⟨_, rfl⟩
  obtain ⟨r2, t2⟩ : ∃ r, decide (n ≤ 8192) = r := ⟨_, rfl⟩
  have hr : (r1 && r2) = false := by rw [← t1, ← t2]; simp; omega
  clear h h1 h2
  cases r1 <;> cases r2 <;> cases hr
  all_goals
    go_enter Try.func5, Try.ntmps5
    go_wp2_with fail
    refine Calls.mono (known13_c _) ?_
    rintro e w1 ⟨rfl, b1⟩
    have HB1 := Lib.hid b1
    clear b1
    go_wp2_with fail
    refine Calls.mono (HN.out _) ?_
    rintro e w2 ⟨rfl, rfl⟩
    go_wp2_with fail
    go_ret
    exact ⟨rfl, HB1.out⟩
theorem sizes_walk (w : World) (n : Int) (wf : (Lit.int .i64 n).wf = true) : Calls Try.prog 5 #[.int .i64 n] w (TruP (.bool true) w) := by
  obtain ⟨h1, h2⟩ := wf64 wf
  by_cases h : n < 0 ∨ 8192 < n
  · exact sizes_out w n h h1 h2
  · obtain ⟨k, rfl⟩ : ∃ k : Nat, n = (k : Int) := ⟨n.toNat, by omega⟩
    exact sizes_in w k (by omega)
end Go.Proofs.Ytobcpcobgdmleaa
namespace Go.Proofs.Ytobcpcobgdmleaa.memSizes
open Go.ChangeShapes Go.WideShapes Go.ChangeAt Go.RowKit
open Go.ChangeMaps (open_string shut_string)
set_option linter.unusedVariables false
set_option maxRecDepth 100000 in
theorem lifted (os : Os) (started : os.Started) (H : Type) (enc : TypeId × Value → H) :
    ReturnsInHanded {} Try.checked os 5 .any (Rows.memSizesSpec.pre6 enc Try.prog Try.f5 Rows.memSizesRow.domain false) (Rows.memSizesSpec.post enc Try.prog Try.f5 false true false false) := by
  refine returnsInHanded_of_change (C := Try.checked) own started (by kernel_rfl) Try.func5
    (ChangeSpec.witness6 (enc := enc) (C := Try.checked) false ⟨#[], #[.int .i64 0], []⟩ 8 (by kernel_rfl) (by kernel_rfl) (by kernel_rfl) (by kernel_rfl)) ?_
  intro W base args ds gs before hval0 hW hcnd _
  have hval : ∀ (j : Nat) t v, Try.f5.params[j]? = some t → args[j]? = some v → Value.okWide Try.prog W .any base t v := hval0
  have hW' := hW
  obtain ⟨p, q, hA0, hV, rfl, hfz, hnd⟩ := hW
  have hA : DataW.TrodAll enc Try.prog W 0 (fun _ => true) true Try.f5.params.toList args.toList ds p := hA0
  rw [Try.params5] at hA hval
  obtain ⟨v0, vs0, d0, ds0, p0, q0, hargs, rfl, rfl, h0, r0⟩ := trodAll_cons hA
  obtain ⟨rfl, rfl, rfl⟩ := trodAll_nil r0
  obtain rfl : args = #[v0] := by cases args; simp_all
  obtain ⟨rfl, rfl⟩ := trodVars_none hV
  have k0 := h0
  have lt0 : ∀ x ∈ p0, x.block < W.heap.size := by obtain ⟨m, hm⟩ := k0; exact DataW.trod_lt m _ _ _ hm
  obtain ⟨a0, e0v, _, _, w0⟩ := open_int Try.underlying3 (hval 0 3 v0 rfl rfl) h0; subst e0v
  clear hA0 hval0
  refine (sizes_walk W a0 w0).mono fun e W' ⟨he, bel⟩ => ?_
  subst he
  exact ⟨_, rfl, _, _, _, [], _, [], hW', trodAll_mk1 (shut_bool Try.underlying4 _), (trodAll_cons_mk (Below.trod laidOut (by kernel_rfl) (of_decide_eq_true (by kernel_rfl)) k0 bel lt0) trodAll_mk0), rfl, bel.frame _, fun h => by cases h⟩
theorem over : Rows.memSizesRow.holds Try.pinned (OpenSpec.ofChange Rows.memSizesSpec) :=
  OpenClaim.holds_of_wide 5 Try.f5 rfl rfl rfl rfl rfl rfl rfl ⟨rfl, rfl, rfl, rfl, rfl⟩ rfl rfl rfl rfl rfl (by kernel_rfl) Try.func5 (by kernel_rfl)
    (of_decide_eq_true (by kernel_rfl)) (by unfold Func.isWrapper; first | (rw [if_pos (by decide +kernel)]; kernel_rfl) | (rw [if_neg (by decide +kernel)]; exact ⟨rfl, rfl⟩))
    (fun os started H enc _ => lifted os started H enc)
theorem proved : Rows.MemSizesSaid := over
end Go.Proofs.Ytobcpcobgdmleaa.memSizes
