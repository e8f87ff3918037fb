/- The law HeadSizes of layer 14 returns true for every argument. No conditions. -/
import Derived.Test.YtodicffceholkabHeadF
namespace Go.Proofs.Ytodicffceholkab
open Go.RowKit
set_option maxHeartbeats 400000
theorem sizes_walk (w : World) (a0 : Int) (w0 : (Lit.int .u8 a0).wf = true) (a1 : Int) (w1 : (Lit.int .u16 a1).wf = true) :
    Calls Try.prog 6 #[.int .u8 a0, .int .u16 a1] w (RetP (.bool true) w) := by
  have h0 : 0 ≤ a0 ∧ a0 ≤ 255 := by simpa [Lit.wf, IntKind.min, IntKind.max, IntKind.signed, IntKind.bits] using w0
  have h1 : 0 ≤ a1 ∧ a1 ≤ 65535 := by simpa [Lit.wf, IntKind.min, IntKind.max, IntKind.signed, IntKind.bits] using w1
  obtain ⟨h01, h02⟩ := h0
  obtain ⟨h11, h12⟩ := h1
  clear w0 w1
  have hs : sizeH (a0 % 65) (a1 % 1025) false 0 = 1 + a0 % 65 + (a1 % 1025 + 7) / 8 := if_pos ⟨by simp [rightH]; omega, rfl⟩
  obtain ⟨s, hs2⟩ : ∃ s, s = sizeH (a0 % 65) (a1 % 1025) false 0 := ⟨_, rfl⟩
  have hlo : 8 * (s - 1 - a0 % 65) ≥ a1 % 1025 := by omega
  have hhi : 8 * (s - 1 - a0 % 65) < a1 % 1025 + 8 := by omega
  have hmx : s ≤ 193 := by omega
  have hmn : 1 ≤ s := by omega
  have HS := Lib.hid hs2
  clear hs hs2
  go_enter Try.func6, Try.ntmps6
  go_wp2_with (go_at_call 12; refine (known14_c _).mono ?_; rintro e w1 ⟨rfl, hb1⟩)
  go_goals
  refine (size_c _ _ _ _ _).mono ?_
  rw [← HS.out]
  rintro e w2 ⟨rfl, hb2⟩
  have hB2 := hb1.trans (hb2.mono hb1.size)
  clear hb1 hb2
  go_wp2_with fail
  go_ret
  exact ret_b rfl (by first | exact hB2 | exact bdN hB2 _)
end Go.Proofs.Ytodicffceholkab
namespace Go.Proofs.Ytodicffceholkab.headSizes
open Go.ChangeShapes Go.WideShapes Go.ChangeAt Go.RowKit
open Go.ChangeMaps (open_string shut_string)
set_option linter.unusedVariables false
set_option maxRecDepth 100000 in
theorem lifted (os : Os) (started : os.Started) (H : Type) (enc : TypeId × Value → H) :
    ReturnsInHanded {} Try.checked os 6 .any (Rows.headSizesSpec.pre6 enc Try.prog Try.f6 Rows.headSizesRow.domain false) (Rows.headSizesSpec.post enc Try.prog Try.f6 false true false false) := by
  refine returnsInHanded_of_change (C := Try.checked) own started (by kernel_rfl) Try.func6
    (ChangeSpec.witness6 (enc := enc) (C := Try.checked) false ⟨#[], #[.int .u8 0, .int .u16 0], []⟩ 8 (by kernel_rfl) (by kernel_rfl) (by kernel_rfl) (by kernel_rfl)) ?_
  intro W base args ds gs before hval0 hW hcnd _
  have hval : ∀ (j : Nat) t v, Try.f6.params[j]? = some t → args[j]? = some v → Value.okWide Try.prog W .any base t v := hval0
  have hW' := hW
  obtain ⟨p, q, hA0, hV, rfl, hfz, hnd⟩ := hW
  have hA : DataW.TrodAll enc Try.prog W 0 (fun _ => true) true Try.f6.params.toList args.toList ds p := hA0
  rw [Try.params6] at hA hval
  obtain ⟨v0, vs0, d0, ds0, p0, q0, hargs, rfl, rfl, h0, r0⟩ := trodAll_cons hA
  obtain ⟨v1, vs1, d1, ds1, p1, q1, rfl, rfl, rfl, h1, r1⟩ := trodAll_cons r0
  obtain ⟨rfl, rfl, rfl⟩ := trodAll_nil r1
  obtain rfl : args = #[v0, v1] := by cases args; simp_all
  obtain ⟨rfl, rfl⟩ := trodVars_none hV
  have k0 := h0
  have lt0 : ∀ x ∈ p0, x.block < W.heap.size := by obtain ⟨m, hm⟩ := k0; exact DataW.trod_lt m _ _ _ hm
  obtain ⟨a0, e0v, _, _, w0⟩ := open_int Try.underlying5 (hval 0 5 v0 rfl rfl) h0; subst e0v
  have k1 := h1
  have lt1 : ∀ x ∈ p1, x.block < W.heap.size := by obtain ⟨m, hm⟩ := k1; exact DataW.trod_lt m _ _ _ hm
  obtain ⟨a1, e1v, _, _, w1⟩ := open_int Try.underlying51 (hval 1 51 v1 rfl rfl) h1; subst e1v
  clear hA0 hval0
  refine (sizes_walk W a0 w0 a1 w1).mono fun e W' ⟨he, bel⟩ => ?_
  subst he
  exact ⟨_, rfl, _, _, _, [], _, [], hW', trodAll_mk1 (shut_bool Try.underlying4 _), (trodAll_cons_mk (Below.trod laidOut (by kernel_rfl) (of_decide_eq_true (by kernel_rfl)) k0 bel lt0) (trodAll_cons_mk (Below.trod laidOut (by kernel_rfl) (of_decide_eq_true (by kernel_rfl)) k1 bel lt1) trodAll_mk0)), rfl, bel.frame _, fun h => by cases h⟩
theorem over : Rows.headSizesRow.holds Try.pinned (OpenSpec.ofChange Rows.headSizesSpec) :=
  OpenClaim.holds_of_wide 6 Try.f6 rfl rfl rfl rfl rfl rfl rfl ⟨rfl, rfl, rfl, rfl, rfl⟩ rfl rfl rfl rfl rfl (by kernel_rfl) Try.func6 (by kernel_rfl)
    (of_decide_eq_true (by kernel_rfl)) (by unfold Func.isWrapper; first | (rw [if_pos (by decide +kernel)]; kernel_rfl) | (rw [if_neg (by decide +kernel)]; exact ⟨rfl, rfl⟩))
    (fun os started H enc _ => lifted os started H enc)
theorem proved : Rows.HeadSizesSaid := over
end Go.Proofs.Ytodicffceholkab.headSizes
