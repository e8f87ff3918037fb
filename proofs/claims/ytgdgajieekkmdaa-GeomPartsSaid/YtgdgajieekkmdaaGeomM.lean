/- Words of a space: where they lie. Conditions: the geometry may be. -/
import Derived.Test.YtgdgajieekkmdaaGeomB
namespace Go.Proofs.Ytgdgajieekkmdaa
set_option linter.unusedVariables false
set_option linter.unusedSimpArgs false
open Go.RowKit
theorem wq (s l n a : Int) (h : OkG s l n) (h1 : 0 ≤ a) (h2 : a < n) : 0 ≤ a * 8 / s ∧ a * 8 / s < oneG s n := by
  have q1 := h.s1
  have q2 := h.n1
  refine ⟨Int.ediv_nonneg (by omega) (by omega), ?_⟩
  have : a * 8 / s ≤ (n * 8 + s - 1) / s := Int.ediv_le_ediv (by omega) (by omega)
  unfold oneG
  omega
theorem wr (s l n a : Int) (h : OkG s l n) : 0 ≤ a * 8 % s ∧ a * 8 % s < s ∧ a * 8 % s % 8 = 0 := by
  have q1 := h.s1
  have q2 := h.s8
  refine ⟨Int.emod_nonneg _ (by omega), Int.emod_lt_of_pos _ (by omega), ?_⟩
  obtain ⟨p, rfl⟩ : ∃ p, s = 8 * p := ⟨s / 8, by omega⟩
  rw [show a * 8 = 8 * a from by omega, Int.mul_emod_mul_of_pos a p (by omega)]
  omega
theorem wi (s a b : Int) (h1 : a * 8 / s = b * 8 / s) (h2 : a * 8 % s = b * 8 % s) : a = b := by
  have e1 := Int.mul_ediv_add_emod (a * 8) s
  have e2 := Int.mul_ediv_add_emod (b * 8) s
  rw [h1, h2] at e1
  omega
end Go.Proofs.Ytgdgajieekkmdaa
