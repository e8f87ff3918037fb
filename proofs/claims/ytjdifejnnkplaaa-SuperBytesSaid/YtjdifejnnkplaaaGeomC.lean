/- What geom.Word answers of a geometry that may be. Conditions: it may be. -/
import Derived.Test.YtjdifejnnkplaaaGeomB
namespace Go.Proofs.Ytjdifejnnkplaaa
set_option linter.unusedVariables false
set_option linter.unusedSimpArgs false
open Go.RowKit
def wordG (s l n i k : Int) : Int × Int := if (i = 0 ∨ i = 1) ∧ 0 ≤ k ∧ k < n then ((spcG s l n i).1 + k * 8 / s, k * 8 % s) else (0, 0)
theorem tdiv_in (a b : Int) (h : 0 ≤ a) : a.tdiv b = a / b := Int.tdiv_eq_ediv_of_nonneg h
theorem tmod_in (a b : Int) (h : 0 ≤ a) : a.tmod b = a % b := Int.tmod_eq_emod_of_nonneg h
theorem quo_in (a b : Int) (h : 0 ≤ a) (h2 : a ≤ 1000000) (h3 : 64 ≤ b) : IntKind.i64.wrap (a / b) = a / b := by
  have q1 := Int.ediv_nonneg (a := a) (b := b) h (by omega)
  have q2 : a / b < 1000001 := Int.ediv_lt_of_lt_mul (by omega) (by omega)
  exact wrapIn (by omega) (by omega)
theorem rem_in (a b : Int) (h : 0 ≤ a) (h2 : a ≤ 1000000) (h3 : 64 ≤ b) : IntKind.i64.wrap (a % b) = a % b := by
  have q1 := Int.emod_nonneg a (b := b) (by omega)
  have q2 := Int.emod_lt_of_pos a (b := b) (by omega)
  have q4 := Int.mul_ediv_add_emod a b
  have q5 := Int.mul_nonneg (show 0 ≤ b by omega) (Int.ediv_nonneg (a := a) (b := b) h (by omega))
  exact wrapIn (by omega) (by omega)
set_option maxHeartbeats 400000
end Go.Proofs.Ytjdifejnnkplaaa
