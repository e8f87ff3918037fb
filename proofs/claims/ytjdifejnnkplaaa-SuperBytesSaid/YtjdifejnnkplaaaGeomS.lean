/- What Word, Check, Owner of loamref4 and the helpers of loamlaw4 answer. Conditions: as named. -/
import Derived.Test.YtjdifejnnkplaaaGeomR
namespace Go.Proofs.Ytjdifejnnkplaaa
set_option linter.unusedVariables false
set_option linter.unusedSimpArgs false
open Go.RowKit
theorem wordP (s k : Int) (h : 64 ≤ s) (h8 : s % 8 = 0) : k / (s / 8) = k * 8 / s ∧ 8 * (k % (s / 8)) = k * 8 % s := by
  obtain ⟨p, rfl⟩ : ∃ p, s = 8 * p := ⟨s / 8, by omega⟩
  rw [show 8 * p / 8 = p from by omega, show k * 8 = 8 * k from by omega, Int.mul_ediv_mul_of_pos k p (by omega), Int.mul_emod_mul_of_pos k p (by omega)]
  exact ⟨rfl, rfl⟩
set_option maxHeartbeats 400000
theorem of_c (s l n : Int) (w : World) : Calls Try.prog 17 #[gV s l n] w (RetP (gV s l n) w) := by
  unfold gV
  go_enter Try.func17, Try.ntmps17
  go_wp2
  exact bodyPost_ret (v := .agg #[.int .i64 s, .int .i64 l, .int .i64 n]) (by simp [results, Try.results17, go_sem]) rfl ⟨rfl, (by repeat (first | with_reducible assumption | with_reducible exact Below.refl _ _ | with_reducible apply bdN | with_reducible apply Below.drew | with_reducible refine Below.alloc ?_ (by simp) _ | with_reducible refine Below.setCell ?_ (by simp) _))⟩
end Go.Proofs.Ytjdifejnnkplaaa
