/- What loamlaw6.Few answers. No conditions. -/
import Derived.Test.YtjdifejnnkplaaaSupH
namespace Go.Proofs.Ytjdifejnnkplaaa
set_option linter.unusedVariables false
set_option linter.unusedSimpArgs false
open Go.RowKit
set_option maxRecDepth 100000
set_option maxHeartbeats 800000
def fewP (s l n : Int) : Prop := 8 ≤ s ∧ s ≤ 1048576 ∧ -1048576 ≤ n ∧ n ≤ 1048576 ∧ -1048576 ≤ l ∧ l ≤ 1048576
theorem few_yes (s l n : Int) (w : World) (h : fewP s l n) : Calls Try.prog 8 #[gV s l n] w (RetP (.bool true) w) := by
  obtain ⟨h1, h2, h3, h4, h5, h6⟩ := h
  unfold gV
  go_enter Try.func8, Try.ntmps8
  go_wp2_with fail
  go_ret
  exact ⟨rfl, (by repeat (first | with_reducible assumption | with_reducible exact Below.refl _ _ | with_reducible apply bdN | with_reducible apply Below.drew | with_reducible refine Below.alloc ?_ (by simp) _ | with_reducible refine Below.setCell ?_ (by simp) _))⟩
theorem few_no (s l n : Int) (w : World) (h : ¬ fewP s l n) : Calls Try.prog 8 #[gV s l n] w (RetP (.bool false) w) := by
  unfold gV
  rcases (show ¬ 8 ≤ s ∨ (8 ≤ s ∧ ¬ s ≤ 1048576) ∨ (8 ≤ s ∧ s ≤ 1048576 ∧ ¬ -1048576 ≤ n) ∨ (8 ≤ s ∧ s ≤ 1048576 ∧ -1048576 ≤ n ∧ ¬ n ≤ 1048576) ∨ (8 ≤ s ∧ s ≤ 1048576 ∧ -1048576 ≤ n ∧ n ≤ 1048576 ∧ ¬ -1048576 ≤ l) ∨ (8 ≤ s ∧ s ≤ 1048576 ∧ -1048576 ≤ n ∧ n ≤ 1048576 ∧ -1048576 ≤ l ∧ ¬ l ≤ 1048576) from by unfold fewP at h; omega) with h1 | ⟨h1, h2⟩ | ⟨h1, h2, h3⟩ | ⟨h1, h2, h3, h4⟩ | ⟨h1, h2, h3, h4, h5⟩ | ⟨h1, h2, h3, h4, h5, h6⟩
  all_goals
    clear h
    go_enter Try.func8, Try.ntmps8
    go_wp2_with fail
    go_ret
    exact ⟨rfl, (by repeat (first | with_reducible assumption | with_reducible exact Below.refl _ _ | with_reducible apply bdN | with_reducible apply Below.drew | with_reducible refine Below.alloc ?_ (by simp) _ | with_reducible refine Below.setCell ?_ (by simp) _))⟩
end Go.Proofs.Ytjdifejnnkplaaa
