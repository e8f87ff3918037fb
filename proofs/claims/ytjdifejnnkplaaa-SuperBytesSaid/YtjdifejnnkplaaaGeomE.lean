/- What geom.Owner answers of a geometry that may be. Conditions: it may be. -/
import Derived.Test.YtjdifejnnkplaaaGeomD
namespace Go.Proofs.Ytjdifejnnkplaaa
set_option linter.unusedVariables false
set_option linter.unusedSimpArgs false
open Go.RowKit
def ownS (s l n x : Int) : ByteArray := if x < 0 ∨ totG s l n ≤ x then ⟨#[]⟩ else if x < 2 then ⟨#[115, 108, 111, 116]⟩ else if x < 2 + l then ⟨#[108, 111, 103]⟩ else ⟨#[115, 112, 97, 99, 101]⟩
theorem around_all (s l n x : Int) (h : OkG s l n) : (ownS s l n x = ⟨#[]⟩ ∧ aroundG x (allG s l n) = (0, 0)) ∨ (ownS s l n x = ⟨#[115, 108, 111, 116]⟩ ∧ (aroundG x (allG s l n) = (0, 1) ∨ aroundG x (allG s l n) = (1, 1))) ∨
    (ownS s l n x = ⟨#[108, 111, 103]⟩ ∧ aroundG x (allG s l n) = (2, l)) ∨ (ownS s l n x = ⟨#[115, 112, 97, 99, 101]⟩ ∧ (aroundG x (allG s l n) = (2 + l, oneG s n) ∨ aroundG x (allG s l n) = (2 + l + oneG s n, oneG s n))) := by
  obtain ⟨q1, q2⟩ := oneG_bd s n h.s1 h.s2 h.n1 h.n2
  have q3 := h.l1
  have q4 := h.l2
  unfold ownS totG allG aroundG aroundG aroundG aroundG aroundG aroundG
  simp only
  by_cases h0 : x < 0 ∨ 2 + l + 2 * oneG s n ≤ x
  · left
    rw [if_pos h0, if_neg (by omega), if_neg (by omega), if_neg (by omega), if_neg (by omega), if_neg (by omega)]
    exact ⟨rfl, rfl⟩
  · right
    rw [if_neg h0]
    by_cases h1 : x < 2
    · left
      rw [if_pos h1]
      refine ⟨rfl, ?_⟩
      by_cases h2 : x < 1
      · left; rw [if_pos (by omega)]
      · right; rw [if_neg (by omega), if_pos (by omega)]
    · right
      rw [if_neg h1]
      by_cases h2 : x < 2 + l
      · left
        rw [if_pos h2, if_neg (by omega), if_neg (by omega), if_pos (by omega)]
        exact ⟨rfl, rfl⟩
      · right
        rw [if_neg h2]
        refine ⟨rfl, ?_⟩
        by_cases h3 : x < 2 + l + oneG s n
        · left; rw [if_neg (by omega), if_neg (by omega), if_neg (by omega), if_pos (by omega)]
        · right; rw [if_neg (by omega), if_neg (by omega), if_neg (by omega), if_neg (by omega), if_pos (by omega)]
set_option maxHeartbeats 400000
end Go.Proofs.Ytjdifejnnkplaaa
