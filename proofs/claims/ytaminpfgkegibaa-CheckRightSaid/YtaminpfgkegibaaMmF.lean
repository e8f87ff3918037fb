/- mem: bytes set in words, as lists. Conditions: lengths. -/
import Derived.Test.YtaminpfgkegibaaMmE
namespace Go.Proofs.Ytaminpfgkegibaa
set_option linter.unusedVariables false
set_option linter.unusedSimpArgs false
open Go.RowKit
def setB (ws : List (BitVec 64)) (k : Nat) (x : BitVec 8) : List (BitVec 64) := ws.set (k / 8) (((ws.getD (k / 8) 0#64) &&& ~~~(255#64 <<< (8 * (k % 8)))) ||| ((x.setWidth 64) <<< (8 * (k % 8))))
theorem setB_len (ws : List (BitVec 64)) (k : Nat) (x : BitVec 8) : (setB ws k x).length = ws.length := by simp [setB]
theorem ff_bit (q : Nat) : (255#64).getLsbD q = decide (q < 8) := by
  show ((BitVec.allOnes 8).setWidth 64).getLsbD q = _
  rw [BitVec.getLsbD_setWidth, BitVec.getLsbD_allOnes, Bool.eq_iff_iff]
  simp only [Bool.and_eq_true, decide_eq_true_eq]
  omega
theorem byteAt_bit (ws : List (BitVec 64)) (k i : Nat) (hi : i < 8) : (byteAt ws k).getLsbD i = (ws.getD (k / 8) 0#64).getLsbD (8 * (k % 8) + i) := by
  unfold byteAt
  rw [BitVec.getLsbD_setWidth, BitVec.getLsbD_ushiftRight]
  simp [hi]
theorem setB_at (ws : List (BitVec 64)) (k : Nat) (x : BitVec 8) (hk : k < 8 * ws.length) : (setB ws k x).getD (k / 8) 0#64 = ((ws.getD (k / 8) 0#64) &&& ~~~(255#64 <<< (8 * (k % 8)))) ||| ((x.setWidth 64) <<< (8 * (k % 8))) := by
  unfold setB
  rw [List.getD_eq_getElem?_getD, List.getElem?_set]
  have : k / 8 < ws.length := by omega
  simp [this]
theorem setB_far (ws : List (BitVec 64)) (k j : Nat) (x : BitVec 8) (h : j ≠ k / 8) : (setB ws k x).getD j 0#64 = ws.getD j 0#64 := by
  unfold setB
  rw [List.getD_eq_getElem?_getD, List.getElem?_set, if_neg (fun e => h e.symm), ← List.getD_eq_getElem?_getD]
theorem byteAt_setB (ws : List (BitVec 64)) (k j : Nat) (x : BitVec 8) (hk : k < 8 * ws.length) : byteAt (setB ws k x) j = if j = k then x else byteAt ws j := by
  apply BitVec.eq_of_getLsbD_eq
  intro i hi
  rw [byteAt_bit _ _ _ hi]
  by_cases e : j / 8 = k / 8
  · rw [e, setB_at ws k x hk, BitVec.getLsbD_or, BitVec.getLsbD_and, BitVec.getLsbD_not, BitVec.getLsbD_shiftLeft, BitVec.getLsbD_shiftLeft, BitVec.getLsbD_setWidth, ff_bit]
    have l1 : 8 * (j % 8) + i < 64 := by omega
    rcases Nat.lt_trichotomy (j % 8) (k % 8) with m | m | m
    · have l2 : 8 * (j % 8) + i < 8 * (k % 8) := by omega
      rw [if_neg (show ¬ j = k from by omega), byteAt_bit _ _ _ hi, e]
      simp [l1, l2]
    · have l2 : 8 * (j % 8) + i - 8 * (k % 8) = i := by omega
      have l3 : ¬ 8 * (j % 8) + i < 8 * (k % 8) := by omega
      rw [if_pos (show j = k from by omega), l2]
      simp [l1, l3, hi, show i < 64 from by omega]
    · have l3 : ¬ 8 * (j % 8) + i < 8 * (k % 8) := by omega
      have l4 : ¬ 8 * (j % 8) + i - 8 * (k % 8) < 8 := by omega
      rw [if_neg (show ¬ j = k from by omega), byteAt_bit _ _ _ hi, e]
      have l5 : x.getLsbD (8 * (j % 8) + i - 8 * (k % 8)) = false := BitVec.getLsbD_of_ge _ _ (by omega)
      simp [l1, l3, l4, l5]
  · rw [setB_far ws k _ x e, if_neg (fun h => e (by rw [h])), byteAt_bit _ _ _ hi]
/-- The words when k of the bytes lie in them from byte a on. -/
def putK (ws : List (BitVec 64)) (a : Nat) (bs : List (BitVec 8)) : Nat → List (BitVec 64)
  | 0 => ws
  | k + 1 => setB (putK ws a bs k) (a + k) (bs.getD k 0#8)
theorem putK_len (ws : List (BitVec 64)) (a : Nat) (bs : List (BitVec 8)) (k : Nat) : (putK ws a bs k).length = ws.length := by
  induction k with
  | zero => rfl
  | succ k ih => show (setB _ _ _).length = _; rw [setB_len, ih]
theorem byteAt_putK (ws : List (BitVec 64)) (a : Nat) (bs : List (BitVec 8)) (j : Nat) : ∀ k, a + k ≤ 8 * ws.length → byteAt (putK ws a bs k) j = if a ≤ j ∧ j < a + k then bs.getD (j - a) 0#8 else byteAt ws j
  | 0, _ => by
    rw [if_neg (by omega)]; rfl
  | k + 1, h => by
    show byteAt (setB _ _ _) j = _
    rw [byteAt_setB _ _ _ _ (by rw [putK_len]; omega), byteAt_putK ws a bs j k (by omega)]
    by_cases e : j = a + k
    · subst e
      rw [if_pos rfl, if_pos (by omega)]
      congr 1; omega
    · rw [if_neg e]
      by_cases c : a ≤ j ∧ j < a + k
      · rw [if_pos c, if_pos (by omega)]
      · rw [if_neg c, if_neg (by omega)]
end Go.Proofs.Ytaminpfgkegibaa
