/- What is read of a block's sector. No conditions but on the numbers. -/
import Derived.Test.YtjdifejnnkplaaaSupC
import Derived.Test.YtjdifejnnkplaaaOnly
import Derived.Test.YtjdifejnnkplaaaLeN
namespace Go.Proofs.Ytjdifejnnkplaaa
set_option linter.unusedVariables false
set_option linter.unusedSimpArgs false
open Go.RowKit
set_option maxRecDepth 100000
set_option maxHeartbeats 400000
theorem leN_low (v : BitVec 64) (n : Nat) (hn : n ≤ 8) (hv : v.toNat < 2 ^ (8 * n)) : leN (lowN v n) = v := by
  apply BitVec.eq_of_getLsbD_eq
  intro i hi
  rw [leN_lowN v n hn i hi]
  by_cases h : i < 8 * n
  · simp [h]
  · have : v.getLsbD i = false := by
      rw [BitVec.getLsbD]
      exact Nat.testBit_lt_two_pow (Nat.lt_of_lt_of_le hv (Nat.pow_le_pow_right (by decide) (by omega)))
    simp [h, this]
theorem headB_split (ep : BitVec 64) (s l n sp wd : Nat) (lg : BitVec 64) (k : Nat) (v : BitVec 64) (b : Nat) (h : (numsL ep s l n sp wd lg)[k]? = some (v, b)) : ∃ R, headB ep s l n sp wd lg 9 = headB ep s l n sp wd lg k ++ (lowN v b ++ R) := by
  obtain ⟨hk, e⟩ := List.getElem?_eq_some_iff.1 h
  refine ⟨((numsL ep s l n sp wd lg).drop (k + 1)).flatMap fun p => lowN p.1 p.2, ?_⟩
  unfold headB
  rw [show (numsL ep s l n sp wd lg).take 9 = numsL ep s l n sp wd lg from rfl]
  have h2 : numsL ep s l n sp wd lg = (numsL ep s l n sp wd lg).take k ++ (numsL ep s l n sp wd lg)[k] :: (numsL ep s l n sp wd lg).drop (k + 1) := by
    rw [← List.drop_eq_getElem_cons hk, List.take_append_drop]
  conv => lhs; rw [h2]
  rw [List.flatMap_append, List.flatMap_cons, e]
theorem get_num (ep : BitVec 64) (s l n sp wd : Nat) (lg : BitVec 64) (k : Nat) (v : BitVec 64) (b o : Nat) (h : (numsL ep s l n sp wd lg)[k]? = some (v, b)) (ho : (headB ep s l n sp wd lg k).length = o) (hb1 : 1 ≤ b) (hb8 : b ≤ 8) (hv : v.toNat < 2 ^ (8 * b)) : getB (encSB ep s l n sp wd lg) (o : Int) (b : Int) = v := by
  obtain ⟨R, hR⟩ := headB_split ep s l n sp wd lg k v b h
  have hE : encSB ep s l n sp wd lg = headB ep s l n sp wd lg k ++ (lowN v b ++ (R ++ (List.replicate (s - 4 - 44) 0#8 ++ tailL (addC 0 (secB ep s l n sp wd lg))))) := by
    unfold encSB sealC
    conv => lhs; lhs; unfold secB
    rw [hR]
    simp only [List.append_assoc]
  unfold getB
  have hin : inB (encSB ep s l n sp wd lg).length (o : Int) (b : Int) = true := by
    unfold inB
    rw [decide_eq_true_eq, hE]
    simp only [List.length_append, lowN_len, ho]
    omega
  rw [if_pos hin]
  unfold seg
  rw [hE, show ((o : Int)).toNat = o from by omega, show ((b : Int)).toNat = b from by omega, List.drop_left' ho, List.take_left' (lowN_len v b)]
  exact leN_low v b hb8 hv
end Go.Proofs.Ytjdifejnnkplaaa
