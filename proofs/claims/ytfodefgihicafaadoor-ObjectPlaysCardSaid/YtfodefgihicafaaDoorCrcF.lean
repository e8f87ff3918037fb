/- What Low, Seal, Right of loamref2 answer. Conditions: at most 2^30 bytes. -/
import Derived.Test.YtfodefgihicafaaDoorCrcE
import Derived.Test.YtfodefgihicafaaDoorKnown2
namespace Go.Proofs.YtfodefgihicafaaDoor
set_option linter.unusedVariables false
set_option linter.unusedSimpArgs false
open Go.RowKit
set_option maxRecDepth 100000
set_option maxHeartbeats 400000
attribute [local go_sem] m8_0 sh8 sh16 sh24 u32_u8
def rightL (bs : List (BitVec 8)) : Bool := decide (4 ≤ bs.length) && tailL (addC 0#32 (bs.take (bs.length - 4))) == bs.drop (bs.length - 4)
theorem strB_beq (x y : List (BitVec 8)) : ((strB x).toList == (strB y).toList) = (x == y) := by
  rw [Bool.eq_iff_iff, beq_iff_eq, beq_iff_eq]
  constructor
  · intro h
    apply strB_inj
    rw [ByteArray.toList_eq, ByteArray.toList_eq] at h
    have h2 := Array.ext' h
    exact congrArg ByteArray.mk h2
  · intro h; rw [h]
theorem rightL_no (bs : List (BitVec 8)) (h : bs.length < 4) : rightL bs = false := by
  unfold rightL
  rw [Bool.and_eq_false_iff]; left
  rw [decide_eq_false_iff_not]; omega
theorem rightL_yes (bs : List (BitVec 8)) (h : 4 ≤ bs.length) : rightL bs = (tailL (addC 0#32 (bs.take (bs.length - 4))) == bs.drop (bs.length - 4)) := by
  unfold rightL
  have : decide (4 ≤ bs.length) = true := by rw [decide_eq_true_eq]; exact h
  rw [this, Bool.true_and]
end Go.Proofs.YtfodefgihicafaaDoor
