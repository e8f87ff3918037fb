/- slices.Clone of words; mem.Words. Conditions: lengths. -/
import Derived.Test.YtdppnggchpchgaaDoorMmB
import Derived.Test.YtdppnggchpchgaaDoorBel
import Derived.Lib.SmallJoins
namespace Go.Proofs.YtdppnggchpchgaaDoor
set_option linter.unusedVariables false
set_option linter.unusedSimpArgs false
open Go.RowKit
theorem u64v_one : ∀ x : BitVec 64, (u64v x).oneCell' = true := fun _ => rfl
set_option maxHeartbeats 400000
set_option maxRecDepth 100000
end Go.Proofs.YtdppnggchpchgaaDoor
