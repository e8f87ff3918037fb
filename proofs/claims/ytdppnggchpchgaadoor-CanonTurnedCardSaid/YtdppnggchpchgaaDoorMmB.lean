/- mem.Set. Conditions: lengths. -/
import Derived.Test.YtdppnggchpchgaaDoorMmA
namespace Go.Proofs.YtdppnggchpchgaaDoor
set_option linter.unusedVariables false
set_option linter.unusedSimpArgs false
open Go.RowKit
set_option maxHeartbeats 400000
end Go.Proofs.YtdppnggchpchgaaDoor
