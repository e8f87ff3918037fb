/- loamlaw15's Same. Conditions: lengths. -/
import Derived.Test.YtaminpfgkegibaaSpH
namespace Go.Proofs.Ytaminpfgkegibaa
set_option linter.unusedVariables false
set_option linter.unusedSimpArgs false
open Go.RowKit
set_option maxHeartbeats 400000
set_option maxRecDepth 100000
end Go.Proofs.Ytaminpfgkegibaa
