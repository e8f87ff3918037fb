/- What the functions of loamref2 answer. Conditions: at most 2^30 bytes. -/
import Derived.Test.YtfodefgihicafaaDoorCrcC
import Derived.Test.YtfodefgihicafaaDoorCrcD
import Derived.Test.YtfodefgihicafaaDoorCrcR
import Derived.Test.YtfodefgihicafaaDoorStr
import Derived.Test.YtfodefgihicafaaDoorRegV
import Derived.LoopTactic
namespace Go.Proofs.YtfodefgihicafaaDoor
set_option linter.unusedVariables false
set_option linter.unusedSimpArgs false
open Go.RowKit
end Go.Proofs.YtfodefgihicafaaDoor
