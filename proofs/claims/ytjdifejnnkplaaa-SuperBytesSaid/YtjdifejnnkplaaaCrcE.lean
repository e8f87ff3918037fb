/- What the functions of loamref2 answer. Conditions: at most 2^30 bytes. -/
import Derived.Test.YtjdifejnnkplaaaCrcC
import Derived.Test.YtjdifejnnkplaaaCrcD
import Derived.Test.YtjdifejnnkplaaaCrcR
import Derived.Test.YtjdifejnnkplaaaStr
import Derived.Test.YtjdifejnnkplaaaRegV
import Derived.LoopTactic
namespace Go.Proofs.Ytjdifejnnkplaaa
set_option linter.unusedVariables false
set_option linter.unusedSimpArgs false
open Go.RowKit
end Go.Proofs.Ytjdifejnnkplaaa
