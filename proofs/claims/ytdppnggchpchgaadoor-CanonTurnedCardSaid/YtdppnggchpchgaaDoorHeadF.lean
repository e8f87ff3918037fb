/- What loamlaw14.known and loamlaw14.Of answer, and how a header that comes in is opened. No conditions. -/
import Derived.Test.YtdppnggchpchgaaDoorHeadE
import Derived.Test.YtdppnggchpchgaaDoorFrame
import Derived.Lib.SmallJoins
namespace Go.Proofs.YtdppnggchpchgaaDoor
set_option linter.unusedVariables false
set_option linter.unusedSimpArgs false
open Go.RowKit Go.Joins Go.WideShapes
theorem retp_as {P : Program} {f : FuncId} {args args' : Array Value} {w : World} {v v' : Value} (h : Calls P f args w (RetP v w)) (e1 : args = args') (e2 : v = v') : Calls P f args' w (RetP v' w) := e1 ▸ e2 ▸ h
set_option maxHeartbeats 800000
set_option maxRecDepth 100000
end Go.Proofs.YtdppnggchpchgaaDoor
