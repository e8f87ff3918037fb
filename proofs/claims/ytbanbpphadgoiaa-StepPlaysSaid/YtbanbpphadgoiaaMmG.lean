/- mem: SetBytes. Conditions: lengths. -/
import Derived.Test.YtbanbpphadgoiaaMmF
import Derived.Test.YtbanbpphadgoiaaRegT
namespace Go.Proofs.Ytbanbpphadgoiaa
set_option linter.unusedVariables false
set_option linter.unusedSimpArgs false
open Go.RowKit
theorem shl255 (s : Nat) : IntKind.u64.wrap (255 * 2 ^ s) = U64 (255#64 <<< s) := shlU64 255#64 s
attribute [local go_sem] shl255 shlU64 andNotU64 orU64 u8_u64 wrapU64
set_option maxHeartbeats 400000
set_option maxRecDepth 100000
end Go.Proofs.Ytbanbpphadgoiaa
