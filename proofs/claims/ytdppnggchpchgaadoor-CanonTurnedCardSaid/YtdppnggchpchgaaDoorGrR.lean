/- slices.Grow of nothing, slices.Concat of two rows, numbered. Conditions: lengths. -/
import Derived.Test.YtdppnggchpchgaaDoorGrP
import Derived.Lib.AppendZeros
namespace Go.Proofs.YtdppnggchpchgaaDoor
set_option linter.unusedVariables false
set_option linter.unusedSimpArgs false
open Go.RowKit
set_option maxHeartbeats 1000000
set_option maxRecDepth 100000
theorem infoI : (Tryd.prog.info? 3).map (fun i => (i.zero, i.size, i.bytes)) = some (some (.int .i64 0), 1, 8) := by kernel_rfl
theorem ow_mem {α : Type} {f : α → Value} {E : TypeId} {w : World} {base n c : Nat} {A : Option Addr} {xs : List α} (h : Ow f E w base (.slice A n c) xs) : n = xs.length := by
  obtain ⟨_, _, e, _⟩ := h.form
  injection e
end Go.Proofs.YtdppnggchpchgaaDoor
