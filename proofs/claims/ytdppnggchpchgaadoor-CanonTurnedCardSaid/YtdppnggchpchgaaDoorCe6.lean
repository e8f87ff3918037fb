/- Texts joined: GuG OpenZ GuI GuJ GvB RegW RegY2 RegZ. -/
import Derived.Test.YtdppnggchpchgaaDoorCe5
import Derived.Test.YtdppnggchpchgaaDoorFrame
import Derived.Test.YtdppnggchpchgaaDoorMem
import Derived.Deep.Grids
/- The reference's Trim. Conditions: lengths; pointers and roots are some node's or 0. -/
namespace Go.Proofs.YtdppnggchpchgaaDoor
set_option linter.unusedVariables false
set_option linter.unusedSimpArgs false
open Go.RowKit Go.Maps
/-- What a row of marks holds. -/
def marks (M : Nat) (l : List Int) : List Bool := (List.range M).map fun (i : Nat) => decide ((i : Int) ∈ l)
/-- What Trim works on. -/
structure TW (w W : World) (q N1 : Nat) (vn vr : Value) (seen : List Bool) (out : List Int) (v : Value) : Prop where
  gb : Bk W w.heap.size 32 #[vn, vr]
  rb : Bk W (w.heap.size + 1) 32 #[.slice none 0 0, .slice none 0 0]
  sn : Ow tV 4 W (w.heap.size + 2) (.slice (some ⟨q, 0, none⟩) N1 N1) seen
  wk : Ow iV 3 W (w.heap.size + 2) v out
  bl : Below w.heap.size w W
section
variable {w W W' : World} {q N1 : Nat} {vn vr v v' : Value} {seen : List Bool} {out : List Int}
theorem TW.below (h : TW w W q N1 vn vr seen out v) (hb : Below W.heap.size W W') : TW w W' q N1 vn vr seen out v := ⟨h.gb.below hb h.gb.lt, h.rb.below hb h.rb.lt, h.sn.below hb, h.wk.below hb, h.bl.trans (hb.mono h.bl.size)⟩
theorem TW.mark (h : TW w W q N1 vn vr seen out v) {n : Nat} (hn : n < seen.length) : TW w (W.setCell ⟨q, n, none⟩ (.bool true)) q N1 vn vr (seen.set n true) out v := by
  have hq := h.sn.ge.1
  refine ⟨h.gb.far (p := ⟨q, n, none⟩) (show w.heap.size ≠ q by omega) _, h.rb.far (p := ⟨q, n, none⟩) (show w.heap.size + 1 ≠ q by omega) _, h.sn.set hn true, h.wk.kept (grown_set W ⟨q, n, none⟩ _) ?_, h.bl.setCell (p := ⟨q, n, none⟩) (show w.heap.size ≤ q by omega) _⟩
  exact .inr (own_ne h.sn h.wk)
theorem TW.app (h : TW w W q N1 vn vr seen out v) {x : Int} (ho : Ow iV 3 W' (w.heap.size + 2) v' (out ++ [x])) (hb : Below (w.heap.size + 2) W W') (hg : W.grownBy W' v.ownBlock) : TW w W' q N1 vn vr seen (out ++ [x]) v' := by
  refine ⟨h.gb.below hb (by omega), h.rb.below hb (by omega), h.sn.kept hg (.inr (fun e => own_ne h.sn h.wk e.symm)), ho, h.bl.trans (hb.mono (by omega))⟩
theorem TW.nil (h : TW w W q N1 vn vr seen out v) : TW w W q N1 vn vr seen [] (.slice none 0 0) := ⟨h.gb, h.rb, h.sn, Ow.nil_ _ _ _ _, h.bl⟩
end
set_option maxHeartbeats 4000000
set_option maxRecDepth 100000
end Go.Proofs.YtdppnggchpchgaaDoor
/- How arguments of types []bool and []int are opened. No conditions. -/
namespace Go.Proofs.YtdppnggchpchgaaDoor
set_option linter.unusedVariables false
set_option linter.unusedSimpArgs false
open Go.ChangeShapes Go.WideShapes Go.ChangeAt Go.RowKit
def boZ (b : Bool) : Value := .bool b
def inV (k : Int) : Value := .int .i64 k
end Go.Proofs.YtdppnggchpchgaaDoor
/- GraphAny: its regions. No conditions. -/
namespace Go.Proofs.YtdppnggchpchgaaDoor
set_option linter.unusedVariables false
set_option linter.unusedSimpArgs false
open Go.RowKit Go.Maps
set_option maxHeartbeats 4000000
set_option maxRecDepth 100000
end Go.Proofs.YtdppnggchpchgaaDoor
/- GraphAny: what a trimmed graph has. No conditions. -/
namespace Go.Proofs.YtdppnggchpchgaaDoor
set_option linter.unusedVariables false
set_option linter.unusedSimpArgs false
open Go.RowKit Go.Maps
end Go.Proofs.YtdppnggchpchgaaDoor
/- The reference's Walk: its order. Conditions: lengths; all pointers are some node's or 0. -/
namespace Go.Proofs.YtdppnggchpchgaaDoor
set_option linter.unusedVariables false
set_option linter.unusedSimpArgs false
open Go.RowKit Go.Maps
set_option maxHeartbeats 4000000
set_option maxRecDepth 100000
end Go.Proofs.YtdppnggchpchgaaDoor
/- A region whose operations are loads and reckonings, which float, and some others (calls, appends) that wait for each other in part: the floating ones have known values, the others are straight code in each order that they may have. No conditions. -/
namespace Go.Proofs.YtdppnggchpchgaaDoor
set_option linter.unusedVariables false
set_option linter.unusedSimpArgs false
open Go.RowKit
section
variable {P : Program} {ops : Array Oper} {Q : Exit → Act → World → Prop} {a0 : Act} {w0 : World}
/-- Those of rest that wait for none of rest may come next. -/
def SpineS (P : Program) (ops : Array Oper) (Q : Exit → Act → World → Prop) (W : World → Prop) : Nat → List Nat → Act → World → Prop
  | 0, _, a, w => Q .normal a w
  | n + 1, rest, a, w => ∀ i ∈ rest, (rest.all fun j => !waitsB ops i j) = true → ∃ o, ops[i]? = some o ∧ o.guard = none ∧ Oper.wp P o a w (fun a' w' => a'.defers = a.defers ∧ W w' ∧ SpineS P ops Q W n (rest.erase i) a' w') NoQ
def setB (ops : Array Oper) (sp fl : List Nat) : Bool :=
  ((List.range ops.size).all fun i => sp.contains i || fl.contains i) && (fl.all fun j => !sp.contains j && decide (j < ops.size) && ((ops[j]?).bind (·.guard)).isNone && slotsB ops fl j) && (sp.all fun i => decide (i < ops.size)) && decide (sp.Nodup) &&
  (fl.all fun i => (operandsOf ops i).all fun t => (fl.any fun j => waitsB ops i j && dstOf ops j == some t) || ((fl.all fun j => dstOf ops j != some t) && sp.all fun j => dstOf ops j != some t || waitsB ops j i)) &&
  (sp.all fun i => (operandsOf ops i).all fun t => fl.all fun j => dstOf ops j != some t || waitsB ops i j)
end
end Go.Proofs.YtdppnggchpchgaaDoor
/- A region as in RegU, whose operation without a slot stands anywhere in the row. No conditions. -/
namespace Go.Proofs.YtdppnggchpchgaaDoor
set_option linter.unusedVariables false
set_option linter.unusedSimpArgs false
open Go.RowKit
section
variable {P : Program} {ops : Array Oper} {Q : Exit → Act → World → Prop} {a0 : Act} {w0 : World}
/-- The checks of regB, of all but m, which leaves nothing in a slot. -/
def regVB (ops : Array Oper) (m size : Nat) : Bool :=
  decide (m < ops.size) && ((List.range ops.size).all fun i => eldB ops i) && ((List.range ops.size).all fun i => i == m || ownB ops ops.size size i) && (dstOf ops m).isNone && (List.range ops.size).all fun i => plainB ops i
end
end Go.Proofs.YtdppnggchpchgaaDoor
/- A region as in RegW, one of whose operations leaves nothing in a slot (a store). No conditions. -/
namespace Go.Proofs.YtdppnggchpchgaaDoor
set_option linter.unusedVariables false
set_option linter.unusedSimpArgs false
open Go.RowKit
section
variable {P : Program} {ops : Array Oper} {Q : Exit → Act → World → Prop} {a0 : Act} {w0 : World}
end
end Go.Proofs.YtdppnggchpchgaaDoor
