/-
  No cell of these rows narrows 'for every input' (looked for: loops, veiled, ifaces, maps, wideKeys, modest, calm, conditions, laid).
  DERIVED. THE GIVEN ROWS OF THIS SEAT. 5 by the template 'for every input the law returns true; each argument reads behind the call as it read before'; 0 by the template 'total and deterministic' (their statements: YtbanbpphadgoiaaTotals.lean).
  GIVEN WITH THE SEED: the statements are not yours to turn. If you find one false, say at which input.
  Laid BY PROGRAM, IN A SANDBOX (cutbox-rows.mjs): the forced cells as the released guide's own fill.sh prints them over the translation 28993b447a2c779c… (all of the seat's roots in one cut). By AI agents, Wed Nov 11 2026. No macro, syntax, notation, axiom, sorry.
-/
import Derived.Test.YtbanbpphadgoiaaChecked
import GoSem.Claim
import GoSem.ClaimJoined
import GoSem.ClaimMapViews
import Derived.JoinedTies
import Derived.KernelRfl
namespace Go.Proofs.Ytbanbpphadgoiaa
/- THE CELL 'sum', in the pinned program and in every row, IS THE sha256 OF THE DUMP (.gsa) THAT YtbanbpphadgoiaaProg.lean LOADS. Nothing in Lean hashes anything: it is a label: what it is worth is what the hold of that sum in a sandbox is worth. -/
noncomputable def Try.pinned : Pinned := { name := "ytbanbpphadgoiaa", sum := "28993b447a2c779cd39defc49f6f05684e2fd24ae01bfea887981444dab89374", checked := Try.checked }
namespace Rows
def none {H : Type} : Left H := { results := [], args := [] }

/-- 'loamlaw22.StepPlays': WHATEVER THE INPUT: true; the input reads as it did. -/
def stepPlaysSpec : ChangeSpec := { name := "stepPlays", fn := fun _ => fun
  | [d1, d2, d3, d4, d5, d6] => { results := [.lit (.bool true)], args := [d1, d2, d3, d4, d5, d6] }
  | _ => none }
def stepPlaysRow : OpenClaim := { program := "ytbanbpphadgoiaa", sum := "28993b447a2c779cd39defc49f6f05684e2fd24ae01bfea887981444dab89374", func := "loam/loamlaw22.StepPlays", spec := "stepPlays", apart := false }
def StepPlaysSaid : Prop := stepPlaysRow.holds Try.pinned (OpenSpec.ofChange stepPlaysSpec)

/-- ITS FALSE NEIGHBOUR: 'it returns false'. Refute it at one input. -/
def stepPlaysWrong : ChangeSpec := { name := "stepPlays", fn := fun _ => fun
  | [d1, d2, d3, d4, d5, d6] => { results := [.lit (.bool false)], args := [d1, d2, d3, d4, d5, d6] }
  | _ => none }
def StepPlaysWrongFalsely : Prop := stepPlaysRow.holds Try.pinned (OpenSpec.ofChange stepPlaysWrong)

/-- 'loamlaw22.StepWhole': WHATEVER THE INPUT: true; the input reads as it did. -/
def stepWholeSpec : ChangeSpec := { name := "stepWhole", fn := fun _ => fun
  | [d1, d2, d3, d4, d5] => { results := [.lit (.bool true)], args := [d1, d2, d3, d4, d5] }
  | _ => none }
def stepWholeRow : OpenClaim := { program := "ytbanbpphadgoiaa", sum := "28993b447a2c779cd39defc49f6f05684e2fd24ae01bfea887981444dab89374", func := "loam/loamlaw22.StepWhole", spec := "stepWhole", apart := false }
def StepWholeSaid : Prop := stepWholeRow.holds Try.pinned (OpenSpec.ofChange stepWholeSpec)

/-- ITS FALSE NEIGHBOUR: 'it returns false'. Refute it at one input. -/
def stepWholeWrong : ChangeSpec := { name := "stepWhole", fn := fun _ => fun
  | [d1, d2, d3, d4, d5] => { results := [.lit (.bool false)], args := [d1, d2, d3, d4, d5] }
  | _ => none }
def StepWholeWrongFalsely : Prop := stepWholeRow.holds Try.pinned (OpenSpec.ofChange stepWholeWrong)

/-- 'loamlaw22.StepStates': WHATEVER THE INPUT: true; the input reads as it did. -/
def stepStatesSpec : ChangeSpec := { name := "stepStates", fn := fun _ => fun
  | [d1, d2, d3, d4, d5] => { results := [.lit (.bool true)], args := [d1, d2, d3, d4, d5] }
  | _ => none }
def stepStatesRow : OpenClaim := { program := "ytbanbpphadgoiaa", sum := "28993b447a2c779cd39defc49f6f05684e2fd24ae01bfea887981444dab89374", func := "loam/loamlaw22.StepStates", spec := "stepStates", apart := false }
def StepStatesSaid : Prop := stepStatesRow.holds Try.pinned (OpenSpec.ofChange stepStatesSpec)

/-- ITS FALSE NEIGHBOUR: 'it returns false'. Refute it at one input. -/
def stepStatesWrong : ChangeSpec := { name := "stepStates", fn := fun _ => fun
  | [d1, d2, d3, d4, d5] => { results := [.lit (.bool false)], args := [d1, d2, d3, d4, d5] }
  | _ => none }
def StepStatesWrongFalsely : Prop := stepStatesRow.holds Try.pinned (OpenSpec.ofChange stepStatesWrong)

/-- 'loamlaw22.StepSizes': WHATEVER THE INPUT: true; the input reads as it did. -/
def stepSizesSpec : ChangeSpec := { name := "stepSizes", fn := fun _ => fun
  | [d1, d2, d3, d4, d5, d6] => { results := [.lit (.bool true)], args := [d1, d2, d3, d4, d5, d6] }
  | _ => none }
def stepSizesRow : OpenClaim := { program := "ytbanbpphadgoiaa", sum := "28993b447a2c779cd39defc49f6f05684e2fd24ae01bfea887981444dab89374", func := "loam/loamlaw22.StepSizes", spec := "stepSizes", apart := false }
def StepSizesSaid : Prop := stepSizesRow.holds Try.pinned (OpenSpec.ofChange stepSizesSpec)

/-- ITS FALSE NEIGHBOUR: 'it returns false'. Refute it at one input. -/
def stepSizesWrong : ChangeSpec := { name := "stepSizes", fn := fun _ => fun
  | [d1, d2, d3, d4, d5, d6] => { results := [.lit (.bool false)], args := [d1, d2, d3, d4, d5, d6] }
  | _ => none }
def StepSizesWrongFalsely : Prop := stepSizesRow.holds Try.pinned (OpenSpec.ofChange stepSizesWrong)

/-- 'loamlaw22.StepIdle': WHATEVER THE INPUT: true; the input reads as it did. -/
def stepIdleSpec : ChangeSpec := { name := "stepIdle", fn := fun _ => fun
  | [d1, d2, d3, d4, d5] => { results := [.lit (.bool true)], args := [d1, d2, d3, d4, d5] }
  | _ => none }
def stepIdleRow : OpenClaim := { program := "ytbanbpphadgoiaa", sum := "28993b447a2c779cd39defc49f6f05684e2fd24ae01bfea887981444dab89374", func := "loam/loamlaw22.StepIdle", spec := "stepIdle", apart := false }
def StepIdleSaid : Prop := stepIdleRow.holds Try.pinned (OpenSpec.ofChange stepIdleSpec)

/-- ITS FALSE NEIGHBOUR: 'it returns false'. Refute it at one input. -/
def stepIdleWrong : ChangeSpec := { name := "stepIdle", fn := fun _ => fun
  | [d1, d2, d3, d4, d5] => { results := [.lit (.bool false)], args := [d1, d2, d3, d4, d5] }
  | _ => none }
def StepIdleWrongFalsely : Prop := stepIdleRow.holds Try.pinned (OpenSpec.ofChange stepIdleWrong)

/- THE SECOND FORM. 'bulk': how many values and letters a reading holds, each counted each time it is reached (what is shared counts as often as it is met; a slice's spare places count too). A statement '..UptoSaid' is the law's where the arguments, and the package variables that the reading takes, are together of bulk at most 1048576: NARROWER than '..Said'. Prove '..Said' where nothing that the law and all that it calls make is longer than what came in: it says more and counts as full. Else prove '..UptoSaid'. A law counts once. -/
mutual
def uptoBulk {H : Type} : DataW H → Nat
  | .lit (.string bytes) => bytes.length + 1
  | .lit _ => 1
  | .nil => 1
  | .ptr d => uptoBulk d + 1
  | .slice elems spare => uptoBulkAll elems + uptoBulkAll spare + 1
  | .agg parts => uptoBulkAll parts + 1
  | .iface _ d => uptoBulk d + 1
  | .map entries => uptoBulkEntries entries + 1
  | .held _ => 1
def uptoBulkAll {H : Type} : List (DataW H) → Nat
  | [] => 0
  | d :: r => uptoBulk d + uptoBulkAll r
def uptoBulkEntries {H : Type} : List (Lit × DataW H) → Nat
  | [] => 0
  | x :: r => uptoBulkEntry x + uptoBulkEntries r
def uptoBulkEntry {H : Type} : Lit × DataW H → Nat
  | (.string bytes, d) => bytes.length + uptoBulk d + 1
  | (_, d) => uptoBulk d + 1
 end
def uptoSmall : (H : Type) → List (DataW H) → Bool := fun _ ds => decide (uptoBulkAll ds ≤ 1048576)
def OpenSpec.upto (s : _root_.Go.ChangeSpec) : _root_.Go.OpenSpec := { _root_.Go.OpenSpec.ofChange s with cond := some uptoSmall }

/-- 'loamlaw22.StepPlays', WHERE WHAT IT READS IS OF BULK AT MOST 1048576: true; the input reads as it did. -/
def stepPlaysUptoRow : OpenClaim := { program := "ytbanbpphadgoiaa", sum := "28993b447a2c779cd39defc49f6f05684e2fd24ae01bfea887981444dab89374", func := "loam/loamlaw22.StepPlays", spec := "stepPlays", apart := false, narrowed := true }
def StepPlaysUptoSaid : Prop := stepPlaysUptoRow.holds Try.pinned (OpenSpec.upto stepPlaysSpec)

/-- 'loamlaw22.StepWhole', WHERE WHAT IT READS IS OF BULK AT MOST 1048576: true; the input reads as it did. -/
def stepWholeUptoRow : OpenClaim := { program := "ytbanbpphadgoiaa", sum := "28993b447a2c779cd39defc49f6f05684e2fd24ae01bfea887981444dab89374", func := "loam/loamlaw22.StepWhole", spec := "stepWhole", apart := false, narrowed := true }
def StepWholeUptoSaid : Prop := stepWholeUptoRow.holds Try.pinned (OpenSpec.upto stepWholeSpec)

/-- 'loamlaw22.StepStates', WHERE WHAT IT READS IS OF BULK AT MOST 1048576: true; the input reads as it did. -/
def stepStatesUptoRow : OpenClaim := { program := "ytbanbpphadgoiaa", sum := "28993b447a2c779cd39defc49f6f05684e2fd24ae01bfea887981444dab89374", func := "loam/loamlaw22.StepStates", spec := "stepStates", apart := false, narrowed := true }
def StepStatesUptoSaid : Prop := stepStatesUptoRow.holds Try.pinned (OpenSpec.upto stepStatesSpec)

/-- 'loamlaw22.StepSizes', WHERE WHAT IT READS IS OF BULK AT MOST 1048576: true; the input reads as it did. -/
def stepSizesUptoRow : OpenClaim := { program := "ytbanbpphadgoiaa", sum := "28993b447a2c779cd39defc49f6f05684e2fd24ae01bfea887981444dab89374", func := "loam/loamlaw22.StepSizes", spec := "stepSizes", apart := false, narrowed := true }
def StepSizesUptoSaid : Prop := stepSizesUptoRow.holds Try.pinned (OpenSpec.upto stepSizesSpec)

/-- 'loamlaw22.StepIdle', WHERE WHAT IT READS IS OF BULK AT MOST 1048576: true; the input reads as it did. -/
def stepIdleUptoRow : OpenClaim := { program := "ytbanbpphadgoiaa", sum := "28993b447a2c779cd39defc49f6f05684e2fd24ae01bfea887981444dab89374", func := "loam/loamlaw22.StepIdle", spec := "stepIdle", apart := false, narrowed := true }
def StepIdleUptoSaid : Prop := stepIdleUptoRow.holds Try.pinned (OpenSpec.upto stepIdleSpec)

end Rows
end Go.Proofs.Ytbanbpphadgoiaa
