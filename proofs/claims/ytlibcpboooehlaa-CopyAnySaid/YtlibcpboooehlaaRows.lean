/-
  No cell of these rows narrows 'for every input' (looked for: loops, veiled, ifaces, maps, wideKeys, modest, calm, conditions, laid).
  DERIVED. THE GIVEN ROWS OF THIS SEAT. 4 by the template 'for every input the law returns true; each argument reads behind the call as it read before'; 0 by the template 'total and deterministic' (their statements: YtlibcpboooehlaaTotals.lean).
  GIVEN WITH THE SEED: the statements are not yours to turn. If you find one false, say at which input.
  Laid BY PROGRAM, IN A SANDBOX (cutbox-rows.mjs): the forced cells as the released guide's own fill.sh prints them over the translation bb6c85b3cf5dbb02… (all of the seat's roots in one cut). By AI agents, Wed Nov 11 2026. No macro, syntax, notation, axiom, sorry.
-/
import Derived.Test.YtlibcpboooehlaaChecked
import GoSem.Claim
import GoSem.ClaimJoined
import GoSem.ClaimMapViews
import Derived.JoinedTies
import Derived.KernelRfl
namespace Go.Proofs.Ytlibcpboooehlaa
/- THE CELL 'sum', in the pinned program and in every row, IS THE sha256 OF THE DUMP (.gsa) THAT YtlibcpboooehlaaProg.lean LOADS. Nothing in Lean hashes anything: it is a label: what it is worth is what the hold of that sum in a sandbox is worth. -/
noncomputable def Try.pinned : Pinned := { name := "ytlibcpboooehlaa", sum := "bb6c85b3cf5dbb02c7b5eaa4821db39e0e51a75ad2eb87ac6d2c8839404ac2a7", checked := Try.checked }
namespace Rows
def none {H : Type} : Left H := { results := [], args := [] }

/-- 'loamlaw21.CopyAny': WHATEVER THE INPUT: true; the input reads as it did. -/
def copyAnySpec : ChangeSpec := { name := "copyAny", fn := fun _ => fun
  | [d1, d2, d3, d4, d5] => { results := [.lit (.bool true)], args := [d1, d2, d3, d4, d5] }
  | _ => none }
def copyAnyRow : OpenClaim := { program := "ytlibcpboooehlaa", sum := "bb6c85b3cf5dbb02c7b5eaa4821db39e0e51a75ad2eb87ac6d2c8839404ac2a7", func := "loam/loamlaw21.CopyAny", spec := "copyAny", apart := false }
def CopyAnySaid : Prop := copyAnyRow.holds Try.pinned (OpenSpec.ofChange copyAnySpec)

/-- ITS FALSE NEIGHBOUR: 'it returns false'. Refute it at one input. -/
def copyAnyWrong : ChangeSpec := { name := "copyAny", fn := fun _ => fun
  | [d1, d2, d3, d4, d5] => { results := [.lit (.bool false)], args := [d1, d2, d3, d4, d5] }
  | _ => none }
def CopyAnyWrongFalsely : Prop := copyAnyRow.holds Try.pinned (OpenSpec.ofChange copyAnyWrong)

/-- 'loamlaw21.CopyAgain': WHATEVER THE INPUT: true; the input reads as it did. -/
def copyAgainSpec : ChangeSpec := { name := "copyAgain", fn := fun _ => fun
  | [d1, d2, d3, d4] => { results := [.lit (.bool true)], args := [d1, d2, d3, d4] }
  | _ => none }
def copyAgainRow : OpenClaim := { program := "ytlibcpboooehlaa", sum := "bb6c85b3cf5dbb02c7b5eaa4821db39e0e51a75ad2eb87ac6d2c8839404ac2a7", func := "loam/loamlaw21.CopyAgain", spec := "copyAgain", apart := false }
def CopyAgainSaid : Prop := copyAgainRow.holds Try.pinned (OpenSpec.ofChange copyAgainSpec)

/-- ITS FALSE NEIGHBOUR: 'it returns false'. Refute it at one input. -/
def copyAgainWrong : ChangeSpec := { name := "copyAgain", fn := fun _ => fun
  | [d1, d2, d3, d4] => { results := [.lit (.bool false)], args := [d1, d2, d3, d4] }
  | _ => none }
def CopyAgainWrongFalsely : Prop := copyAgainRow.holds Try.pinned (OpenSpec.ofChange copyAgainWrong)

/-- 'loamlaw21.CopyRings': WHATEVER THE INPUT: true; the input reads as it did. -/
def copyRingsSpec : ChangeSpec := { name := "copyRings", fn := fun _ => fun
  | [d1, d2] => { results := [.lit (.bool true)], args := [d1, d2] }
  | _ => none }
def copyRingsRow : OpenClaim := { program := "ytlibcpboooehlaa", sum := "bb6c85b3cf5dbb02c7b5eaa4821db39e0e51a75ad2eb87ac6d2c8839404ac2a7", func := "loam/loamlaw21.CopyRings", spec := "copyRings", apart := false }
def CopyRingsSaid : Prop := copyRingsRow.holds Try.pinned (OpenSpec.ofChange copyRingsSpec)

/-- ITS FALSE NEIGHBOUR: 'it returns false'. Refute it at one input. -/
def copyRingsWrong : ChangeSpec := { name := "copyRings", fn := fun _ => fun
  | [d1, d2] => { results := [.lit (.bool false)], args := [d1, d2] }
  | _ => none }
def CopyRingsWrongFalsely : Prop := copyRingsRow.holds Try.pinned (OpenSpec.ofChange copyRingsWrong)

/-- 'loamlaw21.CopyBytes': WHATEVER THE INPUT: true; the input reads as it did. -/
def copyBytesSpec : ChangeSpec := { name := "copyBytes", fn := fun _ => fun
  | [d] => { results := [.lit (.bool true)], args := [d] }
  | _ => none }
def copyBytesRow : OpenClaim := { program := "ytlibcpboooehlaa", sum := "bb6c85b3cf5dbb02c7b5eaa4821db39e0e51a75ad2eb87ac6d2c8839404ac2a7", func := "loam/loamlaw21.CopyBytes", spec := "copyBytes", apart := false }
def CopyBytesSaid : Prop := copyBytesRow.holds Try.pinned (OpenSpec.ofChange copyBytesSpec)

/-- ITS FALSE NEIGHBOUR: 'it returns false'. Refute it at one input. -/
def copyBytesWrong : ChangeSpec := { name := "copyBytes", fn := fun _ => fun
  | [d] => { results := [.lit (.bool false)], args := [d] }
  | _ => none }
def CopyBytesWrongFalsely : Prop := copyBytesRow.holds Try.pinned (OpenSpec.ofChange copyBytesWrong)

/- THE SECOND FORM. 'bulk': how many values and letters a reading holds, each counted each time it is reached (what is shared counts as often as it is met; a slice's spare places count too). A statement '..UptoSaid' is the law's where the arguments, and the package variables that the reading takes, are together of bulk at most 1048576: NARROWER than '..Said'. Prove '..Said' where nothing that the law and all that it calls make is longer than what came in: it says more and counts as full. Else prove '..UptoSaid'. A law counts once. -/
mutual
def uptoBulk {H : Type} : DataW H → Nat
  | .lit (.string bytes) => bytes.length + 1
  | .lit _ => 1
  | .nil => 1
  | .ptr d => uptoBulk d + 1
  | .slice elems spare => uptoBulkAll elems + uptoBulkAll spare + 1
  | .agg parts => uptoBulkAll parts + 1
  | .iface _ d => uptoBulk d + 1
  | .map entries => uptoBulkEntries entries + 1
  | .held _ => 1
def uptoBulkAll {H : Type} : List (DataW H) → Nat
  | [] => 0
  | d :: r => uptoBulk d + uptoBulkAll r
def uptoBulkEntries {H : Type} : List (Lit × DataW H) → Nat
  | [] => 0
  | x :: r => uptoBulkEntry x + uptoBulkEntries r
def uptoBulkEntry {H : Type} : Lit × DataW H → Nat
  | (.string bytes, d) => bytes.length + uptoBulk d + 1
  | (_, d) => uptoBulk d + 1
 end
def uptoSmall : (H : Type) → List (DataW H) → Bool := fun _ ds => decide (uptoBulkAll ds ≤ 1048576)
def OpenSpec.upto (s : _root_.Go.ChangeSpec) : _root_.Go.OpenSpec := { _root_.Go.OpenSpec.ofChange s with cond := some uptoSmall }

/-- 'loamlaw21.CopyAny', WHERE WHAT IT READS IS OF BULK AT MOST 1048576: true; the input reads as it did. -/
def copyAnyUptoRow : OpenClaim := { program := "ytlibcpboooehlaa", sum := "bb6c85b3cf5dbb02c7b5eaa4821db39e0e51a75ad2eb87ac6d2c8839404ac2a7", func := "loam/loamlaw21.CopyAny", spec := "copyAny", apart := false, narrowed := true }
def CopyAnyUptoSaid : Prop := copyAnyUptoRow.holds Try.pinned (OpenSpec.upto copyAnySpec)

/-- 'loamlaw21.CopyAgain', WHERE WHAT IT READS IS OF BULK AT MOST 1048576: true; the input reads as it did. -/
def copyAgainUptoRow : OpenClaim := { program := "ytlibcpboooehlaa", sum := "bb6c85b3cf5dbb02c7b5eaa4821db39e0e51a75ad2eb87ac6d2c8839404ac2a7", func := "loam/loamlaw21.CopyAgain", spec := "copyAgain", apart := false, narrowed := true }
def CopyAgainUptoSaid : Prop := copyAgainUptoRow.holds Try.pinned (OpenSpec.upto copyAgainSpec)

/-- 'loamlaw21.CopyRings', WHERE WHAT IT READS IS OF BULK AT MOST 1048576: true; the input reads as it did. -/
def copyRingsUptoRow : OpenClaim := { program := "ytlibcpboooehlaa", sum := "bb6c85b3cf5dbb02c7b5eaa4821db39e0e51a75ad2eb87ac6d2c8839404ac2a7", func := "loam/loamlaw21.CopyRings", spec := "copyRings", apart := false, narrowed := true }
def CopyRingsUptoSaid : Prop := copyRingsUptoRow.holds Try.pinned (OpenSpec.upto copyRingsSpec)

/-- 'loamlaw21.CopyBytes', WHERE WHAT IT READS IS OF BULK AT MOST 1048576: true; the input reads as it did. -/
def copyBytesUptoRow : OpenClaim := { program := "ytlibcpboooehlaa", sum := "bb6c85b3cf5dbb02c7b5eaa4821db39e0e51a75ad2eb87ac6d2c8839404ac2a7", func := "loam/loamlaw21.CopyBytes", spec := "copyBytes", apart := false, narrowed := true }
def CopyBytesUptoSaid : Prop := copyBytesUptoRow.holds Try.pinned (OpenSpec.upto copyBytesSpec)

end Rows
end Go.Proofs.Ytlibcpboooehlaa
