/-
  No cell of these rows narrows 'for every input' (looked for: loops, veiled, ifaces, maps, wideKeys, modest, calm, conditions, laid).
  DERIVED. THE GIVEN ROWS OF THIS SEAT. 4 by the template 'for every input the law returns true; each argument reads behind the call as it read before'; 0 by the template 'total and deterministic' (their statements: YtflocdghpnjoaaaTotals.lean).
  GIVEN WITH THE SEED: the statements are not yours to turn. If you find one false, say at which input.
  Laid BY PROGRAM, IN A SANDBOX (cutbox-rows.mjs): the forced cells as the released guide's own fill.sh prints them over the translation ed1a50683fad6bbe… (all of the seat's roots in one cut). By AI agents, Wed Nov 11 2026. No macro, syntax, notation, axiom, sorry.
-/
import Derived.Test.YtflocdghpnjoaaaChecked
import GoSem.Claim
import GoSem.ClaimJoined
import GoSem.ClaimMapViews
import Derived.JoinedTies
import Derived.KernelRfl
namespace Go.Proofs.Ytflocdghpnjoaaa
/- THE CELL 'sum', in the pinned program and in every row, IS THE sha256 OF THE DUMP (.gsa) THAT YtflocdghpnjoaaaProg.lean LOADS. Nothing in Lean hashes anything: it is a label: what it is worth is what the hold of that sum in a sandbox is worth. -/
noncomputable def Try.pinned : Pinned := { name := "ytflocdghpnjoaaa", sum := "ed1a50683fad6bbef8cbb2afc4aaaa2110b8038efacadc7877033f557642ceb3", checked := Try.checked }
namespace Rows
def none {H : Type} : Left H := { results := [], args := [] }

/-- 'loamlaw20.HandPlays': WHATEVER THE INPUT: true; the input reads as it did. -/
def handPlaysSpec : ChangeSpec := { name := "handPlays", fn := fun _ => fun
  | [d1, d2] => { results := [.lit (.bool true)], args := [d1, d2] }
  | _ => none }
def handPlaysRow : OpenClaim := { program := "ytflocdghpnjoaaa", sum := "ed1a50683fad6bbef8cbb2afc4aaaa2110b8038efacadc7877033f557642ceb3", func := "loam/loamlaw20.HandPlays", spec := "handPlays", inPlace := ["maps.clone"], unfollowed := true, recurses := true, apart := false }
def HandPlaysSaid : Prop := handPlaysRow.holds Try.pinned (OpenSpec.ofChange handPlaysSpec)

/-- ITS FALSE NEIGHBOUR: 'it returns false'. Refute it at one input. -/
def handPlaysWrong : ChangeSpec := { name := "handPlays", fn := fun _ => fun
  | [d1, d2] => { results := [.lit (.bool false)], args := [d1, d2] }
  | _ => none }
def HandPlaysWrongFalsely : Prop := handPlaysRow.holds Try.pinned (OpenSpec.ofChange handPlaysWrong)

/-- 'loamlaw20.HandFull': WHATEVER THE INPUT: true; the input reads as it did. -/
def handFullSpec : ChangeSpec := { name := "handFull", fn := fun _ => fun
  | [d] => { results := [.lit (.bool true)], args := [d] }
  | _ => none }
def handFullRow : OpenClaim := { program := "ytflocdghpnjoaaa", sum := "ed1a50683fad6bbef8cbb2afc4aaaa2110b8038efacadc7877033f557642ceb3", func := "loam/loamlaw20.HandFull", spec := "handFull", unfollowed := true, recurses := true, apart := false }
def HandFullSaid : Prop := handFullRow.holds Try.pinned (OpenSpec.ofChange handFullSpec)

/-- ITS FALSE NEIGHBOUR: 'it returns false'. Refute it at one input. -/
def handFullWrong : ChangeSpec := { name := "handFull", fn := fun _ => fun
  | [d] => { results := [.lit (.bool false)], args := [d] }
  | _ => none }
def HandFullWrongFalsely : Prop := handFullRow.holds Try.pinned (OpenSpec.ofChange handFullWrong)

/-- 'loamlaw20.HandRenumbers': WHATEVER THE INPUT: true; the input reads as it did. -/
def handRenumbersSpec : ChangeSpec := { name := "handRenumbers", fn := fun _ => fun
  | [d1, d2, d3] => { results := [.lit (.bool true)], args := [d1, d2, d3] }
  | _ => none }
def handRenumbersRow : OpenClaim := { program := "ytflocdghpnjoaaa", sum := "ed1a50683fad6bbef8cbb2afc4aaaa2110b8038efacadc7877033f557642ceb3", func := "loam/loamlaw20.HandRenumbers", spec := "handRenumbers", unfollowed := true, recurses := true, apart := false }
def HandRenumbersSaid : Prop := handRenumbersRow.holds Try.pinned (OpenSpec.ofChange handRenumbersSpec)

/-- ITS FALSE NEIGHBOUR: 'it returns false'. Refute it at one input. -/
def handRenumbersWrong : ChangeSpec := { name := "handRenumbers", fn := fun _ => fun
  | [d1, d2, d3] => { results := [.lit (.bool false)], args := [d1, d2, d3] }
  | _ => none }
def HandRenumbersWrongFalsely : Prop := handRenumbersRow.holds Try.pinned (OpenSpec.ofChange handRenumbersWrong)

/-- 'loamlaw20.HandFinds': WHATEVER THE INPUT: true; the input reads as it did. -/
def handFindsSpec : ChangeSpec := { name := "handFinds", fn := fun _ => fun
  | [d] => { results := [.lit (.bool true)], args := [d] }
  | _ => none }
def handFindsRow : OpenClaim := { program := "ytflocdghpnjoaaa", sum := "ed1a50683fad6bbef8cbb2afc4aaaa2110b8038efacadc7877033f557642ceb3", func := "loam/loamlaw20.HandFinds", spec := "handFinds", unfollowed := true, recurses := true, apart := false }
def HandFindsSaid : Prop := handFindsRow.holds Try.pinned (OpenSpec.ofChange handFindsSpec)

/-- ITS FALSE NEIGHBOUR: 'it returns false'. Refute it at one input. -/
def handFindsWrong : ChangeSpec := { name := "handFinds", fn := fun _ => fun
  | [d] => { results := [.lit (.bool false)], args := [d] }
  | _ => none }
def HandFindsWrongFalsely : Prop := handFindsRow.holds Try.pinned (OpenSpec.ofChange handFindsWrong)

/- THE SECOND FORM. 'bulk': how many values and letters a reading holds, each counted each time it is reached (what is shared counts as often as it is met; a slice's spare places count too). A statement '..UptoSaid' is the law's where the arguments, and the package variables that the reading takes, are together of bulk at most 1048576: NARROWER than '..Said'. Prove '..Said' where nothing that the law and all that it calls make is longer than what came in: it says more and counts as full. Else prove '..UptoSaid'. A law counts once. -/
mutual
def uptoBulk {H : Type} : DataW H → Nat
  | .lit (.string bytes) => bytes.length + 1
  | .lit _ => 1
  | .nil => 1
  | .ptr d => uptoBulk d + 1
  | .slice elems spare => uptoBulkAll elems + uptoBulkAll spare + 1
  | .agg parts => uptoBulkAll parts + 1
  | .iface _ d => uptoBulk d + 1
  | .map entries => uptoBulkEntries entries + 1
  | .held _ => 1
def uptoBulkAll {H : Type} : List (DataW H) → Nat
  | [] => 0
  | d :: r => uptoBulk d + uptoBulkAll r
def uptoBulkEntries {H : Type} : List (Lit × DataW H) → Nat
  | [] => 0
  | x :: r => uptoBulkEntry x + uptoBulkEntries r
def uptoBulkEntry {H : Type} : Lit × DataW H → Nat
  | (.string bytes, d) => bytes.length + uptoBulk d + 1
  | (_, d) => uptoBulk d + 1
 end
def uptoSmall : (H : Type) → List (DataW H) → Bool := fun _ ds => decide (uptoBulkAll ds ≤ 1048576)
def OpenSpec.upto (s : _root_.Go.ChangeSpec) : _root_.Go.OpenSpec := { _root_.Go.OpenSpec.ofChange s with cond := some uptoSmall }

/-- 'loamlaw20.HandPlays', WHERE WHAT IT READS IS OF BULK AT MOST 1048576: true; the input reads as it did. -/
def handPlaysUptoRow : OpenClaim := { program := "ytflocdghpnjoaaa", sum := "ed1a50683fad6bbef8cbb2afc4aaaa2110b8038efacadc7877033f557642ceb3", func := "loam/loamlaw20.HandPlays", spec := "handPlays", inPlace := ["maps.clone"], unfollowed := true, recurses := true, apart := false, narrowed := true }
def HandPlaysUptoSaid : Prop := handPlaysUptoRow.holds Try.pinned (OpenSpec.upto handPlaysSpec)

/-- 'loamlaw20.HandFull', WHERE WHAT IT READS IS OF BULK AT MOST 1048576: true; the input reads as it did. -/
def handFullUptoRow : OpenClaim := { program := "ytflocdghpnjoaaa", sum := "ed1a50683fad6bbef8cbb2afc4aaaa2110b8038efacadc7877033f557642ceb3", func := "loam/loamlaw20.HandFull", spec := "handFull", unfollowed := true, recurses := true, apart := false, narrowed := true }
def HandFullUptoSaid : Prop := handFullUptoRow.holds Try.pinned (OpenSpec.upto handFullSpec)

/-- 'loamlaw20.HandRenumbers', WHERE WHAT IT READS IS OF BULK AT MOST 1048576: true; the input reads as it did. -/
def handRenumbersUptoRow : OpenClaim := { program := "ytflocdghpnjoaaa", sum := "ed1a50683fad6bbef8cbb2afc4aaaa2110b8038efacadc7877033f557642ceb3", func := "loam/loamlaw20.HandRenumbers", spec := "handRenumbers", unfollowed := true, recurses := true, apart := false, narrowed := true }
def HandRenumbersUptoSaid : Prop := handRenumbersUptoRow.holds Try.pinned (OpenSpec.upto handRenumbersSpec)

/-- 'loamlaw20.HandFinds', WHERE WHAT IT READS IS OF BULK AT MOST 1048576: true; the input reads as it did. -/
def handFindsUptoRow : OpenClaim := { program := "ytflocdghpnjoaaa", sum := "ed1a50683fad6bbef8cbb2afc4aaaa2110b8038efacadc7877033f557642ceb3", func := "loam/loamlaw20.HandFinds", spec := "handFinds", unfollowed := true, recurses := true, apart := false, narrowed := true }
def HandFindsUptoSaid : Prop := handFindsUptoRow.holds Try.pinned (OpenSpec.upto handFindsSpec)

end Rows
end Go.Proofs.Ytflocdghpnjoaaa
