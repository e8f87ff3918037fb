/-
  DERIVED. GIVEN WITH THE SEED: THE CARDS: each row of YtfodefgihicafaaDoorRows.lean that lists a variable, with what it lists TIED to the program's text (the seventh form; the later family's looks); each row that meets fmt, with fmt's text TOLD by the authors' own Lean function (tested against real Go, not proved from fmt's source: count such statements apart). THE CARD IS WHAT COUNTS. Prove the row's statement (the work); the ties are given (YtfodefgihicafaaDoorTie.lean); close each card by the builder's one call (the guide's Derived/Test/ToyasCard.lean, 'card_holds'). Laid BY PROGRAM, IN A SANDBOX (cutbox-door.mjs). By AI agents, Wed Nov 11 2026. No macro, syntax, notation, axiom, sorry.
-/
import Derived.Test.YtfodefgihicafaaDoorRows
import GoSem.ClaimSeven
namespace Go.Proofs.YtfodefgihicafaaDoor
namespace Rows

/-- THE TIED CARD OF 'loamlaw16.ObjectPlays'. -/
def objectPlaysCard : Claim7 := { stood := { row := objectPlaysRow, standIns := [], harness := (true, "c9447320ff57cce1bb3f3cabae1e8816a2dfa12256a7c525c45f8a6aebb30cda"), looks := false }, kinds := [], alts := [], laidByText := true, laidKinds := [.data, .data, .data], laidTests := true, laidLooks := .later }
def ObjectPlaysCardSaid : Prop := Claim7.holds Tryd.pinned (.plain (OpenSpec.ofChange objectPlaysSpec)) objectPlaysCard

/-- THE TIED CARD OF 'loamlaw16.ObjectWell'. -/
def objectWellCard : Claim7 := { stood := { row := objectWellRow, standIns := [], harness := (true, "c9447320ff57cce1bb3f3cabae1e8816a2dfa12256a7c525c45f8a6aebb30cda"), looks := false }, kinds := [], alts := [], laidByText := true, laidKinds := [.data, .data, .data], laidTests := true, laidLooks := .later }
def ObjectWellCardSaid : Prop := Claim7.holds Tryd.pinned (.plain (OpenSpec.ofChange objectWellSpec)) objectWellCard

/-- THE TIED CARD OF 'loamlaw16.ObjectApart'. -/
def objectApartCard : Claim7 := { stood := { row := objectApartRow, standIns := [], harness := (true, "c9447320ff57cce1bb3f3cabae1e8816a2dfa12256a7c525c45f8a6aebb30cda"), looks := false }, kinds := [], alts := [], laidByText := true, laidKinds := [.data, .data, .data], laidTests := true, laidLooks := .later }
def ObjectApartCardSaid : Prop := Claim7.holds Tryd.pinned (.plain (OpenSpec.ofChange objectApartSpec)) objectApartCard

/-- THE TIED CARD OF 'loamlaw16.ObjectPtrs'. -/
def objectPtrsCard : Claim7 := { stood := { row := objectPtrsRow, standIns := [], harness := (true, "c9447320ff57cce1bb3f3cabae1e8816a2dfa12256a7c525c45f8a6aebb30cda"), looks := false }, kinds := [], alts := [], laidByText := true, laidKinds := [.data, .data, .data], laidTests := true, laidLooks := .later }
def ObjectPtrsCardSaid : Prop := Claim7.holds Tryd.pinned (.plain (OpenSpec.ofChange objectPtrsSpec)) objectPtrsCard

/-- THE SECOND FORM's CARD OF 'loamlaw16.ObjectPlays'. -/
def objectPlaysUptoCard : Claim7 := { stood := { row := objectPlaysUptoRow, standIns := [], harness := (true, "c9447320ff57cce1bb3f3cabae1e8816a2dfa12256a7c525c45f8a6aebb30cda"), looks := false }, kinds := [], alts := [], laidByText := true, laidKinds := [.data, .data, .data], laidTests := true, laidLooks := .later }
def ObjectPlaysUptoCardSaid : Prop := Claim7.holds Tryd.pinned (.plain (OpenSpec.upto objectPlaysSpec)) objectPlaysUptoCard

/-- THE SECOND FORM's CARD OF 'loamlaw16.ObjectWell'. -/
def objectWellUptoCard : Claim7 := { stood := { row := objectWellUptoRow, standIns := [], harness := (true, "c9447320ff57cce1bb3f3cabae1e8816a2dfa12256a7c525c45f8a6aebb30cda"), looks := false }, kinds := [], alts := [], laidByText := true, laidKinds := [.data, .data, .data], laidTests := true, laidLooks := .later }
def ObjectWellUptoCardSaid : Prop := Claim7.holds Tryd.pinned (.plain (OpenSpec.upto objectWellSpec)) objectWellUptoCard

/-- THE SECOND FORM's CARD OF 'loamlaw16.ObjectApart'. -/
def objectApartUptoCard : Claim7 := { stood := { row := objectApartUptoRow, standIns := [], harness := (true, "c9447320ff57cce1bb3f3cabae1e8816a2dfa12256a7c525c45f8a6aebb30cda"), looks := false }, kinds := [], alts := [], laidByText := true, laidKinds := [.data, .data, .data], laidTests := true, laidLooks := .later }
def ObjectApartUptoCardSaid : Prop := Claim7.holds Tryd.pinned (.plain (OpenSpec.upto objectApartSpec)) objectApartUptoCard

/-- THE SECOND FORM's CARD OF 'loamlaw16.ObjectPtrs'. -/
def objectPtrsUptoCard : Claim7 := { stood := { row := objectPtrsUptoRow, standIns := [], harness := (true, "c9447320ff57cce1bb3f3cabae1e8816a2dfa12256a7c525c45f8a6aebb30cda"), looks := false }, kinds := [], alts := [], laidByText := true, laidKinds := [.data, .data, .data], laidTests := true, laidLooks := .later }
def ObjectPtrsUptoCardSaid : Prop := Claim7.holds Tryd.pinned (.plain (OpenSpec.upto objectPtrsSpec)) objectPtrsUptoCard
end Rows
end Go.Proofs.YtfodefgihicafaaDoor
