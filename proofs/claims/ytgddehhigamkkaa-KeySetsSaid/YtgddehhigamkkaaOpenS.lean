/- How an argument that is a struct of numbers is opened. No conditions. -/
import Derived.Test.YtgddehhigamkkaaFrame
import Derived.Lib.SmallJoins
namespace Go.Proofs.Ytgddehhigamkkaa
set_option linter.unusedVariables false
set_option linter.unusedSimpArgs false
open Go.ChangeShapes Go.WideShapes Go.ChangeAt Go.RowKit
section
variable {H : Type} {enc : TypeId × Value → H} {P : Program} {w : World} {base : Nat} {spare : Nat → Bool} {held : Bool} {r : Reach} {b0 : Nat} {t : TypeId} {v : Value} {d : DataW H} {p : List MemPlace}
theorem one_int {k : IntKind} {n : Nat} {t : TypeId} {u : Value} {y : DataW H × List MemPlace} (ht : P.underlying t = some (.int k)) (h : DataW.trod enc P w base spare held n t [u] = some y) : ∃ a, u = .int k a ∧ (Lit.int k a).wf = true := by
  obtain ⟨a, h, _, hw⟩ := DataW.trod_int ht h
  exact ⟨a, by simpa using h, hw⟩
theorem open_ints2 {f0 f1 : Field} (i0 i1 : IntKind) (hs : P.underlying t = some (.struct #[f0, f1])) (hone : Go.Deep.oneCellFields P #[f0, f1] = true) (hC : P.cellsOf t = 2)
    (k0 : P.underlying f0.type = some (.int i0)) (k1 : P.underlying f1.type = some (.int i1)) (hv : Value.okWide P w r b0 t v) (h : DataW.Trod enc P w base spare held t v d p) :
    ∃ a b, v = .agg #[.int i0 a, .int i1 b] ∧ (Lit.int i0 a).wf = true ∧ (Lit.int i1 b).wf = true := by
  obtain ⟨v0, v1, y0, y1, n, rfl, _, _, t0, t1⟩ := Joins.open_agg2 hs hone hC hv h
  obtain ⟨a, rfl, wa⟩ := one_int k0 t0
  obtain ⟨b, rfl, wb⟩ := one_int k1 t1
  exact ⟨a, b, rfl, wa, wb⟩
theorem open_ints3 {f0 f1 f2 : Field} (i0 i1 i2 : IntKind) (hs : P.underlying t = some (.struct #[f0, f1, f2])) (hone : Go.Deep.oneCellFields P #[f0, f1, f2] = true) (hC : P.cellsOf t = 3)
    (k0 : P.underlying f0.type = some (.int i0)) (k1 : P.underlying f1.type = some (.int i1)) (k2 : P.underlying f2.type = some (.int i2)) (hv : Value.okWide P w r b0 t v) (h : DataW.Trod enc P w base spare held t v d p) :
    ∃ a b c, v = .agg #[.int i0 a, .int i1 b, .int i2 c] ∧ (Lit.int i0 a).wf = true ∧ (Lit.int i1 b).wf = true ∧ (Lit.int i2 c).wf = true := by
  obtain ⟨v0, v1, v2, y0, y1, y2, n, rfl, _, _, t0, t1, t2⟩ := Joins.open_agg3 hs hone hC hv h
  obtain ⟨a, rfl, wa⟩ := one_int k0 t0
  obtain ⟨b, rfl, wb⟩ := one_int k1 t1
  obtain ⟨c, rfl, wc⟩ := one_int k2 t2
  exact ⟨a, b, c, rfl, wa, wb, wc⟩
end
end Go.Proofs.Ytgddehhigamkkaa
