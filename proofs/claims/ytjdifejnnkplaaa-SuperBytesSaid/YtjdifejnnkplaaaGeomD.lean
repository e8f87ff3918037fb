/- What geom.around and geom.Owner answer. Conditions: small numbers. -/
import Derived.Test.YtjdifejnnkplaaaGeomC
namespace Go.Proofs.Ytjdifejnnkplaaa
set_option linter.unusedVariables false
set_option linter.unusedSimpArgs false
open Go.RowKit
def aroundG (x : Int) : List (Int × Int) → Int × Int
  | [] => (0, 0)
  | p :: ps => if p.1 ≤ x ∧ x < p.1 + p.2 then p else aroundG x ps
/-- Places in a row, from cell 0 of block g on. -/
def PlRow (w : World) (g : Nat) (ps : List (Int × Int)) : Prop := g < w.heap.size ∧ ∀ j (h : j < ps.length), w.cell? ⟨g, j * 2, none⟩ = some (.int .i64 ps[j].1) ∧ w.cell? ⟨g, j * 2 + 1, none⟩ = some (.int .i64 ps[j].2)
theorem PlRow.below {w w' : World} {g : Nat} {ps : List (Int × Int)} (h : PlRow w g ps) (hb : Below w.heap.size w w') : PlRow w' g ps :=
  ⟨Nat.lt_of_lt_of_le h.1 hb.size, fun j hj => ⟨(hb.cell (p := ⟨g, j * 2, none⟩) h.1).trans (h.2 j hj).1, (hb.cell (p := ⟨g, j * 2 + 1, none⟩) h.1).trans (h.2 j hj).2⟩⟩
set_option maxHeartbeats 400000
def PlSl (ps : List (Int × Int)) (v : Value) (w : World) : Prop := ∃ g, v = .slice (some ⟨g, 0, none⟩) ps.length ps.length ∧ PlRow w g ps
theorem PlSl.mono {ps : List (Int × Int)} {v : Value} {a b : World} (h : PlSl ps v a) (g : Below a.heap.size a b) : PlSl ps v b := by
  obtain ⟨k, rfl, hp⟩ := h
  exact ⟨k, rfl, hp.below g⟩
theorem plrow5 (w : World) (E : TypeId) (a0 b0 a1 b1 a2 b2 a3 b3 a4 b4 : Int) : PlSl [(a0, b0), (a1, b1), (a2, b2), (a3, b3), (a4, b4)] (.slice (some ⟨w.heap.size, 0, none⟩) 5 5)
    (w.alloc (.cells #[.int .i64 a0, .int .i64 b0, .int .i64 a1, .int .i64 b1, .int .i64 a2, .int .i64 b2, .int .i64 a3, .int .i64 b3, .int .i64 a4, .int .i64 b4] E)) := by
  have hk := Bk.new w E #[.int .i64 a0, .int .i64 b0, .int .i64 a1, .int .i64 b1, .int .i64 a2, .int .i64 b2, .int .i64 a3, .int .i64 b3, .int .i64 a4, .int .i64 b4]
  refine ⟨_, rfl, hk.lt, fun j hj => ?_⟩
  have : j = 0 ∨ j = 1 ∨ j = 2 ∨ j = 3 ∨ j = 4 := by simp at hj; omega
  rcases this with rfl | rfl | rfl | rfl | rfl <;> exact ⟨hk.cell _, hk.cell _⟩
def allG (s l n : Int) : List (Int × Int) := [(0, 1), (1, 1), (2, l), (2 + l, oneG s n), (2 + l + oneG s n, oneG s n)]
end Go.Proofs.Ytjdifejnnkplaaa
