/- What a call leaves that only makes blocks of its own. No conditions. -/
import Derived.Test.YtdfhdgdhhgabbaaMem
namespace Go.Proofs.Ytdfhdgdhhgabbaa
set_option linter.unusedVariables false
set_option linter.unusedSimpArgs false
open Go.RowKit
theorem bdN {B : Nat} {a w : World} (h : Below B a w) (n : Nat) : Below B a (w.drewN n) := ⟨h.os, h.tape, h.output, h.size, h.block⟩
/-- A call that answers v; what was there ahead of it is as it was. -/
def RetP (v : Value) (w : World) (e : Ending) (w' : World) : Prop := e = .returned v ∧ Below w.heap.size w w'
theorem ret_b {a b : Bool} {w w' : World} (h : a = b) (hb : Below w.heap.size w w') : RetP (.bool b) w (.returned (.bool a)) w' := ⟨by rw [h], hb⟩
theorem ret_i {k : IntKind} {a b : Int} {w w' : World} (h : a = b) (hb : Below w.heap.size w w') : RetP (.int k b) w (.returned (.int k a)) w' := ⟨by rw [h], hb⟩
theorem ret_v {a b : Value} {w w' : World} (h : a = b) (hb : Below w.heap.size w w') : RetP b w (.returned a) w' := ⟨by rw [h], hb⟩
theorem tup_ue {a b : BitVec 64} {x y : Int} (h : a = b) (h2 : x = y) : Value.tuple #[.int .u64 (U64 a), .int .i64 x] = .tuple #[.int .u64 (U64 b), .int .i64 y] := by rw [h, h2]
theorem boxed {w w1 : World} {E : TypeId} {cs : Array Value} (hb : Below (w.alloc (.cells cs E)).heap.size (w.alloc (.cells cs E)) w1) : Bk w1 w.heap.size E cs ∧ Below w.heap.size w w1 :=
  ⟨(Bk.new w E cs).below hb (by simp), ((Below.refl _ _).alloc (Nat.le_refl _) _).trans (hb.mono (by simp))⟩
theorem boxed2 {w w1 : World} {E F : TypeId} {a b : Array Value} {k : Nat} (hb : Below (((w.alloc (.cells a E)).drewN k).alloc (.cells b F)).heap.size (((w.alloc (.cells a E)).drewN k).alloc (.cells b F)) w1) :
    Bk w1 w.heap.size E a ∧ Bk w1 (w.heap.size + 1) F b ∧ Below w.heap.size w w1 := by
  have h2 := Bk.new ((w.alloc (.cells a E)).drewN k) F b
  simp only [World.heap_drewN, World.size_alloc] at h2
  refine ⟨((((Bk.new w E a).drewN k).alloc _).below hb (by simp; omega)), h2.below hb (by simp), ?_⟩
  exact (bdN (Below.refl _ w |>.alloc (Nat.le_refl _) _) k |>.alloc (by simp) _).trans (hb.mono (by simp; omega))
theorem Bk.two {w : World} {g : Nat} {E : TypeId} {a b : Value} (h : Bk w g E #[a, b]) : w.cell? ⟨g, 0, none⟩ = some a ∧ w.cell? ⟨g, 1, none⟩ = some b := ⟨h.cell 0, h.cell 1⟩
theorem Bk.three {w : World} {g : Nat} {E : TypeId} {a b c : Value} (h : Bk w g E #[a, b, c]) : w.cell? ⟨g, 0, none⟩ = some a ∧ w.cell? ⟨g, 1, none⟩ = some b ∧ w.cell? ⟨g, 2, none⟩ = some c := ⟨h.cell 0, h.cell 1, h.cell 2⟩
theorem Bk.four {w : World} {g : Nat} {E : TypeId} {a b c d : Value} (h : Bk w g E #[a, b, c, d]) : w.cell? ⟨g, 0, none⟩ = some a ∧ w.cell? ⟨g, 1, none⟩ = some b ∧ w.cell? ⟨g, 2, none⟩ = some c ∧ w.cell? ⟨g, 3, none⟩ = some d := ⟨h.cell 0, h.cell 1, h.cell 2, h.cell 3⟩
end Go.Proofs.Ytdfhdgdhhgabbaa
