/- What loamlaw2.known answers: true. No conditions. -/
import Derived.Test.YtfodefgihicafaaDoorCrcC
import Derived.Lib.SmallJoins
namespace Go.Proofs.YtfodefgihicafaaDoor
set_option linter.unusedVariables false
set_option linter.unusedSimpArgs false
open Go.RowKit
def l1234 : List (BitVec 8) := [49, 50, 51, 52]
def l5 : List (BitVec 8) := [53, 54, 55, 56, 57]
def lx : List (BitVec 8) := [120]
def labc : List (BitVec 8) := [97, 98, 99]
/-- Block g has the cells cs, whatever of it is frozen. -/
def Fk (w : World) (g : Nat) (E : TypeId) (cs : Array Value) : Prop := ∃ fr, w.heap[g]? = some (.cells cs E fr)
section
variable {W W' : World} {g B : Nat} {E : TypeId} {cs : Array Value}
theorem fk_at {fr : Nat × Nat} (h : g = W.heap.size) : Fk (W.alloc (.cells cs E fr)) g E cs := h ▸ ⟨fr, heap_alloc_new W _⟩
theorem Fk.lt (h : Fk W g E cs) : g < W.heap.size := by
  obtain ⟨fr, h⟩ := h
  rcases Nat.lt_or_ge g W.heap.size with hl | hl
  · exact hl
  · rw [Array.getElem?_eq_none hl] at h; cases h
theorem Fk.alloc (h : Fk W g E cs) (o : Obj) : Fk (W.alloc o) g E cs := ⟨h.choose, (Below.heap_alloc W o g h.lt).trans h.choose_spec⟩
theorem Fk.drew (h : Fk W g E cs) : Fk W.drew g E cs := h
theorem Fk.drewN (h : Fk W g E cs) (n : Nat) : Fk (W.drewN n) g E cs := h
theorem Fk.below (h : Fk W g E cs) (hb : Below B W W') (hg : g < B) : Fk W' g E cs := ⟨h.choose, (hb.block g hg).trans h.choose_spec⟩
theorem Fk.rd {α : Type} {f : α → Value} {xs : List α} (h : Fk W g E cs) (e : cs = (xs.map f).toArray) (hB : g < B) : Rd f W B (some ⟨g, 0, none⟩) xs := fun j hj => by
  refine ⟨_, rfl, hB, ?_⟩
  have e2 : ((⟨g, 0, none⟩ : Addr).add j) = ⟨g, j, none⟩ := by unfold Addr.add; split <;> simp_all
  rw [e2, Joins.cell_of_block h.choose_spec, e]
  simp [hj]
end
theorem kc_at (w : World) (C : Array Value) (n c g : Nat) (hg : g = w.heap.size) : (convert 30 30 (.slice (some ⟨g, 0, none⟩) n c)).run Tryd.prog (w.alloc (.cells C 5)) = .ok (.slice (some ⟨g, 0, none⟩) n c) (w.alloc (.cells C 5 (C.size, C.size + 1))) :=
  Joins.run_convert_bytes_const_at w 30 5 C n c g hg Tryd.underlying30 Tryd.underlying5
attribute [local go_sem] kc_at
theorem skA {w W : World} (h : Below w.heap.size w W ∧ w.heap.size ≤ W.heap.size) (o : Obj) : Below w.heap.size w (W.alloc o) ∧ w.heap.size ≤ (W.alloc o).heap.size := ⟨h.1.alloc h.2 o, by simp; omega⟩
theorem skD {w W : World} (h : Below w.heap.size w W ∧ w.heap.size ≤ W.heap.size) : Below w.heap.size w W.drew ∧ w.heap.size ≤ W.drew.heap.size := ⟨h.1.drew, h.2⟩
theorem skB {w W W' : World} (h : Below w.heap.size w W ∧ w.heap.size ≤ W.heap.size) (hb : Below W.heap.size W W') : Below w.heap.size w W' ∧ w.heap.size ≤ W'.heap.size := ⟨h.1.trans (hb.mono h.2), Nat.le_trans h.2 hb.size⟩
theorem right4_seal (xs : List (BitVec 8)) : right4 xs ((addC 0 xs).setWidth 8) ((addC 0 xs >>> 8).setWidth 8) ((addC 0 xs >>> 16).setWidth 8) ((addC 0 xs >>> 24).setWidth 8) = true := by simp [right4]
set_option maxHeartbeats 800000
set_option maxRecDepth 100000
end Go.Proofs.YtfodefgihicafaaDoor
