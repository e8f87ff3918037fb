/- What crc.Right answers. Conditions: at most 2^30 bytes. -/
import Derived.Test.YtfodefgihicafaaDoorCrcB
import Derived.Deep.RegionHeld3
namespace Go.Proofs.YtfodefgihicafaaDoor
set_option linter.unusedVariables false
set_option linter.unusedSimpArgs false
open Go.RowKit
def right4 (xs : List (BitVec 8)) (y0 y1 y2 y3 : BitVec 8) : Bool := (addC (0#32) xs).setWidth 8 == y0 && (((addC (0#32) xs) >>> 8).setWidth 8 == y1 && (((addC (0#32) xs) >>> 16).setWidth 8 == y2 && ((addC (0#32) xs) >>> 24).setWidth 8 == y3))
theorem spot_add (a : Addr) (n j : Nat) (h : j ≠ 0) : (⟨(a.add n).block, (a.add n).off + j, none⟩ : Addr) = a.add (n + j) := by
  unfold Addr.add; by_cases k : n = 0 <;> simp [h, k, Nat.add_assoc]
theorem heldC {xs : List (BitVec 8)} {y0 y1 y2 y3 : BitVec 8} {ad : Addr} {w W1 w2 : World} (h : W1.cell? (ad.add xs.length) = some (.int .u8 (U8 y0)) ∧ W1.cell? ⟨(ad.add xs.length).block, (ad.add xs.length).off + 1, none⟩ = some (.int .u8 (U8 y1)) ∧ W1.cell? ⟨(ad.add xs.length).block, (ad.add xs.length).off + 2, none⟩ = some (.int .u8 (U8 y2)) ∧ W1.cell? ⟨(ad.add xs.length).block, (ad.add xs.length).off + 3, none⟩ = some (.int .u8 (U8 y3)) ∧ Rd b8 W1 w.heap.size (some ad) xs ∧ ad.block < w.heap.size ∧ w.heap.size ≤ W1.heap.size ∧ Below w.heap.size w W1) (hb : Below W1.heap.size W1 w2) : w2.cell? (ad.add xs.length) = some (.int .u8 (U8 y0)) ∧ w2.cell? ⟨(ad.add xs.length).block, (ad.add xs.length).off + 1, none⟩ = some (.int .u8 (U8 y1)) ∧ w2.cell? ⟨(ad.add xs.length).block, (ad.add xs.length).off + 2, none⟩ = some (.int .u8 (U8 y2)) ∧ w2.cell? ⟨(ad.add xs.length).block, (ad.add xs.length).off + 3, none⟩ = some (.int .u8 (U8 y3)) ∧ Rd b8 w2 w.heap.size (some ad) xs ∧ ad.block < w.heap.size ∧ w.heap.size ≤ w2.heap.size ∧ Below w.heap.size w w2 := by
  obtain ⟨a0, a1, a2, a3, h4, h5, h6, h7⟩ := h
  exact ⟨(hb.cell (p := ad.add xs.length) (by rw [add_block]; omega)).trans a0, (hb.cell (p := ⟨(ad.add xs.length).block, (ad.add xs.length).off + 1, none⟩) (by show (ad.add xs.length).block < _; rw [add_block]; omega)).trans a1, (hb.cell (p := ⟨(ad.add xs.length).block, (ad.add xs.length).off + 2, none⟩) (by show (ad.add xs.length).block < _; rw [add_block]; omega)).trans a2, (hb.cell (p := ⟨(ad.add xs.length).block, (ad.add xs.length).off + 3, none⟩) (by show (ad.add xs.length).block < _; rw [add_block]; omega)).trans a3,
    h4.below (hb.mono h6), h5, Nat.le_trans h6 hb.size, h7.trans (hb.mono h6)⟩
theorem heldR {xs : List (BitVec 8)} {y0 y1 y2 y3 : BitVec 8} {ad : Addr} {w W1 : World} (h : W1.cell? (ad.add xs.length) = some (.int .u8 (U8 y0)) ∧ W1.cell? ⟨(ad.add xs.length).block, (ad.add xs.length).off + 1, none⟩ = some (.int .u8 (U8 y1)) ∧ W1.cell? ⟨(ad.add xs.length).block, (ad.add xs.length).off + 2, none⟩ = some (.int .u8 (U8 y2)) ∧ W1.cell? ⟨(ad.add xs.length).block, (ad.add xs.length).off + 3, none⟩ = some (.int .u8 (U8 y3)) ∧ Rd b8 W1 w.heap.size (some ad) xs ∧ ad.block < w.heap.size ∧ w.heap.size ≤ W1.heap.size ∧ Below w.heap.size w W1) : Rd b8 W1 W1.heap.size (some ad) xs := h.2.2.2.2.1.more h.2.2.2.2.2.2.1
attribute [local go_sem] beqU8
set_option maxHeartbeats 800000
set_option maxRecDepth 100000
end Go.Proofs.YtfodefgihicafaaDoor
