/- What crc.Right answers. Conditions: at most 2^30 bytes. -/
import Derived.Test.YtjdifejnnkplaaaCrcB
import Derived.Deep.RegionHeld3
namespace Go.Proofs.Ytjdifejnnkplaaa
set_option linter.unusedVariables false
set_option linter.unusedSimpArgs false
open Go.RowKit
def right4 (xs : List (BitVec 8)) (y0 y1 y2 y3 : BitVec 8) : Bool := (addC (0#32) xs).setWidth 8 == y0 && (((addC (0#32) xs) >>> 8).setWidth 8 == y1 && (((addC (0#32) xs) >>> 16).setWidth 8 == y2 && ((addC (0#32) xs) >>> 24).setWidth 8 == y3))
theorem spot_add (a : Addr) (n j : Nat) (h : j ≠ 0) : (⟨(a.add n).block, (a.add n).off + j, none⟩ : Addr) = a.add (n + j) := by
  unfold Addr.add; by_cases k : n = 0 <;> simp [h, k, Nat.add_assoc]
theorem heldC {xs : List (BitVec 8)} {y0 y1 y2 y3 : BitVec 8} {ad : Addr} {w W1 w2 : World} (h : W1.cell? (ad.add xs.length) = some (.int .u8 (U8 y0)) ∧ W1.cell? ⟨(ad.add xs.length).block, (ad.add xs.length).off + 1, none⟩ = some (.int .u8 (U8 y1)) ∧ W1.cell? ⟨(ad.add xs.length).block, (ad.add xs.length).off + 2, none⟩ = some (.int .u8 (U8 y2)) ∧ W1.cell? ⟨(ad.add xs.length).block, (ad.add xs.length).off + 3, none⟩ = some (.int .u8 (U8 y3)) ∧ Rd b8 W1 w.heap.size (some ad) xs ∧ ad.block < w.heap.size ∧ w.heap.size ≤ W1.heap.size ∧ Below w.heap.size w W1) (hb : Below W1.heap.size W1 w2) : w2.cell? (ad.add xs.length) = some (.int .u8 (U8 y0)) ∧ w2.cell? ⟨(ad.add xs.length).block, (ad.add xs.length).off + 1, none⟩ = some (.int .u8 (U8 y1)) ∧ w2.cell? ⟨(ad.add xs.length).block, (ad.add xs.length).off + 2, none⟩ = some (.int .u8 (U8 y2)) ∧ w2.cell? ⟨(ad.add xs.length).block, (ad.add xs.length).off + 3, none⟩ = some (.int .u8 (U8 y3)) ∧ Rd b8 w2 w.heap.size (some ad) xs ∧ ad.block < w.heap.size ∧ w.heap.size ≤ w2.heap.size ∧ Below w.heap.size w w2 := by
  obtain ⟨a0, a1, a2, a3, h4, h5, h6, h7⟩ := h
  exact ⟨(hb.cell (p := ad.add xs.length) (by rw [add_block]; omega)).trans a0, (hb.cell (p := ⟨(ad.add xs.length).block, (ad.add xs.length).off + 1, none⟩) (by show (ad.add xs.length).block < _; rw [add_block]; omega)).trans a1, (hb.cell (p := ⟨(ad.add xs.length).block, (ad.add xs.length).off + 2, none⟩) (by show (ad.add xs.length).block < _; rw [add_block]; omega)).trans a2, (hb.cell (p := ⟨(ad.add xs.length).block, (ad.add xs.length).off + 3, none⟩) (by show (ad.add xs.length).block < _; rw [add_block]; omega)).trans a3,
    h4.below (hb.mono h6), h5, Nat.le_trans h6 hb.size, h7.trans (hb.mono h6)⟩
theorem heldR {xs : List (BitVec 8)} {y0 y1 y2 y3 : BitVec 8} {ad : Addr} {w W1 : World} (h : W1.cell? (ad.add xs.length) = some (.int .u8 (U8 y0)) ∧ W1.cell? ⟨(ad.add xs.length).block, (ad.add xs.length).off + 1, none⟩ = some (.int .u8 (U8 y1)) ∧ W1.cell? ⟨(ad.add xs.length).block, (ad.add xs.length).off + 2, none⟩ = some (.int .u8 (U8 y2)) ∧ W1.cell? ⟨(ad.add xs.length).block, (ad.add xs.length).off + 3, none⟩ = some (.int .u8 (U8 y3)) ∧ Rd b8 W1 w.heap.size (some ad) xs ∧ ad.block < w.heap.size ∧ w.heap.size ≤ W1.heap.size ∧ Below w.heap.size w W1) : Rd b8 W1 W1.heap.size (some ad) xs := h.2.2.2.2.1.more h.2.2.2.2.2.2.1
attribute [local go_sem] beqU8
theorem eq4 (a0 a1 a2 a3 y0 y1 y2 y3 : BitVec 8) (W : World) : (Op.equalIn 10000 64 (.agg #[.int .u8 (U8 a0), .int .u8 (U8 a1), .int .u8 (U8 a2), .int .u8 (U8 a3)]) (.agg #[.int .u8 (U8 y0), .int .u8 (U8 y1), .int .u8 (U8 y2), .int .u8 (U8 y3)])).run Try.prog W = .ok (a0 == y0 && (a1 == y1 && (a2 == y2 && a3 == y3))) W := by
  have u3 := Try.underlying5
  have ia := Try.isAgg5
  have z3 := Try.sizeOf5
  rw [show (10000 : Nat) = 9999 + 1 from rfl, Op.equalIn]
  simp only [Sem.run_bind, run_underlying Try.underlying64, Result.andThen_ok]
  simp only [Std.Legacy.Range.forIn_eq_forIn_range', Std.Legacy.Range.size, Nat.sub_zero, Nat.add_sub_cancel, Nat.div_one, List.range'_succ, List.range'_zero, List.forIn_cons, List.forIn_nil]
  go_simp
  by_cases h1 : a0 = y0 <;> by_cases h2 : a1 = y1 <;> by_cases h3 : a2 = y2 <;> by_cases h4 : a3 = y3 <;> simp [h1, h2, h3, h4, beqU8]
set_option maxHeartbeats 800000
set_option maxRecDepth 100000
theorem right_c (xs : List (BitVec 8)) (y0 y1 y2 y3 : BitVec 8) (A : Option Addr) (c : Nat) (w : World) (hr : Rd b8 w w.heap.size A (xs ++ [y0, y1, y2, y3])) (hcap : xs.length + 4 ≤ c) (hl : xs.length ≤ 1073741824) :
    Calls Try.prog 23 #[.slice A (xs.length + 4) c] w (RetP (.bool (right4 xs y0 y1 y2 y3)) w) := by
  obtain ⟨ad, rfl, hbl, hcell⟩ := hr.addr (by simp)
  have q0 : w.cell? (ad.add xs.length) = some (.int .u8 (U8 y0)) := by rw [hcell xs.length (by simp)]; simp [b8]
  have q1 : w.cell? ⟨(ad.add xs.length).block, (ad.add xs.length).off + 1, none⟩ = some (.int .u8 (U8 y1)) := by rw [spot_add _ _ _ (by decide), hcell _ (by simp)]; simp [b8]
  have q2 : w.cell? ⟨(ad.add xs.length).block, (ad.add xs.length).off + 2, none⟩ = some (.int .u8 (U8 y2)) := by rw [spot_add _ _ _ (by decide), hcell _ (by simp)]; simp [b8]
  have q3 : w.cell? ⟨(ad.add xs.length).block, (ad.add xs.length).off + 3, none⟩ = some (.int .u8 (U8 y3)) := by rw [spot_add _ _ _ (by decide), hcell _ (by simp)]; simp [b8]
  have hxs : Rd b8 w w.heap.size (some ad) xs := by
    have := hr.take xs.length
    simpa using this
  clear hcell hr
  go_enter Try.func23, Try.ntmps23
  go_wp2_with fail
  have hS : w.cell? (ad.add xs.length) = some (.int .u8 (U8 y0)) ∧ w.cell? ⟨(ad.add xs.length).block, (ad.add xs.length).off + 1, none⟩ = some (.int .u8 (U8 y1)) ∧ w.cell? ⟨(ad.add xs.length).block, (ad.add xs.length).off + 2, none⟩ = some (.int .u8 (U8 y2)) ∧ w.cell? ⟨(ad.add xs.length).block, (ad.add xs.length).off + 3, none⟩ = some (.int .u8 (U8 y3)) ∧ Rd b8 w w.heap.size (some ad) xs ∧ ad.block < w.heap.size ∧ w.heap.size ≤ w.heap.size ∧ Below w.heap.size w w := ⟨q0, q1, q2, q3, hxs, hbl, Nat.le_refl _, Below.refl _ _⟩
  clear q0 q1 q2 q3
  have hcx : ¬ c = xs.length := by omega
  have hc1 : (xs.length : Int) ≤ (c : Int) := by omega
  have hc2 : (0 : Int) ≤ (xs.length : Int) := by omega
  have hc4 : (xs.length : Int) ≤ (xs.length : Int) + 4 := by omega
  have hc3 : (xs.length : Int) ≤ ((xs.length + 4 : Nat) : Int) := by omega
  have harr : ∀ W : World, (Instr.arrayAt 64 (.slice (some (ad.add xs.length)) 4 (c - xs.length))).run Try.prog W = .ok (.pointer (some (ad.add xs.length))) W := fun W => run_arrayAt W _ _ 4 _ _ _ Try.underlying64 (by decide)
  have hq : ∀ W : World, (Op.equalIn 10000 64 (.agg #[.int .u8 (U8 ((addC (0#32) xs).setWidth 8)), .int .u8 (U8 ((addC (0#32) xs >>> 8).setWidth 8)), .int .u8 (U8 ((addC (0#32) xs >>> 16).setWidth 8)), .int .u8 (U8 ((addC (0#32) xs >>> 24).setWidth 8))]) (.agg #[.int .u8 (U8 y0), .int .u8 (U8 y1), .int .u8 (U8 y2), .int .u8 (U8 y3)])).run Try.prog W = .ok (right4 xs y0 y1 y2 y3) W := fun W => eq4 _ _ _ _ _ _ _ _ W
  go_region_held3 (fun w' => w'.cell? (ad.add xs.length) = some (.int .u8 (U8 y0)) ∧ w'.cell? ⟨(ad.add xs.length).block, (ad.add xs.length).off + 1, none⟩ = some (.int .u8 (U8 y1)) ∧ w'.cell? ⟨(ad.add xs.length).block, (ad.add xs.length).off + 2, none⟩ = some (.int .u8 (U8 y2)) ∧ w'.cell? ⟨(ad.add xs.length).block, (ad.add xs.length).off + 3, none⟩ = some (.int .u8 (U8 y3)) ∧ Rd b8 w' w.heap.size (some ad) xs ∧ ad.block < w.heap.size ∧ w.heap.size ≤ w'.heap.size ∧ Below w.heap.size w w')
    (first
      | assumption
      | exact heldC hS (Below.drew (Below.refl _ _))
      | exact heldC hS (Below.drew (Below.alloc (Below.refl _ _) (Nat.le_refl _) _))
      | (refine heldC ?_ hb5; assumption)
      | (refine heldC ?_ (Below.alloc (Below.refl _ _) (Nat.le_refl _) _); assumption)
      | go_keep)
    (first
      | (go_at_call 32; refine (sum1_c xs (some ad) c w.heap.size _ 29 (Bk.drew (Bk.new w _ _)) (heldR (heldC hS (Below.drew (Below.alloc (Below.refl _ _) (Nat.le_refl _) _)))) (by omega)).mono ?_; rintro e w5 ⟨rfl, hb5⟩)
      | (go_at_call 31; refine (tail_c _ _).mono ?_; rintro e w5 ⟨rfl, hb5⟩))
  all_goals
    go_wp2_with fail
    go_ret
    have hH : w5.cell? (ad.add xs.length) = some (.int .u8 (U8 y0)) ∧ w5.cell? ⟨(ad.add xs.length).block, (ad.add xs.length).off + 1, none⟩ = some (.int .u8 (U8 y1)) ∧ w5.cell? ⟨(ad.add xs.length).block, (ad.add xs.length).off + 2, none⟩ = some (.int .u8 (U8 y2)) ∧ w5.cell? ⟨(ad.add xs.length).block, (ad.add xs.length).off + 3, none⟩ = some (.int .u8 (U8 y3)) ∧ Rd b8 w5 w.heap.size (some ad) xs ∧ ad.block < w.heap.size ∧ w.heap.size ≤ w5.heap.size ∧ Below w.heap.size w w5 := by assumption
    exact ⟨rfl, hH.2.2.2.2.2.2.2⟩
end Go.Proofs.Ytjdifejnnkplaaa
