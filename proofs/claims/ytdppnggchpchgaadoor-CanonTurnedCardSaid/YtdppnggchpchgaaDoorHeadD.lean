/- What Unpack and its twin in loamref14 answer. No conditions. -/
import Derived.Test.YtdppnggchpchgaaDoorHeadC
namespace Go.Proofs.YtdppnggchpchgaaDoor
set_option linter.unusedVariables false
set_option linter.unusedSimpArgs false
open Go.RowKit
def unP (x : BitVec 64) : Int := if okU x then fP x else 0
def unB (x : BitVec 64) : Int := if okU x then fB x else 0
def unM' (x : BitVec 64) : Bool := if okU x then fM x else false
def unT (x : BitVec 64) : Int := if okU x then fT x else 0
def unE (x : BitVec 64) : Int := if okU x then 0 else 2
def unV (x : BitVec 64) : Value := .tuple #[.agg #[.int .i64 (unP x), .int .i64 (unB x), .bool (unM' x), .int .i64 (unT x)], .int .i64 (unE x)]
attribute [local go_sem] and1 beqU64
theorem bit0_ne (x : BitVec 64) : (U64 (x &&& 1#64) != 0) = x.getLsbD 0 := by
  have h : (U64 (x &&& 1#64) == 1) = x.getLsbD 0 := by
    have := bit_one x 0
    rwa [BitVec.ushiftRight_zero] at this
  have h2 : U64 (x &&& 1#64) = 0 ∨ U64 (x &&& 1#64) = 1 := by
    unfold U64
    rw [BitVec.toNat_and, show (1#64).toNat = 2 ^ 1 - 1 from rfl, Nat.and_two_pow_sub_one_eq_mod]
    omega
  rw [← h]
  rcases h2 with e | e <;> rw [e] <;> rfl
theorem okU_no {x : BitVec 64} (h : okU x = false) : rightH (fP x) (fB x) (fM x) (fT x) = false ∨ (rightH (fP x) (fB x) (fM x) (fT x) = true ∧ (packH (fP x) (fB x) (fM x) (fT x) == x) = false) := by
  unfold okU at h
  cases h2 : rightH (fP x) (fB x) (fM x) (fT x)
  · exact .inl rfl
  · rw [h2] at h; exact .inr ⟨rfl, by simpa using h⟩
theorem okU_yes {x : BitVec 64} (h : okU x = true) : rightH (fP x) (fB x) (fM x) (fT x) = true ∧ (packH (fP x) (fB x) (fM x) (fT x) == x) = true := by
  unfold okU at h
  rwa [Bool.and_eq_true] at h
theorem unV_yes {x : BitVec 64} (h : okU x = true) : unV x = .tuple #[.agg #[.int .i64 (fP x), .int .i64 (fB x), .bool (fM x), .int .i64 (fT x)], .int .i64 0] := by
  unfold unV unP unB unM' unT unE; simp [h]
theorem unV_no {x : BitVec 64} (h : okU x = false) : unV x = .tuple #[.agg #[.int .i64 0, .int .i64 0, .bool false, .int .i64 0], .int .i64 2] := by
  unfold unV unP unB unM' unT unE; simp [h]
theorem ret_cells {v v' : Value} {w w' : World} (h : v = v') (hb : Below w.heap.size w w') : RetP v' w (.returned v) w' := ⟨by rw [h], hb⟩
set_option maxHeartbeats 400000
end Go.Proofs.YtdppnggchpchgaaDoor
