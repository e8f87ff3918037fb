/- What the functions of package bits and their twins in loamref1 that only reckon answer, each for every argument. No conditions. -/
import Derived.Test.YtdfhdgdhhgabbaaChecked
import Derived.Test.YtdfhdgdhhgabbaaNum
import Derived.KernelRfl
import Derived.BigQuiet
import Derived.Outline
import Derived.Lib.Hide
namespace Go.Proofs.Ytdfhdgdhhgabbaa
set_option linter.unusedVariables false
set_option linter.unusedSimpArgs false
open Go.RowKit


def wB (at_ n : Int) : Bool := decide (0 ≤ at_ ∧ at_ ≤ 63 ∧ 1 ≤ n ∧ n ≤ 64 ∧ at_ + n ≤ 64)
def lowB (n : Int) : BitVec 64 := BitVec.allOnes 64 >>> (64 - n).toNat
def fieldB (x : BitVec 64) (at_ n : Int) : BitVec 64 := if wB at_ n then (x >>> at_.toNat) &&& lowB n else 0
def withB (x : BitVec 64) (at_ n : Int) (v : BitVec 64) : BitVec 64 := if wB at_ n then (x &&& ~~~(lowB n <<< at_.toNat)) ||| ((v &&& lowB n) <<< at_.toNat) else x
def turnB (x : BitVec 64) (k : Int) : BitVec 64 := (x <<< (k % 64).toNat) ||| (x >>> (64 - k % 64).toNat)
def signV (x : BitVec 64) (n : Int) : BitVec 64 := (x <<< (64 - n).toNat).sshiftRight (64 - n).toNat
def signB (x : BitVec 64) (n : Int) : BitVec 64 := if 1 ≤ n ∧ n ≤ 64 then signV x n else 0

theorem U64_ones : (18446744073709551615 : Int) = U64 (BitVec.allOnes 64) := by decide +kernel
theorem lowB_nat (n : Int) (h1 : 1 ≤ n) (h2 : n ≤ 64) : (lowB n).toNat = 2 ^ n.toNat - 1 := by
  have h : ∀ k : Fin 65, (BitVec.allOnes 64 >>> (64 - k.val)).toNat = 2 ^ k.val - 1 := by decide +kernel
  have := h ⟨n.toNat, by omega⟩
  unfold lowB
  rw [show (64 - n).toNat = 64 - n.toNat from by omega]
  exact this
theorem mask_lowB (n : Int) (h1 : 1 ≤ n) (h2 : n < 64) : IntKind.u64.wrap (IntKind.u64.wrap (2 ^ n.toNat) - 1) = U64 (lowB n) := by
  have h : ∀ k : Fin 64, (BitVec.ofNat 64 (2 ^ k.val) - 1) = BitVec.allOnes 64 >>> (64 - k.val) := by decide +kernel
  have h3 := h ⟨n.toNat, by omega⟩
  simp only at h3
  rw [wrapu64 (2 ^ n.toNat), show (1 : Int) = U64 1 from by decide +kernel, subU64]
  congr 1
  unfold lowB
  rw [show (64 - n).toNat = 64 - n.toNat from by omega, ← h3]
  rfl
theorem lowB_bit (n : Int) (h1 : 1 ≤ n) (h2 : n ≤ 64) (i : Nat) : (lowB n).getLsbD i = decide (i < n.toNat) := by
  unfold lowB
  simp only [BitVec.getLsbD_ushiftRight, BitVec.getLsbD_allOnes]
  congr 1
  simp; omega

theorem and63 (x : Int) : bits .and .u64 x 63 = x % 64 := by
  show IntKind.u64.wrap ((BitVec.ofInt 64 x &&& BitVec.ofInt 64 63).toNat : Int) = _
  rw [wrapu64, BitVec.ofInt_natCast, BitVec.ofNat_toNat, BitVec.setWidth_eq]
  unfold U64
  rw [BitVec.toNat_and, BitVec.toNat_ofInt, show (BitVec.ofInt 64 63).toNat = 2 ^ 6 - 1 from by decide +kernel, Nat.and_two_pow_sub_one_eq_mod]
  omega

attribute [local go_sem] shlU64 shrU64 andU64 orU64 andNotU64 addU64 subU64 and63

set_option maxHeartbeats 400000
theorem wB_out {at_ n : Int} (h : wB at_ n = true) : 0 ≤ at_ ∧ at_ ≤ 63 ∧ 1 ≤ n ∧ n ≤ 64 ∧ at_ + n ≤ 64 := by simpa [wB] using h
theorem sub_and_or (w m v : BitVec 64) : w - (w &&& m) + (v &&& m) = (w &&& ~~~m) ||| (v &&& m) := by
  have h1 : w - (w &&& m) = w &&& ~~~m := by
    have h : w = (w &&& m) + (w &&& ~~~m) := by
      rw [BitVec.add_eq_or_of_and_eq_zero]
      · apply BitVec.eq_of_getLsbD_eq; intro i hi; simp; cases w.getLsbD i <;> cases m.getLsbD i <;> simp [hi]
      · apply BitVec.eq_of_getLsbD_eq; intro i hi; simp; cases w.getLsbD i <;> cases m.getLsbD i <;> simp [hi]
    conv => lhs; lhs; rw [h]
    rw [BitVec.add_comm, BitVec.add_sub_cancel]
  rw [h1, BitVec.add_eq_or_of_and_eq_zero]
  apply BitVec.eq_of_getLsbD_eq; intro i hi; simp; cases w.getLsbD i <;> cases m.getLsbD i <;> simp [hi]
theorem tmod_64 (k : Int) : IntKind.u64.wrap ((wrap64 (k.tmod 64 + 64)).tmod 64) = k % 64 := by
  have h1 : k.tmod 64 = k - 64 * (k.tdiv 64) := by have := Int.tmod_add_mul_tdiv k 64; omega
  have h2 := Int.tmod_lt_of_pos k (show (0 : Int) < 64 by decide)
  have h3 : -64 < k.tmod 64 := by
    have := Int.lt_tmod_of_pos k (show (0 : Int) < 64 by decide)
    omega
  have h4 : wrap64 (k.tmod 64 + 64) = k.tmod 64 + 64 := by unfold wrap64; omega
  rw [h4, Int.tmod_eq_emod_of_nonneg (by omega)]
  simp [IntKind.wrap, IntKind.bits, IntKind.signed]
  omega
theorem signB_val (x : BitVec 64) (n : Int) (h1 : 1 ≤ n) (h2 : n ≤ 64) : I64 (x <<< (64 - n).toNat) / 2 ^ (64 - n).toNat = I64 (signB x n) := by
  rw [sarI64]; unfold signB; rw [if_pos ⟨h1, h2⟩]; rfl
attribute [local go_sem] u64_i64 i64_u64
theorem signV_bit (x : BitVec 64) (n : Int) (h1 : 1 ≤ n) (h2 : n ≤ 64) (i : Nat) (hi : i < 64) : (signV x n).getLsbD i = x.getLsbD (min i (n.toNat - 1)) := by
  unfold signV
  rw [BitVec.getLsbD_sshiftRight]
  simp only [BitVec.msb_eq_getLsbD_last, BitVec.getLsbD_shiftLeft]
  have a2 : ¬ 64 ≤ i := by omega
  by_cases h : (64 - n).toNat + i < 64
  · have a1 : ¬ (64 - n).toNat + i < (64 - n).toNat := by omega
    rw [if_pos h, show (64 - n).toNat + i - (64 - n).toNat = i from by omega, show min i (n.toNat - 1) = i from by omega]
    simp only [h, a1, a2, decide_true, decide_false, Bool.not_false, Bool.true_and]
  · have a1 : ¬ 64 - 1 < (64 - n).toNat := by omega
    rw [if_neg h, show min i (n.toNat - 1) = 64 - 1 - (64 - n).toNat from by omega]
    simp only [a1, a2, decide_false, Bool.not_false, Bool.true_and, show (64 - 1 < 64) from by decide, decide_true]
theorem ones_sub (y : BitVec 64) : BitVec.allOnes 64 - y = ~~~y := by
  apply BitVec.eq_of_toNat_eq
  have := y.isLt
  rw [BitVec.toNat_sub, BitVec.toNat_not, BitVec.toNat_allOnes]
  omega
theorem and1 (x : BitVec 64) : bits .and .u64 (U64 x) 1 = U64 (x &&& 1) := by
  rw [show (1 : Int) = U64 1 from by decide +kernel, andU64]
theorem bit_one (x : BitVec 64) (k : Nat) : (U64 (x >>> k &&& 1#64) == 1) = x.getLsbD k := by
  rw [show (1 : Int) = U64 1 from by decide +kernel, beqU64, Bool.eq_iff_iff, beq_iff_eq]
  constructor
  · intro h
    have := congrArg (fun y : BitVec 64 => y.getLsbD 0) h
    simpa using this
  · intro h
    apply BitVec.eq_of_getLsbD_eq
    intro i hi
    rcases i with _ | i
    · simpa using h
    · simp
attribute [local go_sem] and1
theorem low64 : lowB 64 = BitVec.allOnes 64 := by decide +kernel
end Go.Proofs.Ytdfhdgdhhgabbaa
