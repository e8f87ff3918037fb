/- Facts on fields, turns and signs of words, bit by bit. No conditions. -/
import Derived.Test.YtfodefgihicafaaDoorBitsA
namespace Go.Proofs.YtfodefgihicafaaDoor
set_option linter.unusedVariables false
set_option linter.unusedSimpArgs false
theorem field_bit (x : BitVec 64) (at_ n : Int) (h : wB at_ n = true) (i : Nat) : (fieldB x at_ n).getLsbD i = (x.getLsbD (at_.toNat + i) && decide (i < n.toNat)) := by
  obtain ⟨h1, h2, h3, h4, h5⟩ := wB_out h
  unfold fieldB
  rw [if_pos h, BitVec.getLsbD_and, lowB_bit n h3 h4, BitVec.getLsbD_ushiftRight]
theorem with_bit (x : BitVec 64) (at_ n : Int) (v : BitVec 64) (h : wB at_ n = true) (i : Nat) (hi : i < 64) :
    (withB x at_ n v).getLsbD i = if at_.toNat ≤ i ∧ i < at_.toNat + n.toNat then v.getLsbD (i - at_.toNat) else x.getLsbD i := by
  obtain ⟨h1, h2, h3, h4, h5⟩ := wB_out h
  unfold withB
  rw [if_pos h, BitVec.getLsbD_or, BitVec.getLsbD_and, BitVec.getLsbD_not, BitVec.getLsbD_shiftLeft, BitVec.getLsbD_shiftLeft, BitVec.getLsbD_and, lowB_bit n h3 h4]
  by_cases a : at_.toNat ≤ i
  · by_cases b : i < at_.toNat + n.toNat
    · have c : ¬ i < at_.toNat := by omega
      have d : i - at_.toNat < n.toNat := by omega
      simp [hi, a, b, c, d]
    · have c : ¬ i < at_.toNat := by omega
      have d : ¬ i - at_.toNat < n.toNat := by omega
      simp [hi, b, c, d]
  · have c : i < at_.toNat := by omega
    simp [hi, a, c]
theorem field_with (x : BitVec 64) (at_ n : Int) (v : BitVec 64) (h : wB at_ n = true) : fieldB (withB x at_ n v) at_ n = fieldB v 0 n := by
  obtain ⟨h1, h2, h3, h4, h5⟩ := wB_out h
  have h0 : wB 0 n = true := by unfold wB; rw [decide_eq_true_eq]; omega
  apply BitVec.eq_of_getLsbD_eq
  intro i hi
  rw [field_bit _ _ _ h, field_bit _ _ _ h0]
  by_cases hn : i < n.toNat
  · rw [with_bit _ _ _ _ h _ (by omega), if_pos (by omega)]
    simp [show at_.toNat + i - at_.toNat = i from by omega]
  · simp [hn]
theorem with_field (x : BitVec 64) (at_ n : Int) (v : BitVec 64) (h : wB at_ n = true) : withB (withB x at_ n v) at_ n (fieldB x at_ n) = x := by
  obtain ⟨h1, h2, h3, h4, h5⟩ := wB_out h
  apply BitVec.eq_of_getLsbD_eq
  intro i hi
  rw [with_bit _ _ _ _ h _ hi, with_bit _ _ _ _ h _ hi, field_bit _ _ _ h]
  by_cases a : at_.toNat ≤ i ∧ i < at_.toNat + n.toNat
  · have d : i - at_.toNat < n.toNat := by omega
    rw [if_pos a, show at_.toNat + (i - at_.toNat) = i from by omega]; simp [d]
  · rw [if_neg a, if_neg a]
theorem turn_bit (x : BitVec 64) (k : Int) (i : Nat) (hi : i < 64) : (turnB x k).getLsbD i = x.getLsbD (((i : Int) - k) % 64).toNat := by
  unfold turnB
  rw [BitVec.getLsbD_or, BitVec.getLsbD_shiftLeft, BitVec.getLsbD_ushiftRight]
  by_cases a : i < (k % 64).toNat
  · rw [show ((i : Int) - k) % 64 = i + (64 - k % 64) from by omega, show ((i : Int) + (64 - k % 64)).toNat = (64 - k % 64).toNat + i from by omega]
    simp [hi, a]
  · rw [show ((i : Int) - k) % 64 = i - (k % 64) from by omega, show ((i : Int) - (k % 64)).toNat = i - (k % 64).toNat from by omega]
    have b : x.getLsbD ((64 - k % 64).toNat + i) = false := by apply BitVec.getLsbD_of_ge; omega
    simp [hi, a, b]
theorem turn_turn (x : BitVec 64) (a b : Int) : turnB (turnB x a) b = turnB x (a + b) := by
  apply BitVec.eq_of_getLsbD_eq
  intro i hi
  rw [turn_bit _ _ _ hi, turn_bit _ _ _ (by omega), turn_bit _ _ _ hi]
  congr 1
  omega
theorem turn_whole (x : BitVec 64) (k : Int) (h : k % 64 = 0) : turnB x k = x := by
  apply BitVec.eq_of_getLsbD_eq
  intro i hi
  rw [turn_bit _ _ _ hi]
  congr 1
  omega
theorem signB_in (x : BitVec 64) (n : Int) (h1 : 1 ≤ n) (h2 : n ≤ 64) (i : Nat) (hi : i < 64) : (signB x n).getLsbD i = x.getLsbD (min i (n.toNat - 1)) := by
  unfold signB; rw [if_pos ⟨h1, h2⟩, signV_bit x n h1 h2 i hi]
theorem signB_signB (x : BitVec 64) (a b : Int) (h1 : 1 ≤ b) (h2 : b ≤ a) (h3 : a ≤ 64) : signB (signB x a) b = signB x b := by
  apply BitVec.eq_of_getLsbD_eq
  intro i hi
  rw [signB_in _ _ h1 (by omega) _ hi, signB_in _ _ (by omega) h3 _ (by omega), signB_in _ _ h1 (by omega) _ hi]
  congr 1
  omega
theorem signB_fits (x : BitVec 64) (a b : Int) (h1 : 1 ≤ b) (h2 : b ≤ a) (h3 : a ≤ 64) (h : signB x b = x) : signB x a = x := by
  rw [← h]
  apply BitVec.eq_of_getLsbD_eq
  intro i hi
  rw [signB_in _ _ (by omega) h3 _ hi, signB_in _ _ h1 (by omega) _ (by omega), signB_in _ _ h1 (by omega) _ hi]
  congr 1
  omega
theorem signB_64 (x : BitVec 64) : signB x 64 = x := by
  apply BitVec.eq_of_getLsbD_eq
  intro i hi
  rw [signB_in _ _ (by decide) (by decide) _ hi]
  congr 1
  omega
theorem signB_out (x : BitVec 64) (n : Int) (h : ¬ (1 ≤ n ∧ n ≤ 64)) : signB x n = 0 := if_neg h
theorem signB_range (x : BitVec 64) (n : Int) (h1 : 1 ≤ n) (h2 : n ≤ 63) : -(2 ^ (n - 1).toNat) ≤ I64 (signB x n) ∧ I64 (signB x n) < 2 ^ (n - 1).toNat := by
  rw [← signB_val x n h1 (by omega)]
  have hlo := I64_lo (x <<< (64 - n).toNat)
  have hhi := I64_hi (x <<< (64 - n).toNat)
  have e : (2 : Int) ^ (n - 1).toNat * 2 ^ (64 - n).toNat = 9223372036854775808 := by
    rw [← Int.pow_add, show (n - 1).toNat + (64 - n).toNat = 63 from by omega]; decide
  have hp : (0 : Int) < 2 ^ (64 - n).toNat := Int.pow_pos (by decide)
  constructor
  · apply Int.le_ediv_of_mul_le hp
    rw [Int.neg_mul, e]; exact hlo
  · apply Int.ediv_lt_of_lt_mul hp
    rw [e]; omega
theorem merge_with (w : BitVec 64) (c : Int) (h1 : 1 ≤ c) (h2 : c ≤ 63) : withB (fieldB w 0 c) c (64 - c) (fieldB w c (64 - c)) = w := by
  have a1 : wB 0 c = true := by unfold wB; rw [decide_eq_true_eq]; omega
  have a2 : wB c (64 - c) = true := by unfold wB; rw [decide_eq_true_eq]; omega
  apply BitVec.eq_of_getLsbD_eq
  intro i hi
  rw [with_bit _ _ _ _ a2 _ hi, field_bit _ _ _ a1, field_bit _ _ _ a2]
  by_cases b : i < c.toNat
  · rw [if_neg (by omega)]; simp [b]
  · have d : i - c.toNat < (64 - c).toNat := by omega
    rw [if_pos (by omega), show c.toNat + (i - c.toNat) = i from by omega]; simp [d]
theorem merge_or (w : BitVec 64) (c : Int) (h1 : 1 ≤ c) (h2 : c ≤ 63) : fieldB w 0 c ||| (fieldB w c (64 - c) <<< c.toNat) = w := by
  have a1 : wB 0 c = true := by unfold wB; rw [decide_eq_true_eq]; omega
  have a2 : wB c (64 - c) = true := by unfold wB; rw [decide_eq_true_eq]; omega
  apply BitVec.eq_of_getLsbD_eq
  intro i hi
  rw [BitVec.getLsbD_or, BitVec.getLsbD_shiftLeft, field_bit _ _ _ a1, field_bit _ _ _ a2]
  by_cases b : i < c.toNat
  · simp [b, hi]
  · have d : i - c.toNat < (64 - c).toNat := by omega
    rw [show c.toNat + (i - c.toNat) = i from by omega]; simp [b, d, hi]
theorem merge_turn (w : BitVec 64) (c : Int) (h1 : 1 ≤ c) (h2 : c ≤ 63) : turnB w (64 - c) = fieldB w c (64 - c) ||| (fieldB w 0 c <<< (64 - c).toNat) := by
  have a1 : wB 0 c = true := by unfold wB; rw [decide_eq_true_eq]; omega
  have a2 : wB c (64 - c) = true := by unfold wB; rw [decide_eq_true_eq]; omega
  apply BitVec.eq_of_getLsbD_eq
  intro i hi
  rw [turn_bit _ _ _ hi, BitVec.getLsbD_or, BitVec.getLsbD_shiftLeft, field_bit _ _ _ a1, field_bit _ _ _ a2]
  by_cases b : i < (64 - c).toNat
  · rw [show (((i : Int) - (64 - c)) % 64).toNat = c.toNat + i from by omega]; simp [b]
  · have d : i - (64 - c).toNat < c.toNat := by omega
    rw [show (((i : Int) - (64 - c)) % 64).toNat = i - (64 - c).toNat from by omega]; simp [b, d, hi]
end Go.Proofs.YtfodefgihicafaaDoor
