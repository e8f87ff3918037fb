/- What the twins of package head in loamref14 answer, and sizes. No conditions. -/
import Derived.Test.YtfodefgihicafaaDoorHeadA
namespace Go.Proofs.YtfodefgihicafaaDoor
set_option linter.unusedVariables false
set_option linter.unusedSimpArgs false
open Go.RowKit
theorem small_bit (t : Int) (k : Nat) (h1 : 0 ≤ t) (h2 : t < 2 ^ k) (j : Nat) (hj : k ≤ j) : (BitVec.ofInt 64 t).getLsbD j = false := by
  obtain ⟨n, rfl⟩ := Int.eq_ofNat_of_zero_le h1
  have h3 : n < 2 ^ k := by exact_mod_cast h2
  rcases Nat.lt_or_ge j 64 with hj2 | hj2
  · rw [BitVec.ofInt_natCast, BitVec.getLsbD_ofNat]
    rw [Nat.testBit_lt_two_pow (Nat.lt_of_lt_of_le h3 (Nat.pow_le_pow_right (by decide) hj))]
    simp
  · exact BitVec.getLsbD_of_ge _ _ hj2
theorem mark_bit (i : Nat) : markB.getLsbD i = decide (i = 63) := by
  rcases Nat.lt_or_ge i 64 with h | h
  · have : ∀ k : Fin 64, markB.getLsbD k.val = decide (k.val = 63) := by decide +kernel
    exact this ⟨i, h⟩
  · rw [BitVec.getLsbD_of_ge _ _ h]; simp; omega
theorem one_bit (i : Nat) : (1#64).getLsbD i = decide (i = 0) := by
  rcases Nat.lt_or_ge i 64 with h | h
  · have : ∀ k : Fin 64, (1#64).getLsbD k.val = decide (k.val = 0) := by decide +kernel
    exact this ⟨i, h⟩
  · rw [BitVec.getLsbD_of_ge _ _ h]; simp; omega
theorem packM (t : Int) (h1 : 0 ≤ t) (h2 : t < 8192) : (markB ||| 1#64) + (BitVec.ofInt 64 t <<< 32) = withB (markB ||| 1#64) 32 16 (BitVec.ofInt 64 t) := by
  have hw : wB 32 16 = true := by decide
  rw [BitVec.add_eq_or_of_and_eq_zero]
  · apply BitVec.eq_of_getLsbD_eq
    intro i hi
    rw [with_bit _ _ _ _ hw _ hi, BitVec.getLsbD_or, BitVec.getLsbD_or, mark_bit, one_bit, BitVec.getLsbD_shiftLeft]
    by_cases a : 32 ≤ i ∧ i < 48
    · rw [if_pos (by omega)]
      have b1 : ¬ i = 63 := by omega
      have b2 : ¬ i = 0 := by omega
      have b3 : ¬ i < 32 := by omega
      simp [hi, b1, b2, b3]
    · rw [if_neg (by omega)]
      by_cases c : i < 32
      · simp [hi, c]
      · rw [small_bit t 13 h1 (by omega) (i - 32) (by omega)]; simp
  · apply BitVec.eq_of_getLsbD_eq
    intro i hi
    rw [BitVec.getLsbD_and, BitVec.getLsbD_or, mark_bit, one_bit, BitVec.getLsbD_shiftLeft, BitVec.getLsbD_zero]
    by_cases c : i < 32
    · simp [hi, c]
    · by_cases d : i = 63
      · rw [small_bit t 13 h1 (by omega) (i - 32) (by omega)]; simp
      · have e : ¬ i = 0 := by omega
        simp [d, e]
theorem packN (p b : Int) (h1 : 0 ≤ p) (h2 : p ≤ 64) (h3 : 0 ≤ b) (h4 : b ≤ 1024) : markB + (BitVec.ofInt 64 p <<< 1) + (BitVec.ofInt 64 b <<< 16) = withB (withB markB 1 8 (BitVec.ofInt 64 p)) 16 12 (BitVec.ofInt 64 b) := by
  have hw : wB 1 8 = true := by decide
  have hw2 : wB 16 12 = true := by decide
  have e1 : markB + (BitVec.ofInt 64 p <<< 1) = markB ||| (BitVec.ofInt 64 p <<< 1) := by
    apply BitVec.add_eq_or_of_and_eq_zero
    apply BitVec.eq_of_getLsbD_eq
    intro i hi
    rw [BitVec.getLsbD_and, mark_bit, BitVec.getLsbD_shiftLeft, BitVec.getLsbD_zero]
    by_cases d : i = 63
    · rw [small_bit p 7 h1 (by omega) (i - 1) (by omega)]; simp
    · simp [d]
  rw [e1, BitVec.add_eq_or_of_and_eq_zero]
  · apply BitVec.eq_of_getLsbD_eq
    intro i hi
    rw [with_bit _ _ _ _ hw2 _ hi, with_bit _ _ _ _ hw _ hi, BitVec.getLsbD_or, BitVec.getLsbD_or, mark_bit, BitVec.getLsbD_shiftLeft, BitVec.getLsbD_shiftLeft]
    by_cases a : 16 ≤ i
    · have b3 : ¬ i < 16 := by omega
      have b4 : ¬ i < 1 := by omega
      rw [small_bit p 7 h1 (by omega) (i - 1) (by omega)]
      by_cases c : i < 28
      · rw [if_pos (by omega)]
        have b1 : ¬ i = 63 := by omega
        simp [hi, b1, b3]
      · rw [if_neg (by omega), if_neg (by omega), small_bit b 11 h3 (by omega) (i - 16) (by omega)]
        simp
    · rw [if_neg (by omega)]
      have b1 : ¬ i = 63 := by omega
      have b3 : i < 16 := by omega
      by_cases c : 1 ≤ i ∧ i < 9
      · rw [if_pos (by omega)]
        have b4 : ¬ i < 1 := by omega
        simp [hi, b1, b3, b4]
      · rw [if_neg (by omega)]
        by_cases d : i < 1
        · simp [b1, b3, d]
        · rw [small_bit p 7 h1 (by omega) (i - 1) (by omega)]; simp [b1, b3]
  · apply BitVec.eq_of_getLsbD_eq
    intro i hi
    rw [BitVec.getLsbD_and, BitVec.getLsbD_or, mark_bit, BitVec.getLsbD_shiftLeft, BitVec.getLsbD_shiftLeft, BitVec.getLsbD_zero]
    by_cases a : i < 16
    · simp [a]
    · rw [small_bit p 7 h1 (by omega) (i - 1) (by omega)]
      by_cases d : i = 63
      · rw [small_bit b 11 h3 (by omega) (i - 16) (by omega)]; simp
      · simp [d]
def sizeH (p b : Int) (m : Bool) (t : Int) : Int := if rightH p b m t = true ∧ m = false then 1 + p + (b + 7) / 8 else 0
theorem mark_1 : BitVec.ofInt 64 9223372036854775809 = markB ||| 1#64 := by decide +kernel
theorem mark_0 : BitVec.ofInt 64 9223372036854775808 = markB := by decide +kernel
theorem sumM (t : Int) (h1 : 0 ≤ t) (h2 : t < 8192) : (9223372036854775809 : Int) + t * (4294967296 : Int) = U64 ((markB ||| 1#64) + (BitVec.ofInt 64 t <<< 32)) := by
  rw [← mark_1, show BitVec.ofInt 64 t <<< 32 = BitVec.ofInt 64 (t * 2 ^ 32) from (ofInt_mul_pow _ _ _).symm, ← BitVec.ofInt_add]
  exact U64_of (by omega) (by omega)
theorem sumN (p b : Int) (h1 : 0 ≤ p) (h2 : p ≤ 64) (h3 : 0 ≤ b) (h4 : b ≤ 1024) : (9223372036854775808 : Int) + p * (2 : Int) + b * (65536 : Int) = U64 (markB + (BitVec.ofInt 64 p <<< 1) + (BitVec.ofInt 64 b <<< 16)) := by
  rw [← mark_0, show BitVec.ofInt 64 p <<< 1 = BitVec.ofInt 64 (p * 2 ^ 1) from (ofInt_mul_pow _ _ _).symm, show BitVec.ofInt 64 b <<< 16 = BitVec.ofInt 64 (b * 2 ^ 16) from (ofInt_mul_pow _ _ _).symm, ← BitVec.ofInt_add, ← BitVec.ofInt_add]
  exact U64_of (by omega) (by omega)
theorem tup_ue' {a b : Int} {y : Int} (h : a = b) : Value.tuple #[.int .u64 a, .int .i64 y] = .tuple #[.int .u64 b, .int .i64 y] := by rw [h]
set_option maxHeartbeats 400000
theorem rpack_c (p b : Int) (m : Bool) (t : Int) (w : World) : Calls Tryd.prog 71 #[.agg #[.int .i64 p, .int .i64 b, .bool m, .int .i64 t]] w (RetP (.tuple #[.int .u64 (U64 (packH p b m t)), .int .i64 (errH p b m t)]) w) := by
  by_cases h : rightH p b m t = true
  · have e1 : errH p b m t = 0 := if_pos h
    rw [e1]
    clear e1
    cases m
    · have hr := rightH_out h
      simp only [Bool.false_eq_true, false_and, true_and, false_or] at hr
      obtain ⟨h0, h1, h2, h3, h4⟩ := hr
      have e2 : packH p b false t = withB (withB markB 1 8 (BitVec.ofInt 64 p)) 16 12 (BitVec.ofInt 64 b) := if_pos h
      rw [e2, ← packN p b h1 h2 h3 h4]
      have H0 := Lib.hid h0
      clear e2 h0
      go_enter Tryd.func71, Tryd.ntmps71
      go_wp2_with (go_at_call 78; refine (rright_c _ _ _ _ _).mono ?_; rintro e w1 ⟨rfl, hb1⟩; obtain ⟨hk, hB⟩ := boxed hb1; clear hb1; obtain ⟨hc0, hc1, hc2, hc3⟩ := hk.four; clear hk)
      go_ret2
      refine ret_v (tup_ue' ?_) (by repeat (first | with_reducible assumption | with_reducible exact Below.refl _ _ | with_reducible apply bdN | with_reducible apply Below.drew | with_reducible refine Below.alloc ?_ (by simp) _ | with_reducible refine Below.setCell ?_ (by simp) _))
      exact sumN p b h1 h2 h3 h4
    · have hr := rightH_out h
      simp only [Bool.true_eq_false, false_and, true_and, or_false] at hr
      obtain ⟨h0, h00, h1, h2⟩ := hr
      have e2 : packH p b true t = withB (markB ||| 1#64) 32 16 (BitVec.ofInt 64 t) := if_pos h
      rw [e2, ← packM t h1 h2]
      have H0 := Lib.hid (And.intro h0 h00)
      clear e2 h0 h00
      go_enter Tryd.func71, Tryd.ntmps71
      go_wp2_with (go_at_call 78; refine (rright_c _ _ _ _ _).mono ?_; rintro e w1 ⟨rfl, hb1⟩; obtain ⟨hk, hB⟩ := boxed hb1; clear hb1; obtain ⟨hc0, hc1, hc2, hc3⟩ := hk.four; clear hk)
      go_ret2
      refine ret_v (tup_ue' ?_) (by repeat (first | with_reducible assumption | with_reducible exact Below.refl _ _ | with_reducible apply bdN | with_reducible apply Below.drew | with_reducible refine Below.alloc ?_ (by simp) _ | with_reducible refine Below.setCell ?_ (by simp) _))
      exact sumM t h1 h2
  · have h' : rightH p b m t = false := by simpa using h
    have e1 : errH p b m t = 1 := if_neg h
    have e2 : packH p b m t = 0 := if_neg h
    rw [e1, e2]
    clear e1 e2 h
    go_enter Tryd.func71, Tryd.ntmps71
    go_wp2_with (go_at_call 78; refine (rright_c _ _ _ _ _).mono ?_; rintro e w1 ⟨rfl, hb1⟩; obtain ⟨hk, hB⟩ := boxed hb1; clear hb1; obtain ⟨hc0, hc1, hc2, hc3⟩ := hk.four; clear hk)
    go_ret2
    exact ret_v rfl (by repeat (first | with_reducible assumption | with_reducible exact Below.refl _ _ | with_reducible apply bdN | with_reducible apply Below.drew | with_reducible refine Below.alloc ?_ (by simp) _ | with_reducible refine Below.setCell ?_ (by simp) _))
theorem size_c (p b : Int) (m : Bool) (t : Int) (w : World) : Calls Tryd.prog 60 #[.agg #[.int .i64 p, .int .i64 b, .bool m, .int .i64 t]] w (RetP (.int .i64 (sizeH p b m t)) w) := by
  by_cases h : rightH p b m t = true
  · cases m
    · have hr := rightH_out h
      simp only [Bool.false_eq_true, false_and, true_and, false_or] at hr
      obtain ⟨h0, h1, h2, h3, h4⟩ := hr
      have e2 : sizeH p b false t = 1 + p + (b + 7) / 8 := if_pos ⟨h, rfl⟩
      rw [e2]
      have H0 := Lib.hid h0
      clear e2 h0
      go_enter Tryd.func60, Tryd.ntmps60
      go_wp2_with (go_at_call 76; refine (right_c _ _ _ _ _).mono ?_; rintro e w1 ⟨rfl, hb1⟩; obtain ⟨hk, hB⟩ := boxed hb1; clear hb1; obtain ⟨hc0, hc1, hc2, hc3⟩ := hk.four; clear hk)
      go_ret
      refine ret_i ?_ (by repeat (first | with_reducible assumption | with_reducible exact Below.refl _ _ | with_reducible apply bdN | with_reducible apply Below.drew | with_reducible refine Below.alloc ?_ (by simp) _ | with_reducible refine Below.setCell ?_ (by simp) _))
      omega
    · have e2 : sizeH p b true t = 0 := if_neg (by simp)
      rw [e2]
      clear e2
      go_enter Tryd.func60, Tryd.ntmps60
      go_wp2_with (go_at_call 76; refine (right_c _ _ _ _ _).mono ?_; rintro e w1 ⟨rfl, hb1⟩; obtain ⟨hk, hB⟩ := boxed hb1; clear hb1; obtain ⟨hc0, hc1, hc2, hc3⟩ := hk.four; clear hk)
      go_ret
      exact ret_i rfl (by repeat (first | with_reducible assumption | with_reducible exact Below.refl _ _ | with_reducible apply bdN | with_reducible apply Below.drew | with_reducible refine Below.alloc ?_ (by simp) _ | with_reducible refine Below.setCell ?_ (by simp) _))
  · have h' : rightH p b m t = false := by simpa using h
    have e2 : sizeH p b m t = 0 := if_neg (fun h2 => h h2.1)
    rw [e2]
    clear e2 h
    go_enter Tryd.func60, Tryd.ntmps60
    go_wp2_with (go_at_call 76; refine (right_c _ _ _ _ _).mono ?_; rintro e w1 ⟨rfl, hb1⟩; obtain ⟨hk, hB⟩ := boxed hb1; clear hb1; obtain ⟨hc0, hc1, hc2, hc3⟩ := hk.four; clear hk)
    go_ret
    exact ret_i rfl (by repeat (first | with_reducible assumption | with_reducible exact Below.refl _ _ | with_reducible apply bdN | with_reducible apply Below.drew | with_reducible refine Below.alloc ?_ (by simp) _ | with_reducible refine Below.setCell ?_ (by simp) _))
theorem rsize_c (p b : Int) (m : Bool) (t : Int) (w : World) : Calls Tryd.prog 65 #[.agg #[.int .i64 p, .int .i64 b, .bool m, .int .i64 t]] w (RetP (.int .i64 (sizeH p b m t)) w) := by
  by_cases h : rightH p b m t = true
  · cases m
    · have hr := rightH_out h
      simp only [Bool.false_eq_true, false_and, true_and, false_or] at hr
      obtain ⟨h0, h1, h2, h3, h4⟩ := hr
      have e2 : sizeH p b false t = 1 + p + (b + 7) / 8 := if_pos ⟨h, rfl⟩
      rw [e2]
      have H0 := Lib.hid h0
      clear e2 h0
      go_enter Tryd.func65, Tryd.ntmps65
      go_wp2_with (go_at_call 78; refine (rright_c _ _ _ _ _).mono ?_; rintro e w1 ⟨rfl, hb1⟩; obtain ⟨hk, hB⟩ := boxed hb1; clear hb1; obtain ⟨hc0, hc1, hc2, hc3⟩ := hk.four; clear hk)
      go_ret
      refine ret_i ?_ (by repeat (first | with_reducible assumption | with_reducible exact Below.refl _ _ | with_reducible apply bdN | with_reducible apply Below.drew | with_reducible refine Below.alloc ?_ (by simp) _ | with_reducible refine Below.setCell ?_ (by simp) _))
      omega
    · have e2 : sizeH p b true t = 0 := if_neg (by simp)
      rw [e2]
      clear e2
      go_enter Tryd.func65, Tryd.ntmps65
      go_wp2_with (go_at_call 78; refine (rright_c _ _ _ _ _).mono ?_; rintro e w1 ⟨rfl, hb1⟩; obtain ⟨hk, hB⟩ := boxed hb1; clear hb1; obtain ⟨hc0, hc1, hc2, hc3⟩ := hk.four; clear hk)
      go_ret
      exact ret_i rfl (by repeat (first | with_reducible assumption | with_reducible exact Below.refl _ _ | with_reducible apply bdN | with_reducible apply Below.drew | with_reducible refine Below.alloc ?_ (by simp) _ | with_reducible refine Below.setCell ?_ (by simp) _))
  · have h' : rightH p b m t = false := by simpa using h
    have e2 : sizeH p b m t = 0 := if_neg (fun h2 => h h2.1)
    rw [e2]
    clear e2 h
    go_enter Tryd.func65, Tryd.ntmps65
    go_wp2_with (go_at_call 78; refine (rright_c _ _ _ _ _).mono ?_; rintro e w1 ⟨rfl, hb1⟩; obtain ⟨hk, hB⟩ := boxed hb1; clear hb1; obtain ⟨hc0, hc1, hc2, hc3⟩ := hk.four; clear hk)
    go_ret
    exact ret_i rfl (by repeat (first | with_reducible assumption | with_reducible exact Below.refl _ _ | with_reducible apply bdN | with_reducible apply Below.drew | with_reducible refine Below.alloc ?_ (by simp) _ | with_reducible refine Below.setCell ?_ (by simp) _))
end Go.Proofs.YtfodefgihicafaaDoor
