/- loamref5's Zig and Zag: there and back. Conditions: a 64-bit number. -/
import Derived.Test.YteefcimepdbehaaCodC
namespace Go.Proofs.Yteefcimepdbehaa
set_option linter.unusedVariables false
set_option linter.unusedSimpArgs false
open Go.RowKit
theorem or1 (n : Nat) (h : n < 2 ^ 63) : bits .or .u64 ((2 * n : Nat) : Int) 1 = ((2 * n + 1 : Nat) : Int) := by
  have e : (2 * n) ||| 1 = 2 * n + 1 := (Nat.two_pow_add_eq_or_of_lt (i := 1) (b := 1) (by decide) n).symm
  show IntKind.u64.wrap ((BitVec.ofInt 64 ((2 * n : Nat) : Int) ||| BitVec.ofInt 64 1).toNat : Int) = _
  have e1 : BitVec.ofInt 64 ((2 * n : Nat) : Int) = BitVec.ofNat 64 (2 * n) := BitVec.ofInt_natCast ..
  rw [e1, show BitVec.ofInt 64 1 = BitVec.ofNat 64 1 from rfl, BitVec.toNat_or, BitVec.toNat_ofNat, BitVec.toNat_ofNat, Nat.mod_eq_of_lt (by omega), Nat.mod_eq_of_lt (by omega), e]
  simp [IntKind.wrap, IntKind.bits, IntKind.signed]; omega
theorem and1n (n : Nat) (h : n < 2 ^ 64) : bits .and .u64 (n : Int) 1 = ((n % 2 : Nat) : Int) := by
  show IntKind.u64.wrap ((BitVec.ofInt 64 (n : Int) &&& BitVec.ofInt 64 1).toNat : Int) = _
  have e1 : BitVec.ofInt 64 (n : Int) = BitVec.ofNat 64 n := BitVec.ofInt_natCast ..
  rw [e1, show BitVec.ofInt 64 1 = BitVec.ofNat 64 1 from rfl, BitVec.toNat_and, BitVec.toNat_ofNat, BitVec.toNat_ofNat, Nat.mod_eq_of_lt (by omega), Nat.mod_eq_of_lt (by omega), Nat.and_one_is_mod]
  simp [IntKind.wrap, IntKind.bits, IntKind.signed]; omega
set_option maxHeartbeats 400000
theorem zig_neg (w : World) (n : Nat) (h : n < 2 ^ 63) : Calls Try.prog 20 #[.int .i64 (-(n : Int) - 1)] w (RetP (.int .u64 ((2 * n + 1 : Nat) : Int)) w) := by
  have t1 : decide (-(n : Int) - 1 < 0) = true := by simp; omega
  have t2 : bits .or .u64 ((n : Int) * 2) 1 = ((2 * n + 1 : Nat) : Int) := by rw [← or1 n h]; congr 1; omega
  have b1 : (n : Int) ≤ 9223372036854775807 := by omega
  have b2 : (0 : Int) ≤ (n : Int) := by omega
  go_enter Try.func20, Try.ntmps20
  go_wp2_with fail
  go_ret
  refine ret_i ?_ (Below.refl _ _)
  first | omega | (simp only [IntKind.wrap, IntKind.bits, IntKind.signed]; simp; omega)
theorem zig_pos (w : World) (n : Nat) (h : n < 2 ^ 63) : Calls Try.prog 20 #[.int .i64 (n : Int)] w (RetP (.int .u64 ((2 * n : Nat) : Int)) w) := by
  have t1 : decide ((n : Int) < 0) = false := by simp
  have b1 : (n : Int) ≤ 9223372036854775807 := by omega
  have b2 : (0 : Int) ≤ (n : Int) := by omega
  go_enter Try.func20, Try.ntmps20
  go_wp2_with fail
  go_ret
  refine ret_i ?_ (Below.refl _ _)
  first | omega | (simp only [IntKind.wrap, IntKind.bits, IntKind.signed]; simp; omega)
theorem zag_odd (w : World) (n : Nat) (h : n < 2 ^ 63) : Calls Try.prog 34 #[.int .u64 ((2 * n + 1 : Nat) : Int)] w (RetP (.int .i64 (-(n : Int) - 1)) w) := by
  have t1 := and1n (2 * n + 1) (by omega)
  rw [show (((2 * n + 1) % 2 : Nat) : Int) = 1 from by omega] at t1
  have t2 : ((2 * n + 1 : Nat) : Int) / 2 = (n : Int) := by omega
  have b1 : (n : Int) ≤ 9223372036854775807 := by omega
  have b2 : (0 : Int) ≤ (n : Int) := by omega
  obtain ⟨m, hm⟩ : ∃ m, m = 2 * n + 1 := ⟨_, rfl⟩
  rw [← hm] at t1 t2 ⊢
  clear hm
  go_enter Try.func34, Try.ntmps34
  go_wp2_with fail
  go_ret
  refine ret_i ?_ (Below.refl _ _)
  first | omega | (simp only [IntKind.wrap, IntKind.bits, IntKind.signed]; simp; omega)
theorem zag_even (w : World) (n : Nat) (h : n < 2 ^ 63) : Calls Try.prog 34 #[.int .u64 ((2 * n : Nat) : Int)] w (RetP (.int .i64 (n : Int)) w) := by
  have t1 := and1n (2 * n) (by omega)
  rw [show (((2 * n) % 2 : Nat) : Int) = 0 from by omega] at t1
  have t2 : ((2 * n : Nat) : Int) / 2 = (n : Int) := by omega
  have b1 : (n : Int) ≤ 9223372036854775807 := by omega
  have b2 : (0 : Int) ≤ (n : Int) := by omega
  obtain ⟨m, hm⟩ : ∃ m, m = 2 * n := ⟨_, rfl⟩
  rw [← hm] at t1 t2 ⊢
  clear hm
  go_enter Try.func34, Try.ntmps34
  go_wp2_with fail
  go_ret
  refine ret_i ?_ (Below.refl _ _)
  first | omega | (simp only [IntKind.wrap, IntKind.bits, IntKind.signed]; simp; omega)
end Go.Proofs.Yteefcimepdbehaa
