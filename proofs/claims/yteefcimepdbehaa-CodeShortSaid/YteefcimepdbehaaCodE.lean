/- A reader with an error answers nought. -/
import Derived.Test.YteefcimepdbehaaCodC
namespace Go.Proofs.Yteefcimepdbehaa
set_option linter.unusedVariables false
set_option linter.unusedSimpArgs false
open Go.RowKit
set_option maxHeartbeats 400000
theorem dec_uint_err (w : World) (g : Nat) (bs : List (BitVec 8)) (h : DecAt w g bs 3) :
    Calls Try.prog 27 #[.pointer (some ⟨g, 0, none⟩)] w fun e w' => e = .returned (.int .u64 0) ∧ w' = w := by
  obtain ⟨A, c, hk, hc, hr, ha⟩ := h.ex
  obtain ⟨c1, c2⟩ := hk.two
  clear ha
  go_enter Try.func27, Try.ntmps27
  go_wp2_with fail
  go_ret
  exact ⟨rfl, rfl⟩
theorem dec_int_err (w : World) (g : Nat) (bs : List (BitVec 8)) (h : DecAt w g bs 3) :
    Calls Try.prog 28 #[.pointer (some ⟨g, 0, none⟩)] w fun e w' => e = .returned (.int .i64 0) ∧ w' = w := by
  have HU := Lib.hid (dec_uint_err w g bs h)
  have b1 : bits .and .u64 0 1 = 0 := by decide +kernel
  have b2 : bits .xor .i64 0 0 = 0 := by decide +kernel
  go_enter Try.func28, Try.ntmps28
  go_wp2_with fail
  refine Calls.mono HU.out ?_
  rintro e w1 ⟨rfl, rfl⟩
  go_wp2_with fail
  go_ret
  first | exact ⟨rfl, rfl⟩ | exact ⟨by decide +kernel, rfl⟩
theorem dec_uint_short (w : World) (g : Nat) (x : BitVec 64) (m : Nat) (hm : m < (uintL x).length) (h : DecAt w g ((uintL x).take m) 0) :
    Calls Try.prog 27 #[.pointer (some ⟨g, 0, none⟩)] w fun e w' => e = .returned (.int .u64 0) ∧ DecAt w' g [] 3 ∧ Only w w' g := by
  have hu : (uintL x).length ≤ 10 := uintF_len 9 _
  have k := dec_uint w g _ h (by simp only [List.length_take]; omega)
  rw [dec_uint_cut x m hm] at k
  exact k
theorem uintF_one {j : Nat} {cur : BitVec 64} (h : cur.toNat < 128) : (uintF j cur).length = 1 := by rw [uintF_small h]; rfl
theorem uintF_more {j : Nat} {cur : BitVec 64} (h : ¬ cur.toNat < 128) (hj : cur.toNat < 2 ^ (7 * j + 1)) : ∃ i, j = i + 1 ∧ (uintF j cur).length = (uintF i (cur >>> 7)).length + 1 ∧ (cur >>> 7).toNat < 2 ^ (7 * i + 1) := by
  cases j with
  | zero => exfalso; simp at hj; omega
  | succ i =>
    refine ⟨i, rfl, ?_, ?_⟩
    · have e : uintF (i + 1) cur = (cur.setWidth 8 ||| 128#8) :: uintF i (cur >>> 7) := if_neg h
      rw [e]; rfl
    · rw [BitVec.toNat_ushiftRight, Nat.shiftRight_eq_div_pow, Nat.div_lt_iff_lt_mul (by decide), ← Nat.pow_add]
      have : 7 * i + 1 + 7 = 7 * (i + 1) + 1 := by omega
      rw [this]
      exact hj
theorem uintF_pos (j : Nat) (cur : BitVec 64) : 1 ≤ (uintF j cur).length := by
  cases j with
  | zero => exact Nat.le_refl _
  | succ i =>
    by_cases h : cur.toNat < 128
    · rw [uintF_one h]; exact Nat.le_refl _
    · have e : uintF (i + 1) cur = (cur.setWidth 8 ||| 128#8) :: uintF i (cur >>> 7) := if_neg h
      rw [e, List.length_cons]; omega
end Go.Proofs.Yteefcimepdbehaa
