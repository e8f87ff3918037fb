/- What loamref5's Uint and Raw answer. Conditions: lengths. -/
import Derived.Test.YtoigahkgdanjnaaDecA
import Derived.Test.YtoigahkgdanjnaaStr
namespace Go.Proofs.Ytoigahkgdanjnaa
set_option linter.unusedVariables false
set_option linter.unusedSimpArgs false
open Go.RowKit
theorem val128 (x : BitVec 64) : bits .or .u64 (bits .and .u64 (U64 x) 127) 128 % 256 = U8 (x.setWidth 8 ||| 128#8) := by
  rw [show (127 : Int) = U64 127#64 from by decide +kernel, show (128 : Int) = U64 128#64 from by decide +kernel, andU64, orU64]
  have e : x.setWidth 8 ||| 128#8 = (x &&& 127#64 ||| 128#64).setWidth 8 := by
    apply BitVec.eq_of_getLsbD_eq
    intro i hi
    have : i = 0 ∨ i = 1 ∨ i = 2 ∨ i = 3 ∨ i = 4 ∨ i = 5 ∨ i = 6 ∨ i = 7 := by omega
    rcases this with rfl | rfl | rfl | rfl | rfl | rfl | rfl | rfl <;> simp
  rw [e]
  unfold U64 U8
  rw [BitVec.toNat_setWidth]
  omega
set_option maxHeartbeats 400000
set_option maxRecDepth 100000
theorem ref_uint (w : World) (x : BitVec 64) : Calls Try.prog 20 #[.int .u64 (U64 x)] w (MkP b8 5 (uintL x) w) := by
  go_enter Try.func20, Try.ntmps20
  go_wp2
  go_loopw [0, 3] (fun c o wr => ∃ (n : Nat) (pre : List (BitVec 8)) (cur : BitVec 64), c = .int .u64 (U64 cur) ∧ Hid (uintL x = pre ++ uintF n cur) ∧ Hid (cur.toNat < 2 ^ (7 * n + 1)) ∧ Hid (pre.length + n = 9) ∧ Ow b8 5 wr w.heap.size o pre ∧ Below w.heap.size w wr) (fun c _ _ => (intOf c).toNat)
  case atStart => exact ⟨9, [], x, rfl, Lib.hid rfl, Lib.hid (by have := x.isLt; omega), Lib.hid rfl, Ow.nil_ _ _ _ _, Below.refl _ _⟩
  case round =>
    obtain ⟨n, pre, cur, rfl, h1, h2, h3, ho, hB⟩ := hrel
    obtain ⟨A, m, c, rfl⟩ := ow_slice ho
    by_cases hc : cur.toNat < 128
    · have t1 : decide (128 ≤ U64 cur) = false := by unfold U64; simp; omega
      have hend : uintL x = pre ++ [cur.setWidth 8] := by rw [h1.out, uintF_small hc]
      have HE := Lib.hid hend
      have hlen : pre.length ≤ 9 := by have := h3.out; omega
      have hsz := hB.size
      have e0 := u64_u8m cur
      clear hend hc
      go_wp2_with (at_builtin; refine wp_app one8 b8_one rfl (.tmp 15) (.tmp 18) rfl w.heap.size _ pre rfl (ho.alloc _) (some ⟨wr.heap.size, 0, none⟩) 1 1 [cur.setWidth 8] rfl rfl (wr.heap.size + 1) (rd1_new (val_u8 e0)) (by simp; omega) (by decide) (by simp; omega) ?_; intro v4 w4 ho4 hb4 _ _)
      go_ret
      rw [HE.out]
      exact MkP.of ho4 ((hB.alloc hsz _).trans hb4)
    · have t1 : decide (128 ≤ U64 cur) = true := by unfold U64; simp; omega
      have e1 := val128 cur
      have e2 := shr7 cur
      obtain ⟨m', rfl⟩ : ∃ m, n = m + 1 := by
        cases n with
        | zero => have := h2.out; simp at this; omega
        | succ m => exact ⟨m, rfl⟩
      have HS : Hid (uintL x = (pre ++ [cur.setWidth 8 ||| 128#8]) ++ uintF m' (cur >>> 7)) := Lib.hid (by
        have e : uintF (m' + 1) cur = (cur.setWidth 8 ||| 128#8) :: uintF m' (cur >>> 7) := if_neg hc
        rw [h1.out, List.append_assoc, e]; rfl)
      have HB : Hid ((cur >>> 7).toNat < 2 ^ (7 * m' + 1)) := Lib.hid (by
        have := h2.out
        rw [BitVec.toNat_ushiftRight, Nat.shiftRight_eq_div_pow]
        rw [show 7 * (m' + 1) + 1 = (7 * m' + 1) + 7 from by omega, Nat.pow_add] at this
        exact Nat.div_lt_of_lt_mul (by omega))
      have HL : Hid ((pre ++ [cur.setWidth 8 ||| 128#8]).length + m' = 9) := Lib.hid (by have := h3.out; simp; omega)
      have HM : Hid ((U64 (cur >>> 7)).toNat < (U64 cur).toNat) := Lib.hid (by
        unfold U64
        rw [BitVec.toNat_ushiftRight, Nat.shiftRight_eq_div_pow]
        simp; omega)
      have hlen : pre.length ≤ 9 := by have := h3.out; omega
      have hsz := hB.size
      clear hc
      go_wp2_with (at_builtin; refine wp_app one8 b8_one rfl (.tmp 6) (.tmp 11) rfl w.heap.size _ pre rfl (ho.alloc _) (some ⟨wr.heap.size, 0, none⟩) 1 1 [cur.setWidth 8 ||| 128#8] rfl rfl (wr.heap.size + 1) (rd1_new rfl) (by simp; omega) (by decide) (by simp; omega) ?_; intro v4 w4 ho4 hb4 _ _)
      go_roundw
      case rel => exact ⟨m', pre ++ [cur.setWidth 8 ||| 128#8], cur >>> 7, rfl, HS, HB, HL, ho4, (hB.alloc hsz _).trans hb4⟩
      case measure => simp only [intOf]; exact HM.out
theorem ref_raw (w : World) (A : Option Addr) (c : Nat) (xs : List (BitVec 8)) (hr : Rd b8 w w.heap.size A xs) (hx : xs.length ≤ 536870912) : Calls Try.prog 21 #[.slice A xs.length c] w (MkP b8 5 (uintL (BitVec.ofNat 64 xs.length) ++ xs) w) := by
  have e0 : IntKind.u64.wrap (xs.length : Int) = U64 (BitVec.ofNat 64 xs.length) := by rw [wrapu64]; rfl
  have HU := Lib.hid (ref_uint w (BitVec.ofNat 64 xs.length))
  go_enter Try.func21, Try.ntmps21
  go_wp2_with fail
  refine Calls.mono HU.out ?_
  rintro e w1 ⟨A1, c1, rfl, hc1, ho, hb⟩
  have hul : (uintL (BitVec.ofNat 64 xs.length)).length ≤ 10 := uintF_len 9 (BitVec.ofNat 64 xs.length)
  have hsz := hb.size
  go_wp2_with (at_builtin; refine wp_app one8 b8_one rfl (.tmp 6) (.tmp 7) rfl w.heap.size _ (uintL (BitVec.ofNat 64 xs.length)) rfl ho A xs.length c xs rfl rfl w.heap.size (hr.below hb) (by omega) (by decide) hsz ?_; intro v4 w4 ho4 hb4 _ _)
  go_ret
  exact MkP.of ho4 (hb.trans hb4)
end Go.Proofs.Ytoigahkgdanjnaa
