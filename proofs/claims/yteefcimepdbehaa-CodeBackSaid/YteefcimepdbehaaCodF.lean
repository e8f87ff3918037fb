/- What loamref5's Uint, Raw, Words and Zig answer. Conditions: lengths. -/
import Derived.Test.YteefcimepdbehaaCodD
namespace Go.Proofs.Yteefcimepdbehaa
set_option linter.unusedVariables false
set_option linter.unusedSimpArgs false
open Go.RowKit
theorem val128 (x : BitVec 64) : bits .or .u64 (bits .and .u64 (U64 x) 127) 128 % 256 = U8 (x.setWidth 8 ||| 128#8) := by
  rw [show (127 : Int) = U64 127#64 from by decide +kernel, show (128 : Int) = U64 128#64 from by decide +kernel, andU64, orU64]
  have e : x.setWidth 8 ||| 128#8 = (x &&& 127#64 ||| 128#64).setWidth 8 := by
    apply BitVec.eq_of_getLsbD_eq
    intro i hi
    have : i = 0 ∨ i = 1 ∨ i = 2 ∨ i = 3 ∨ i = 4 ∨ i = 5 ∨ i = 6 ∨ i = 7 := by omega
    rcases this with rfl | rfl | rfl | rfl | rfl | rfl | rfl | rfl <;> simp
  rw [e]
  unfold U64 U8
  rw [BitVec.toNat_setWidth]
  omega
set_option maxHeartbeats 400000
set_option maxRecDepth 100000
theorem ref_uint (w : World) (x : BitVec 64) : Calls Try.prog 18 #[.int .u64 (U64 x)] w (MkP b8 5 (uintL x) w) := by
  go_enter Try.func18, Try.ntmps18
  go_wp2
  go_loopw [0, 3] (fun c o wr => ∃ (n : Nat) (pre : List (BitVec 8)) (cur : BitVec 64), c = .int .u64 (U64 cur) ∧ Hid (uintL x = pre ++ uintF n cur) ∧ Hid (cur.toNat < 2 ^ (7 * n + 1)) ∧ Hid (pre.length + n = 9) ∧ Ow b8 5 wr w.heap.size o pre ∧ Below w.heap.size w wr) (fun c _ _ => (intOf c).toNat)
  case atStart => exact ⟨9, [], x, rfl, Lib.hid rfl, Lib.hid (by have := x.isLt; omega), Lib.hid rfl, Ow.nil_ _ _ _ _, Below.refl _ _⟩
  case round =>
    obtain ⟨n, pre, cur, rfl, h1, h2, h3, ho, hB⟩ := hrel
    obtain ⟨A, m, c, rfl⟩ := ow_slice ho
    by_cases hc : cur.toNat < 128
    · have t1 : decide (128 ≤ U64 cur) = false := by unfold U64; simp; omega
      have hend : uintL x = pre ++ [cur.setWidth 8] := by rw [h1.out, uintF_small hc]
      have HE := Lib.hid hend
      have hlen : pre.length ≤ 9 := by have := h3.out; omega
      have hsz := hB.size
      have e0 := u64_u8m cur
      clear hend hc
      go_wp2_with (at_builtin; refine wp_app one8 b8_one rfl (.tmp 15) (.tmp 18) rfl w.heap.size _ pre rfl (ho.alloc _) (some ⟨wr.heap.size, 0, none⟩) 1 1 [cur.setWidth 8] rfl rfl (wr.heap.size + 1) (rd1_new (val_u8 e0)) (by simp; omega) (by decide) (by simp; omega) ?_; intro v4 w4 ho4 hb4 _ _)
      go_ret
      rw [HE.out]
      exact MkP.of ho4 ((hB.alloc hsz _).trans hb4)
    · have t1 : decide (128 ≤ U64 cur) = true := by unfold U64; simp; omega
      have e1 := val128 cur
      have e2 := shr7 cur
      obtain ⟨m', rfl⟩ : ∃ m, n = m + 1 := by
        cases n with
        | zero => have := h2.out; simp at this; omega
        | succ m => exact ⟨m, rfl⟩
      have HS : Hid (uintL x = (pre ++ [cur.setWidth 8 ||| 128#8]) ++ uintF m' (cur >>> 7)) := Lib.hid (by
        have e : uintF (m' + 1) cur = (cur.setWidth 8 ||| 128#8) :: uintF m' (cur >>> 7) := if_neg hc
        rw [h1.out, List.append_assoc, e]; rfl)
      have HB : Hid ((cur >>> 7).toNat < 2 ^ (7 * m' + 1)) := Lib.hid (by
        have := h2.out
        rw [BitVec.toNat_ushiftRight, Nat.shiftRight_eq_div_pow]
        rw [show 7 * (m' + 1) + 1 = (7 * m' + 1) + 7 from by omega, Nat.pow_add] at this
        exact Nat.div_lt_of_lt_mul (by omega))
      have HL : Hid ((pre ++ [cur.setWidth 8 ||| 128#8]).length + m' = 9) := Lib.hid (by have := h3.out; simp; omega)
      have HM : Hid ((U64 (cur >>> 7)).toNat < (U64 cur).toNat) := Lib.hid (by
        unfold U64
        rw [BitVec.toNat_ushiftRight, Nat.shiftRight_eq_div_pow]
        simp; omega)
      have hlen : pre.length ≤ 9 := by have := h3.out; omega
      have hsz := hB.size
      clear hc
      go_wp2_with (at_builtin; refine wp_app one8 b8_one rfl (.tmp 6) (.tmp 11) rfl w.heap.size _ pre rfl (ho.alloc _) (some ⟨wr.heap.size, 0, none⟩) 1 1 [cur.setWidth 8 ||| 128#8] rfl rfl (wr.heap.size + 1) (rd1_new rfl) (by simp; omega) (by decide) (by simp; omega) ?_; intro v4 w4 ho4 hb4 _ _)
      go_roundw
      case rel => exact ⟨m', pre ++ [cur.setWidth 8 ||| 128#8], cur >>> 7, rfl, HS, HB, HL, ho4, (hB.alloc hsz _).trans hb4⟩
      case measure => simp only [intOf]; exact HM.out
theorem ref_raw (w : World) (A : Option Addr) (c : Nat) (xs : List (BitVec 8)) (hr : Rd b8 w w.heap.size A xs) (hx : xs.length ≤ 536870912) : Calls Try.prog 22 #[.slice A xs.length c] w (MkP b8 5 (uintL (BitVec.ofNat 64 xs.length) ++ xs) w) := by
  have e0 : IntKind.u64.wrap (xs.length : Int) = U64 (BitVec.ofNat 64 xs.length) := by rw [wrapu64]; rfl
  have HU := Lib.hid (ref_uint w (BitVec.ofNat 64 xs.length))
  go_enter Try.func22, Try.ntmps22
  go_wp2_with fail
  refine Calls.mono HU.out ?_
  rintro e w1 ⟨A1, c1, rfl, hc1, ho, hb⟩
  have hul : (uintL (BitVec.ofNat 64 xs.length)).length ≤ 10 := uintF_len 9 (BitVec.ofNat 64 xs.length)
  have hsz := hb.size
  go_wp2_with (at_builtin; refine wp_app one8 b8_one rfl (.tmp 6) (.tmp 7) rfl w.heap.size _ (uintL (BitVec.ofNat 64 xs.length)) rfl ho A xs.length c xs rfl rfl w.heap.size (hr.below hb) (by omega) (by decide) hsz ?_; intro v4 w4 ho4 hb4 _ _)
  go_ret
  exact MkP.of ho4 (hb.trans hb4)
theorem ref_words (w : World) (A : Option Addr) (c : Nat) (ws : List (BitVec 64)) (hr : Rd u64v w w.heap.size A ws) (hx : ws.length ≤ 10000000) : Calls Try.prog 24 #[.slice A ws.length c] w (MkP b8 5 (wordsL ws) w) := by
  have e0 : IntKind.u64.wrap (ws.length : Int) = U64 (BitVec.ofNat 64 ws.length) := by rw [wrapu64]; rfl
  have HU := Lib.hid (ref_uint w (BitVec.ofNat 64 ws.length))
  have HX := Lib.hid hx
  obtain ⟨N, hN⟩ : ∃ N, N = ws.length := ⟨_, rfl⟩
  rw [← hN] at e0 HU ⊢
  have HNN := Lib.hid hN
  have hnb : (N : Int) ≤ 10000000 := by omega
  clear hN hx
  go_enter Try.func24, Try.ntmps24
  go_wp2_with fail
  refine Calls.mono HU.out ?_
  rintro e w1 ⟨A1, c1, rfl, hc1, ho, hb⟩
  have hul := uintF_len 9 (BitVec.ofNat 64 N)
  have HUL := Lib.hid hul
  have HO := Lib.hid ho
  obtain ⟨v1, hv1⟩ : ∃ v, v = Value.slice A1 (uintL (BitVec.ofNat 64 N)).length c1 := ⟨_, rfl⟩
  rw [← hv1] at HO ⊢
  clear hul ho hc1 hv1
  go_wp2_with fail
  go_loopw [3, 4] (fun o i wr => ∃ k : Nat, k ≤ N ∧ i = .int .i64 k ∧ Ow b8 5 wr w.heap.size o (uintL (BitVec.ofNat 64 N) ++ flatW (ws.take k)) ∧ Below w.heap.size w wr) (fun _ i _ => N - (intOf i).toNat)
  case atStart => exact ⟨0, by omega, rfl, by simpa [flatW] using HO.out, hb⟩
  case round =>
    obtain ⟨k, hk, rfl, ho, hB⟩ := hrel
    obtain ⟨A2, m2, c2, rfl⟩ := ow_slice ho
    by_cases hlt : k < N
    · have hlw : k < ws.length := by rw [← HNN.out]; exact hlt
      obtain ⟨ad, rfl, hadb, hcl⟩ := (hr.below hB) k hlw
      obtain ⟨y, hy⟩ : ∃ y, y = ws[k] := ⟨_, rfl⟩
      rw [← hy] at hcl
      unfold u64v at hcl
      have p1 : (0 : Int) ≤ (k : Int) := by omega
      have p2 : (k : Int) < (N : Int) := by omega
      have HLow := Lib.hid (low_c y 8 (by decide) wr)
      have hflen : (uintL (BitVec.ofNat 64 N) ++ flatW (ws.take k)).length + 8 ≤ 4294967296 := by
        have := HUL.out
        have h2 := HX.out
        have h3 := flatW_len (ws.take k)
        rw [List.length_append, h3, List.length_take]
        have h4 : (uintL (BitVec.ofNat 64 N)).length ≤ 10 := this
        omega
      have hflat : flatW (ws.take (k + 1)) = flatW (ws.take k) ++ lowN y 8 := by
        rw [hy, List.take_succ_eq_append_getElem hlw, flatW_append]
        simp [flatW]
      have HF := Lib.hid hflat
      have HFL := Lib.hid hflen
      have HOw := Lib.hid ho
      clear hy hadb hflat hflen ho
      go_wp2_with fail
      refine Calls.mono HLow.out ?_
      rintro e w3 ⟨A3, c3, rfl, hc3, ho3, hb3⟩
      have ho' := HOw.out.below hb3
      have hr3 := ho3.rd
      have hs3 := hb3.size
      have hsB := hB.size
      go_wp2_with (at_builtin; refine wp_app one8 b8_one rfl (.tmp 15) (.tmp 20) rfl w.heap.size _ (uintL (BitVec.ofNat 64 N) ++ flatW (ws.take k)) rfl ho' A3 (lowN y 8).length c3 (lowN y 8) rfl rfl w3.heap.size hr3 (by rw [lowN_len]; exact HFL.out) (by decide) (by omega) ?_; intro v4 w4 ho4 hb4 _ _)
      go_roundw
      case rel => exact ⟨k + 1, by omega, by go_num, by rw [HF.out, ← List.append_assoc]; exact ho4, (hB.trans (hb3.mono hsB)).trans hb4⟩
      case measure => (first | (simp [intOf]; done) | (simp [intOf]; omega))
    · have hkk : k = N := by omega
      subst hkk
      have hw : uintL (BitVec.ofNat 64 k) ++ flatW (ws.take k) = wordsL ws := by
        unfold wordsL flatW
        rw [HNN.out, List.take_length]
      rw [hw] at ho
      go_wp2
      go_ret
      exact MkP.of ho hB
theorem zig_neg_eq (x : BitVec 64) (n : Nat) (h : I64 x = -(n : Int) - 1) : U64 (zigL x) = ((2 * n + 1 : Nat) : Int) := by
  have hlo := I64_lo x
  have e1 : x.sshiftRight 63 = BitVec.allOnes 64 := by
    apply I64_inj
    rw [← sarI64, h]
    have : I64 (BitVec.allOnes 64) = -1 := by decide +kernel
    rw [this]
    omega
  unfold zigL
  rw [e1, BitVec.xor_allOnes]
  unfold U64
  have hx : x.toNat = 2 ^ 64 - n - 1 := by
    have := BitVec.toInt_eq_toNat_cond x
    have h2 := x.isLt
    unfold I64 at h hlo
    rw [h] at this
    split at this <;> omega
  rw [BitVec.toNat_not, BitVec.toNat_shiftLeft, hx, Nat.shiftLeft_eq]
  have : n < 2 ^ 63 := by omega
  omega
theorem zig_pos_eq (x : BitVec 64) (n : Nat) (h : I64 x = (n : Int)) : U64 (zigL x) = ((2 * n : Nat) : Int) := by
  have hhi := I64_hi x
  have e1 : x.sshiftRight 63 = 0#64 := by
    apply I64_inj
    rw [← sarI64, h]
    have : I64 0#64 = 0 := by decide +kernel
    rw [this]
    omega
  unfold zigL
  rw [e1, BitVec.xor_zero]
  unfold U64
  have hx : x.toNat = n := by
    have := BitVec.toInt_eq_toNat_cond x
    have h2 := x.isLt
    unfold I64 at h hhi
    rw [h] at this
    split at this <;> omega
  rw [BitVec.toNat_shiftLeft, hx, Nat.shiftLeft_eq]
  omega
theorem ref_zig (w : World) (x : BitVec 64) : Calls Try.prog 20 #[.int .i64 (I64 x)] w (RetP (.int .u64 (U64 (zigL x))) w) := by
  have hlo := I64_lo x
  have hhi := I64_hi x
  by_cases hn : I64 x < 0
  · obtain ⟨n, hn2, hn3⟩ : ∃ n : Nat, I64 x = -(n : Int) - 1 ∧ n < 2 ^ 63 := ⟨(-I64 x - 1).toNat, by omega, by omega⟩
    rw [zig_neg_eq x n hn2, hn2]
    exact zig_neg w n hn3
  · obtain ⟨n, hn2, hn3⟩ : ∃ n : Nat, I64 x = (n : Int) ∧ n < 2 ^ 63 := ⟨(I64 x).toNat, by omega, by omega⟩
    rw [zig_pos_eq x n hn2, hn2]
    exact zig_pos w n hn3
end Go.Proofs.Yteefcimepdbehaa
