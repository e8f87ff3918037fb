/- The law SumsXor of layer 2 returns true for every argument. No conditions. -/
import Derived.Test.YtgdgajieekkmdaaKnown2
import Derived.Test.YtgdgajieekkmdaaCrcD
import Derived.Test.YtgdgajieekkmdaaRegV
import Derived.Test.YtgdgajieekkmdaaFrame
import Derived.RegionTactic
import Derived.ChangeAlike
namespace Go.Proofs.Ytgdgajieekkmdaa
set_option linter.unusedVariables false
set_option linter.unusedSimpArgs false
open Go.RowKit
attribute [local go_sem] xorU8 xorU32
def xorL (xs ys : List (BitVec 8)) (k : Nat) : List (BitVec 8) := (List.zipWith (· ^^^ ·) xs ys).take k ++ List.replicate (xs.length - k) 0#8
theorem xorL_len (xs ys : List (BitVec 8)) (k : Nat) (h : xs.length ≤ ys.length) (hk : k ≤ xs.length) : (xorL xs ys k).length = xs.length := by
  simp [xorL]; omega
theorem xorL_set (xs ys : List (BitVec 8)) (k : Nat) (h : xs.length ≤ ys.length) (hk : k < xs.length) : (xorL xs ys k).set k (xs[k] ^^^ ys[k]'(by omega)) = xorL xs ys (k + 1) := by
  unfold xorL
  have hz : (List.zipWith (· ^^^ ·) xs ys).length = xs.length := by simp; omega
  have e : List.replicate (xs.length - k) 0#8 = 0#8 :: List.replicate (xs.length - (k + 1)) 0#8 := by
    rw [← List.replicate_succ]; congr 1; omega
  have hk' : k < (List.zipWith (· ^^^ ·) xs ys).length := by omega
  rw [e, take_snoc' _ _ hk', List.set_append_right _ _ (by simp; omega)]
  have e2 : k - ((List.zipWith (· ^^^ ·) xs ys).take k).length = 0 := by simp; omega
  rw [e2, List.append_assoc]
  simp
theorem xorL_sum (xs ys : List (BitVec 8)) (h : xs.length ≤ ys.length) : addC 0#32 (xorL xs ys xs.length) = addC 0#32 xs ^^^ addC 0#32 (ys.take xs.length) ^^^ addC 0#32 (List.replicate xs.length 0#8) := by
  have hz : xorL xs ys xs.length = xs.zipWith (· ^^^ ·) (ys.take xs.length) := by
    unfold xorL
    rw [Nat.sub_self, List.replicate_zero, List.append_nil, List.take_of_length_le (by simp; omega)]
    apply List.ext_getElem
    · simp
    · intro i h1 h2; simp
  rw [hz]
  exact addC_xor3 _ _ (by simp; omega)
theorem sum_of (xs : List (BitVec 8)) (E : TypeId) (v : Value) (w : World) (h : Sl1 b8 E xs v w) (hl : xs.length ≤ 2147483648) : Calls Try.prog 16 #[v] w fun e w2 => ∃ v, e = .returned v ∧ Gw w w2 ∧ IsV (.int .u32 (U32 (addC 0#32 xs))) v w2 := by
  obtain ⟨g, A, c, rfl, hb, hr⟩ := h
  exact (sum1_c xs A c g w E hb hr hl).mono fun e w2 h => ⟨_, h.1, h.2, rfl⟩
set_option maxRecDepth 100000
set_option maxHeartbeats 400000
theorem xor_reg (Q : Exit → Act → World → Prop) (a0 : Act) (w : World) (Z A B : Option Addr) (zs xs ys : List (BitVec 8)) (cz c d : Nat) (rz : Rd b8 w w.heap.size Z zs) (ra : Rd b8 w w.heap.size A xs) (rb : Rd b8 w w.heap.size B ys) (hx : xs.length ≤ 300) (hy : xs.length ≤ ys.length) (hd : ys.length ≤ d) (hz : zs.length ≤ 300)
    (hsum : Hid (addC 0#32 zs = addC 0#32 xs ^^^ addC 0#32 (ys.take xs.length) ^^^ addC 0#32 (List.replicate xs.length 0#8))) (hs : a0.tmps.size = 65) (h0 : a0.tmps.getD 0 undef = .slice A xs.length c) (h1 : a0.tmps.getD 1 undef = .slice B ys.length d) (h5 : a0.tmps.getD 5 undef = .slice Z zs.length cz)
    (fin : ∀ (vals : Nat → Value) (w1 : World), Below w.heap.size w w1 → (IsV (.bool true)) (vals 20) w1 → Q .normal (putD vals [45, 46, 47, 48, 49, 50, 51, 52, 53, 54, 55, 56, 57, 58, 59, 60, 61, 62, 63, 64, 4] 0 a0) w1) :
    (Code.region 10 (regIn Try.f5 10) true).wp Try.prog Q a0 w := by
  refine region_by (G := fun w w1 => Below w.heap.size w w1) [IsV (.slice Z zs.length cz),
    Sl1 b8 23 zs,
    IsV (.int .u32 (U32 (addC 0#32 zs))),
    IsV (.slice A xs.length c),
    Sl1 b8 23 xs,
    IsV (.int .u32 (U32 (addC 0#32 xs))),
    IsV (.slice B ys.length d),
    IsV (.slice A xs.length c),
    IsV (.int .i64 xs.length),
    IsV (.slice B xs.length d),
    Sl1 b8 23 (ys.take xs.length),
    IsV (.int .u32 (U32 (addC 0#32 (ys.take xs.length)))),
    IsV (.int .u32 (U32 (addC 0#32 xs ^^^ addC 0#32 (ys.take xs.length)))),
    IsV (.slice A xs.length c),
    IsV (.int .i64 xs.length),
    SlV b8 (List.replicate xs.length 0#8),
    Sl1 b8 23 (List.replicate xs.length 0#8),
    IsV (.int .u32 (U32 (addC 0#32 (List.replicate xs.length 0#8)))),
    IsV (.int .u32 (U32 (addC 0#32 xs ^^^ addC 0#32 (ys.take xs.length) ^^^ addC 0#32 (List.replicate xs.length 0#8)))),
    IsV (.bool true),
    IsV (.bool true)]
    [45, 46, 47, 48, 49, 50, 51, 52, 53, 54, 55, 56, 57, 58, 59, 60, 61, 62, 63, 64, 4] (by kernel_rfl) (Gw.drew _) Gw.trans (by rw [hs]; kernel_rfl) (by kernel_rfl) ?_ ?_ ?_
  · intro f hf
    simp only [List.mem_cons, List.not_mem_nil, or_false] at hf
    rcases hf with rfl | rfl | rfl | rfl | rfl | rfl | rfl | rfl | rfl | rfl | rfl | rfl | rfl | rfl | rfl | rfl | rfl | rfl | rfl | rfl | rfl <;> intro v a b h g <;> first | exact IsV.mono h | exact Sl1.mono h g | exact SlV.mono h g
  · refine ⟨?_, ?_, ?_, ?_, ?_, ?_, ?_, ?_, ?_, ?_, ?_, ?_, ?_, ?_, ?_, ?_, ?_, ?_, ?_, ?_, ?_, trivial⟩
    · exact owes_mv 5 (by kernel_rfl) (by kernel_rfl) (by kernel_rfl) h5 (fun _ => rfl)
    · refine owes_v (Go.Op.buildSlice 22 1 #[(0, Go.Operand.tmp 45)]) 22 [0] (by kernel_rfl) (by kernel_rfl) (by kernel_rfl) rfl fun vals w1 ρ hG hF hρ hcst hfun => ?_
      have e45 : ρ (.tmp 45) = .slice Z zs.length cz := ((hρ 45).trans (slotJ [0] (by rw [hs]; decide) (by kernel_rfl))).trans (hF 0 (by decide))
      have hr' := (rz.below hG).more hG.size
      clear hρ hF hcst hfun h0 h1 h5 fin
      exact opv_val (by go_simp <;> rfl) ⟨Gw.alloc _ _, Sl1.of hr'⟩
    · refine owes_v (Go.Op.call { callee := Go.Callee.value (Go.Operand.func 16), args := #[Go.Operand.tmp 46], argTypes := #[22] }) 25 [1] (by kernel_rfl) (by kernel_rfl) (by kernel_rfl) rfl fun vals w1 ρ hG hF hρ hcst hfun => ?_
      have f46 : (Sl1 b8 23 zs) (vals 1) w1 := hF 1 (by decide)
      have e46 : ρ (.tmp 46) = vals 1 := (hρ 46).trans (slotJ [1] (by rw [hs]; decide) (by kernel_rfl))
      clear hρ hF hcst h0 h1 h5 fin
      exact opv_enter (by go_simp <;> rfl) (sum_of zs _ _ _ f46 (by omega))
    · exact owes_mv 0 (by kernel_rfl) (by kernel_rfl) (by kernel_rfl) h0 (fun _ => rfl)
    · refine owes_v (Go.Op.buildSlice 22 1 #[(0, Go.Operand.tmp 48)]) 22 [3] (by kernel_rfl) (by kernel_rfl) (by kernel_rfl) rfl fun vals w1 ρ hG hF hρ hcst hfun => ?_
      have e48 : ρ (.tmp 48) = .slice A xs.length c := ((hρ 48).trans (slotJ [3] (by rw [hs]; decide) (by kernel_rfl))).trans (hF 3 (by decide))
      have hr' := (ra.below hG).more hG.size
      clear hρ hF hcst hfun h0 h1 h5 fin
      exact opv_val (by go_simp <;> rfl) ⟨Gw.alloc _ _, Sl1.of hr'⟩
    · refine owes_v (Go.Op.call { callee := Go.Callee.value (Go.Operand.func 16), args := #[Go.Operand.tmp 49], argTypes := #[22] }) 25 [4] (by kernel_rfl) (by kernel_rfl) (by kernel_rfl) rfl fun vals w1 ρ hG hF hρ hcst hfun => ?_
      have f49 : (Sl1 b8 23 xs) (vals 4) w1 := hF 4 (by decide)
      have e49 : ρ (.tmp 49) = vals 4 := (hρ 49).trans (slotJ [4] (by rw [hs]; decide) (by kernel_rfl))
      clear hρ hF hcst h0 h1 h5 fin
      exact opv_enter (by go_simp <;> rfl) (sum_of xs _ _ _ f49 (by omega))
    · exact owes_mv 1 (by kernel_rfl) (by kernel_rfl) (by kernel_rfl) h1 (fun _ => rfl)
    · exact owes_mv 0 (by kernel_rfl) (by kernel_rfl) (by kernel_rfl) h0 (fun _ => rfl)
    · refine owes_v (Go.Op.call { callee := Go.Callee.builtin Go.Builtin.len, args := #[Go.Operand.tmp 52], argTypes := #[23] }) 3 [7] (by kernel_rfl) (by kernel_rfl) (by kernel_rfl) rfl fun vals w1 ρ hG hF hρ hcst hfun => ?_
      have e52 : ρ (.tmp 52) = .slice A xs.length c := ((hρ 52).trans (slotJ [7] (by rw [hs]; decide) (by kernel_rfl))).trans (hF 7 (by decide))
      clear hρ hF hcst hfun h0 h1 h5 fin
      exact opv_val (by go_simp <;> rfl) ⟨gw_self _, rfl⟩
    · refine owes_v (Go.Op.slice 23 (Go.Operand.tmp 51) none (some (Go.Operand.tmp 53)) none) 23 [6, 8] (by kernel_rfl) (by kernel_rfl) (by kernel_rfl) rfl fun vals w1 ρ hG hF hρ hcst hfun => ?_
      have e51 : ρ (.tmp 51) = .slice B ys.length d := ((hρ 51).trans (slotJ [6, 8] (by rw [hs]; decide) (by kernel_rfl))).trans (hF 6 (by decide))
      have e53 : ρ (.tmp 53) = .int .i64 xs.length := ((hρ 53).trans (slotJ [6, 8] (by rw [hs]; decide) (by kernel_rfl))).trans (hF 8 (by decide))
      have p1 : (0 : Int) ≤ (xs.length : Int) := by omega
      have p2 : (xs.length : Int) ≤ (d : Int) := by omega
      clear hρ hF hcst hfun h0 h1 h5 fin
      exact opv_val (by go_simp <;> rfl) ⟨gw_self _, rfl⟩
    · refine owes_v (Go.Op.buildSlice 22 1 #[(0, Go.Operand.tmp 54)]) 22 [9] (by kernel_rfl) (by kernel_rfl) (by kernel_rfl) rfl fun vals w1 ρ hG hF hρ hcst hfun => ?_
      have e54 : ρ (.tmp 54) = .slice B xs.length d := ((hρ 54).trans (slotJ [9] (by rw [hs]; decide) (by kernel_rfl))).trans (hF 9 (by decide))
      have hN : (ys.take xs.length).length = xs.length := by simp; omega
      have hr' := ((rb.below hG).more hG.size).take xs.length
      have HN := Lib.hid hN
      clear hN
      clear hρ hF hcst hfun h0 h1 h5 fin
      exact opv_val (by go_simp <;> rfl) ⟨Gw.alloc _ _, HN.out ▸ Sl1.of hr'⟩
    · refine owes_v (Go.Op.call { callee := Go.Callee.value (Go.Operand.func 16), args := #[Go.Operand.tmp 55], argTypes := #[22] }) 25 [10] (by kernel_rfl) (by kernel_rfl) (by kernel_rfl) rfl fun vals w1 ρ hG hF hρ hcst hfun => ?_
      have f55 : (Sl1 b8 23 (ys.take xs.length)) (vals 10) w1 := hF 10 (by decide)
      have e55 : ρ (.tmp 55) = vals 10 := (hρ 55).trans (slotJ [10] (by rw [hs]; decide) (by kernel_rfl))
      clear hρ hF hcst h0 h1 h5 fin
      exact opv_enter (by go_simp <;> rfl) (sum_of (ys.take xs.length) _ _ _ f55 (by simp; omega))
    · refine owes_v (Go.Op.binOp Go.BinOp.xor 25 (Go.Operand.tmp 50) (Go.Operand.tmp 56) 25) 25 [5, 11] (by kernel_rfl) (by kernel_rfl) (by kernel_rfl) rfl fun vals w1 ρ hG hF hρ hcst hfun => ?_
      have e50 : ρ (.tmp 50) = .int .u32 (U32 (addC 0#32 xs)) := ((hρ 50).trans (slotJ [5, 11] (by rw [hs]; decide) (by kernel_rfl))).trans (hF 5 (by decide))
      have e56 : ρ (.tmp 56) = .int .u32 (U32 (addC 0#32 (ys.take xs.length))) := ((hρ 56).trans (slotJ [5, 11] (by rw [hs]; decide) (by kernel_rfl))).trans (hF 11 (by decide))
      clear hρ hF hcst hfun h0 h1 h5 fin
      exact opv_val (by go_simp <;> rfl) ⟨gw_self _, rfl⟩
    · exact owes_mv 0 (by kernel_rfl) (by kernel_rfl) (by kernel_rfl) h0 (fun _ => rfl)
    · refine owes_v (Go.Op.call { callee := Go.Callee.builtin Go.Builtin.len, args := #[Go.Operand.tmp 58], argTypes := #[23] }) 3 [13] (by kernel_rfl) (by kernel_rfl) (by kernel_rfl) rfl fun vals w1 ρ hG hF hρ hcst hfun => ?_
      have e58 : ρ (.tmp 58) = .slice A xs.length c := ((hρ 58).trans (slotJ [13] (by rw [hs]; decide) (by kernel_rfl))).trans (hF 13 (by decide))
      clear hρ hF hcst hfun h0 h1 h5 fin
      exact opv_val (by go_simp <;> rfl) ⟨gw_self _, rfl⟩
    · refine owes_v (Go.Op.makeSlice 23 (Go.Operand.tmp 59) (Go.Operand.tmp 59)) 23 [14] (by kernel_rfl) (by kernel_rfl) (by kernel_rfl) rfl fun vals w1 ρ hG hF hρ hcst hfun => ?_
      have e59 : ρ (.tmp 59) = .int .i64 xs.length := ((hρ 59).trans (slotJ [14] (by rw [hs]; decide) (by kernel_rfl))).trans (hF 14 (by decide))
      clear hρ hF hcst hfun h0 h1 h5 fin
      refine opv_make (f := b8) one8 0#8 rfl e59 (by omega) (by decide) fun w2 ho hb => ⟨hb, ?_⟩
      exact ⟨some ⟨w1.heap.size, 0, none⟩, xs.length, by rw [List.length_replicate], by rw [List.length_replicate]; exact Nat.le_refl _, by have := ho; rw [show (Value.slice (some ⟨w1.heap.size, 0, none⟩) xs.length xs.length) = .slice (some ⟨w1.heap.size, 0, none⟩) (List.replicate xs.length 0#8).length xs.length from by rw [List.length_replicate]] at this; exact this.rd⟩
    · refine owes_v (Go.Op.buildSlice 22 1 #[(0, Go.Operand.tmp 60)]) 22 [15] (by kernel_rfl) (by kernel_rfl) (by kernel_rfl) rfl fun vals w1 ρ hG hF hρ hcst hfun => ?_
      have f60 : (SlV b8 (List.replicate xs.length 0#8)) (vals 15) w1 := hF 15 (by decide)
      have e60 : ρ (.tmp 60) = vals 15 := (hρ 60).trans (slotJ [15] (by rw [hs]; decide) (by kernel_rfl))
      obtain ⟨A', c', hv, _, hr'⟩ := f60
      rw [hv] at e60
      clear hv
      clear hρ hF hcst hfun h0 h1 h5 fin
      exact opv_val (by go_simp <;> rfl) ⟨Gw.alloc _ _, Sl1.of hr'⟩
    · refine owes_v (Go.Op.call { callee := Go.Callee.value (Go.Operand.func 16), args := #[Go.Operand.tmp 61], argTypes := #[22] }) 25 [16] (by kernel_rfl) (by kernel_rfl) (by kernel_rfl) rfl fun vals w1 ρ hG hF hρ hcst hfun => ?_
      have f61 : (Sl1 b8 23 (List.replicate xs.length 0#8)) (vals 16) w1 := hF 16 (by decide)
      have e61 : ρ (.tmp 61) = vals 16 := (hρ 61).trans (slotJ [16] (by rw [hs]; decide) (by kernel_rfl))
      clear hρ hF hcst h0 h1 h5 fin
      exact opv_enter (by go_simp <;> rfl) (sum_of (List.replicate xs.length 0#8) _ _ _ f61 (by simp; omega))
    · refine owes_v (Go.Op.binOp Go.BinOp.xor 25 (Go.Operand.tmp 57) (Go.Operand.tmp 62) 25) 25 [12, 17] (by kernel_rfl) (by kernel_rfl) (by kernel_rfl) rfl fun vals w1 ρ hG hF hρ hcst hfun => ?_
      have e57 : ρ (.tmp 57) = .int .u32 (U32 (addC 0#32 xs ^^^ addC 0#32 (ys.take xs.length))) := ((hρ 57).trans (slotJ [12, 17] (by rw [hs]; decide) (by kernel_rfl))).trans (hF 12 (by decide))
      have e62 : ρ (.tmp 62) = .int .u32 (U32 (addC 0#32 (List.replicate xs.length 0#8))) := ((hρ 62).trans (slotJ [12, 17] (by rw [hs]; decide) (by kernel_rfl))).trans (hF 17 (by decide))
      clear hρ hF hcst hfun h0 h1 h5 fin
      exact opv_val (by go_simp <;> rfl) ⟨gw_self _, rfl⟩
    · refine owes_v (Go.Op.binOp Go.BinOp.eql 25 (Go.Operand.tmp 47) (Go.Operand.tmp 63) 25) 4 [2, 18] (by kernel_rfl) (by kernel_rfl) (by kernel_rfl) rfl fun vals w1 ρ hG hF hρ hcst hfun => ?_
      have e47 : ρ (.tmp 47) = .int .u32 (U32 (addC 0#32 zs)) := ((hρ 47).trans (slotJ [2, 18] (by rw [hs]; decide) (by kernel_rfl))).trans (hF 2 (by decide))
      have e63 : ρ (.tmp 63) = .int .u32 (U32 (addC 0#32 xs ^^^ addC 0#32 (ys.take xs.length) ^^^ addC 0#32 (List.replicate xs.length 0#8))) := ((hρ 63).trans (slotJ [2, 18] (by rw [hs]; decide) (by kernel_rfl))).trans (hF 18 (by decide))
      rw [hsum.out] at e47
      clear hρ hF hcst hfun h0 h1 h5 fin
      exact opv_val (by go_simp <;> rfl) ⟨gw_self _, rfl⟩
    · exact owes_mvj 19 64 (by kernel_rfl) (by kernel_rfl) (by kernel_rfl) (by kernel_rfl) (by rw [hs]; decide) (fun v w h => h)
  · intro vals w1 hG hF
    exact fin vals w1 hG (hF 20 (by decide +kernel))
theorem xor_walk (w : World) (A : Option Addr) (xs : List (BitVec 8)) (c : Nat) (hc : xs.length ≤ c) (_hm : c ≤ maxLen) (hr : Rd b8 w w.heap.size A xs)
    (B : Option Addr) (ys : List (BitVec 8)) (d : Nat) (hd : ys.length ≤ d) (_hm2 : d ≤ maxLen) (hr2 : Rd b8 w w.heap.size B ys) :
    Calls Try.prog 5 #[.slice A xs.length c, .slice B ys.length d] w (TruP (.bool true) w) := by
  by_cases hl : xs.length ≤ 300 ∧ xs.length ≤ ys.length ∧ ys.length ≤ 300
  · obtain ⟨hl1, hl2, hl3⟩ := hl
    have t1 : decide ((300 : Int) < (xs.length : Int)) = false := by simp; omega
    have t2 : decide ((300 : Int) < (ys.length : Int)) = false := by simp; omega
    have t3 : decide (ys.length < xs.length) = false := by simp; omega
    go_enter Try.func5, Try.ntmps5
    go_wp2_with fail
    refine (known_c _).mono ?_
    rintro e w1 ⟨rfl, hb1⟩
    go_wp2_with (at_make; refine wp_make (f := b8) one8 rfl _ _ rfl 0#8 rfl w.heap.size xs.length _ _ _ _ rfl rfl rfl rfl (by omega) (by decide) hb1.size ?_; rintro g w2 hg ho2 hb2 _)
    clear t1 t2 t3
    have hB2 := hb1.trans hb2
    clear hb2
    rw [← hg]
    have HG := Lib.hid hg
    clear hg
    go_loopw [6] (fun i wr => ∃ k : Nat, k ≤ xs.length ∧ i = .int .i64 k ∧ Ow b8 5 wr w.heap.size (.slice (some ⟨g, 0, none⟩) xs.length xs.length) (xorL xs ys k) ∧ Below w.heap.size w wr) (fun i _ => xs.length - (intOf i).toNat)
    case atStart => exact ⟨0, by omega, rfl, by simpa [xorL] using ho2, hB2⟩
    case round =>
      obtain ⟨k, hk, rfl, ho, hB⟩ := hrel
      by_cases hlt : k < xs.length
      · obtain ⟨a1, rfl, hab, hac⟩ := (hr.below hB).at_ hlt
        obtain ⟨a2, rfl, hbb, hbc⟩ := (hr2.below hB).at_ (j := k) (by omega)
        have hf := ho.free k
        have hge := ho.ge
        have hxl := xorL_len xs ys k hl2 hk
        have hcell := ho.cell (j := k) (by omega)
        have hset := ho.set (j := k) (by omega) (xs[k] ^^^ ys[k]'(by omega))
        rw [xorL_set xs ys k hl2 hlt] at hset
        have hB' := hB.setCell (p := ⟨g, k, none⟩) hge.1 (b8 (xs[k] ^^^ ys[k]'(by omega)))
        obtain ⟨x, hx⟩ : ∃ x, x = xs[k] := ⟨_, rfl⟩
        obtain ⟨y, hy⟩ : ∃ y, y = ys[k]'(by omega) := ⟨_, rfl⟩
        obtain ⟨z, hz⟩ : ∃ z, z = (xorL xs ys k)[k]'(by omega) := ⟨_, rfl⟩
        rw [← hx, ← hy] at hset hB'
        rw [← hx] at hac
        rw [← hy] at hbc
        rw [← hz] at hcell
        unfold b8 at hac hbc hcell hset hB'
        have p1 : (0 : Int) ≤ (k : Int) := by omega
        have p2 : (k : Int) < (xs.length : Int) := by omega
        have p3 : (k : Int) < (ys.length : Int) := by omega
        have HS := Lib.hid hset
        have HB' := Lib.hid hB'
        clear hx hy hz hset hxl hB' hge ho
        go_wp2_with fail
        go_region
        go_wp2_with fail
        go_roundw
        case rel => exact ⟨k + 1, by omega, by go_num, HS.out, HB'.out.drew⟩
        case measure => (first | (simp [intOf]; done) | (simp [intOf]; omega))
      · have hkk : k = xs.length := by omega
        subst hkk
        go_wp2_with fail
        have hxl := xorL_len xs ys xs.length hl2 hk
        have ho' : Ow b8 5 wr w.heap.size (.slice (some ⟨g, 0, none⟩) (xorL xs ys xs.length).length xs.length) (xorL xs ys xs.length) := by rw [hxl]; exact ho
        refine xor_reg _ _ wr (some ⟨g, 0, none⟩) A B (xorL xs ys xs.length) xs ys xs.length c d ho'.rd ((hr.below hB).more hB.size) ((hr2.below hB).more hB.size) hl1 hl2 hd (by omega) (Lib.hid (xorL_sum xs ys hl2)) rfl rfl rfl (by rw [hxl]; rfl) ?_
        · intro vals w' hG h20
          change vals 20 = _ at h20
          simp only [putD, Act.put, List.setIfInBounds_toArray, List.set_cons_zero, List.set_cons_succ, h20]
          have hfin := hB.trans (Below.mono hG hB.size)
          clear hG h20 ho ho' hxl
          go_wp2_with fail
          go_ret
          exact ⟨rfl, hfin⟩
  · go_enter Try.func5, Try.ntmps5
    go_wp2_with (go_at_call 15; refine (known_c _).mono ?_; rintro e w1 ⟨rfl, hb1⟩)
    all_goals first
      | (exfalso; omega)
      | (go_ret; exact ⟨rfl, hb1⟩)
end Go.Proofs.Ytgdgajieekkmdaa
namespace Go.Proofs.Ytgdgajieekkmdaa.sumsXor
open Go.ChangeShapes Go.WideShapes Go.ChangeAt Go.RowKit
open Go.ChangeMaps (open_string shut_string)
set_option linter.unusedVariables false
set_option maxRecDepth 100000 in
theorem lifted (os : Os) (started : os.Started) (H : Type) (enc : TypeId × Value → H) :
    ReturnsInHanded {} Try.checked os 5 .any (Rows.sumsXorSpec.pre6 enc Try.prog Try.f5 Rows.sumsXorRow.domain false) (Rows.sumsXorSpec.post enc Try.prog Try.f5 false true false false) := by
  refine returnsInHanded_of_change (C := Try.checked) own started (by kernel_rfl) Try.func5
    (ChangeSpec.witness6 (enc := enc) (C := Try.checked) false ⟨#[], #[.slice none 0 0, .slice none 0 0], []⟩ 8 (by kernel_rfl) (by kernel_rfl) (by kernel_rfl) (by kernel_rfl)) ?_
  intro W base args ds gs before hval0 hW hcnd _
  have hval : ∀ (j : Nat) t v, Try.f5.params[j]? = some t → args[j]? = some v → Value.okWide Try.prog W .any base t v := hval0
  have hW' := hW
  obtain ⟨p, q, hA0, hV, rfl, hfz, hnd⟩ := hW
  have hA : DataW.TrodAll enc Try.prog W 0 (fun _ => true) true Try.f5.params.toList args.toList ds p := hA0
  rw [Try.params5] at hA hval
  obtain ⟨v0, vs0, d0, ds0, p0, q0, hargs, rfl, rfl, h0, r0⟩ := trodAll_cons hA
  obtain ⟨v1, vs1, d1, ds1, p1, q1, rfl, rfl, rfl, h1, r1⟩ := trodAll_cons r0
  obtain ⟨rfl, rfl, rfl⟩ := trodAll_nil r1
  obtain rfl : args = #[v0, v1] := by cases args; simp_all
  obtain ⟨rfl, rfl⟩ := trodVars_none hV
  have k0 := h0
  have lt0 : ∀ x ∈ p0, x.block < W.heap.size := by obtain ⟨m, hm⟩ := k0; exact DataW.trod_lt m _ _ _ hm
  obtain ⟨A0, a0, c0, e0v, g0, m0, w0⟩ := open_bytes Try.underlying23 Try.underlying5 (by kernel_rfl) (hval 0 23 v0 rfl rfl) h0; subst e0v
  have k1 := h1
  have lt1 : ∀ x ∈ p1, x.block < W.heap.size := by obtain ⟨m, hm⟩ := k1; exact DataW.trod_lt m _ _ _ hm
  obtain ⟨A1, a1, c1, e1v, g1, m1, w1⟩ := open_bytes Try.underlying23 Try.underlying5 (by kernel_rfl) (hval 1 23 v1 rfl rfl) h1; subst e1v
  clear hA0 hval0
  refine (xor_walk W A0 a0 c0 g0 m0 w0 A1 a1 c1 g1 m1 w1).mono fun e W' ⟨he, bel⟩ => ?_
  subst he
  exact ⟨_, rfl, _, _, _, [], _, [], hW', trodAll_mk1 (shut_bool Try.underlying4 _), (trodAll_cons_mk (Below.trod laidOut (by kernel_rfl) (of_decide_eq_true (by kernel_rfl)) k0 bel lt0) (trodAll_cons_mk (Below.trod laidOut (by kernel_rfl) (of_decide_eq_true (by kernel_rfl)) k1 bel lt1) trodAll_mk0)), rfl, bel.frame _, fun h => by cases h⟩
theorem over : Rows.sumsXorRow.holds Try.pinned (OpenSpec.ofChange Rows.sumsXorSpec) :=
  OpenClaim.holds_of_wide 5 Try.f5 rfl rfl rfl rfl rfl rfl rfl ⟨rfl, rfl, rfl, rfl, rfl⟩ rfl rfl rfl rfl rfl (by kernel_rfl) Try.func5 (by kernel_rfl)
    (of_decide_eq_true (by kernel_rfl)) (by unfold Func.isWrapper; first | (rw [if_pos (by decide +kernel)]; kernel_rfl) | (rw [if_neg (by decide +kernel)]; exact ⟨rfl, rfl⟩))
    (fun os started H enc _ => lifted os started H enc)
theorem proved : Rows.SumsXorSaid := over
end Go.Proofs.Ytgdgajieekkmdaa.sumsXor
