/- What Sum and Low of loamref2 answer. Conditions: at most 2^31 bytes. -/
import Derived.Test.YtjdifejnnkplaaaCrcB
import Derived.Test.YtjdifejnnkplaaaCrcD
import Derived.Test.YtjdifejnnkplaaaRegV
import Derived.LoopTactic
namespace Go.Proofs.Ytjdifejnnkplaaa
set_option linter.unusedVariables false
set_option linter.unusedSimpArgs false
open Go.RowKit
theorem bitsC_succ (k : Nat) (r : BitVec 32) : bitsC (k + 1) r = bitC (bitsC k r) := by rw [bitsC_add]; rfl
theorem and1U32 (r : BitVec 32) : bits .and .u32 (U32 r) 1 = if r.getLsbD 0 then 1 else 0 := by
  rw [show (1 : Int) = U32 1#32 from by decide +kernel, andU32]
  have e : r &&& 1#32 = if r.getLsbD 0 then 1#32 else 0#32 := by
    apply BitVec.eq_of_getLsbD_eq
    intro i hi
    rw [BitVec.getLsbD_and, BitVec.getLsbD_one]
    by_cases h : i = 0
    · subst h; cases r.getLsbD 0 <;> simp
    · cases r.getLsbD 0 <;> simp [h]
  rw [e]
  cases r.getLsbD 0 <;> decide +kernel
theorem shr1U32 (r : BitVec 32) : U32 r / (2 : Int) = U32 (r >>> 1) := by
  rw [show (2 : Int) = 2 ^ 1 from by decide, shrU32]
theorem xorPoly (r : BitVec 32) : bits .xor .u32 (U32 r) 3988292384 = U32 (r ^^^ 0xEDB88320#32) := by
  rw [show (3988292384 : Int) = U32 0xEDB88320#32 from by decide +kernel, xorU32]
set_option maxHeartbeats 400000
theorem rsum_c (bs : List (BitVec 8)) (A : Option Addr) (c B : Nat) (w : World) (hr : Rd b8 w B A bs) (hl : bs.length ≤ 2147483648) :
    Calls Try.prog 34 #[.slice A bs.length c] w fun e w' => e = .returned (.int .u32 (U32 (addC 0 bs))) ∧ w' = w := by
  have e00 : (4294967295 : Int) = U32 (~~~ 0#32) := by decide +kernel
  have E0 := Lib.hid e00
  clear e00
  go_enter Try.func34, Try.ntmps34
  go_wp2
  go_loop [3, 4] (fun r i => ∃ k : Nat, k ≤ bs.length ∧ i = .int .i64 k ∧ r = .int .u32 (U32 ((bs.take k).foldl stepC (~~~ 0#32)))) (fun _ i => bs.length - (intOf i).toNat)
  case atStart => exact ⟨0, by omega, rfl, by rw [E0.out]; rfl⟩
  case round =>
    obtain ⟨k, hk, rfl, rfl⟩ := hrel
    by_cases hlt : k < bs.length
    · obtain ⟨ad, rfl, _, hc⟩ := hr.at_ hlt
      unfold b8 at hc
      obtain ⟨r, hrr⟩ : ∃ r, r = (bs.take k).foldl stepC (~~~ 0#32) := ⟨_, rfl⟩
      rw [← hrr]
      obtain ⟨x, hx⟩ : ∃ x, x = bs[k] := ⟨_, rfl⟩
      rw [← hx] at hc
      obtain ⟨r1, h1⟩ : ∃ y, y = r ^^^ x.setWidth 32 := ⟨_, rfl⟩
      have e0 : U8 x % 4294967296 = U8 x := by have := U8_lo x; have := U8_hi x; omega
      have e1 : bits .xor .u32 (U32 r) (U8 x) = U32 r1 := by rw [h1, xorU32U8]
      have fin : (bs.take (k + 1)).foldl stepC (~~~ 0#32) = bitsC 8 r1 := by
        rw [take_snoc' _ _ hlt, List.foldl_append, ← hrr, ← hx, h1]
        show stepC r x = _
        rw [stepC_bits]
      have FIN := Lib.hid fin
      clear fin hrr hx h1
      go_wp2
      go_loop [3, 5] (fun c i => ∃ j : Nat, j ≤ 8 ∧ i = .int .i64 j ∧ c = .int .u32 (U32 (bitsC j r1))) (fun _ i => 8 - (intOf i).toNat)
      case atStart => exact ⟨0, by omega, rfl, rfl⟩
      case round =>
        obtain ⟨j, hj, rfl, rfl⟩ := hrel
        by_cases hj8 : j < 8
        · obtain ⟨q, hq⟩ : ∃ q, q = bitsC j r1 := ⟨_, rfl⟩
          rw [← hq]
          have hn : bitsC (j + 1) r1 = bitC q := by rw [bitsC_succ, hq]
          have a1 := and1U32 q
          have s1 := shr1U32 q
          have x1 := xorPoly (q >>> 1)
          have HN := Lib.hid hn
          clear hn hq
          cases hb : q.getLsbD 0
          · rw [hb] at a1
            simp only [Bool.false_eq_true, if_false] at a1
            have HB := Lib.hid hb
            clear hb
            go_wp2
            go_round
            case rel => exact ⟨j + 1, by omega, by go_num, by rw [HN.out]; unfold bitC; rw [HB.out]; rfl⟩
            case measure => (first | (simp [intOf]; done) | (simp [intOf]; omega))
          · rw [hb] at a1
            simp only [if_true] at a1
            have HB := Lib.hid hb
            clear hb
            go_wp2
            go_round
            case rel => exact ⟨j + 1, by omega, by go_num, by rw [HN.out]; unfold bitC; rw [HB.out]; rfl⟩
            case measure => (first | (simp [intOf]; done) | (simp [intOf]; omega))
        · have hj8' : j = 8 := by omega
          subst hj8'
          go_wp2
          go_round
          case rel => exact ⟨k + 1, by omega, by go_num, by rw [FIN.out]⟩
          case measure => (first | (simp [intOf]; done) | (simp [intOf]; omega))
    · have hkk : (bs.take k) = bs := List.take_of_length_le (by omega)
      have hn2 := notU32 (bs.foldl stepC (~~~ 0#32))
      rw [hkk]
      have HN := Lib.hid hn2
      clear hkk hn2
      go_wp2
      go_ret
      exact ⟨ret_int HN.out, rfl⟩
theorem ow_lit {α : Type} (f : α → Value) (E : TypeId) (w : World) (base : Nat) (xs : List α) (hb : base ≤ w.heap.size) (hl : xs.length ≤ maxLen) : Ow f E (w.alloc (.cells (xs.map f).toArray E)) base (.slice (some ⟨w.heap.size, 0, none⟩) xs.length xs.length) xs := by
  have h := World.ownsRow_lit (size := 1) (e := E) w (xs.map f).toArray xs.length hb hl (by simp)
  exact h
set_option maxRecDepth 100000
set_option maxHeartbeats 400000
attribute [local go_sem] m8_0 sh8 sh16 sh24 u32_u8
theorem rlow_c (s : BitVec 32) (w : World) : Calls Try.prog 33 #[.int .u32 (U32 s)] w (MkP b8 5 (tailL s) w) := by
  go_enter Try.func33, Try.ntmps33
  go_wp2
  go_ret
  exact MkP.of (ow_lit b8 5 w w.heap.size (tailL s) (Nat.le_refl _) (by simp [tailL, maxLen])) (Gw.alloc _ _)
end Go.Proofs.Ytjdifejnnkplaaa
