/- What crc.Add and crc.Sum answer. Conditions: at most 2^31 bytes. -/
import Derived.Test.YtjdifejnnkplaaaBitsB
import Derived.Test.YtjdifejnnkplaaaBel
import Derived.LoopTactic
namespace Go.Proofs.Ytjdifejnnkplaaa
set_option linter.unusedVariables false
set_option linter.unusedSimpArgs false
open Go.RowKit
def tabL : List (BitVec 32) := [0x00000000, 0x1db71064, 0x3b6e20c8, 0x26d930ac, 0x76dc4190, 0x6b6b51f4, 0x4db26158, 0x5005713c, 0xedb88320, 0xf00f9344, 0xd6d6a3e8, 0xcb61b38c, 0x9b64c2b0, 0x86d3d2d4, 0xa00ae278, 0xbdbdf21c]
def idx (r : BitVec 32) : Nat := (r &&& 15#32).toNat
def tab1 (i : Nat) : BitVec 32 := tabL.getD i 0
def turnC (r : BitVec 32) : BitVec 32 := (r >>> 4) ^^^ tab1 (idx r)
def stepC (r : BitVec 32) (x : BitVec 8) : BitVec 32 := turnC (turnC (r ^^^ x.setWidth 32))
def addC (s : BitVec 32) (bs : List (BitVec 8)) : BitVec 32 := ~~~ bs.foldl stepC (~~~ s)
def u32v (x : BitVec 32) : Value := .int .u32 (U32 x)
theorem idx_lt (r : BitVec 32) : idx r < 16 := by
  unfold idx
  rw [BitVec.toNat_and, show (15#32).toNat = 2 ^ 4 - 1 from rfl, Nat.and_two_pow_sub_one_eq_mod]
  omega
theorem and15 (r : BitVec 32) : bits .and .u32 (U32 r) 15 = (idx r : Int) := by
  rw [show (15 : Int) = U32 15#32 from by decide +kernel, andU32]; rfl
theorem shr4U32 (r : BitVec 32) : U32 r / (16 : Int) = U32 (r >>> 4) := by
  rw [show (16 : Int) = 2 ^ 4 from by decide, shrU32]
theorem notU32 (s : BitVec 32) : bits .xor .u32 IntKind.u32.max (U32 s) = U32 (~~~ s) := by
  rw [show IntKind.u32.max = U32 (BitVec.allOnes 32) from by decide +kernel, xorU32]
  congr 1
  try (apply BitVec.eq_of_getLsbD_eq; intro i hi; simp [hi])
theorem xorU32U8 (r : BitVec 32) (x : BitVec 8) : bits .xor .u32 (U32 r) (U8 x) = U32 (r ^^^ x.setWidth 32) := by rw [u8_u32, xorU32]
theorem wrapu8u32 (x : BitVec 8) : IntKind.u32.wrap (U8 x) = U32 (x.setWidth 32) := by rw [u8_u32, wrapU32]
theorem tab_cell {W : World} {g : Nat} {E : TypeId} (h : Bk W g E #[.int .u32 0, .int .u32 498536548, .int .u32 997073096, .int .u32 651767980, .int .u32 1994146192, .int .u32 1802195444, .int .u32 1303535960, .int .u32 1342533948, .int .u32 3988292384, .int .u32 4027552580, .int .u32 3604390888, .int .u32 3412177804, .int .u32 2607071920, .int .u32 2262029012, .int .u32 2685067896, .int .u32 3183342108]) (i : Nat) (hi : i < 16) : W.cell? ⟨g, i, none⟩ = some (.int .u32 (U32 (tab1 i))) := by
  rw [h.cell]
  have : i = 0 ∨ i = 1 ∨ i = 2 ∨ i = 3 ∨ i = 4 ∨ i = 5 ∨ i = 6 ∨ i = 7 ∨ i = 8 ∨ i = 9 ∨ i = 10 ∨ i = 11 ∨ i = 12 ∨ i = 13 ∨ i = 14 ∨ i = 15 := by omega
  rcases this with rfl | rfl | rfl | rfl | rfl | rfl | rfl | rfl | rfl | rfl | rfl | rfl | rfl | rfl | rfl | rfl <;> rfl
set_option maxHeartbeats 400000
theorem add_c (s : BitVec 32) (bs : List (BitVec 8)) (A : Option Addr) (c : Nat) (w : World) (hr : Rd b8 w w.heap.size A bs) (hl : bs.length ≤ 2147483648) :
    Calls Try.prog 39 #[.int .u32 (U32 s), .slice A bs.length c] w (RetP (.int .u32 (U32 (addC s bs))) w) := by
  have hn := notU32 s
  have hk := Bk.new w 77 #[.int .u32 0, .int .u32 498536548, .int .u32 997073096, .int .u32 651767980, .int .u32 1994146192, .int .u32 1802195444, .int .u32 1303535960, .int .u32 1342533948, .int .u32 3988292384, .int .u32 4027552580, .int .u32 3604390888, .int .u32 3412177804, .int .u32 2607071920, .int .u32 2262029012, .int .u32 2685067896, .int .u32 3183342108]
  have hB := (Below.refl w.heap.size w).alloc (Nat.le_refl _) (.cells #[.int .u32 0, .int .u32 498536548, .int .u32 997073096, .int .u32 651767980, .int .u32 1994146192, .int .u32 1802195444, .int .u32 1303535960, .int .u32 1342533948, .int .u32 3988292384, .int .u32 4027552580, .int .u32 3604390888, .int .u32 3412177804, .int .u32 2607071920, .int .u32 2262029012, .int .u32 2685067896, .int .u32 3183342108] 77)
  have hr1 := hr.alloc (Nat.le_refl _) (.cells #[.int .u32 0, .int .u32 498536548, .int .u32 997073096, .int .u32 651767980, .int .u32 1994146192, .int .u32 1802195444, .int .u32 1303535960, .int .u32 1342533948, .int .u32 3988292384, .int .u32 4027552580, .int .u32 3604390888, .int .u32 3412177804, .int .u32 2607071920, .int .u32 2262029012, .int .u32 2685067896, .int .u32 3183342108] 77)
  obtain ⟨W, hW⟩ : ∃ W, W = w.alloc (.cells #[.int .u32 0, .int .u32 498536548, .int .u32 997073096, .int .u32 651767980, .int .u32 1994146192, .int .u32 1802195444, .int .u32 1303535960, .int .u32 1342533948, .int .u32 3988292384, .int .u32 4027552580, .int .u32 3604390888, .int .u32 3412177804, .int .u32 2607071920, .int .u32 2262029012, .int .u32 2685067896, .int .u32 3183342108] 77) := ⟨_, rfl⟩
  obtain ⟨g, hg⟩ : ∃ g, g = w.heap.size := ⟨_, rfl⟩
  have HG := Lib.hid hg
  have HW := Lib.hid hW
  rw [← hW] at hk hB hr1
  rw [← hg] at hk
  clear hW hg
  go_enter Try.func39, Try.ntmps39
  go_wp2
  rw [← HW.out, ← HG.out]
  go_loop [6, 8, 14] (fun r _ i => ∃ k : Nat, k ≤ bs.length ∧ i = .int .i64 k ∧ r = .int .u32 (U32 ((bs.take k).foldl stepC (~~~ s)))) (fun _ _ i => bs.length - (intOf i).toNat)
  case atStart => exact ⟨0, by omega, rfl, rfl⟩
  case round =>
    obtain ⟨k, hk', rfl, rfl⟩ := hrel
    by_cases hlt : k < bs.length
    · obtain ⟨ad, rfl, _, hc⟩ := hr1.at_ hlt
      unfold b8 at hc
      obtain ⟨r, hrr⟩ : ∃ r, r = (bs.take k).foldl stepC (~~~ s) := ⟨_, rfl⟩
      rw [← hrr]
      obtain ⟨x, hx⟩ : ∃ x, x = bs[k] := ⟨_, rfl⟩
      rw [← hx] at hc
      obtain ⟨r1, h1⟩ : ∃ y, y = r ^^^ x.setWidth 32 := ⟨_, rfl⟩
      obtain ⟨i1, h2⟩ : ∃ y, y = idx r1 := ⟨_, rfl⟩
      obtain ⟨r2, h3⟩ : ∃ y, y = turnC r1 := ⟨_, rfl⟩
      obtain ⟨i2, h4⟩ : ∃ y, y = idx r2 := ⟨_, rfl⟩
      obtain ⟨r3, h5⟩ : ∃ y, y = turnC r2 := ⟨_, rfl⟩
      have b1 : i1 < 16 := by rw [h2]; exact idx_lt _
      have b2 : i2 < 16 := by rw [h4]; exact idx_lt _
      have t1 := tab_cell hk i1 b1
      have t2 := tab_cell hk i2 b2
      have e0 : U8 x % 4294967296 = U8 x := by have := U8_lo x; have := U8_hi x; omega
      have e1 : bits .xor .u32 (U32 r) (U8 x) = U32 r1 := by rw [h1, xorU32U8]
      have e2 : bits .and .u32 (U32 r1) 15 = (i1 : Int) := by rw [h2, and15]
      have e3 : bits .xor .u32 (U32 r1 / 16) (U32 (tab1 i1)) = U32 r2 := by rw [shr4U32, xorU32, h3, h2]; rfl
      have e4 : bits .and .u32 (U32 r2) 15 = (i2 : Int) := by rw [h4, and15]
      have e5 : bits .xor .u32 (U32 r2 / 16) (U32 (tab1 i2)) = U32 r3 := by rw [shr4U32, xorU32, h5, h4]; rfl
      have fin : (bs.take (k + 1)).foldl stepC (~~~ s) = r3 := by
        rw [take_snoc' _ _ hlt, List.foldl_append, ← hrr, ← hx, h5, h3, h1]; rfl
      have FIN := Lib.hid fin
      clear fin hrr hx h1 h2 h3 h4 h5
      go_wp2
      go_round
      case rel =>
        refine ⟨k + 1, by omega, by go_num, ?_⟩
        rw [FIN.out]
      case measure => (first | (simp [intOf]; done) | (simp [intOf]; omega))
    · have hkk : (bs.take k) = bs := List.take_of_length_le (by omega)
      have hn2 := notU32 (bs.foldl stepC (~~~ s))
      rw [hkk]
      have HK := Lib.hid hkk
      clear hkk
      go_wp2
      go_ret
      exact ret_i rfl hB
end Go.Proofs.Ytjdifejnnkplaaa
