/- What crc.Add and crc.Sum answer. Conditions: at most 2^31 bytes. -/
import Derived.Test.YtfodefgihicafaaDoorBitsB
import Derived.Test.YtfodefgihicafaaDoorBel
import Derived.LoopTactic
namespace Go.Proofs.YtfodefgihicafaaDoor
set_option linter.unusedVariables false
set_option linter.unusedSimpArgs false
open Go.RowKit
def tabL : List (BitVec 32) := [0x00000000, 0x1db71064, 0x3b6e20c8, 0x26d930ac, 0x76dc4190, 0x6b6b51f4, 0x4db26158, 0x5005713c, 0xedb88320, 0xf00f9344, 0xd6d6a3e8, 0xcb61b38c, 0x9b64c2b0, 0x86d3d2d4, 0xa00ae278, 0xbdbdf21c]
def idx (r : BitVec 32) : Nat := (r &&& 15#32).toNat
def tab1 (i : Nat) : BitVec 32 := tabL.getD i 0
def turnC (r : BitVec 32) : BitVec 32 := (r >>> 4) ^^^ tab1 (idx r)
def stepC (r : BitVec 32) (x : BitVec 8) : BitVec 32 := turnC (turnC (r ^^^ x.setWidth 32))
def addC (s : BitVec 32) (bs : List (BitVec 8)) : BitVec 32 := ~~~ bs.foldl stepC (~~~ s)
def u32v (x : BitVec 32) : Value := .int .u32 (U32 x)
theorem idx_lt (r : BitVec 32) : idx r < 16 := by
  unfold idx
  rw [BitVec.toNat_and, show (15#32).toNat = 2 ^ 4 - 1 from rfl, Nat.and_two_pow_sub_one_eq_mod]
  omega
theorem and15 (r : BitVec 32) : bits .and .u32 (U32 r) 15 = (idx r : Int) := by
  rw [show (15 : Int) = U32 15#32 from by decide +kernel, andU32]; rfl
theorem shr4U32 (r : BitVec 32) : U32 r / (16 : Int) = U32 (r >>> 4) := by
  rw [show (16 : Int) = 2 ^ 4 from by decide, shrU32]
theorem notU32 (s : BitVec 32) : bits .xor .u32 IntKind.u32.max (U32 s) = U32 (~~~ s) := by
  rw [show IntKind.u32.max = U32 (BitVec.allOnes 32) from by decide +kernel, xorU32]
  congr 1
  try (apply BitVec.eq_of_getLsbD_eq; intro i hi; simp [hi])
theorem xorU32U8 (r : BitVec 32) (x : BitVec 8) : bits .xor .u32 (U32 r) (U8 x) = U32 (r ^^^ x.setWidth 32) := by rw [u8_u32, xorU32]
theorem wrapu8u32 (x : BitVec 8) : IntKind.u32.wrap (U8 x) = U32 (x.setWidth 32) := by rw [u8_u32, wrapU32]
theorem tab_cell {W : World} {g : Nat} {E : TypeId} (h : Bk W g E #[.int .u32 0, .int .u32 498536548, .int .u32 997073096, .int .u32 651767980, .int .u32 1994146192, .int .u32 1802195444, .int .u32 1303535960, .int .u32 1342533948, .int .u32 3988292384, .int .u32 4027552580, .int .u32 3604390888, .int .u32 3412177804, .int .u32 2607071920, .int .u32 2262029012, .int .u32 2685067896, .int .u32 3183342108]) (i : Nat) (hi : i < 16) : W.cell? ⟨g, i, none⟩ = some (.int .u32 (U32 (tab1 i))) := by
  rw [h.cell]
  have : i = 0 ∨ i = 1 ∨ i = 2 ∨ i = 3 ∨ i = 4 ∨ i = 5 ∨ i = 6 ∨ i = 7 ∨ i = 8 ∨ i = 9 ∨ i = 10 ∨ i = 11 ∨ i = 12 ∨ i = 13 ∨ i = 14 ∨ i = 15 := by omega
  rcases this with rfl | rfl | rfl | rfl | rfl | rfl | rfl | rfl | rfl | rfl | rfl | rfl | rfl | rfl | rfl | rfl <;> rfl
set_option maxHeartbeats 400000
end Go.Proofs.YtfodefgihicafaaDoor
