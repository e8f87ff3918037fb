/- Numbers of fixed width behind one name each: a uint64 is 'U64 x' with x a BitVec 64, and so on; laws that bring what the walk reckons back under these names. No conditions. -/
import Derived.WalkKit
import Derived.WalkLawsBesides
import Derived.WalkSpells
import Derived.Laws.BitsAllLaws
import Derived.Laws.Bits64
import Derived.Deep.QuietTactic
import Derived.BigQuiet
import Derived.Lib.Hide
namespace Go.Proofs.Ytdfhdgdhhgabbaa
set_option linter.unusedVariables false
set_option linter.unusedSimpArgs false
open Go.RowKit

def U64 (x : BitVec 64) : Int := x.toNat
def U32 (x : BitVec 32) : Int := x.toNat
def U8 (x : BitVec 8) : Int := x.toNat

theorem U64_lo (x : BitVec 64) : 0 ≤ U64 x := Int.natCast_nonneg _
theorem U32_lo (x : BitVec 32) : 0 ≤ U32 x := Int.natCast_nonneg _
theorem U8_lo (x : BitVec 8) : 0 ≤ U8 x := Int.natCast_nonneg _
theorem U64_hi (x : BitVec 64) : U64 x < 2 ^ 64 := by have := x.isLt; unfold U64; omega
theorem U32_hi (x : BitVec 32) : U32 x < 2 ^ 32 := by have := x.isLt; unfold U32; omega
theorem U8_hi (x : BitVec 8) : U8 x < 256 := by have := x.isLt; unfold U8; omega
theorem U64_inj {x y : BitVec 64} (h : U64 x = U64 y) : x = y := by unfold U64 at h; exact BitVec.eq_of_toNat_eq (by omega)
theorem U32_inj {x y : BitVec 32} (h : U32 x = U32 y) : x = y := by unfold U32 at h; exact BitVec.eq_of_toNat_eq (by omega)
theorem U8_inj {x y : BitVec 8} (h : U8 x = U8 y) : x = y := by unfold U8 at h; exact BitVec.eq_of_toNat_eq (by omega)

theorem U64_of {v : Int} (h : 0 ≤ v) (h2 : v < 2 ^ 64) : v = U64 (BitVec.ofInt 64 v) := by
  unfold U64; rw [BitVec.toNat_ofInt]; omega
theorem U32_of {v : Int} (h : 0 ≤ v) (h2 : v < 2 ^ 32) : v = U32 (BitVec.ofInt 32 v) := by
  unfold U32; rw [BitVec.toNat_ofInt]; omega
theorem U8_of {v : Int} (h : 0 ≤ v) (h2 : v < 2 ^ 8) : v = U8 (BitVec.ofInt 8 v) := by
  unfold U8; rw [BitVec.toNat_ofInt]; omega

theorem wrapu64 (v : Int) : IntKind.u64.wrap v = U64 (BitVec.ofInt 64 v) := by
  unfold U64; rw [BitVec.toNat_ofInt]; simp [IntKind.wrap, IntKind.bits, IntKind.signed]; omega
theorem wrapu32 (v : Int) : IntKind.u32.wrap v = U32 (BitVec.ofInt 32 v) := by
  unfold U32; rw [BitVec.toNat_ofInt]; simp [IntKind.wrap, IntKind.bits, IntKind.signed]; omega
theorem wrapu8 (v : Int) : IntKind.u8.wrap v = U8 (BitVec.ofInt 8 v) := by
  unfold U8; rw [BitVec.toNat_ofInt]; simp [IntKind.wrap, IntKind.bits, IntKind.signed]; omega
theorem wrapi64 (v : Int) : wrap64 v = (BitVec.ofInt 64 v).toInt := by
  rw [BitVec.toInt_ofInt, wrap64]; unfold Int.bmod; dsimp only; split <;> omega

theorem ofInt_U64 (x : BitVec 64) : BitVec.ofInt 64 (U64 x) = x := by
  unfold U64; rw [BitVec.ofInt_natCast]; simp
theorem ofInt_U32 (x : BitVec 32) : BitVec.ofInt 32 (U32 x) = x := by
  unfold U32; rw [BitVec.ofInt_natCast]; simp
theorem ofInt_U8 (x : BitVec 8) : BitVec.ofInt 8 (U8 x) = x := by
  unfold U8; rw [BitVec.ofInt_natCast]; simp

theorem ofInt_mul_pow (n : Nat) (v : Int) (k : Nat) : BitVec.ofInt n (v * 2 ^ k) = BitVec.ofInt n v <<< k := by
  rw [BitVec.ofInt_mul, BitVec.shiftLeft_eq_mul_twoPow]
  congr 1
  have e : (2 : Int) ^ k = ((2 ^ k : Nat) : Int) := by push_cast; rfl
  rw [e, BitVec.ofInt_natCast]
  apply BitVec.eq_of_toNat_eq; rw [BitVec.toNat_twoPow, BitVec.toNat_ofNat]

theorem shlU64 (x : BitVec 64) (k : Nat) : IntKind.u64.wrap (U64 x * 2 ^ k) = U64 (x <<< k) := by
  rw [wrapu64, ofInt_mul_pow, ofInt_U64]
theorem shlU32 (x : BitVec 32) (k : Nat) : IntKind.u32.wrap (U32 x * 2 ^ k) = U32 (x <<< k) := by
  rw [wrapu32, ofInt_mul_pow, ofInt_U32]
theorem shlU8 (x : BitVec 8) (k : Nat) : IntKind.u8.wrap (U8 x * 2 ^ k) = U8 (x <<< k) := by
  rw [wrapu8, ofInt_mul_pow, ofInt_U8]
theorem shrU64 (x : BitVec 64) (k : Nat) : U64 x / 2 ^ k = U64 (x >>> k) := by
  unfold U64; rw [BitVec.toNat_ushiftRight, Nat.shiftRight_eq_div_pow]; push_cast; rfl
theorem shrU32 (x : BitVec 32) (k : Nat) : U32 x / 2 ^ k = U32 (x >>> k) := by
  unfold U32; rw [BitVec.toNat_ushiftRight, Nat.shiftRight_eq_div_pow]; push_cast; rfl
theorem shrU8 (x : BitVec 8) (k : Nat) : U8 x / 2 ^ k = U8 (x >>> k) := by
  unfold U8; rw [BitVec.toNat_ushiftRight, Nat.shiftRight_eq_div_pow]; push_cast; rfl

theorem andU64 (x y : BitVec 64) : bits .and .u64 (U64 x) (U64 y) = U64 (x &&& y) := by
  show IntKind.u64.wrap ((BitVec.ofInt 64 (U64 x) &&& BitVec.ofInt 64 (U64 y)).toNat : Int) = _
  rw [ofInt_U64, ofInt_U64, wrapu64]; congr 1; rw [BitVec.ofInt_natCast]; simp
theorem orU64 (x y : BitVec 64) : bits .or .u64 (U64 x) (U64 y) = U64 (x ||| y) := by
  show IntKind.u64.wrap ((BitVec.ofInt 64 (U64 x) ||| BitVec.ofInt 64 (U64 y)).toNat : Int) = _
  rw [ofInt_U64, ofInt_U64, wrapu64]; congr 1; rw [BitVec.ofInt_natCast]; simp
theorem xorU64 (x y : BitVec 64) : bits .xor .u64 (U64 x) (U64 y) = U64 (x ^^^ y) := by
  show IntKind.u64.wrap ((BitVec.ofInt 64 (U64 x) ^^^ BitVec.ofInt 64 (U64 y)).toNat : Int) = _
  rw [ofInt_U64, ofInt_U64, wrapu64]; congr 1; rw [BitVec.ofInt_natCast]; simp
theorem andNotU64 (x y : BitVec 64) : bits .andNot .u64 (U64 x) (U64 y) = U64 (x &&& ~~~y) := by
  show IntKind.u64.wrap ((BitVec.ofInt 64 (U64 x) &&& ~~~BitVec.ofInt 64 (U64 y)).toNat : Int) = _
  rw [ofInt_U64, ofInt_U64, wrapu64]; congr 1; rw [BitVec.ofInt_natCast, BitVec.ofNat_toNat, BitVec.setWidth_eq]
theorem andU32 (x y : BitVec 32) : bits .and .u32 (U32 x) (U32 y) = U32 (x &&& y) := by
  show IntKind.u32.wrap ((BitVec.ofInt 32 (U32 x) &&& BitVec.ofInt 32 (U32 y)).toNat : Int) = _
  rw [ofInt_U32, ofInt_U32, wrapu32]; congr 1; rw [BitVec.ofInt_natCast]; simp
theorem orU32 (x y : BitVec 32) : bits .or .u32 (U32 x) (U32 y) = U32 (x ||| y) := by
  show IntKind.u32.wrap ((BitVec.ofInt 32 (U32 x) ||| BitVec.ofInt 32 (U32 y)).toNat : Int) = _
  rw [ofInt_U32, ofInt_U32, wrapu32]; congr 1; rw [BitVec.ofInt_natCast]; simp
theorem xorU32 (x y : BitVec 32) : bits .xor .u32 (U32 x) (U32 y) = U32 (x ^^^ y) := by
  show IntKind.u32.wrap ((BitVec.ofInt 32 (U32 x) ^^^ BitVec.ofInt 32 (U32 y)).toNat : Int) = _
  rw [ofInt_U32, ofInt_U32, wrapu32]; congr 1; rw [BitVec.ofInt_natCast]; simp
theorem andU8 (x y : BitVec 8) : bits .and .u8 (U8 x) (U8 y) = U8 (x &&& y) := by
  show IntKind.u8.wrap ((BitVec.ofInt 8 (U8 x) &&& BitVec.ofInt 8 (U8 y)).toNat : Int) = _
  rw [ofInt_U8, ofInt_U8, wrapu8]; congr 1; rw [BitVec.ofInt_natCast]; simp
theorem orU8 (x y : BitVec 8) : bits .or .u8 (U8 x) (U8 y) = U8 (x ||| y) := by
  show IntKind.u8.wrap ((BitVec.ofInt 8 (U8 x) ||| BitVec.ofInt 8 (U8 y)).toNat : Int) = _
  rw [ofInt_U8, ofInt_U8, wrapu8]; congr 1; rw [BitVec.ofInt_natCast]; simp
theorem xorU8 (x y : BitVec 8) : bits .xor .u8 (U8 x) (U8 y) = U8 (x ^^^ y) := by
  show IntKind.u8.wrap ((BitVec.ofInt 8 (U8 x) ^^^ BitVec.ofInt 8 (U8 y)).toNat : Int) = _
  rw [ofInt_U8, ofInt_U8, wrapu8]; congr 1; rw [BitVec.ofInt_natCast]; simp

theorem wrapU64 (x : BitVec 64) : IntKind.u64.wrap (U64 x) = U64 x := by rw [wrapu64, ofInt_U64]
theorem wrapU32 (x : BitVec 32) : IntKind.u32.wrap (U32 x) = U32 x := by rw [wrapu32, ofInt_U32]
theorem wrapU8 (x : BitVec 8) : IntKind.u8.wrap (U8 x) = U8 x := by rw [wrapu8, ofInt_U8]
theorem shl8U64 (x : BitVec 64) : IntKind.u64.wrap (U64 x * 256) = U64 (x <<< 8) := by
  rw [show (256 : Int) = 2 ^ 8 from by decide, shlU64]
theorem shl8U32 (x : BitVec 32) : IntKind.u32.wrap (U32 x * 256) = U32 (x <<< 8) := by
  rw [show (256 : Int) = 2 ^ 8 from by decide, shlU32]
theorem addU64 (x y : BitVec 64) : IntKind.u64.wrap (U64 x + U64 y) = U64 (x + y) := by
  rw [wrapu64, BitVec.ofInt_add, ofInt_U64, ofInt_U64]
theorem subU64 (x y : BitVec 64) : IntKind.u64.wrap (U64 x - U64 y) = U64 (x - y) := by
  rw [wrapu64, Int.sub_eq_add_neg, BitVec.ofInt_add, BitVec.ofInt_neg, ofInt_U64, ofInt_U64, ← BitVec.sub_eq_add_neg]

theorem u8_u32 (x : BitVec 8) : U8 x = U32 (x.setWidth 32) := by have := x.isLt; unfold U8 U32; simp; omega
theorem u8_u64 (x : BitVec 8) : U8 x = U64 (x.setWidth 64) := by have := x.isLt; unfold U8 U64; simp; omega
theorem u32_u64 (x : BitVec 32) : U32 x = U64 (x.setWidth 64) := by have := x.isLt; unfold U32 U64; simp; omega
theorem u64_u8 (x : BitVec 64) : IntKind.u8.wrap (U64 x) = U8 (x.setWidth 8) := by
  rw [wrapu8]; congr 1
theorem u64_u32 (x : BitVec 64) : IntKind.u32.wrap (U64 x) = U32 (x.setWidth 32) := by
  rw [wrapu32]; congr 1
theorem u32_u8 (x : BitVec 32) : IntKind.u8.wrap (U32 x) = U8 (x.setWidth 8) := by
  rw [wrapu8]; congr 1

theorem beqU64 (x y : BitVec 64) : (U64 x == U64 y) = (x == y) := by
  rw [Bool.eq_iff_iff]; simp only [beq_iff_eq]; exact ⟨U64_inj, fun h => by rw [h]⟩
theorem beqU32 (x y : BitVec 32) : (U32 x == U32 y) = (x == y) := by
  rw [Bool.eq_iff_iff]; simp only [beq_iff_eq]; exact ⟨U32_inj, fun h => by rw [h]⟩
theorem beqU8 (x y : BitVec 8) : (U8 x == U8 y) = (x == y) := by
  rw [Bool.eq_iff_iff]; simp only [beq_iff_eq]; exact ⟨U8_inj, fun h => by rw [h]⟩


def I64 (x : BitVec 64) : Int := x.toInt
theorem I64_lo (x : BitVec 64) : -9223372036854775808 ≤ I64 x := by have := BitVec.le_toInt x; unfold I64; omega
theorem I64_hi (x : BitVec 64) : I64 x ≤ 9223372036854775807 := by have := BitVec.toInt_lt (x := x); unfold I64; omega
theorem I64_inj {x y : BitVec 64} (h : I64 x = I64 y) : x = y := BitVec.eq_of_toInt_eq h
theorem I64_of {v : Int} (h : -9223372036854775808 ≤ v) (h2 : v ≤ 9223372036854775807) : v = I64 (BitVec.ofInt 64 v) := by
  unfold I64; rw [BitVec.toInt_ofInt]; unfold Int.bmod; dsimp only; split <;> omega
theorem i64_u64 (x : BitVec 64) : IntKind.u64.wrap (I64 x) = U64 x := by
  rw [wrapu64]; congr 1; unfold I64; apply BitVec.eq_of_toInt_eq; simp
theorem u64_i64 (x : BitVec 64) : wrap64 (U64 x) = I64 x := by
  rw [wrapi64, ofInt_U64]; rfl
theorem beqI64 (x y : BitVec 64) : (I64 x == I64 y) = (x == y) := by
  rw [Bool.eq_iff_iff]; simp only [beq_iff_eq]; exact ⟨I64_inj, fun h => by rw [h]⟩
theorem sarI64 (x : BitVec 64) (k : Nat) : I64 x / 2 ^ k = I64 (x.sshiftRight k) := by
  unfold I64; rw [BitVec.toInt_sshiftRight, Int.shiftRight_eq_div_pow]; push_cast; rfl

/-- The world is as it was, but for draws. -/
def Dn (w w' : World) : Prop := ∃ m, w' = w.drewN m
theorem Dn.rfl_ (w : World) : Dn w w := ⟨0, rfl⟩
theorem Dn.drew {w w' : World} (h : Dn w w') : Dn w w'.drew := by obtain ⟨m, rfl⟩ := h; exact ⟨m + 1, rfl⟩
theorem Dn.drewN {w w' : World} (h : Dn w w') (n : Nat) : Dn w (w'.drewN n) := by obtain ⟨m, rfl⟩ := h; exact ⟨m + n, by rw [World.drewN_drewN]⟩
theorem Dn.trans {w w1 w2 : World} (h : Dn w w1) (k : Dn w1 w2) : Dn w w2 := by obtain ⟨m, rfl⟩ := h; obtain ⟨n, rfl⟩ := k; exact ⟨m + n, by rw [World.drewN_drewN]⟩
theorem Dn.below {w w' : World} (h : Dn w w') (B : Nat) : Below B w w' := by obtain ⟨m, rfl⟩ := h; exact ⟨rfl, rfl, rfl, Nat.le_refl _, fun _ _ => rfl⟩
/-- What a call that only reads leaves. -/
def AnsP (v : Value) (w : World) (e : Ending) (w' : World) : Prop := e = .returned v ∧ Dn w w'
/-- A call that answers v and leaves the world as it was, but for draws. -/
def Ans (P : Program) (f : FuncId) (args : Array Value) (w : World) (v : Value) : Prop := Calls P f args w (AnsP v w)
theorem Ans.go {P : Program} {f : FuncId} {args : Array Value} {w : World} {v : Value} (h : Ans P f args w v) : Calls P f args w fun e w' => e = .returned v ∧ ∃ m, w' = w.drewN m := h
theorem Ans.q {P : Program} {f : FuncId} {args : Array Value} {w : World} {n : Nat} {v : Value} (h : Ans P f args (w.drewN n) v) :
    Calls P f args (w.drewN n) fun e w'' => e = .returned v ∧ ∃ m, w'' = w.drewN m := Calls.quiet_of h
theorem Ans.qa {P : Program} {f : FuncId} {args : Array Value} {w : World} {a n : Nat} {v : Value} (h : Ans P f args (w.drewN (a + n)) v) :
    Calls P f args (w.drewN (a + n)) fun e w'' => e = .returned v ∧ ∃ m, w'' = w.drewN (a + m) :=
  Calls.mono h fun _ _ ⟨he, m, hm⟩ => ⟨he, n + m, by rw [hm, World.drewN_drewN, Nat.add_assoc]⟩
theorem ret_int {k : IntKind} {a b : Int} (h : a = b) : Ending.returned (.int k a) = .returned (.int k b) := by rw [h]
theorem ret_bool {a b : Bool} (h : a = b) : Ending.returned (.bool a) = .returned (.bool b) := by rw [h]
theorem ans_int {k : IntKind} {a b : Int} {w w' : World} (h : a = b) (hw : Dn w w') : AnsP (.int k b) w (.returned (.int k a)) w' := ⟨by rw [h], hw⟩
theorem ans_bool {a b : Bool} {w w' : World} (h : a = b) (hw : Dn w w') : AnsP (.bool b) w (.returned (.bool a)) w' := ⟨by rw [h], hw⟩
end Go.Proofs.Ytdfhdgdhhgabbaa
