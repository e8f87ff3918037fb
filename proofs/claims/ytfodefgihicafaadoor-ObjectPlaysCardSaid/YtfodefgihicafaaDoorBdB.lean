/- strconv.FormatUint(0x100 | x, 16): "1" and two digits. Conditions: the table deBruijn64tab holds 4 at its place 15. -/
import Derived.Test.YtfodefgihicafaaDoorBdA
import Derived.Handy
import Derived.LoopN
namespace Go.Proofs.YtfodefgihicafaaDoor
set_option linter.unusedVariables false
set_option linter.unusedSimpArgs false
open Go.RowKit
set_option maxHeartbeats 1000000
set_option maxRecDepth 100000
theorem pow2_16 (w : World) : Calls Tryd.prog 93 #[.int .i64 16] w fun e w' => e = .returned (.bool true) ∧ w' = w := by
  have hb : bits .and .i64 16 15 = 0 := by kernel_rfl
  go_enter Tryd.func93, Tryd.ntmps93
  go_wp2
  go_ret
  exact ⟨by simp [hb], rfl⟩
theorem tz64_16 (w : World) (h : w.cell? ⟨2, 15, none⟩ = some (.int .u8 4)) : Calls Tryd.prog 96 #[.int .u64 16] w fun e w' => e = .returned (.int .i64 4) ∧ w' = w := by
  have e1 : IntKind.u64.wrap (-16) = 18446744073709551600 := by kernel_rfl
  have e2 : bits .and .u64 16 18446744073709551600 = 16 := by kernel_rfl
  have e3 : IntKind.u64.wrap (16 * 285870213051353865) = 4573923408821661840 := by kernel_rfl
  have e4 : (4573923408821661840 : Int) / 288230376151711744 = 15 := by kernel_rfl
  go_enter Tryd.func96, Tryd.ntmps96
  go_wp2
  go_ret
  exact ⟨rfl, rfl⟩
theorem tz_16 (w : World) (h : w.cell? ⟨2, 15, none⟩ = some (.int .u8 4)) : Calls Tryd.prog 94 #[.int .u64 16] w fun e w' => e = .returned (.int .i64 4) ∧ w' = w := by
  have HC := Lib.hid (tz64_16 w h)
  clear h
  go_enter Tryd.func94, Tryd.ntmps94
  go_wp2_with fail
  refine Calls.mono HC.out ?_
  rintro e w1 ⟨rfl, rfl⟩
  go_wp2_with fail
  go_ret
  exact ⟨rfl, rfl⟩
def hexS : ByteArray := ⟨#[48, 49, 50, 51, 52, 53, 54, 55, 56, 57, 97, 98, 99, 100, 101, 102, 103, 104, 105, 106, 107, 108, 109, 110, 111, 112, 113, 114, 115, 116, 117, 118, 119, 120, 121, 122]⟩
/-- A digit by sixteens. -/
def hexU (i : Nat) : BitVec 8 := if i < 10 then BitVec.ofNat 8 (48 + i) else BitVec.ofNat 8 (87 + i)
theorem hexS_at (i : Nat) (h : i < 16) (h2 : i < hexS.size) : hexS[i] = UInt8.ofBitVec (hexU i) := by
  have key : ∀ k : Fin 16, hexS.data[k.1]! = UInt8.ofBitVec (hexU k.1) := by decide +kernel
  have k1 := key ⟨i, h⟩
  have h3 : i < hexS.data.size := h2
  rw [getElem!_pos hexS.data i h3] at k1
  exact k1
theorem three65 (Z : Array Value) (hz : Z.size = 65) (x y z : Value) :
    ((Z.setIfInBounds 64 z |>.setIfInBounds 63 y).setIfInBounds 62 x)[62]? = some x ∧ ((Z.setIfInBounds 64 z |>.setIfInBounds 63 y).setIfInBounds 62 x)[63]? = some y ∧ ((Z.setIfInBounds 64 z |>.setIfInBounds 63 y).setIfInBounds 62 x)[64]? = some z := by
  refine ⟨?_, ?_, ?_⟩ <;> simp [Array.getElem?_setIfInBounds, hz]
/-- Three bytes out of the end of a row of 65. -/
theorem conv65 (w : World) (x y z : UInt8) :
    (convert 30 9 (.slice (some ⟨w.heap.size, 62, none⟩) 3 3)).run Tryd.prog (w.alloc (.cells (((Tryd.zeroCells146.setIfInBounds 64 (.int .u8 z.toNat)).setIfInBounds 63 (.int .u8 y.toNat)).setIfInBounds 62 (.int .u8 x.toNat)) 146)) = .ok (.string ⟨#[x, y, z]⟩) (w.alloc (.cells (((Tryd.zeroCells146.setIfInBounds 64 (.int .u8 z.toNat)).setIfInBounds 63 (.int .u8 y.toNat)).setIfInBounds 62 (.int .u8 x.toNat)) 146)) := by
  have hz : Tryd.zeroCells146.size = 65 := by kernel_rfl
  obtain ⟨Z, hZ⟩ : ∃ Z, Z = Tryd.zeroCells146 := ⟨_, rfl⟩
  rw [← hZ] at hz ⊢
  clear hZ
  have hk := Bk.new w 146 (((Z.setIfInBounds 64 (.int .u8 z.toNat)).setIfInBounds 63 (.int .u8 y.toNat)).setIfInBounds 62 (.int .u8 x.toNat))
  generalize (w.alloc (.cells (((Z.setIfInBounds 64 (.int .u8 z.toNat)).setIfInBounds 63 (.int .u8 y.toNat)).setIfInBounds 62 (.int .u8 x.toNat)) 146)) = W at hk ⊢
  obtain ⟨k0, k1, k2⟩ := three65 Z hz (.int .u8 x.toNat) (.int .u8 y.toNat) (.int .u8 z.toNat)
  have hr : Rd b8 W (w.heap.size + 1) (some ⟨w.heap.size, 62, none⟩) [x.toBitVec, y.toBitVec, z.toBitVec] := by
    intro j hj
    refine ⟨_, rfl, Nat.lt_succ_self _, ?_⟩
    match j, hj with
    | 0, _ => exact (hk.cell 62).trans k0
    | 1, _ => exact (hk.cell 63).trans k1
    | 2, _ => exact (hk.cell 64).trans k2
  exact str_conv _ _ 3 _ W hr
/-- The digits of 0x100 | x by sixteens. -/
theorem bits_16 (w : World) (h : w.cell? ⟨2, 15, none⟩ = some (.int .u8 4)) (N0 N1 a b : Int) (ha : 0 ≤ a ∧ a < 16) (hb : 0 ≤ b ∧ b < 16) (g0 : 16 ≤ N0) (g1 : 16 ≤ N1)
    (e0 : bits .and .u64 N0 15 = b) (e1 : N0 / 16 = N1) (e2 : bits .and .u64 N1 15 = a) (e3 : N1 / 16 = 1) :
    Calls Tryd.prog 86 #[.slice none 0 0, .int .u64 N0, .int .i64 16, .bool false, .bool false] w fun e w' => e = .returned (.tuple #[.slice none 0 0, .string (strB [49#8, hexU a.toNat, hexU b.toNat])]) ∧ Below w.heap.size w w' := by
  have HP := Lib.hid (fun W => pow2_16 W)
  have HT := Lib.hid (And.intro h trivial)
  have hlt : (2 : Nat) < w.heap.size := by
    unfold World.cell? at h
    cases hh : w.heap[2]? with
    | none => rw [hh] at h; cases h
    | some o => exact (Array.getElem?_eq_some_iff.1 hh).1
  clear h
  have hcv := fun x y z => conv65 w x y z
  go_enter Tryd.func86, Tryd.ntmps86
  go_wp2_with fail
  refine Calls.mono (HP.out _) ?_
  rintro e w1 ⟨rfl, rfl⟩
  go_wp2_with fail
  refine Calls.mono (tz_16 _ (cell_later ((Gw.alloc w _)) HT.out.1)) ?_
  rintro e w1 ⟨rfl, rfl⟩
  go_wp2_with fail
  refine wp_loop_rounds 3 ?_
  rw [rounds_succ]
  go_wp2_with fail
  rw [rounds_succ]
  go_wp2_with fail
  rw [rounds_succ]
  go_wp2_with fail
  go_ret2
  have q0 := hexS_at 1 (by decide) (by decide)
  have s36 : hexS.size = 36 := rfl
  have sa : a.toNat < hexS.size := by omega
  have sb : b.toNat < hexS.size := by omega
  have q1 := hexS_at a.toNat (by omega) sa
  have q2 := hexS_at b.toNat (by omega) sb
  refine ⟨?_, Gw.alloc w _⟩
  refine congrArg Ending.returned (congrArg Value.tuple ?_)
  refine congrArg (fun v => #[Value.slice none 0 0, Value.string v]) ?_
  show (⟨#[hexS[1]'(by decide), hexS[a.toNat]'sa, hexS[b.toNat]'sb]⟩ : ByteArray) = _
  rw [q0, q1, q2]
  rfl
theorem ifu_c (w : World) (h : w.cell? ⟨2, 15, none⟩ = some (.int .u8 4)) (N0 N1 a b : Int) (ha : 0 ≤ a ∧ a < 16) (hb : 0 ≤ b ∧ b < 16) (g0 : 16 ≤ N0) (g1 : 16 ≤ N1)
    (e0 : bits .and .u64 N0 15 = b) (e1 : N0 / 16 = N1) (e2 : bits .and .u64 N1 15 = a) (e3 : N1 / 16 = 1) :
    Calls Tryd.prog 75 #[.int .u64 N0, .int .i64 16] w fun e w' => e = .returned (.string (strB [49#8, hexU a.toNat, hexU b.toNat])) ∧ Below w.heap.size w w' := by
  have HC := Lib.hid (bits_16 w h N0 N1 a b ha hb g0 g1 e0 e1 e2 e3)
  clear h e0 e1 e2 e3 g0 g1 ha hb
  go_enter Tryd.func75, Tryd.ntmps75
  go_wp2_with fail
  refine Calls.mono HC.out ?_
  rintro e w1 ⟨rfl, hg⟩
  go_wp2_with fail
  go_ret
  exact ⟨rfl, hg⟩
theorem hex_bits : ∀ x : Fin 256, bits .or .u64 256 (x.1 : Int) = 256 + (x.1 : Int) ∧ bits .and .u64 (256 + (x.1 : Int)) 15 = ((x.1 % 16 : Nat) : Int) ∧ bits .and .u64 (16 + ((x.1 / 16 : Nat) : Int)) 15 = ((x.1 / 16 : Nat) : Int) := by decide +kernel
theorem fu_c (w : World) (h : w.cell? ⟨2, 15, none⟩ = some (.int .u8 4)) (x : BitVec 8) :
    Calls Tryd.prog 53 #[.int .u64 (bits .or .u64 256 (U8 x)), .int .i64 16] w fun e w' => e = .returned (.string (strB [49#8, hexU (x.toNat / 16), hexU (x.toNat % 16)])) ∧ Below w.heap.size w w' := by
  have hx : x.toNat < 256 := x.isLt
  obtain ⟨k0, k1, k2⟩ := hex_bits ⟨x.toNat, hx⟩
  simp only at k0 k1 k2
  have e : bits .or .u64 256 (U8 x) = 256 + (x.toNat : Int) := k0
  rw [e]
  have hc0 := (ifu_c w h (256 + (x.toNat : Int)) (16 + ((x.toNat / 16 : Nat) : Int)) ((x.toNat / 16 : Nat) : Int) ((x.toNat % 16 : Nat) : Int) (by omega) (by omega) (by omega) (by omega) k1 (by omega) k2 (by omega))
  rw [Int.toNat_natCast, Int.toNat_natCast] at hc0
  clear h e k0 k1 k2 hx
  generalize x.toNat / 16 = p at hc0 ⊢
  generalize x.toNat % 16 = q at hc0 ⊢
  have HC := Lib.hid hc0
  clear hc0
  generalize (256 : Int) + (x.toNat : Int) = N0 at HC ⊢
  go_enter Tryd.func53, Tryd.ntmps53
  go_wp2_with fail
  refine Calls.mono HC.out ?_
  rintro e w1 ⟨rfl, hg⟩
  go_wp2_with fail
  go_ret
  exact ⟨rfl, hg⟩
end Go.Proofs.YtfodefgihicafaaDoor
