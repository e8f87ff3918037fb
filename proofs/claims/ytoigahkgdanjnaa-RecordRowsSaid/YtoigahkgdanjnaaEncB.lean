/- What codec.Enc's Int, Raw, Words, Bytes do. Conditions: lengths. -/
import Derived.Test.YtoigahkgdanjnaaEncA
namespace Go.Proofs.Ytoigahkgdanjnaa
set_option linter.unusedVariables false
set_option linter.unusedSimpArgs false
open Go.RowKit
def zigL (x : BitVec 64) : BitVec 64 := (x <<< 1) ^^^ (x.sshiftRight 63)
attribute [local go_sem] i64_u64 shlU64 sarI64 xorU64
set_option maxHeartbeats 400000
set_option maxRecDepth 100000
theorem shl1 (x : BitVec 64) : IntKind.u64.wrap (U64 x * 2) = U64 (x <<< 1) := by
  have h := shlU64 x 1
  rw [← h]; rfl
theorem zig_eq (x : BitVec 64) : bits .xor .u64 (U64 (x <<< 1)) (IntKind.u64.wrap (I64 x / 9223372036854775808)) = U64 (zigL x) := by
  rw [show (9223372036854775808 : Int) = 2 ^ 63 from by decide, sarI64, i64_u64, xorU64]
  rfl
theorem Rd.moved {α : Type} {f : α → Value} {w w' : World} {g : Nat} {v v' : Value} {A : Option Addr} {xs : List α} (h : Rd f w w.heap.size A xs) (hm : Moved w w' g v v') (hap : 0 < xs.length → ∀ a, A = some a → a.block ≠ g ∧ v.ownBlock ≠ some a.block) : Rd f w' w'.heap.size A xs := fun j hj => by
  obtain ⟨ad, e, hb, hc⟩ := h j hj
  obtain ⟨h1, h2⟩ := hap (by omega) ad e
  refine ⟨ad, e, Nat.lt_of_lt_of_le hb hm.size, ?_⟩
  rw [← hc]
  exact World.cell?_of_block (by rw [add_block]; exact hm.block _ hb h1 h2)
theorem enc_raw (w : World) (B g : Nat) (v : Value) (bs : List (BitVec 8)) (A : Option Addr) (c : Nat) (xs : List (BitVec 8)) (h : EncAt w B g v bs) (hr : Rd b8 w w.heap.size A xs) (hap : 0 < xs.length → ∀ a, A = some a → a.block ≠ g ∧ v.ownBlock ≠ some a.block) (hl : bs.length ≤ 536870912) (hx : xs.length ≤ 536870912) :
    Calls Try.prog 17 #[.pointer (some ⟨g, 0, none⟩), .slice A xs.length c] w (EncP B g v (bs ++ (uintL (BitVec.ofNat 64 xs.length) ++ xs)) w) := by
  have e0 : IntKind.u64.wrap (xs.length : Int) = U64 (BitVec.ofNat 64 xs.length) := by rw [wrapu64]; rfl
  have HU := Lib.hid (enc_uint w B g v bs (BitVec.ofNat 64 xs.length) h (by omega))
  have HA := Lib.hid hap
  clear hap
  go_enter Try.func17, Try.ntmps17
  go_wp2_with fail
  refine Calls.mono HU.out ?_
  rintro e w1 ⟨rfl, v1, he, hm⟩
  have hr1 := hr.moved hm HA.out
  have hul := uintF_len 9 (BitVec.ofNat 64 xs.length)
  have hcell := he.blk.cell 0
  have hfree := he.blk.free 0
  have hgl := he.blk.lt
  obtain ⟨A1, n1, c1, rfl⟩ := ow_slice he.row
  go_wp2_with (at_builtin; refine wp_app one8 b8_one rfl (.tmp 13) (.tmp 14) rfl B _ (bs ++ uintL (BitVec.ofNat 64 xs.length)) rfl he.row A xs.length c xs rfl rfl w1.heap.size hr1 (by unfold uintL; simp; omega) (by decide) (by have := he.ge; omega) ?_; intro v4 w4 ho4 hb4 hg4 hv4; obtain ⟨A4, n4, c4, rfl⟩ := ow_slice ho4; have hk4 := bkGrown he.blk hg4 (fun e => he.ne e.symm); have hc4 := hk4.cell 0; have hf4 := hk4.free 0; have hl4 := hk4.lt)
  go_end0
  obtain ⟨s1, s2⟩ := enc_step0 he ho4 hg4 hv4
  exact ⟨rfl, _, by rw [← List.append_assoc]; exact s1, hm.trans s2⟩
end Go.Proofs.Ytoigahkgdanjnaa
