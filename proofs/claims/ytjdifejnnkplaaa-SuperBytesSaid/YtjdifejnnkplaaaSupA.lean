/- What sup.numbers answers; the bytes of a block. Conditions: the numbers' sizes. -/
import Derived.Test.YtjdifejnnkplaaaGeomB
import Derived.Test.YtjdifejnnkplaaaCrcB
import Derived.Test.YtjdifejnnkplaaaRegS
import Derived.LoopTactic
import Derived.Laws.Rows
import Derived.Laws.Tables
namespace Go.Proofs.Ytjdifejnnkplaaa
set_option linter.unusedVariables false
set_option linter.unusedSimpArgs false
open Go.RowKit
set_option maxRecDepth 100000
set_option maxHeartbeats 400000
def blkV (ep : BitVec 64) (s l n sp wd : Int) (lg : BitVec 64) : Value := .agg #[.int .u64 (U64 ep), .int .i64 s, .int .i64 l, .int .i64 n, .int .i64 sp, .int .i64 wd, .int .u64 (U64 lg)]
def badS (s l n sp wd : Int) : Prop := okG s l n = false ∨ sp < 0 ∨ 1 < sp ∨ wd < 0 ∨ n < wd
theorem u64nat (n : Nat) (h : n < 2 ^ 64) : U64 (BitVec.ofNat 64 n) = (n : Int) := by
  unfold U64
  rw [BitVec.toNat_ofNat, Nat.mod_eq_of_lt h]
def numsL (ep : BitVec 64) (s l n sp wd : Nat) (lg : BitVec 64) : List (BitVec 64 × Nat) :=
  [(BitVec.ofNat 64 1296125772, 4), (BitVec.ofNat 64 1, 4), (ep, 8), (BitVec.ofNat 64 s, 4), (BitVec.ofNat 64 l, 4), (BitVec.ofNat 64 n, 4), (BitVec.ofNat 64 sp, 4), (BitVec.ofNat 64 wd, 4), (lg, 8)]
def numsV (ep : BitVec 64) (s l n sp wd : Nat) (lg : BitVec 64) : Value :=
  .agg #[.int .u64 1296125772, .int .i64 4, .int .u64 1, .int .i64 4, .int .u64 (U64 ep), .int .i64 8, .int .u64 (s : Int), .int .i64 4, .int .u64 (l : Int), .int .i64 4, .int .u64 (n : Int), .int .i64 4, .int .u64 (sp : Int), .int .i64 4, .int .u64 (wd : Int), .int .i64 4, .int .u64 (U64 lg), .int .i64 8]
theorem idx9 (ep : BitVec 64) (s l n sp wd : Nat) (lg : BitVec 64) (hs : s < 2 ^ 64) (hl : l < 2 ^ 64) (hn : n < 2 ^ 64) (hsp : sp < 2 ^ 64) (hwd : wd < 2 ^ 64) (k : Nat) (hk : k < 9) :
    ∃ v b, (numsL ep s l n sp wd lg)[k]? = some (v, b) ∧ b ≤ 8 ∧ ∀ W, (Instr.index 53 (numsV ep s l n sp wd lg) (.int .i64 (k : Int))).run Try.prog W = .ok (.agg #[.int .u64 (U64 v), .int .i64 (b : Int)]) W := by
  match k, hk with
  | 0, _ => exact ⟨_, _, rfl, by decide, fun W => by kernel_rfl⟩
  | 1, _ => exact ⟨_, _, rfl, by decide, fun W => by kernel_rfl⟩
  | 2, _ => exact ⟨_, _, rfl, by decide, fun W => by kernel_rfl⟩
  | 3, _ => exact ⟨_, _, rfl, by decide, fun W => by rw [u64nat s hs]; kernel_rfl⟩
  | 4, _ => exact ⟨_, _, rfl, by decide, fun W => by rw [u64nat l hl]; kernel_rfl⟩
  | 5, _ => exact ⟨_, _, rfl, by decide, fun W => by rw [u64nat n hn]; kernel_rfl⟩
  | 6, _ => exact ⟨_, _, rfl, by decide, fun W => by rw [u64nat sp hsp]; kernel_rfl⟩
  | 7, _ => exact ⟨_, _, rfl, by decide, fun W => by rw [u64nat wd hwd]; kernel_rfl⟩
  | 8, _ => exact ⟨_, _, rfl, by decide, fun W => by kernel_rfl⟩
theorem Bk.seven {W : World} {g : Nat} {E : TypeId} {a b c d e f x : Value} (h : Bk W g E #[a, b, c, d, e, f, x]) : W.cell? ⟨g, 0, none⟩ = some a ∧ W.cell? ⟨g, 1, none⟩ = some b ∧ W.cell? ⟨g, 2, none⟩ = some c ∧ W.cell? ⟨g, 3, none⟩ = some d ∧ W.cell? ⟨g, 4, none⟩ = some e ∧ W.cell? ⟨g, 5, none⟩ = some f ∧ W.cell? ⟨g, 6, none⟩ = some x := ⟨h.cell 0, h.cell 1, h.cell 2, h.cell 3, h.cell 4, h.cell 5, h.cell 6⟩
theorem numbers_c (ep : BitVec 64) (s l n sp wd : Nat) (lg : BitVec 64) (w : World) (hs : s ≤ 1048576) (hl : l ≤ 1048576) (hn : n ≤ 1048576) (hsp : sp ≤ 1048576) (hwd : wd ≤ 1048576) : Calls Try.prog 19 #[blkV ep s l n sp wd lg] w (RetP (numsV ep s l n sp wd lg) w) := by
  have p1 : (0 : Int) ≤ (s : Int) ∧ (s : Int) ≤ 1048576 := by omega
  have p2 : (0 : Int) ≤ (l : Int) ∧ (l : Int) ≤ 1048576 := by omega
  have p3 : (0 : Int) ≤ (n : Int) ∧ (n : Int) ≤ 1048576 := by omega
  have p4 : (0 : Int) ≤ (sp : Int) ∧ (sp : Int) ≤ 1048576 := by omega
  have p5 : (0 : Int) ≤ (wd : Int) ∧ (wd : Int) ≤ 1048576 := by omega
  have k1 : IntKind.u64.wrap (s : Int) = (s : Int) := by simp [IntKind.wrap, IntKind.bits, IntKind.signed]; omega
  have k2 : IntKind.u64.wrap (l : Int) = (l : Int) := by simp [IntKind.wrap, IntKind.bits, IntKind.signed]; omega
  have k3 : IntKind.u64.wrap (n : Int) = (n : Int) := by simp [IntKind.wrap, IntKind.bits, IntKind.signed]; omega
  have k4 : IntKind.u64.wrap (sp : Int) = (sp : Int) := by simp [IntKind.wrap, IntKind.bits, IntKind.signed]; omega
  have k5 : IntKind.u64.wrap (wd : Int) = (wd : Int) := by simp [IntKind.wrap, IntKind.bits, IntKind.signed]; omega
  have hk : Bk ((w.alloc (.cells #[.int .u64 (U64 ep), .int .i64 (s : Int), .int .i64 (l : Int), .int .i64 (n : Int), .int .i64 (sp : Int), .int .i64 (wd : Int), .int .u64 (U64 lg)] 26)).alloc (.cells #[.int .u64 1296125772, .int .i64 4, .int .u64 1, .int .i64 4, .int .u64 (U64 ep), .int .i64 8, .int .u64 (s : Int), .int .i64 4, .int .u64 (l : Int), .int .i64 4, .int .u64 (n : Int), .int .i64 4, .int .u64 (sp : Int), .int .i64 4, .int .u64 (wd : Int), .int .i64 4, .int .u64 (U64 lg), .int .i64 8] 53)) (w.heap.size + 1) 53 #[.int .u64 1296125772, .int .i64 4, .int .u64 1, .int .i64 4, .int .u64 (U64 ep), .int .i64 8, .int .u64 (s : Int), .int .i64 4, .int .u64 (l : Int), .int .i64 4, .int .u64 (n : Int), .int .i64 4, .int .u64 (sp : Int), .int .i64 4, .int .u64 (wd : Int), .int .i64 4, .int .u64 (U64 lg), .int .i64 8] := by
    have q := Bk.new (w.alloc (.cells #[.int .u64 (U64 ep), .int .i64 (s : Int), .int .i64 (l : Int), .int .i64 (n : Int), .int .i64 (sp : Int), .int .i64 (wd : Int), .int .u64 (U64 lg)] 26)) 53 #[.int .u64 1296125772, .int .i64 4, .int .u64 1, .int .i64 4, .int .u64 (U64 ep), .int .i64 8, .int .u64 (s : Int), .int .i64 4, .int .u64 (l : Int), .int .i64 4, .int .u64 (n : Int), .int .i64 4, .int .u64 (sp : Int), .int .i64 4, .int .u64 (wd : Int), .int .i64 4, .int .u64 (U64 lg), .int .i64 8]
    simpa using q
  have hb : Below w.heap.size w ((w.alloc (.cells #[.int .u64 (U64 ep), .int .i64 (s : Int), .int .i64 (l : Int), .int .i64 (n : Int), .int .i64 (sp : Int), .int .i64 (wd : Int), .int .u64 (U64 lg)] 26)).alloc (.cells #[.int .u64 1296125772, .int .i64 4, .int .u64 1, .int .i64 4, .int .u64 (U64 ep), .int .i64 8, .int .u64 (s : Int), .int .i64 4, .int .u64 (l : Int), .int .i64 4, .int .u64 (n : Int), .int .i64 4, .int .u64 (sp : Int), .int .i64 4, .int .u64 (wd : Int), .int .i64 4, .int .u64 (U64 lg), .int .i64 8] 53)) := (Gw.alloc w _).trans ((Gw.alloc _ _).mono (by simp))
  obtain ⟨c0, c1, c2, c3, c4, c5, c6⟩ := (Bk.new w 26 #[.int .u64 (U64 ep), .int .i64 (s : Int), .int .i64 (l : Int), .int .i64 (n : Int), .int .i64 (sp : Int), .int .i64 (wd : Int), .int .u64 (U64 lg)]).seven
  have HK := Lib.hid hk
  have HB := Lib.hid hb
  clear k1 k2 k3 k4 k5 hk hb
  unfold blkV
  go_enter Try.func19, Try.ntmps19
  go_wp2_with fail
  refine bodyPost_ret (v := numsV ep s l n sp wd lg) ?_ rfl ⟨rfl, HB.out⟩
  exact results_cell_row (ty := 53) (p := 2) (by kernel_rfl) _ _ (w.heap.size + 1) 53 #[.int .u64 1296125772, .int .i64 4, .int .u64 1, .int .i64 4, .int .u64 (U64 ep), .int .i64 8, .int .u64 (s : Int), .int .i64 4, .int .u64 (l : Int), .int .i64 4, .int .u64 (n : Int), .int .i64 4, .int .u64 (sp : Int), .int .i64 4, .int .u64 (wd : Int), .int .i64 4, .int .u64 (U64 lg), .int .i64 8] (0, 0) _ (by kernel_rfl) HK.out Try.underlying53 rfl (by kernel_rfl)
end Go.Proofs.Ytjdifejnnkplaaa
