/- What rec.check answers; bytes.Equal. Conditions: lengths. -/
import Derived.Test.YtoigahkgdanjnaaCodA
import Derived.Test.YtoigahkgdanjnaaCrcB
import Derived.Test.YtoigahkgdanjnaaStr
namespace Go.Proofs.Ytoigahkgdanjnaa
set_option linter.unusedVariables false
set_option linter.unusedSimpArgs false
open Go.RowKit
set_option maxRecDepth 100000
set_option maxHeartbeats 400000
/-- A record as a value: its data n bytes at A. -/
def recV (k : Int) (tx : BitVec 64) (sp no : Int) (A : Option Addr) (n c : Nat) : Value := .agg #[.int .i64 k, .int .u64 (U64 tx), .int .i64 sp, .int .i64 no, .slice A n c]
def badR (k sp no : Int) : Prop := k < 1 ∨ 3 < k ∨ (k ≠ 1 ∧ ¬(sp = 0 ∧ no = 0)) ∨ sp < 0 ∨ 1 < sp ∨ no < 0 ∨ 65535 < no
theorem check_bad (k : Int) (tx : BitVec 64) (sp no : Int) (A : Option Addr) (n c : Nat) (w : World) (h : badR k sp no) : Calls Try.prog 15 #[recV k tx sp no A n c] w (RetP (.int .i64 1) w) := by
  have hk := Bk.new w 27 #[.int .i64 k, .int .u64 (U64 tx), .int .i64 sp, .int .i64 no, .slice A n c]
  have c0 := hk.cell 0
  have c1 := hk.cell 1
  have c2 := hk.cell 2
  have c3 := hk.cell 3
  have c4 := hk.cell 4
  have hb := Lib.hid (Gw.alloc w (.cells #[.int .i64 k, .int .u64 (U64 tx), .int .i64 sp, .int .i64 no, .slice A n c] 27))
  unfold recV
  clear hk
  rcases (show k < 1 ∨ (¬ k < 1 ∧ 3 < k) ∨ (¬ k < 1 ∧ ¬ 3 < k ∧ ¬ k = 1 ∧ ¬ sp = 0) ∨ (¬ k < 1 ∧ ¬ 3 < k ∧ ¬ k = 1 ∧ sp = 0 ∧ ¬ no = 0) ∨ (k = 1 ∧ sp < 0) ∨ (k = 1 ∧ ¬ sp < 0 ∧ 1 < sp) ∨ (k = 1 ∧ ¬ sp < 0 ∧ ¬ 1 < sp ∧ no < 0) ∨ (k = 1 ∧ ¬ sp < 0 ∧ ¬ 1 < sp ∧ ¬ no < 0 ∧ 65535 < no) by unfold badR at h; omega) with h1 | ⟨h1, h2⟩ | ⟨h1, h2, h3, h4⟩ | ⟨h1, h2, h3, rfl, h4⟩ | ⟨rfl, h1⟩ | ⟨rfl, h1, h2⟩ | ⟨rfl, h1, h2, h3⟩ | ⟨rfl, h1, h2, h3, h4⟩
  all_goals
    clear h
    go_enter Try.func15, Try.ntmps15
    go_wp2_with fail
    go_ret
    exact ⟨rfl, hb.out⟩
theorem check_long (k : Int) (tx : BitVec 64) (sp no : Int) (A : Option Addr) (n c : Nat) (w : World) (h : ¬ badR k sp no) (hn : 4096 < n) : Calls Try.prog 15 #[recV k tx sp no A n c] w (RetP (.int .i64 3) w) := by
  have hk := Bk.new w 27 #[.int .i64 k, .int .u64 (U64 tx), .int .i64 sp, .int .i64 no, .slice A n c]
  have c0 := hk.cell 0
  have c1 := hk.cell 1
  have c2 := hk.cell 2
  have c3 := hk.cell 3
  have c4 := hk.cell 4
  have hb := Lib.hid (Gw.alloc w (.cells #[.int .i64 k, .int .u64 (U64 tx), .int .i64 sp, .int .i64 no, .slice A n c] 27))
  unfold recV
  clear hk
  rcases (show (k = 1 ∧ ¬ sp < 0 ∧ ¬ 1 < sp ∧ ¬ no < 0 ∧ ¬ 65535 < no) ∨ (k = 2 ∧ sp = 0 ∧ no = 0) ∨ (k = 3 ∧ sp = 0 ∧ no = 0) by unfold badR at h; omega) with ⟨rfl, h1, h2, h3, h4⟩ | ⟨rfl, rfl, rfl⟩ | ⟨rfl, rfl, rfl⟩
  all_goals
    clear h
    go_enter Try.func15, Try.ntmps15
    go_wp2_with fail
    go_ret
    exact ⟨rfl, hb.out⟩
theorem check_ok (k : Int) (tx : BitVec 64) (sp no : Int) (A : Option Addr) (n c : Nat) (w : World) (h : ¬ badR k sp no) (hn : ¬ 4096 < n) : Calls Try.prog 15 #[recV k tx sp no A n c] w (RetP (.int .i64 0) w) := by
  have hk := Bk.new w 27 #[.int .i64 k, .int .u64 (U64 tx), .int .i64 sp, .int .i64 no, .slice A n c]
  have c0 := hk.cell 0
  have c1 := hk.cell 1
  have c2 := hk.cell 2
  have c3 := hk.cell 3
  have c4 := hk.cell 4
  have hb := Lib.hid (Gw.alloc w (.cells #[.int .i64 k, .int .u64 (U64 tx), .int .i64 sp, .int .i64 no, .slice A n c] 27))
  unfold recV
  clear hk
  rcases (show (k = 1 ∧ ¬ sp < 0 ∧ ¬ 1 < sp ∧ ¬ no < 0 ∧ ¬ 65535 < no) ∨ (k = 2 ∧ sp = 0 ∧ no = 0) ∨ (k = 3 ∧ sp = 0 ∧ no = 0) by unfold badR at h; omega) with ⟨rfl, h1, h2, h3, h4⟩ | ⟨rfl, rfl, rfl⟩ | ⟨rfl, rfl, rfl⟩
  all_goals
    clear h
    go_enter Try.func15, Try.ntmps15
    go_wp2_with fail
    go_ret
    exact ⟨rfl, hb.out⟩
theorem equal_c (A A2 : Option Addr) (c c2 : Nat) (xs ys : List (BitVec 8)) (w : World) (h1 : Rd b8 w w.heap.size A xs) (h2 : Rd b8 w w.heap.size A2 ys) : Calls Try.prog 29 #[.slice A xs.length c, .slice A2 ys.length c2] w fun e w' => e = .returned (.bool (decide (xs = ys))) ∧ w' = w := by
  have k1 := str_conv xs A c _ w h1
  have k2 := str_conv ys A2 c2 _ w h2
  have HE := Lib.hid (show ((strB xs).toList == (strB ys).toList) = decide (xs = ys) from by
    by_cases h : xs = ys
    · subst h; simp
    · have hne : ¬ (strB xs).toList = (strB ys).toList := fun e => h (strB_inj (by
        rw [ByteArray.toList_eq, ByteArray.toList_eq] at e
        exact ByteArray.ext (Array.toList_inj.1 e)))
      simp [h, hne])
  clear h1 h2
  go_enter Try.func29, Try.ntmps29
  go_wp2_with fail
  go_ret
  exact ⟨by simpa using HE.out, rfl⟩
end Go.Proofs.Ytoigahkgdanjnaa
