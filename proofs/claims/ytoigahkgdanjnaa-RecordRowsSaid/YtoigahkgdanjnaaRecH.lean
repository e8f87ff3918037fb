/- What loamref8's Encode and Same and loamlaw8's Of answer. Conditions: lengths. -/
import Derived.Test.YtoigahkgdanjnaaRecB
import Derived.Test.YtoigahkgdanjnaaCodR
import Derived.Test.YtoigahkgdanjnaaCrcR
import Derived.Test.YtoigahkgdanjnaaRegS
namespace Go.Proofs.Ytoigahkgdanjnaa
set_option linter.unusedVariables false
set_option linter.unusedSimpArgs false
open Go.RowKit
set_option maxRecDepth 100000
set_option maxHeartbeats 400000
theorem ref_uint_nat (w : World) (n : Nat) (hn : n < 2 ^ 64) : Calls Try.prog 20 #[.int .u64 (n : Int)] w (MkP b8 5 (uintL (BitVec.ofNat 64 n)) w) := by
  have h := ref_uint w (BitVec.ofNat 64 n)
  rwa [U64_nat n hn] at h
theorem rencode_bad (k : Int) (tx : BitVec 64) (sp no : Int) (A : Option Addr) (n c : Nat) (w : World) (h : badR k sp no) : Calls Try.prog 9 #[recV k tx sp no A n c] w (RetP (.tuple #[.slice none 0 0, .int .i64 1]) w) := by
  have hk := Bk.new w 36 #[.int .i64 k, .int .u64 (U64 tx), .int .i64 sp, .int .i64 no, .slice A n c]
  obtain ⟨c0, c1, c2, c3, c4⟩ := hk.five
  have hb := Lib.hid (Gw.alloc w (.cells #[.int .i64 k, .int .u64 (U64 tx), .int .i64 sp, .int .i64 no, .slice A n c] 36))
  unfold recV
  clear hk
  rcases (show k < 1 ∨ (¬ k < 1 ∧ 3 < k) ∨ (¬ k < 1 ∧ ¬ 3 < k ∧ ¬ k = 1 ∧ ¬ sp = 0) ∨ (¬ k < 1 ∧ ¬ 3 < k ∧ ¬ k = 1 ∧ sp = 0 ∧ ¬ no = 0) ∨ (k = 1 ∧ ¬ sp = 0 ∧ ¬ sp = 1) ∨ (k = 1 ∧ sp = 0 ∧ no < 0) ∨ (k = 1 ∧ sp = 1 ∧ no < 0) ∨ (k = 1 ∧ sp = 0 ∧ ¬ no < 0 ∧ 65535 < no) ∨ (k = 1 ∧ sp = 1 ∧ ¬ no < 0 ∧ 65535 < no) by unfold badR at h; omega) with h1 | ⟨h1, h2⟩ | ⟨h1, h2, h3, h4⟩ | ⟨h1, h2, h3, rfl, h4⟩ | ⟨rfl, h1, h2⟩ | ⟨rfl, rfl, h1⟩ | ⟨rfl, rfl, h1⟩ | ⟨rfl, rfl, h1, h2⟩ | ⟨rfl, rfl, h1, h2⟩
  all_goals
    clear h
    go_enter Try.func9, Try.ntmps9
    go_wp2_with fail
    go_ret2
    exact ⟨rfl, hb.out⟩
theorem rencode_long (k : Int) (tx : BitVec 64) (sp no : Int) (A : Option Addr) (n c : Nat) (w : World) (h : ¬ badR k sp no) (hn : 4096 < n) : Calls Try.prog 9 #[recV k tx sp no A n c] w (RetP (.tuple #[.slice none 0 0, .int .i64 3]) w) := by
  have hk := Bk.new w 36 #[.int .i64 k, .int .u64 (U64 tx), .int .i64 sp, .int .i64 no, .slice A n c]
  obtain ⟨c0, c1, c2, c3, c4⟩ := hk.five
  have hb := Lib.hid (Gw.alloc w (.cells #[.int .i64 k, .int .u64 (U64 tx), .int .i64 sp, .int .i64 no, .slice A n c] 36))
  unfold recV
  clear hk
  rcases (show (k = 1 ∧ sp = 0 ∧ ¬ no < 0 ∧ ¬ 65535 < no) ∨ (k = 1 ∧ sp = 1 ∧ ¬ no < 0 ∧ ¬ 65535 < no) ∨ (k = 2 ∧ sp = 0 ∧ no = 0) ∨ (k = 3 ∧ sp = 0 ∧ no = 0) by unfold badR at h; omega) with ⟨rfl, rfl, h3, h4⟩ | ⟨rfl, rfl, h3, h4⟩ | ⟨rfl, rfl, rfl⟩ | ⟨rfl, rfl, rfl⟩
  all_goals
    clear h
    go_enter Try.func9, Try.ntmps9
    go_wp2_with fail
    go_ret2
    exact ⟨rfl, hb.out⟩
end Go.Proofs.Ytoigahkgdanjnaa
