/- What loamlaw8.Of and loamref8.Same (of equal records) answer. Conditions: lengths. -/
import Derived.Test.YtoigahkgdanjnaaRecH
import Derived.Test.YtoigahkgdanjnaaStr
namespace Go.Proofs.Ytoigahkgdanjnaa
set_option linter.unusedVariables false
set_option linter.unusedSimpArgs false
open Go.RowKit
set_option maxRecDepth 100000
set_option maxHeartbeats 400000
theorem of8_c (k : Int) (tx : BitVec 64) (sp no : Int) (A : Option Addr) (n c : Nat) (w : World) : Calls Try.prog 10 #[recV k tx sp no A n c] w (RetP (recV k tx sp no A n c) w) := by
  have hk := Bk.new w 27 #[.int .i64 k, .int .u64 (U64 tx), .int .i64 sp, .int .i64 no, .slice A n c]
  obtain ⟨c0, c1, c2, c3, c4⟩ := hk.five
  clear hk
  unfold recV
  go_enter Try.func10, Try.ntmps10
  go_wp2_with fail
  exact bodyPost_ret (v := .agg #[.int .i64 k, .int .u64 (U64 tx), .int .i64 sp, .int .i64 no, .slice A n c]) (by simp [results, Try.results10, go_sem]) rfl ⟨rfl, (by repeat (first | with_reducible assumption | with_reducible exact Below.refl _ _ | with_reducible apply bdN | with_reducible apply Below.drew | with_reducible refine Below.alloc ?_ (by simp) _ | with_reducible refine Below.setCell ?_ (by simp) _))⟩
theorem rsame_c (k : Int) (tx : BitVec 64) (sp no : Int) (A A2 : Option Addr) (d : List (BitVec 8)) (c c2 : Nat) (w : World) (h1 : Rd b8 w w.heap.size A d) (h2 : Rd b8 w w.heap.size A2 d) : Calls Try.prog 13 #[recV k tx sp no A d.length c, recV k tx sp no A2 d.length c2] w (RetP (.bool true) w) := by
  obtain ⟨n, hn⟩ : ∃ n, n = d.length := ⟨_, rfl⟩
  obtain ⟨W2, hW2⟩ : ∃ W, W = (w.alloc (.cells #[.int .i64 k, .int .u64 (U64 tx), .int .i64 sp, .int .i64 no, .slice A n c] 36)).alloc (.cells #[.int .i64 k, .int .u64 (U64 tx), .int .i64 sp, .int .i64 no, .slice A2 n c2] 36) := ⟨_, rfl⟩
  have hb : Below w.heap.size w W2 := by rw [hW2]; exact (Gw.alloc w _).trans ((Gw.alloc _ _).mono (by simp))
  have b1 : Bk W2 w.heap.size 36 #[.int .i64 k, .int .u64 (U64 tx), .int .i64 sp, .int .i64 no, .slice A n c] := by rw [hW2]; exact (Bk.new w _ _).alloc _
  have b2 : Bk W2 (w.heap.size + 1) 36 #[.int .i64 k, .int .u64 (U64 tx), .int .i64 sp, .int .i64 no, .slice A2 n c2] := by
    rw [hW2]
    have := Bk.new (w.alloc (.cells #[.int .i64 k, .int .u64 (U64 tx), .int .i64 sp, .int .i64 no, .slice A n c] 36)) 36 #[.int .i64 k, .int .u64 (U64 tx), .int .i64 sp, .int .i64 no, .slice A2 n c2]
    simpa using this
  have s1 := str_conv d A c _ W2 ((h1.below hb).more hb.size)
  have s2 := str_conv d A2 c2 _ W2 ((h2.below hb).more hb.size)
  rw [← hn] at s1 s2 ⊢
  obtain ⟨c0, c1, c2', c3, c4⟩ := b1.five
  obtain ⟨e0, e1, e2, e3, e4⟩ := b2.five
  have HB := Lib.hid hb
  clear hn b1 b2 hb h1 h2
  subst hW2
  unfold recV
  go_enter Try.func13, Try.ntmps13
  go_wp2_with fail
  go_ret
  exact ⟨rfl, HB.out⟩
end Go.Proofs.Ytoigahkgdanjnaa
