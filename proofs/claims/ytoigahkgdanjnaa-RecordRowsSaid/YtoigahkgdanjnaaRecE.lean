/- rec.Same of equal records; rec.Decode of a record without its end. Conditions: lengths. -/
import Derived.Test.YtoigahkgdanjnaaRecD
namespace Go.Proofs.Ytoigahkgdanjnaa
set_option linter.unusedVariables false
set_option linter.unusedSimpArgs false
open Go.RowKit
set_option maxRecDepth 100000
set_option maxHeartbeats 400000
theorem same_c (k : Int) (tx : BitVec 64) (sp no : Int) (A A2 : Option Addr) (d : List (BitVec 8)) (c c2 : Nat) (w : World) (h1 : Rd b8 w w.heap.size A d) (h2 : Rd b8 w w.heap.size A2 d) : Calls Try.prog 12 #[recV k tx sp no A d.length c, recV k tx sp no A2 d.length c2] w (RetP (.bool true) w) := by
  obtain ⟨n, hn⟩ : ∃ n, n = d.length := ⟨_, rfl⟩
  obtain ⟨W2, hW2⟩ : ∃ W, W = (w.alloc (.cells #[.int .i64 k, .int .u64 (U64 tx), .int .i64 sp, .int .i64 no, .slice A n c] 27)).alloc (.cells #[.int .i64 k, .int .u64 (U64 tx), .int .i64 sp, .int .i64 no, .slice A2 n c2] 27) := ⟨_, rfl⟩
  have hb : Below w.heap.size w W2 := by rw [hW2]; exact (Gw.alloc w _).trans ((Gw.alloc _ _).mono (by simp))
  have b1 : Bk W2 w.heap.size 27 #[.int .i64 k, .int .u64 (U64 tx), .int .i64 sp, .int .i64 no, .slice A n c] := by rw [hW2]; exact (Bk.new w _ _).alloc _
  have b2 : Bk W2 (w.heap.size + 1) 27 #[.int .i64 k, .int .u64 (U64 tx), .int .i64 sp, .int .i64 no, .slice A2 n c2] := by
    rw [hW2]
    have := Bk.new (w.alloc (.cells #[.int .i64 k, .int .u64 (U64 tx), .int .i64 sp, .int .i64 no, .slice A n c] 27)) 27 #[.int .i64 k, .int .u64 (U64 tx), .int .i64 sp, .int .i64 no, .slice A2 n c2]
    simpa using this
  have HQ := Lib.hid (equal_c A A2 c c2 d d W2 ((h1.below hb).more hb.size) ((h2.below hb).more hb.size))
  have hdd : decide (d = d) = true := by simp
  rw [hdd, ← hn] at HQ
  rw [← hn]
  obtain ⟨c0, c1, c2', c3, c4⟩ := b1.five
  obtain ⟨e0, e1, e2, e3, e4⟩ := b2.five
  have HB := Lib.hid hb
  clear hdd hn b1 b2 hb h1 h2
  subst hW2
  unfold recV
  go_enter Try.func12, Try.ntmps12
  go_wp2_with fail
  refine Calls.mono HQ.out ?_
  rintro e w2 ⟨rfl, rfl⟩
  go_wp2_with fail
  go_ret
  exact ⟨rfl, HB.out⟩
theorem decode_cut_uint (k : Nat) (tx : BitVec 64) (sp no : Nat) (A : Option Addr) (d : List (BitVec 8)) (c m : Nat) (w : World) (hd : d.length ≤ 4096) (hm : m < (uintL (BitVec.ofNat 64 (sealC (bodyL k tx sp no d)).length)).length) (hc : m ≤ c) (hr : Rd b8 w w.heap.size A ((encRL k tx sp no d).take m)) :
    Calls Try.prog 11 #[.slice A m c] w (RetP (.tuple #[recV 0 0#64 0 0 none 0 0, .int .i64 0, .int .i64 3]) w) := by
  obtain ⟨S, hS⟩ : ∃ S, S = sealC (bodyL k tx sp no d) := ⟨_, rfl⟩
  rw [← hS] at hm
  have hul : (uintL (BitVec.ofNat 64 S.length)).length ≤ 10 := uintF_len 9 _
  have hE : (encRL k tx sp no d).take m = (uintL (BitVec.ofNat 64 S.length)).take m := by
    unfold encRL rawL
    rw [← hS, List.take_append_of_le_length (by omega)]
  rw [hE] at hr
  have hml : ((uintL (BitVec.ofNat 64 S.length)).take m).length = m := by rw [List.length_take]; omega
  have HK := Lib.hid (Bk.new w 27 zeroR)
  have HB := Lib.hid (Gw.alloc w (.cells zeroR 27))
  have HO := Lib.hid (of_c _ A c (w.alloc (.cells zeroR 27)) ((hr.alloc (Nat.le_refl _) _).more (by simp)) (by rw [hml]; omega))
  rw [hml] at HO
  unfold zeroR at HO
  have hmin := min_run m m (by omega)
  have HM := Lib.hid hm
  have n1 : (0 : Int) ≤ (m : Int) := by omega
  have n2 : (m : Int) ≤ (c : Int) := by omega
  have n3 : (m : Int) ≤ 10 := by omega
  clear hr hE hS hm hml hul
  go_enter Try.func11, Try.ntmps11
  go_wp2_with fail
  refine Calls.mono HO.out ?_
  rintro e w1 ⟨g, rfl, hg1, hg2, hd1, b1⟩
  have HB1 := Lib.hid (HB.out.trans (b1.mono HB.out.size))
  have HK1 := Lib.hid (HK.out.below b1 HK.out.lt)
  have hg1' : w.heap.size < g := by simp at hg1; omega
  have HU1 := Lib.hid (dec_uint_short w1 g _ m HM.out hd1)
  clear hg1 hd1 b1 HO HK HB
  go_wp2_with fail
  refine Calls.mono HU1.out ?_
  rintro e w2 ⟨rfl, hd2, ho2⟩
  have HE2 := Lib.hid (dec_err w2 g [] 3 hd2)
  have HB2 := Lib.hid (HB1.out.trans (ho2.below (Nat.le_of_lt hg1') (by omega)))
  have HK2 := Lib.hid (HK1.out.only ho2 (by omega))
  clear hd2 ho2 HU1
  go_wp2_with fail
  refine Calls.mono HE2.out ?_
  rintro e w3 ⟨rfl, rfl⟩
  obtain ⟨r0, r1, r2, r3, r4⟩ := HK2.out.five
  have z0 := HK2.out.free 0
  have z1 := HK2.out.free 1
  have z2 := HK2.out.free 2
  have z3 := HK2.out.free 3
  have z4 := HK2.out.free 4
  go_wp2_with fail
  refine Calls.mono HE2.out ?_
  rintro e w4 ⟨rfl, rfl⟩
  go_wp2_with fail
  have HF := Lib.hid (fill5 (d := []) (B := 0) (A := none) HK2.out HB2.out Rd.nil (Nat.zero_le _) (by intro a e; cases e) (.int .i64 0) (.int .u64 0) (.int .i64 0) (.int .i64 0) (.slice none 0 0) _ rfl)
  obtain ⟨t0, t1, t2, t3, t4⟩ := HF.out.1.five
  refine bodyPost_ret (v := .tuple #[recV 0 0#64 0 0 none 0 0, .int .i64 0, .int .i64 3]) (by unfold recV; simp [results, Try.results11, go_sem, t0, t1, t2, t3, t4]; try rfl) rfl ?_
  exact ⟨rfl, HF.out.2.2.1⟩
end Go.Proofs.Ytoigahkgdanjnaa
