/- What loamlaw6.known and the small functions of sup answer. No conditions. -/
import Derived.Test.YtjdifejnnkplaaaSupF
import Derived.Test.YtjdifejnnkplaaaFrame
import Derived.Test.YtjdifejnnkplaaaBitsF
namespace Go.Proofs.Ytjdifejnnkplaaa
set_option linter.unusedVariables false
set_option linter.unusedSimpArgs false
open Go.RowKit
set_option maxRecDepth 100000
set_option maxHeartbeats 800000
theorem right_nil (w : World) : Calls Try.prog 23 #[.slice none 0 0] w (RetP (.bool false) w) := by
  go_enter Try.func23, Try.ntmps23
  go_wp2_with fail
  go_ret
  exact ⟨rfl, Below.refl _ _⟩
theorem dec6_nil (w : World) : Calls Try.prog 14 #[.slice none 0 0] w (RetP (.tuple #[blkV 0#64 0 0 0 0 0 0#64, .int .i64 2]) w) := by
  have hz : U64 0#64 = 0 := by decide +kernel
  unfold blkV
  rw [hz]
  clear hz
  have HR := Lib.hid (fun W => right_nil W)
  have HZ := Lib.hid (show Bk ((w.alloc (.cells #[.slice none 0 0] 29)).alloc (.cells zero7 26)) (w.heap.size + 1) 26 zero7 ∧ Below w.heap.size w ((w.alloc (.cells #[.slice none 0 0] 29)).alloc (.cells zero7 26)) from by
    refine ⟨?_, (Gw.alloc w _).trans ((Gw.alloc _ _).mono (by simp))⟩
    have q := Bk.new (w.alloc (.cells #[.slice none 0 0] 29)) 26 zero7
    simpa using q)
  unfold zero7 at HZ
  go_enter Try.func14, Try.ntmps14
  go_wp2_with fail
  refine Calls.mono (HR.out _) ?_
  rintro e w1 ⟨rfl, b1⟩
  have HZ1 := Lib.hid (HZ.out.1.below b1 HZ.out.1.lt)
  have HB1 := Lib.hid (HZ.out.2.trans (b1.mono HZ.out.2.size))
  obtain ⟨r0, r1, r2, r3, r4, r5, r6⟩ := HZ1.out.seven
  have z0 := HZ1.out.free 0
  have z1 := HZ1.out.free 1
  have z2 := HZ1.out.free 2
  have z3 := HZ1.out.free 3
  have z4 := HZ1.out.free 4
  have z5 := HZ1.out.free 5
  have z6 := HZ1.out.free 6
  have ll := HZ1.out.lt
  have HR7 := Lib.hid (((((((HZ1.out.set 0 (.int .u64 0)).set 1 (.int .i64 0)).set 2 (.int .i64 0)).set 3 (.int .i64 0)).set 4 (.int .i64 0)).set 5 (.int .i64 0)).set 6 (.int .u64 0))
  have HB7 := Lib.hid (((((((HB1.out.setCell (p := ⟨w.heap.size + 1, 0, none⟩) (by simp) (.int .u64 0)).setCell (p := ⟨w.heap.size + 1, 1, none⟩) (by simp) (.int .i64 0)).setCell (p := ⟨w.heap.size + 1, 2, none⟩) (by simp) (.int .i64 0)).setCell (p := ⟨w.heap.size + 1, 3, none⟩) (by simp) (.int .i64 0)).setCell (p := ⟨w.heap.size + 1, 4, none⟩) (by simp) (.int .i64 0)).setCell (p := ⟨w.heap.size + 1, 5, none⟩) (by simp) (.int .i64 0)).setCell (p := ⟨w.heap.size + 1, 6, none⟩) (by simp) (.int .u64 0))
  clear b1 HZ HR
  go_wp2_with fail
  obtain ⟨t0, t1, t2, t3, t4, t5, t6⟩ := HR7.out.seven
  refine bodyPost_ret (v := .tuple #[.agg #[.int .u64 0, .int .i64 0, .int .i64 0, .int .i64 0, .int .i64 0, .int .i64 0, .int .u64 0], .int .i64 2]) (by simp [results, Try.results14, go_sem, t0, t1, t2, t3, t4, t5, t6]) rfl ?_
  exact ⟨rfl, HB7.out⟩
theorem newer_c (ep ep2 : BitVec 64) (s l n sp wd s2 l2 n2 sp2 wd2 : Int) (lg lg2 : BitVec 64) (w : World) : Calls Try.prog 12 #[blkV ep s l n sp wd lg, blkV ep2 s2 l2 n2 sp2 wd2 lg2] w (RetP (.bool (decide (U64 ep2 < U64 ep))) w) := by
  unfold blkV
  go_enter Try.func12, Try.ntmps12
  go_wp2_with fail
  go_ret
  exact ⟨rfl, (by repeat (first | with_reducible assumption | with_reducible exact Below.refl _ _ | with_reducible apply bdN | with_reducible apply Below.drew | with_reducible refine Below.alloc ?_ (by simp) _ | with_reducible refine Below.setCell ?_ (by simp) _))⟩
theorem slot_c (x : BitVec 64) (w : World) : Calls Try.prog 13 #[.int .u64 (U64 x)] w fun e w' => e = .returned (.int .i64 (U64 (x &&& 1#64))) ∧ w' = w := by
  have e1 : bits .and .u64 (U64 x) 1 = U64 (x &&& 1#64) := by rw [show (1 : Int) = U64 1#64 from by decide +kernel, andU64]
  have h1 : U64 (x &&& 1#64) = 0 ∨ U64 (x &&& 1#64) = 1 := by
    unfold U64
    rw [BitVec.toNat_and, show (1#64).toNat = 2 ^ 1 - 1 from rfl, Nat.and_two_pow_sub_one_eq_mod]
    omega
  have p1 : (0 : Int) ≤ U64 (x &&& 1#64) := by omega
  have p2 : U64 (x &&& 1#64) ≤ 1 := by omega
  obtain ⟨y, hy⟩ : ∃ y, y = U64 (x &&& 1#64) := ⟨_, rfl⟩
  rw [← hy] at e1 p1 p2 ⊢
  clear h1 hy
  go_enter Try.func13, Try.ntmps13
  go_wp2_with fail
  go_ret
  exact ⟨rfl, rfl⟩
theorem magicB (ep : BitVec 64) (s l n sp wd : Nat) (lg : BitVec 64) : (encSB ep s l n sp wd lg).take 4 = [76#8, 79#8, 65#8, 77#8] := by
  obtain ⟨R, hR⟩ := headB_split ep s l n sp wd lg 0 _ 4 rfl
  unfold encSB sealC secB
  rw [hR, show headB ep s l n sp wd lg 0 = [] from rfl, List.nil_append, List.append_assoc, List.append_assoc, List.take_left' (lowN_len _ 4)]
  decide +kernel
theorem encSB_len (ep : BitVec 64) (s l n sp wd : Nat) (lg : BitVec 64) (h : 64 ≤ s) : (encSB ep s l n sp wd lg).length = s := by
  have := secB_len ep s l n sp wd lg h
  unfold encSB sealC
  rw [List.length_append, this, show (tailL (addC 0 (secB ep s l n sp wd lg))).length = 4 from rfl]
  omega
end Go.Proofs.Ytjdifejnnkplaaa
