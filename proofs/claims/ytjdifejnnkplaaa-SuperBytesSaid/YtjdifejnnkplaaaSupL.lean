/- loamlaw6.Of: a block as the document's. No conditions. -/
import Derived.Test.YtjdifejnnkplaaaSupI
import Derived.Test.YtjdifejnnkplaaaGeomS
namespace Go.Proofs.Ytjdifejnnkplaaa
set_option linter.unusedVariables false
set_option linter.unusedSimpArgs false
open Go.RowKit
set_option maxRecDepth 100000
set_option maxHeartbeats 2000000
theorem of6_reg (Q : Exit → Act → World → Prop) (a0 : Act) (w : World) (g q : Nat) (ep lg : BitVec 64) (s l n sp wd : Int) (hk : Bk w g 26 #[.int .u64 (U64 ep), .int .i64 s, .int .i64 l, .int .i64 n, .int .i64 sp, .int .i64 wd, .int .u64 (U64 lg)]) (hsz : a0.tmps.size = 15) (sl1 : a0.tmps.getD 1 undef = .pointer (some ⟨g, 0, none⟩))
    (fin : ∀ (vals : Nat → Value) (w1 : World), Below w.heap.size w w1 → (IsV (.agg #[.int .u64 (U64 ep), .int .i64 s, .int .i64 l, .int .i64 n, .int .i64 sp, .int .i64 wd, .int .u64 (U64 lg)])) (vals 11) w1 → wpList Try.prog #[{ dst := none, op := Go.Op.store 37 (Go.Operand.tmp 2) (Go.Operand.tmp 14), type := 0, pos := "", after := #[], guard := none }] Q [{ dst := none, op := Go.Op.store 37 (Go.Operand.tmp 2) (Go.Operand.tmp 14), type := 0, pos := "", after := #[], guard := none }] (putD vals [3, 4, 5, 6, 7, 8, 9, 10, 11, 12, 13, 14] 0 a0) w1) :
    (Code.region 1 (regIn Try.f11 1) true).wp Try.prog Q a0 w := by
  refine region_by_tail (m := 12) (G := fun w w1 => Below w.heap.size w w1) [IsV (.pointer (some ⟨g, 0, none⟩)),
    IsV (.int .u64 (U64 ep)),
    IsV (.pointer (some ⟨g, 1, none⟩)),
    IsV (.agg #[.int .i64 s, .int .i64 l, .int .i64 n]),
    IsV (.agg #[.int .i64 s, .int .i64 l, .int .i64 n]),
    IsV (.pointer (some ⟨g, 4, none⟩)),
    IsV (.int .i64 sp),
    IsV (.pointer (some ⟨g, 5, none⟩)),
    IsV (.int .i64 wd),
    IsV (.pointer (some ⟨g, 6, none⟩)),
    IsV (.int .u64 (U64 lg)),
    IsV (.agg #[.int .u64 (U64 ep), .int .i64 s, .int .i64 l, .int .i64 n, .int .i64 sp, .int .i64 wd, .int .u64 (U64 lg)])]
    [3, 4, 5, 6, 7, 8, 9, 10, 11, 12, 13, 14] (by kernel_rfl) (Gw.drew _) Gw.trans (by rw [hsz]; kernel_rfl) (by kernel_rfl) ?_ ?_ ?_
  · intro f hf
    simp only [List.mem_cons, List.not_mem_nil, or_false] at hf
    rcases hf with rfl | rfl | rfl | rfl | rfl | rfl | rfl | rfl | rfl | rfl | rfl | rfl <;> intro v a b h g <;> first | exact IsV.mono h
  · refine ⟨?_, ?_, ?_, ?_, ?_, ?_, ?_, ?_, ?_, ?_, ?_, ?_, trivial⟩
    · refine owes_v (Go.Op.fieldAddr 26 (Go.Operand.tmp 1) 0) 0 [] (by kernel_rfl) (by kernel_rfl) (by kernel_rfl) rfl fun vals w1 ρ hG hF hρ hcst hfun => ?_
      have e1 : ρ (.tmp 1) = .pointer (some ⟨g, 0, none⟩) := ((hρ 1).trans (slotO [] (by kernel_rfl))).trans sl1
      clear hρ hF hcst hfun sl1 fin
      exact opv_val (by go_simp <;> rfl) ⟨gw_self _, rfl⟩
    · refine owes_v (Go.Op.load 22 (Go.Operand.tmp 3)) 22 [0] (by kernel_rfl) (by kernel_rfl) (by kernel_rfl) rfl fun vals w1 ρ hG hF hρ hcst hfun => ?_
      have e3 : ρ (.tmp 3) = .pointer (some ⟨g, 0, none⟩) := ((hρ 3).trans (slotJ [0] (by rw [hsz]; decide) (by kernel_rfl))).trans (hF 0 (by decide))
      have k := (hk.below hG hk.lt).cell 0
      clear hρ hF hcst hfun sl1 fin
      exact opv_val (by go_simp <;> rfl) ⟨gw_self _, rfl⟩
    · refine owes_v (Go.Op.fieldAddr 26 (Go.Operand.tmp 1) 1) 0 [] (by kernel_rfl) (by kernel_rfl) (by kernel_rfl) rfl fun vals w1 ρ hG hF hρ hcst hfun => ?_
      have e1 : ρ (.tmp 1) = .pointer (some ⟨g, 0, none⟩) := ((hρ 1).trans (slotO [] (by kernel_rfl))).trans sl1
      clear hρ hF hcst hfun sl1 fin
      exact opv_val (by go_simp <;> rfl) ⟨gw_self _, rfl⟩
    · refine owes_v (Go.Op.load 24 (Go.Operand.tmp 5)) 24 [2] (by kernel_rfl) (by kernel_rfl) (by kernel_rfl) rfl fun vals w1 ρ hG hF hρ hcst hfun => ?_
      have e5 : ρ (.tmp 5) = .pointer (some ⟨g, 1, none⟩) := ((hρ 5).trans (slotJ [2] (by rw [hsz]; decide) (by kernel_rfl))).trans (hF 2 (by decide))
      obtain ⟨k0, k1, k2, k3, k4, k5, k6⟩ := (hk.below hG hk.lt).seven
      clear hρ hF hcst hfun sl1 fin
      exact opv_val (by go_simp <;> rfl) ⟨gw_self _, rfl⟩
    · refine owes_v (Go.Op.call { callee := Go.Callee.value (Go.Operand.func 17), args := #[Go.Operand.tmp 6], argTypes := #[24] }) 35 [3] (by kernel_rfl) (by kernel_rfl) (by kernel_rfl) rfl fun vals w1 ρ hG hF hρ hcst hfun => ?_
      have e6 : ρ (.tmp 6) = .agg #[.int .i64 s, .int .i64 l, .int .i64 n] := ((hρ 6).trans (slotJ [3] (by rw [hsz]; decide) (by kernel_rfl))).trans (hF 3 (by decide))
      clear hρ hF hcst sl1 fin
      exact opv_enter (by go_simp <;> rfl) (of_ret (of_c s l n w1))
    · refine owes_v (Go.Op.fieldAddr 26 (Go.Operand.tmp 1) 2) 0 [] (by kernel_rfl) (by kernel_rfl) (by kernel_rfl) rfl fun vals w1 ρ hG hF hρ hcst hfun => ?_
      have e1 : ρ (.tmp 1) = .pointer (some ⟨g, 0, none⟩) := ((hρ 1).trans (slotO [] (by kernel_rfl))).trans sl1
      clear hρ hF hcst hfun sl1 fin
      exact opv_val (by go_simp <;> rfl) ⟨gw_self _, rfl⟩
    · refine owes_v (Go.Op.load 3 (Go.Operand.tmp 8)) 3 [5] (by kernel_rfl) (by kernel_rfl) (by kernel_rfl) rfl fun vals w1 ρ hG hF hρ hcst hfun => ?_
      have e8 : ρ (.tmp 8) = .pointer (some ⟨g, 4, none⟩) := ((hρ 8).trans (slotJ [5] (by rw [hsz]; decide) (by kernel_rfl))).trans (hF 5 (by decide))
      obtain ⟨k0, k1, k2, k3, k4, k5, k6⟩ := (hk.below hG hk.lt).seven
      clear hρ hF hcst hfun sl1 fin
      exact opv_val (by go_simp <;> rfl) ⟨gw_self _, rfl⟩
    · refine owes_v (Go.Op.fieldAddr 26 (Go.Operand.tmp 1) 3) 0 [] (by kernel_rfl) (by kernel_rfl) (by kernel_rfl) rfl fun vals w1 ρ hG hF hρ hcst hfun => ?_
      have e1 : ρ (.tmp 1) = .pointer (some ⟨g, 0, none⟩) := ((hρ 1).trans (slotO [] (by kernel_rfl))).trans sl1
      clear hρ hF hcst hfun sl1 fin
      exact opv_val (by go_simp <;> rfl) ⟨gw_self _, rfl⟩
    · refine owes_v (Go.Op.load 3 (Go.Operand.tmp 10)) 3 [7] (by kernel_rfl) (by kernel_rfl) (by kernel_rfl) rfl fun vals w1 ρ hG hF hρ hcst hfun => ?_
      have e10 : ρ (.tmp 10) = .pointer (some ⟨g, 5, none⟩) := ((hρ 10).trans (slotJ [7] (by rw [hsz]; decide) (by kernel_rfl))).trans (hF 7 (by decide))
      obtain ⟨k0, k1, k2, k3, k4, k5, k6⟩ := (hk.below hG hk.lt).seven
      clear hρ hF hcst hfun sl1 fin
      exact opv_val (by go_simp <;> rfl) ⟨gw_self _, rfl⟩
    · refine owes_v (Go.Op.fieldAddr 26 (Go.Operand.tmp 1) 4) 0 [] (by kernel_rfl) (by kernel_rfl) (by kernel_rfl) rfl fun vals w1 ρ hG hF hρ hcst hfun => ?_
      have e1 : ρ (.tmp 1) = .pointer (some ⟨g, 0, none⟩) := ((hρ 1).trans (slotO [] (by kernel_rfl))).trans sl1
      clear hρ hF hcst hfun sl1 fin
      exact opv_val (by go_simp <;> rfl) ⟨gw_self _, rfl⟩
    · refine owes_v (Go.Op.load 22 (Go.Operand.tmp 12)) 22 [9] (by kernel_rfl) (by kernel_rfl) (by kernel_rfl) rfl fun vals w1 ρ hG hF hρ hcst hfun => ?_
      have e12 : ρ (.tmp 12) = .pointer (some ⟨g, 6, none⟩) := ((hρ 12).trans (slotJ [9] (by rw [hsz]; decide) (by kernel_rfl))).trans (hF 9 (by decide))
      obtain ⟨k0, k1, k2, k3, k4, k5, k6⟩ := (hk.below hG hk.lt).seven
      clear hρ hF hcst hfun sl1 fin
      exact opv_val (by go_simp <;> rfl) ⟨gw_self _, rfl⟩
    · refine owes_v (Go.Op.build 37 #[(0, Go.Operand.tmp 4), (1, Go.Operand.tmp 7), (2, Go.Operand.tmp 9), (3, Go.Operand.tmp 11), (4, Go.Operand.tmp 13)]) 37 [1, 4, 6, 8, 10] (by kernel_rfl) (by kernel_rfl) (by kernel_rfl) rfl fun vals w1 ρ hG hF hρ hcst hfun => ?_
      have e4 : ρ (.tmp 4) = .int .u64 (U64 ep) := ((hρ 4).trans (slotJ [1, 4, 6, 8, 10] (by rw [hsz]; decide) (by kernel_rfl))).trans (hF 1 (by decide))
      have e7 : ρ (.tmp 7) = .agg #[.int .i64 s, .int .i64 l, .int .i64 n] := ((hρ 7).trans (slotJ [1, 4, 6, 8, 10] (by rw [hsz]; decide) (by kernel_rfl))).trans (hF 4 (by decide))
      have e9 : ρ (.tmp 9) = .int .i64 sp := ((hρ 9).trans (slotJ [1, 4, 6, 8, 10] (by rw [hsz]; decide) (by kernel_rfl))).trans (hF 6 (by decide))
      have e11 : ρ (.tmp 11) = .int .i64 wd := ((hρ 11).trans (slotJ [1, 4, 6, 8, 10] (by rw [hsz]; decide) (by kernel_rfl))).trans (hF 8 (by decide))
      have e13 : ρ (.tmp 13) = .int .u64 (U64 lg) := ((hρ 13).trans (slotJ [1, 4, 6, 8, 10] (by rw [hsz]; decide) (by kernel_rfl))).trans (hF 10 (by decide))
      clear hρ hF hcst hfun sl1 fin
      exact opv_val (by go_simp <;> rfl) ⟨gw_self _, rfl⟩
  · intro vals w1 hG hF
    exact last_list (by kernel_rfl) (by kernel_rfl) (by kernel_rfl) (fin vals w1 hG (hF 11 (by decide +kernel)))
theorem of6_c (ep lg : BitVec 64) (s l n sp wd : Int) (w : World) : Calls Try.prog 11 #[blkV ep s l n sp wd lg] w (RetP (blkV ep s l n sp wd lg) w) := by
  obtain ⟨W0, hW0⟩ : ∃ X, X = w.alloc (.cells #[.int .u64 (U64 ep), .int .i64 s, .int .i64 l, .int .i64 n, .int .i64 sp, .int .i64 wd, .int .u64 (U64 lg)] 26) := ⟨_, rfl⟩
  obtain ⟨W1, hW1⟩ : ∃ X, X = W0.alloc (.cells #[.int .u64 0, .int .i64 0, .int .i64 0, .int .i64 0, .int .i64 0, .int .i64 0, .int .u64 0] 37) := ⟨_, rfl⟩
  obtain ⟨H, hH⟩ : ∃ H, H = w.heap.size := ⟨_, rfl⟩
  have HK := Lib.hid (show Bk W1 H 26 #[.int .u64 (U64 ep), .int .i64 s, .int .i64 l, .int .i64 n, .int .i64 sp, .int .i64 wd, .int .u64 (U64 lg)] from by rw [hW1, hW0, hH]; exact (Bk.new w _ _).alloc _)
  have HQ := Lib.hid (show Bk W1 (H + 1) 37 #[.int .u64 0, .int .i64 0, .int .i64 0, .int .i64 0, .int .i64 0, .int .i64 0, .int .u64 0] from by
    have := Bk.new W0 37 #[.int .u64 0, .int .i64 0, .int .i64 0, .int .i64 0, .int .i64 0, .int .i64 0, .int .u64 0]
    rw [hW1, hH]
    have e : W0.heap.size = w.heap.size + 1 := by rw [hW0]; simp
    rw [e] at this
    exact this)
  have HB := Lib.hid (show Below w.heap.size w W1 from by rw [hW1, hW0]; exact (Gw.alloc w _).alloc (by simp) _)
  have HE := Lib.hid hH
  unfold blkV
  go_enter Try.func11, Try.ntmps11
  go_wp2_with fail
  rw [← hW0, ← hW1, ← hH]
  clear hW0 hW1 hH
  refine of6_reg _ _ _ H (H + 1) ep lg s l n sp wd HK.out rfl rfl ?_
  intro vals w1 hG h14
  unfold IsV at h14
  simp only [putD, Act.put, List.setIfInBounds_toArray, List.set_cons_zero, List.set_cons_succ, h14]
  have HQ1 := Lib.hid (HQ.out.below hG HQ.out.lt)
  have HB1 := Lib.hid (HB.out.trans (hG.mono HB.out.size))
  clear h14 hG
  obtain ⟨f0, f1, f2, f3, f4, f5, f6⟩ := HQ1.out.seven
  have z0 := HQ1.out.free 0
  have z1 := HQ1.out.free 1
  have z2 := HQ1.out.free 2
  have z3 := HQ1.out.free 3
  have z4 := HQ1.out.free 4
  have z5 := HQ1.out.free 5
  have z6 := HQ1.out.free 6
  have hb := (((((((HQ1.out.set 0 (.int .u64 (U64 ep))).set 1 (.int .i64 s)).set 2 (.int .i64 l)).set 3 (.int .i64 n)).set 4 (.int .i64 sp)).set 5 (.int .i64 wd)).set 6 (.int .u64 (U64 lg)))
  have hle : w.heap.size ≤ H + 1 := by rw [← HE.out]; omega
  have hbel := (((((((HB1.out.setCell (p := ⟨H + 1, 0, none⟩) hle (.int .u64 (U64 ep))).setCell (p := ⟨H + 1, 1, none⟩) hle (.int .i64 s)).setCell (p := ⟨H + 1, 2, none⟩) hle (.int .i64 l)).setCell (p := ⟨H + 1, 3, none⟩) hle (.int .i64 n)).setCell (p := ⟨H + 1, 4, none⟩) hle (.int .i64 sp)).setCell (p := ⟨H + 1, 5, none⟩) hle (.int .i64 wd)).setCell (p := ⟨H + 1, 6, none⟩) hle (.int .u64 (U64 lg)))
  have HBL := Lib.hid hbel
  have HBB := Lib.hid hb
  clear hb hbel hle
  go_wp2_with fail
  clear f0 f1 f2 f3 f4 f5 f6 z0 z1 z2 z3 z4 z5 z6
  refine bodyPost_ret (v := .agg #[.int .u64 (U64 ep), .int .i64 s, .int .i64 l, .int .i64 n, .int .i64 sp, .int .i64 wd, .int .u64 (U64 lg)]) ?_ rfl ⟨rfl, HBL.out⟩
  exact results_cell_row (ty := 37) (p := 2) (by kernel_rfl) _ _ (H + 1) 37 #[.int .u64 (U64 ep), .int .i64 s, .int .i64 l, .int .i64 n, .int .i64 sp, .int .i64 wd, .int .u64 (U64 lg)] (0, 0) _ (by kernel_rfl) HBB.out Try.underlying37 rfl (by kernel_rfl)
end Go.Proofs.Ytjdifejnnkplaaa
