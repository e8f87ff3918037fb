/- The law KeysPacked of layer 10 returns true for every argument. No conditions. -/
import Derived.Test.YtgddehhigamkkaaKyN
import Derived.Test.YtgddehhigamkkaaFrame
import Derived.Test.YtgddehhigamkkaaOpenS
namespace Go.Proofs.Ytgddehhigamkkaa
set_option linter.unusedVariables false
set_option linter.unusedSimpArgs false
open Go.RowKit Go.Maps
set_option maxHeartbeats 2000000
set_option maxRecDepth 100000
theorem pack_lt (p q : Int × Int) (h1 : shortB p = true) (h2 : shortB q = true) (a : 0 ≤ p.1) (b : 0 ≤ p.2) (c : 0 ≤ q.1) (d : 0 ≤ q.2) : decide (packI p < packI q) = decide (cmpN p q < 0) ∧ (packI p == packI q) = (cmpN p q == 0) := by
  unfold shortB at h1 h2
  simp only [decide_eq_true_eq] at h1 h2
  have e1 : packI p = p.1 * 4294967296 + p.2 := by unfold packI; omega
  have e2 : packI q = q.1 * 4294967296 + q.2 := by unfold packI; omega
  rw [e1, e2]
  refine ⟨?_, ?_⟩
  · rw [decide_eq_decide, cmpN_lt]; omega
  · rw [Bool.eq_iff_iff, beq_iff_eq, beq_iff_eq, cmpN_zero]
    constructor
    · intro h; exact Prod.ext (by omega) (by omega)
    · rintro rfl; rfl
theorem kp_reg (Q : Exit → Act → World → Prop) (a0 : Act) (w : World) (A B : Nat) (x1 y1 x2 y2 P1 P2 c : Int) (r1 r2 : Bool) (hA : A < w.heap.size) (hB : B < w.heap.size) (ca0 : w.cell? ⟨A, 0, none⟩ = some (.int .i64 x1)) (ca1 : w.cell? ⟨A, 1, none⟩ = some (.int .i64 y1)) (cb0 : w.cell? ⟨B, 0, none⟩ = some (.int .i64 x2)) (cb1 : w.cell? ⟨B, 1, none⟩ = some (.int .i64 y2)) (HP1 : Hid (∀ W, Calls Try.prog 13 #[.agg #[.int .i64 x1, .int .i64 y1]] W fun e w' => e = .returned (.int .u64 P1) ∧ Below W.heap.size W w')) (HP2 : Hid (∀ W, Calls Try.prog 13 #[.agg #[.int .i64 x2, .int .i64 y2]] W fun e w' => e = .returned (.int .u64 P2) ∧ Below W.heap.size W w')) (k1 : decide (P1 < P2) = r1) (k2 : decide (c < 0) = r1) (k3 : (P1 == P2) = r2) (k4 : (c == 0) = r2) (hsz : a0.tmps.size = 57) (sl2 : a0.tmps.getD 2 undef = .pointer (some ⟨A, 0, none⟩)) (sl3 : a0.tmps.getD 3 undef = .pointer (some ⟨B, 0, none⟩)) (sl5 : a0.tmps.getD 5 undef = .int .i64 c)
    (fin : ∀ (vals : Nat → Value) (w1 : World), Below w.heap.size w w1 → (IsV (.bool true)) (vals 18) w1 → Q .normal (putD vals [39, 40, 41, 42, 43, 44, 45, 46, 47, 48, 49, 50, 51, 52, 53, 54, 55, 56, 4] 0 a0) w1) :
    (Code.region 6 (regIn Try.f6 6) true).wp Try.prog Q a0 w := by
  refine region_by (G := fun w w1 => Below w.heap.size w w1) [IsV (.agg #[.int .i64 x1, .int .i64 y1]),
    IsV (.int .u64 P1),
    IsV (.agg #[.int .i64 x2, .int .i64 y2]),
    IsV (.int .u64 P2),
    IsV (.bool r1),
    IsV (.int .i64 c),
    IsV (.bool r1),
    IsV (.bool true),
    IsV (.bool true),
    IsV (.agg #[.int .i64 x1, .int .i64 y1]),
    IsV (.int .u64 P1),
    IsV (.agg #[.int .i64 x2, .int .i64 y2]),
    IsV (.int .u64 P2),
    IsV (.bool r2),
    IsV (.int .i64 c),
    IsV (.bool r2),
    IsV (.bool true),
    IsV (.bool true),
    IsV (.bool true)]
    [39, 40, 41, 42, 43, 44, 45, 46, 47, 48, 49, 50, 51, 52, 53, 54, 55, 56, 4] (by kernel_rfl) (Gw.drew _) Gw.trans (by rw [hsz]; kernel_rfl) (by kernel_rfl) ?_ ?_ ?_
  · intro f hf
    simp only [List.mem_cons, List.not_mem_nil, or_false] at hf
    rcases hf with rfl | rfl | rfl | rfl | rfl | rfl | rfl | rfl | rfl | rfl | rfl | rfl | rfl | rfl | rfl | rfl | rfl | rfl | rfl <;> intro v a b h g <;> first | exact IsV.mono h
  · refine ⟨?_, ?_, ?_, ?_, ?_, ?_, ?_, ?_, ?_, ?_, ?_, ?_, ?_, ?_, ?_, ?_, ?_, ?_, ?_, trivial⟩
    · refine owes_v (Go.Op.load 23 (Go.Operand.tmp 2)) 23 [] (by kernel_rfl) (by kernel_rfl) (by kernel_rfl) rfl fun vals w1 ρ hG hF hρ hcst hfun => ?_
      have e2 : ρ (.tmp 2) = .pointer (some ⟨A, 0, none⟩) := ((hρ 2).trans (slotO [] (by kernel_rfl))).trans sl2
      obtain ⟨j1, j2⟩ := And.intro ((hG.cell (p := ⟨A, 0, none⟩) hA).trans ca0) ((hG.cell (p := ⟨A, 1, none⟩) hA).trans ca1)
      clear hρ hF hcst hfun sl2 sl3 sl5 fin
      exact opv_val (by go_simp <;> rfl) ⟨gw_self _, rfl⟩
    · refine owes_v (Go.Op.call { callee := Go.Callee.value (Go.Operand.func 13), args := #[Go.Operand.tmp 39], argTypes := #[23] }) 30 [0] (by kernel_rfl) (by kernel_rfl) (by kernel_rfl) rfl fun vals w1 ρ hG hF hρ hcst hfun => ?_
      have e39 : ρ (.tmp 39) = .agg #[.int .i64 x1, .int .i64 y1] := ((hρ 39).trans (slotJ [0] (by rw [hsz]; decide) (by kernel_rfl))).trans (hF 0 (by decide))
      clear hρ hF hcst sl2 sl3 sl5 fin
      exact opv_enter (by go_simp <;> rfl) (of_bel (HP1.out w1))
    · refine owes_v (Go.Op.load 23 (Go.Operand.tmp 3)) 23 [] (by kernel_rfl) (by kernel_rfl) (by kernel_rfl) rfl fun vals w1 ρ hG hF hρ hcst hfun => ?_
      have e3 : ρ (.tmp 3) = .pointer (some ⟨B, 0, none⟩) := ((hρ 3).trans (slotO [] (by kernel_rfl))).trans sl3
      obtain ⟨j1, j2⟩ := And.intro ((hG.cell (p := ⟨B, 0, none⟩) hB).trans cb0) ((hG.cell (p := ⟨B, 1, none⟩) hB).trans cb1)
      clear hρ hF hcst hfun sl2 sl3 sl5 fin
      exact opv_val (by go_simp <;> rfl) ⟨gw_self _, rfl⟩
    · refine owes_v (Go.Op.call { callee := Go.Callee.value (Go.Operand.func 13), args := #[Go.Operand.tmp 41], argTypes := #[23] }) 30 [2] (by kernel_rfl) (by kernel_rfl) (by kernel_rfl) rfl fun vals w1 ρ hG hF hρ hcst hfun => ?_
      have e41 : ρ (.tmp 41) = .agg #[.int .i64 x2, .int .i64 y2] := ((hρ 41).trans (slotJ [2] (by rw [hsz]; decide) (by kernel_rfl))).trans (hF 2 (by decide))
      clear hρ hF hcst sl2 sl3 sl5 fin
      exact opv_enter (by go_simp <;> rfl) (of_bel (HP2.out w1))
    · refine owes_v (Go.Op.binOp Go.BinOp.lss 30 (Go.Operand.tmp 40) (Go.Operand.tmp 42) 30) 4 [1, 3] (by kernel_rfl) (by kernel_rfl) (by kernel_rfl) rfl fun vals w1 ρ hG hF hρ hcst hfun => ?_
      have e40 : ρ (.tmp 40) = .int .u64 P1 := ((hρ 40).trans (slotJ [1, 3] (by rw [hsz]; decide) (by kernel_rfl))).trans (hF 1 (by decide))
      have e42 : ρ (.tmp 42) = .int .u64 P2 := ((hρ 42).trans (slotJ [1, 3] (by rw [hsz]; decide) (by kernel_rfl))).trans (hF 3 (by decide))
      clear hρ hF hcst hfun sl2 sl3 sl5 fin
      exact opv_val (by go_simp <;> rfl) ⟨gw_self _, rfl⟩
    · exact owes_mv 5 (by kernel_rfl) (by kernel_rfl) (by kernel_rfl) sl5 (fun _ => rfl)
    · refine owes_v (Go.Op.binOp Go.BinOp.lss 3 (Go.Operand.tmp 44) (Go.Operand.const (Go.Value.int Go.IntKind.i64 0)) 3) 4 [5] (by kernel_rfl) (by kernel_rfl) (by kernel_rfl) rfl fun vals w1 ρ hG hF hρ hcst hfun => ?_
      have e44 : ρ (.tmp 44) = .int .i64 c := ((hρ 44).trans (slotJ [5] (by rw [hsz]; decide) (by kernel_rfl))).trans (hF 5 (by decide))
      clear hρ hF hfun sl2 sl3 sl5 fin
      exact opv_val (by go_simp <;> rfl) ⟨gw_self _, rfl⟩
    · refine owes_v (Go.Op.binOp Go.BinOp.eql 4 (Go.Operand.tmp 43) (Go.Operand.tmp 45) 4) 4 [4, 6] (by kernel_rfl) (by kernel_rfl) (by kernel_rfl) rfl fun vals w1 ρ hG hF hρ hcst hfun => ?_
      have e43 : ρ (.tmp 43) = .bool r1 := ((hρ 43).trans (slotJ [4, 6] (by rw [hsz]; decide) (by kernel_rfl))).trans (hF 4 (by decide))
      have e45 : ρ (.tmp 45) = .bool r1 := ((hρ 45).trans (slotJ [4, 6] (by rw [hsz]; decide) (by kernel_rfl))).trans (hF 6 (by decide))
      clear hρ hF hcst hfun sl2 sl3 sl5 fin
      exact opv_val (by go_simp <;> rfl) ⟨gw_self _, rfl⟩
    · exact owes_mvj 7 46 (by kernel_rfl) (by kernel_rfl) (by kernel_rfl) (by kernel_rfl) (by rw [hsz]; decide) (fun v w h => h)
    · refine owes_vt 8 true (Go.Op.load 23 (Go.Operand.tmp 2)) 23 [] (by kernel_rfl) (by kernel_rfl) (by kernel_rfl) (fun _ _ h => h) (by rw [hsz]; kernel_rfl) (by kernel_rfl) rfl fun vals w1 ρ hG hF hρ hcst hfun => ?_
      have e2 : ρ (.tmp 2) = .pointer (some ⟨A, 0, none⟩) := ((hρ 2).trans (slotO [] (by kernel_rfl))).trans sl2
      obtain ⟨j1, j2⟩ := And.intro ((hG.cell (p := ⟨A, 0, none⟩) hA).trans ca0) ((hG.cell (p := ⟨A, 1, none⟩) hA).trans ca1)
      clear hρ hF hcst hfun sl2 sl3 sl5 fin
      exact opv_val (by go_simp <;> rfl) ⟨gw_self _, rfl⟩
    · refine owes_vt 8 true (Go.Op.call { callee := Go.Callee.value (Go.Operand.func 13), args := #[Go.Operand.tmp 48], argTypes := #[23] }) 30 [9] (by kernel_rfl) (by kernel_rfl) (by kernel_rfl) (fun _ _ h => h) (by rw [hsz]; kernel_rfl) (by kernel_rfl) rfl fun vals w1 ρ hG hF hρ hcst hfun => ?_
      have e48 : ρ (.tmp 48) = .agg #[.int .i64 x1, .int .i64 y1] := ((hρ 48).trans (slotJ [9] (by rw [hsz]; decide) (by kernel_rfl))).trans (hF 9 (by decide))
      clear hρ hF hcst sl2 sl3 sl5 fin
      exact opv_enter (by go_simp <;> rfl) (of_bel (HP1.out w1))
    · refine owes_vt 8 true (Go.Op.load 23 (Go.Operand.tmp 3)) 23 [] (by kernel_rfl) (by kernel_rfl) (by kernel_rfl) (fun _ _ h => h) (by rw [hsz]; kernel_rfl) (by kernel_rfl) rfl fun vals w1 ρ hG hF hρ hcst hfun => ?_
      have e3 : ρ (.tmp 3) = .pointer (some ⟨B, 0, none⟩) := ((hρ 3).trans (slotO [] (by kernel_rfl))).trans sl3
      obtain ⟨j1, j2⟩ := And.intro ((hG.cell (p := ⟨B, 0, none⟩) hB).trans cb0) ((hG.cell (p := ⟨B, 1, none⟩) hB).trans cb1)
      clear hρ hF hcst hfun sl2 sl3 sl5 fin
      exact opv_val (by go_simp <;> rfl) ⟨gw_self _, rfl⟩
    · refine owes_vt 8 true (Go.Op.call { callee := Go.Callee.value (Go.Operand.func 13), args := #[Go.Operand.tmp 50], argTypes := #[23] }) 30 [11] (by kernel_rfl) (by kernel_rfl) (by kernel_rfl) (fun _ _ h => h) (by rw [hsz]; kernel_rfl) (by kernel_rfl) rfl fun vals w1 ρ hG hF hρ hcst hfun => ?_
      have e50 : ρ (.tmp 50) = .agg #[.int .i64 x2, .int .i64 y2] := ((hρ 50).trans (slotJ [11] (by rw [hsz]; decide) (by kernel_rfl))).trans (hF 11 (by decide))
      clear hρ hF hcst sl2 sl3 sl5 fin
      exact opv_enter (by go_simp <;> rfl) (of_bel (HP2.out w1))
    · refine owes_vt 8 true (Go.Op.binOp Go.BinOp.eql 30 (Go.Operand.tmp 49) (Go.Operand.tmp 51) 30) 4 [10, 12] (by kernel_rfl) (by kernel_rfl) (by kernel_rfl) (fun _ _ h => h) (by rw [hsz]; kernel_rfl) (by kernel_rfl) rfl fun vals w1 ρ hG hF hρ hcst hfun => ?_
      have e49 : ρ (.tmp 49) = .int .u64 P1 := ((hρ 49).trans (slotJ [10, 12] (by rw [hsz]; decide) (by kernel_rfl))).trans (hF 10 (by decide))
      have e51 : ρ (.tmp 51) = .int .u64 P2 := ((hρ 51).trans (slotJ [10, 12] (by rw [hsz]; decide) (by kernel_rfl))).trans (hF 12 (by decide))
      clear hρ hF hcst hfun sl2 sl3 sl5 fin
      exact opv_val (by go_simp <;> rfl) ⟨gw_self _, rfl⟩
    · refine owes_vt 8 true (Go.Op.move (Go.Operand.tmp 5)) 3 [] (by kernel_rfl) (by kernel_rfl) (by kernel_rfl) (fun _ _ h => h) (by rw [hsz]; kernel_rfl) (by kernel_rfl) rfl fun vals w1 ρ hG hF hρ hcst hfun => ?_
      have e5 : ρ (.tmp 5) = .int .i64 c := ((hρ 5).trans (slotO [] (by kernel_rfl))).trans sl5
      clear hρ hF hcst hfun sl2 sl3 sl5 fin
      exact opv_val (by go_simp <;> rfl) ⟨gw_self _, rfl⟩
    · refine owes_vt 8 true (Go.Op.binOp Go.BinOp.eql 3 (Go.Operand.tmp 53) (Go.Operand.const (Go.Value.int Go.IntKind.i64 0)) 3) 4 [14] (by kernel_rfl) (by kernel_rfl) (by kernel_rfl) (fun _ _ h => h) (by rw [hsz]; kernel_rfl) (by kernel_rfl) rfl fun vals w1 ρ hG hF hρ hcst hfun => ?_
      have e53 : ρ (.tmp 53) = .int .i64 c := ((hρ 53).trans (slotJ [14] (by rw [hsz]; decide) (by kernel_rfl))).trans (hF 14 (by decide))
      clear hρ hF hfun sl2 sl3 sl5 fin
      exact opv_val (by go_simp <;> rfl) ⟨gw_self _, rfl⟩
    · refine owes_vt 8 true (Go.Op.binOp Go.BinOp.eql 4 (Go.Operand.tmp 52) (Go.Operand.tmp 54) 4) 4 [13, 15] (by kernel_rfl) (by kernel_rfl) (by kernel_rfl) (fun _ _ h => h) (by rw [hsz]; kernel_rfl) (by kernel_rfl) rfl fun vals w1 ρ hG hF hρ hcst hfun => ?_
      have e52 : ρ (.tmp 52) = .bool r2 := ((hρ 52).trans (slotJ [13, 15] (by rw [hsz]; decide) (by kernel_rfl))).trans (hF 13 (by decide))
      have e54 : ρ (.tmp 54) = .bool r2 := ((hρ 54).trans (slotJ [13, 15] (by rw [hsz]; decide) (by kernel_rfl))).trans (hF 15 (by decide))
      clear hρ hF hcst hfun sl2 sl3 sl5 fin
      exact opv_val (by go_simp <;> rfl) ⟨gw_self _, rfl⟩
    · refine owes_v (Go.Op.pick (Go.Operand.tmp 47) (Go.Operand.tmp 55) (Go.Operand.const (Go.Value.bool false))) 4 [8, 16] (by kernel_rfl) (by kernel_rfl) (by kernel_rfl) rfl fun vals w1 ρ hG hF hρ hcst hfun => ?_
      have e47 : ρ (.tmp 47) = .bool true := ((hρ 47).trans (slotJ [8, 16] (by rw [hsz]; decide) (by kernel_rfl))).trans (hF 8 (by decide))
      have e55 : ρ (.tmp 55) = .bool true := ((hρ 55).trans (slotJ [8, 16] (by rw [hsz]; decide) (by kernel_rfl))).trans (hF 16 (by decide))
      clear hρ hF hfun sl2 sl3 sl5 fin
      exact opv_val (by go_simp <;> rfl) ⟨gw_self _, rfl⟩
    · exact owes_mvj 17 56 (by kernel_rfl) (by kernel_rfl) (by kernel_rfl) (by kernel_rfl) (by rw [hsz]; decide) (fun v w h => h)
  · intro vals w1 hG hF
    exact fin vals w1 hG (hF 18 (by decide +kernel))
theorem kpacked_walk (w : World) (x1 : Int) (wx1 : (Lit.int .i64 x1).wf = true) (y1 : Int) (wy1 : (Lit.int .i64 y1).wf = true) (x2 : Int) (wx2 : (Lit.int .i64 x2).wf = true) (y2 : Int) (wy2 : (Lit.int .i64 y2).wf = true) :
    Calls Try.prog 6 #[.agg #[.int .i64 x1, .int .i64 y1], .agg #[.int .i64 x2, .int .i64 y2]] w (TruP (.bool true) w) := by
  obtain ⟨W0, hW0⟩ : ∃ X, X = (w.alloc (.cells #[.int .i64 x1, .int .i64 y1] 23)).alloc (.cells #[.int .i64 x2, .int .i64 y2] 23) := ⟨_, rfl⟩
  obtain ⟨H, hH⟩ : ∃ H, H = w.heap.size := ⟨_, rfl⟩
  have hA : Bk W0 H 23 #[.int .i64 x1, .int .i64 y1] := by rw [hW0, hH]; exact (Bk.new w _ _).alloc _
  have hB : Bk W0 (H + 1) 23 #[.int .i64 x2, .int .i64 y2] := by
    have := Bk.new (w.alloc (.cells #[.int .i64 x1, .int .i64 y1] 23)) 23 #[.int .i64 x2, .int .i64 y2]
    rw [World.size_alloc] at this
    rw [hW0, hH]; exact this
  have hW : Below w.heap.size w W0 := by rw [hW0]; exact (Gw.alloc w _).alloc (by simp) _
  have HK := Lib.hid (And.intro hA (And.intro hB hW))
  clear wx1 wy1 wx2 wy2 hA hB hW
  go_enter Try.func6, Try.ntmps6
  go_wp2_with fail
  rw [← hW0, ← hH]
  clear hW0 hH
  refine Calls.mono (known10_c _) ?_
  rintro e w1 ⟨rfl, b1⟩
  have HA := Lib.hid (HK.out.1.below b1 HK.out.1.lt)
  have HB := Lib.hid (HK.out.2.1.below b1 HK.out.2.1.lt)
  have HW := Lib.hid (HK.out.2.2.trans (b1.mono HK.out.2.2.size))
  clear b1 HK
  obtain ⟨c0, c1⟩ := HA.out.two
  obtain ⟨d0, d1⟩ := HB.out.two
  by_cases h1 : x1 < 0
  · go_wp2_with fail
    go_ret
    exact ⟨rfl, HW.out⟩
  by_cases h2 : y1 < 0
  · go_wp2_with fail
    go_ret
    exact ⟨rfl, HW.out⟩
  by_cases h3 : x2 < 0
  · go_wp2_with fail
    go_ret
    exact ⟨rfl, HW.out⟩
  by_cases h4 : y2 < 0
  · go_wp2_with fail
    go_ret
    exact ⟨rfl, HW.out⟩
  go_wp2_with fail
  refine Calls.mono (short_c (x1, y1) _) ?_
  rintro e w2 ⟨rfl, b2⟩
  have HA2 := Lib.hid (HA.out.below b2 HA.out.lt)
  have HB2 := Lib.hid (HB.out.below b2 HB.out.lt)
  have HW2 := Lib.hid (HW.out.trans (b2.mono HW.out.size))
  clear b2 c0 c1 d0 d1
  obtain ⟨c0, c1⟩ := HA2.out.two
  obtain ⟨d0, d1⟩ := HB2.out.two
  obtain ⟨s1, hs1⟩ : ∃ s, s = shortB (x1, y1) := ⟨_, rfl⟩
  rw [← hs1]
  have HS1 := Lib.hid hs1
  clear hs1
  cases s1 with
  | false =>
    go_wp2_with fail
    go_ret
    exact ⟨rfl, HW2.out⟩
  | true =>
    go_wp2_with fail
    refine Calls.mono (short_c (x2, y2) _) ?_
    rintro e w3 ⟨rfl, b3⟩
    have HA3 := Lib.hid (HA2.out.below b3 HA2.out.lt)
    have HB3 := Lib.hid (HB2.out.below b3 HB2.out.lt)
    have HW3 := Lib.hid (HW2.out.trans (b3.mono HW2.out.size))
    clear b3 c0 c1 d0 d1
    obtain ⟨c0, c1⟩ := HA3.out.two
    obtain ⟨d0, d1⟩ := HB3.out.two
    obtain ⟨s2, hs2⟩ : ∃ s, s = shortB (x2, y2) := ⟨_, rfl⟩
    rw [← hs2]
    have HS2 := Lib.hid hs2
    clear hs2
    cases s2 with
    | false =>
      go_wp2_with fail
      go_ret
      exact ⟨rfl, HW3.out⟩
    | true =>
      have HL := Lib.hid (pack_lt (x1, y1) (x2, y2) HS1.out.symm HS2.out.symm (by simpa using h1) (by simpa using h2) (by simpa using h3) (by simpa using h4))
      obtain ⟨c, hc⟩ : ∃ c, c = cmpN (x1, y1) (x2, y2) := ⟨_, rfl⟩
      have hcmp := compare_b (x1, y1) (x2, y2) w3
      rw [← hc] at HL hcmp
      have HC := Lib.hid hcmp
      clear hc hcmp
      go_wp2_with fail
      clear h1 h2 h3 h4
      refine Calls.mono HC.out ?_
      rintro e w4 ⟨rfl, b4⟩
      have HA4 := Lib.hid (HA3.out.below b4 HA3.out.lt)
      have HB4 := Lib.hid (HB3.out.below b4 HB3.out.lt)
      have HW4 := Lib.hid (HW3.out.trans (b4.mono HW3.out.size))
      clear b4 c0 c1 d0 d1 HC
      go_wp2_with fail
      refine kp_reg _ _ _ H (H + 1) x1 y1 x2 y2 (packI (x1, y1)) (packI (x2, y2)) c (decide (c < 0)) (c == 0) HA4.out.lt HB4.out.lt HA4.out.two.1 HA4.out.two.2 HB4.out.two.1 HB4.out.two.2 (Lib.hid (fun W => pack_c (x1, y1) W)) (Lib.hid (fun W => pack_c (x2, y2) W)) HL.out.1 rfl HL.out.2 rfl rfl rfl rfl rfl ?_
      intro vals w5 hG h0
      unfold IsV at h0
      simp only [putD, Act.put, List.setIfInBounds_toArray, List.set_cons_zero, List.set_cons_succ, h0]
      clear h0
      go_wp2_with fail
      go_ret
      exact ⟨rfl, HW4.out.trans (hG.mono HW4.out.size)⟩
end Go.Proofs.Ytgddehhigamkkaa
namespace Go.Proofs.Ytgddehhigamkkaa.keysPacked
open Go.ChangeShapes Go.WideShapes Go.ChangeAt Go.RowKit
open Go.ChangeMaps (open_string shut_string)
set_option linter.unusedVariables false
set_option maxRecDepth 100000 in
theorem lifted (os : Os) (started : os.Started) (H : Type) (enc : TypeId × Value → H) :
    ReturnsInHanded {} Try.checked os 6 .any (Rows.keysPackedSpec.pre6 enc Try.prog Try.f6 Rows.keysPackedRow.domain false) (Rows.keysPackedSpec.post enc Try.prog Try.f6 false true false false) := by
  refine returnsInHanded_of_change (C := Try.checked) own started (by kernel_rfl) Try.func6
    (ChangeSpec.witness6 (enc := enc) (C := Try.checked) false ⟨#[], #[.agg #[.int .i64 0, .int .i64 0], .agg #[.int .i64 0, .int .i64 0]], []⟩ 8 (by kernel_rfl) (by kernel_rfl) (by kernel_rfl) (by kernel_rfl)) ?_
  intro W base args ds gs before hval0 hW hcnd _
  have hval : ∀ (j : Nat) t v, Try.f6.params[j]? = some t → args[j]? = some v → Value.okWide Try.prog W .any base t v := hval0
  have hW' := hW
  obtain ⟨p, q, hA0, hV, rfl, hfz, hnd⟩ := hW
  have hA : DataW.TrodAll enc Try.prog W 0 (fun _ => true) true Try.f6.params.toList args.toList ds p := hA0
  rw [Try.params6] at hA hval
  obtain ⟨v0, vs0, d0, ds0, p0, q0, hargs, rfl, rfl, h0, r0⟩ := trodAll_cons hA
  obtain ⟨v1, vs1, d1, ds1, p1, q1, rfl, rfl, rfl, h1, r1⟩ := trodAll_cons r0
  obtain ⟨rfl, rfl, rfl⟩ := trodAll_nil r1
  obtain rfl : args = #[v0, v1] := by cases args; simp_all
  obtain ⟨rfl, rfl⟩ := trodVars_none hV
  have k0 := h0
  have lt0 : ∀ x ∈ p0, x.block < W.heap.size := by obtain ⟨m, hm⟩ := k0; exact DataW.trod_lt m _ _ _ hm
  obtain ⟨a0x, a0y, e0v, w0x, w0y⟩ := open_ints2 .i64 .i64 Try.underlying23 (by kernel_rfl) (by kernel_rfl) (by kernel_rfl) (by kernel_rfl) (hval 0 23 v0 rfl rfl) h0; subst e0v
  have k1 := h1
  have lt1 : ∀ x ∈ p1, x.block < W.heap.size := by obtain ⟨m, hm⟩ := k1; exact DataW.trod_lt m _ _ _ hm
  obtain ⟨a1x, a1y, e1v, w1x, w1y⟩ := open_ints2 .i64 .i64 Try.underlying23 (by kernel_rfl) (by kernel_rfl) (by kernel_rfl) (by kernel_rfl) (hval 1 23 v1 rfl rfl) h1; subst e1v
  clear hA0 hval0
  refine (kpacked_walk W a0x w0x a0y w0y a1x w1x a1y w1y).mono fun e W' ⟨he, bel⟩ => ?_
  subst he
  exact ⟨_, rfl, _, _, _, [], _, [], hW', trodAll_mk1 (shut_bool Try.underlying4 _), (trodAll_cons_mk (Below.trod laidOut (by kernel_rfl) (of_decide_eq_true (by kernel_rfl)) k0 bel lt0) (trodAll_cons_mk (Below.trod laidOut (by kernel_rfl) (of_decide_eq_true (by kernel_rfl)) k1 bel lt1) trodAll_mk0)), rfl, bel.frame _, fun h => by cases h⟩
theorem over : Rows.keysPackedRow.holds Try.pinned (OpenSpec.ofChange Rows.keysPackedSpec) :=
  OpenClaim.holds_of_wide 6 Try.f6 rfl rfl rfl rfl rfl rfl rfl ⟨rfl, rfl, rfl, rfl, rfl⟩ rfl rfl rfl rfl rfl (by kernel_rfl) Try.func6 (by kernel_rfl)
    (of_decide_eq_true (by kernel_rfl)) (by unfold Func.isWrapper; first | (rw [if_pos (by decide +kernel)]; kernel_rfl) | (rw [if_neg (by decide +kernel)]; exact ⟨rfl, rfl⟩))
    (fun os started H enc _ => lifted os started H enc)
theorem proved : Rows.KeysPackedSaid := over
end Go.Proofs.Ytgddehhigamkkaa.keysPacked
