/- The law KeysTwo of layer 10 returns true for every argument. No conditions. -/
import Derived.Test.YtgddehhigamkkaaKyN
import Derived.Test.YtgddehhigamkkaaFrame
import Derived.Test.YtgddehhigamkkaaOpenS
namespace Go.Proofs.Ytgddehhigamkkaa
set_option linter.unusedVariables false
set_option linter.unusedSimpArgs false
open Go.RowKit Go.Maps
set_option maxHeartbeats 2000000
set_option maxRecDepth 100000
theorem kt_reg (Q : Exit → Act → World → Prop) (a0 : Act) (w : World) (A B : Nat) (x1 y1 x2 y2 c d : Int) (hA : A < w.heap.size) (hB : B < w.heap.size) (ca0 : w.cell? ⟨A, 0, none⟩ = some (.int .i64 x1)) (ca1 : w.cell? ⟨A, 1, none⟩ = some (.int .i64 y1)) (cb0 : w.cell? ⟨B, 0, none⟩ = some (.int .i64 x2)) (cb1 : w.cell? ⟨B, 1, none⟩ = some (.int .i64 y2)) (HR : Hid (∀ W, Calls Try.prog 10 #[.agg #[.int .i64 x1, .int .i64 y1], .agg #[.int .i64 x2, .int .i64 y2]] W fun e w' => e = .returned (.int .i64 c) ∧ Below W.heap.size W w')) (HQ : Hid (∀ W, Calls Try.prog 9 #[.agg #[.int .i64 x2, .int .i64 y2], .agg #[.int .i64 x1, .int .i64 y1]] W fun e w' => e = .returned (.int .i64 d) ∧ Below W.heap.size W w')) (kd : d = -c) (kw : IntKind.i64.wrap (-c) = -c) (hsz : a0.tmps.size = 72) (sl2 : a0.tmps.getD 2 undef = .pointer (some ⟨A, 0, none⟩)) (sl3 : a0.tmps.getD 3 undef = .pointer (some ⟨B, 0, none⟩)) (sl5 : a0.tmps.getD 5 undef = .int .i64 c)
    (fin : ∀ (vals : Nat → Value) (w1 : World), Below w.heap.size w w1 → (IsV (.bool false)) (vals 14) w1 → Q .normal (putD vals [13, 14, 15, 16, 17, 18, 19, 20, 21, 22, 23, 24, 25, 26, 27] 0 a0) w1) :
    (Code.region 4 (regIn Try.f3 4) true).wp Try.prog Q a0 w := by
  refine region_by (G := fun w w1 => Below w.heap.size w w1) [IsV (.int .i64 c),
    IsV (.agg #[.int .i64 x1, .int .i64 y1]),
    IsV (.agg #[.int .i64 x1, .int .i64 y1]),
    IsV (.agg #[.int .i64 x2, .int .i64 y2]),
    IsV (.agg #[.int .i64 x2, .int .i64 y2]),
    IsV (.int .i64 c),
    IsV (.bool false),
    IsV (.bool false),
    IsV (.agg #[.int .i64 x2, .int .i64 y2]),
    IsV (.agg #[.int .i64 x1, .int .i64 y1]),
    IsV (.int .i64 d),
    IsV (.int .i64 c),
    IsV (.int .i64 (-c)),
    IsV (.bool false),
    IsV (.bool false)]
    [13, 14, 15, 16, 17, 18, 19, 20, 21, 22, 23, 24, 25, 26, 27] (by kernel_rfl) (Gw.drew _) Gw.trans (by rw [hsz]; kernel_rfl) (by kernel_rfl) ?_ ?_ ?_
  · intro f hf
    simp only [List.mem_cons, List.not_mem_nil, or_false] at hf
    rcases hf with rfl | rfl | rfl | rfl | rfl | rfl | rfl | rfl | rfl | rfl | rfl | rfl | rfl | rfl | rfl <;> intro v a b h g <;> first | exact IsV.mono h
  · refine ⟨?_, ?_, ?_, ?_, ?_, ?_, ?_, ?_, ?_, ?_, ?_, ?_, ?_, ?_, ?_, trivial⟩
    · exact owes_mv 5 (by kernel_rfl) (by kernel_rfl) (by kernel_rfl) sl5 (fun _ => rfl)
    · refine owes_v (Go.Op.load 23 (Go.Operand.tmp 2)) 23 [] (by kernel_rfl) (by kernel_rfl) (by kernel_rfl) rfl fun vals w1 ρ hG hF hρ hcst hfun => ?_
      have e2 : ρ (.tmp 2) = .pointer (some ⟨A, 0, none⟩) := ((hρ 2).trans (slotO [] (by kernel_rfl))).trans sl2
      obtain ⟨j1, j2⟩ := And.intro ((hG.cell (p := ⟨A, 0, none⟩) hA).trans ca0) ((hG.cell (p := ⟨A, 1, none⟩) hA).trans ca1)
      clear hρ hF hcst hfun sl2 sl3 sl5 fin
      exact opv_val (by go_simp <;> rfl) ⟨gw_self _, rfl⟩
    · refine owes_v (Go.Op.call { callee := Go.Callee.value (Go.Operand.func 11), args := #[Go.Operand.tmp 14], argTypes := #[23] }) 27 [1] (by kernel_rfl) (by kernel_rfl) (by kernel_rfl) rfl fun vals w1 ρ hG hF hρ hcst hfun => ?_
      have e14 : ρ (.tmp 14) = .agg #[.int .i64 x1, .int .i64 y1] := ((hρ 14).trans (slotJ [1] (by rw [hsz]; decide) (by kernel_rfl))).trans (hF 1 (by decide))
      clear hρ hF hcst sl2 sl3 sl5 fin
      exact opv_enter (by go_simp <;> rfl) (of_bel (kof_c (x1, y1) w1))
    · refine owes_v (Go.Op.load 23 (Go.Operand.tmp 3)) 23 [] (by kernel_rfl) (by kernel_rfl) (by kernel_rfl) rfl fun vals w1 ρ hG hF hρ hcst hfun => ?_
      have e3 : ρ (.tmp 3) = .pointer (some ⟨B, 0, none⟩) := ((hρ 3).trans (slotO [] (by kernel_rfl))).trans sl3
      obtain ⟨j1, j2⟩ := And.intro ((hG.cell (p := ⟨B, 0, none⟩) hB).trans cb0) ((hG.cell (p := ⟨B, 1, none⟩) hB).trans cb1)
      clear hρ hF hcst hfun sl2 sl3 sl5 fin
      exact opv_val (by go_simp <;> rfl) ⟨gw_self _, rfl⟩
    · refine owes_v (Go.Op.call { callee := Go.Callee.value (Go.Operand.func 11), args := #[Go.Operand.tmp 16], argTypes := #[23] }) 27 [3] (by kernel_rfl) (by kernel_rfl) (by kernel_rfl) rfl fun vals w1 ρ hG hF hρ hcst hfun => ?_
      have e16 : ρ (.tmp 16) = .agg #[.int .i64 x2, .int .i64 y2] := ((hρ 16).trans (slotJ [3] (by rw [hsz]; decide) (by kernel_rfl))).trans (hF 3 (by decide))
      clear hρ hF hcst sl2 sl3 sl5 fin
      exact opv_enter (by go_simp <;> rfl) (of_bel (kof_c (x2, y2) w1))
    · refine owes_v (Go.Op.call { callee := Go.Callee.value (Go.Operand.func 10), args := #[Go.Operand.tmp 15, Go.Operand.tmp 17], argTypes := #[27, 27] }) 3 [2, 4] (by kernel_rfl) (by kernel_rfl) (by kernel_rfl) rfl fun vals w1 ρ hG hF hρ hcst hfun => ?_
      have e15 : ρ (.tmp 15) = .agg #[.int .i64 x1, .int .i64 y1] := ((hρ 15).trans (slotJ [2, 4] (by rw [hsz]; decide) (by kernel_rfl))).trans (hF 2 (by decide))
      have e17 : ρ (.tmp 17) = .agg #[.int .i64 x2, .int .i64 y2] := ((hρ 17).trans (slotJ [2, 4] (by rw [hsz]; decide) (by kernel_rfl))).trans (hF 4 (by decide))
      clear hρ hF hcst sl2 sl3 sl5 fin
      exact opv_enter (by go_simp <;> rfl) (of_bel (HR.out w1))
    · refine owes_v (Go.Op.binOp Go.BinOp.neq 3 (Go.Operand.tmp 13) (Go.Operand.tmp 18) 3) 4 [0, 5] (by kernel_rfl) (by kernel_rfl) (by kernel_rfl) rfl fun vals w1 ρ hG hF hρ hcst hfun => ?_
      have e13 : ρ (.tmp 13) = .int .i64 c := ((hρ 13).trans (slotJ [0, 5] (by rw [hsz]; decide) (by kernel_rfl))).trans (hF 0 (by decide))
      have e18 : ρ (.tmp 18) = .int .i64 c := ((hρ 18).trans (slotJ [0, 5] (by rw [hsz]; decide) (by kernel_rfl))).trans (hF 5 (by decide))
      clear hρ hF hcst hfun sl2 sl3 sl5 fin
      exact opv_val (by go_simp <;> rfl) ⟨gw_self _, rfl⟩
    · exact owes_mvj 6 19 (by kernel_rfl) (by kernel_rfl) (by kernel_rfl) (by kernel_rfl) (by rw [hsz]; decide) (fun v w h => h)
    · refine owes_vt 7 false (Go.Op.load 23 (Go.Operand.tmp 3)) 23 [] (by kernel_rfl) (by kernel_rfl) (by kernel_rfl) (fun _ _ h => h) (by rw [hsz]; kernel_rfl) (by kernel_rfl) rfl fun vals w1 ρ hG hF hρ hcst hfun => ?_
      have e3 : ρ (.tmp 3) = .pointer (some ⟨B, 0, none⟩) := ((hρ 3).trans (slotO [] (by kernel_rfl))).trans sl3
      obtain ⟨j1, j2⟩ := And.intro ((hG.cell (p := ⟨B, 0, none⟩) hB).trans cb0) ((hG.cell (p := ⟨B, 1, none⟩) hB).trans cb1)
      clear hρ hF hcst hfun sl2 sl3 sl5 fin
      exact opv_val (by go_simp <;> rfl) ⟨gw_self _, rfl⟩
    · refine owes_vt 7 false (Go.Op.load 23 (Go.Operand.tmp 2)) 23 [] (by kernel_rfl) (by kernel_rfl) (by kernel_rfl) (fun _ _ h => h) (by rw [hsz]; kernel_rfl) (by kernel_rfl) rfl fun vals w1 ρ hG hF hρ hcst hfun => ?_
      have e2 : ρ (.tmp 2) = .pointer (some ⟨A, 0, none⟩) := ((hρ 2).trans (slotO [] (by kernel_rfl))).trans sl2
      obtain ⟨j1, j2⟩ := And.intro ((hG.cell (p := ⟨A, 0, none⟩) hA).trans ca0) ((hG.cell (p := ⟨A, 1, none⟩) hA).trans ca1)
      clear hρ hF hcst hfun sl2 sl3 sl5 fin
      exact opv_val (by go_simp <;> rfl) ⟨gw_self _, rfl⟩
    · refine owes_vt 7 false (Go.Op.call { callee := Go.Callee.value (Go.Operand.func 9), args := #[Go.Operand.tmp 21, Go.Operand.tmp 22], argTypes := #[23, 23] }) 3 [8, 9] (by kernel_rfl) (by kernel_rfl) (by kernel_rfl) (fun _ _ h => h) (by rw [hsz]; kernel_rfl) (by kernel_rfl) rfl fun vals w1 ρ hG hF hρ hcst hfun => ?_
      have e21 : ρ (.tmp 21) = .agg #[.int .i64 x2, .int .i64 y2] := ((hρ 21).trans (slotJ [8, 9] (by rw [hsz]; decide) (by kernel_rfl))).trans (hF 8 (by decide))
      have e22 : ρ (.tmp 22) = .agg #[.int .i64 x1, .int .i64 y1] := ((hρ 22).trans (slotJ [8, 9] (by rw [hsz]; decide) (by kernel_rfl))).trans (hF 9 (by decide))
      clear hρ hF hcst sl2 sl3 sl5 fin
      exact opv_enter (by go_simp <;> rfl) (of_bel (HQ.out w1))
    · refine owes_vt 7 false (Go.Op.move (Go.Operand.tmp 5)) 3 [] (by kernel_rfl) (by kernel_rfl) (by kernel_rfl) (fun _ _ h => h) (by rw [hsz]; kernel_rfl) (by kernel_rfl) rfl fun vals w1 ρ hG hF hρ hcst hfun => ?_
      have e5 : ρ (.tmp 5) = .int .i64 c := ((hρ 5).trans (slotO [] (by kernel_rfl))).trans sl5
      clear hρ hF hcst hfun sl2 sl3 sl5 fin
      exact opv_val (by go_simp <;> rfl) ⟨gw_self _, rfl⟩
    · refine owes_vt 7 false (Go.Op.binOp Go.BinOp.sub 3 (Go.Operand.const (Go.Value.int Go.IntKind.i64 0)) (Go.Operand.tmp 24) 3) 3 [11] (by kernel_rfl) (by kernel_rfl) (by kernel_rfl) (fun _ _ h => h) (by rw [hsz]; kernel_rfl) (by kernel_rfl) rfl fun vals w1 ρ hG hF hρ hcst hfun => ?_
      have e24 : ρ (.tmp 24) = .int .i64 c := ((hρ 24).trans (slotJ [11] (by rw [hsz]; decide) (by kernel_rfl))).trans (hF 11 (by decide))
      clear hρ hF hfun sl2 sl3 sl5 fin
      exact opv_val (by go_simp <;> rfl) ⟨gw_self _, rfl⟩
    · refine owes_vt 7 false (Go.Op.binOp Go.BinOp.neq 3 (Go.Operand.tmp 23) (Go.Operand.tmp 25) 3) 4 [10, 12] (by kernel_rfl) (by kernel_rfl) (by kernel_rfl) (fun _ _ h => h) (by rw [hsz]; kernel_rfl) (by kernel_rfl) rfl fun vals w1 ρ hG hF hρ hcst hfun => ?_
      have e23 : ρ (.tmp 23) = .int .i64 d := ((hρ 23).trans (slotJ [10, 12] (by rw [hsz]; decide) (by kernel_rfl))).trans (hF 10 (by decide))
      have e25 : ρ (.tmp 25) = .int .i64 (-c) := ((hρ 25).trans (slotJ [10, 12] (by rw [hsz]; decide) (by kernel_rfl))).trans (hF 12 (by decide))
      subst kd
      clear hρ hF hcst hfun sl2 sl3 sl5 fin
      exact opv_val (by go_simp <;> rfl) ⟨gw_self _, rfl⟩
    · refine owes_v (Go.Op.pick (Go.Operand.tmp 20) (Go.Operand.const (Go.Value.bool true)) (Go.Operand.tmp 26)) 4 [7, 13] (by kernel_rfl) (by kernel_rfl) (by kernel_rfl) rfl fun vals w1 ρ hG hF hρ hcst hfun => ?_
      have e20 : ρ (.tmp 20) = .bool false := ((hρ 20).trans (slotJ [7, 13] (by rw [hsz]; decide) (by kernel_rfl))).trans (hF 7 (by decide))
      have e26 : ρ (.tmp 26) = .bool false := ((hρ 26).trans (slotJ [7, 13] (by rw [hsz]; decide) (by kernel_rfl))).trans (hF 13 (by decide))
      clear hρ hF hfun sl2 sl3 sl5 fin
      exact opv_val (by go_simp <;> rfl) ⟨gw_self _, rfl⟩
  · intro vals w1 hG hF
    exact fin vals w1 hG (hF 14 (by decide +kernel))
theorem kt11_reg (Q : Exit → Act → World → Prop) (a0 : Act) (w : World) (A B E F : Nat) (x1 y1 x2 y2 u1 v1 u2 v2 P1 P2 c : Int) (hA : A < w.heap.size) (hB : B < w.heap.size) (hE : E < w.heap.size) (hF2 : F < w.heap.size) (ca0 : w.cell? ⟨A, 0, none⟩ = some (.int .i64 x1)) (ca1 : w.cell? ⟨A, 1, none⟩ = some (.int .i64 y1)) (cb0 : w.cell? ⟨B, 0, none⟩ = some (.int .i64 x2)) (cb1 : w.cell? ⟨B, 1, none⟩ = some (.int .i64 y2)) (ce0 : w.cell? ⟨E, 0, none⟩ = some (.int .i64 u1)) (ce1 : w.cell? ⟨E, 1, none⟩ = some (.int .i64 v1)) (cf0 : w.cell? ⟨F, 0, none⟩ = some (.int .i64 u2)) (cf1 : w.cell? ⟨F, 1, none⟩ = some (.int .i64 v2)) (HP1 : Hid (∀ W, Calls Try.prog 13 #[.agg #[.int .i64 x1, .int .i64 y1]] W fun e w' => e = .returned (.int .u64 P1) ∧ Below W.heap.size W w')) (HP2 : Hid (∀ W, Calls Try.prog 13 #[.agg #[.int .i64 x2, .int .i64 y2]] W fun e w' => e = .returned (.int .u64 P2) ∧ Below W.heap.size W w')) (HS1 : Hid (∀ W, Calls Try.prog 14 #[.agg #[.int .i64 x1, .int .i64 y1]] W fun e w' => e = .returned (.bool true) ∧ Below W.heap.size W w')) (HS2 : Hid (∀ W, Calls Try.prog 14 #[.agg #[.int .i64 x2, .int .i64 y2]] W fun e w' => e = .returned (.bool true) ∧ Below W.heap.size W w')) (HE1 : Hid (∀ W, (Op.equalIn 10000 23 (.agg #[.int .i64 u1, .int .i64 v1]) (.agg #[.int .i64 x1, .int .i64 y1])).run Try.prog W = .ok true W)) (HE2 : Hid (∀ W, (Op.equalIn 10000 23 (.agg #[.int .i64 u2, .int .i64 v2]) (.agg #[.int .i64 x2, .int .i64 y2])).run Try.prog W = .ok true W)) (r2 : Bool) (k3 : (P1 == P2) = r2) (k4 : (c == 0) = r2) (hsz : a0.tmps.size = 72) (sl2 : a0.tmps.getD 2 undef = .pointer (some ⟨A, 0, none⟩)) (sl3 : a0.tmps.getD 3 undef = .pointer (some ⟨B, 0, none⟩)) (sl5 : a0.tmps.getD 5 undef = .int .i64 c) (sl6 : a0.tmps.getD 6 undef = .pointer (some ⟨E, 0, none⟩)) (sl7 : a0.tmps.getD 7 undef = .pointer (some ⟨F, 0, none⟩))
    (fin : ∀ (vals : Nat → Value) (w1 : World), Below w.heap.size w w1 → (IsV (.bool true)) (vals 38) w1 → Q .normal (putD vals [34, 35, 36, 37, 38, 39, 40, 41, 42, 43, 44, 45, 46, 47, 48, 49, 50, 51, 52, 53, 54, 55, 56, 57, 58, 59, 60, 61, 62, 63, 64, 65, 66, 67, 68, 69, 70, 71, 4] 0 a0) w1) :
    (Code.region 8 (regIn Try.f3 8) true).wp Try.prog Q a0 w := by
  refine region_by (G := fun w w1 => Below w.heap.size w w1) [IsV (.agg #[.int .i64 x1, .int .i64 y1]),
    IsV (.bool true),
    IsV (.bool false),
    IsV (.bool false),
    IsV (.agg #[.int .i64 u1, .int .i64 v1]),
    IsV (.agg #[.int .i64 x1, .int .i64 y1]),
    IsV (.bool true),
    IsV (.bool true),
    IsV (.bool true),
    IsV (.agg #[.int .i64 x1, .int .i64 y1]),
    IsV (.bool true),
    IsV (.bool false),
    IsV (.bool false),
    IsV (.agg #[.int .i64 x2, .int .i64 y2]),
    IsV (.bool true),
    IsV (.bool false),
    IsV (.bool false),
    IsV (.bool false),
    IsV (.agg #[.int .i64 x1, .int .i64 y1]),
    IsV (.int .u64 P1),
    IsV (.agg #[.int .i64 x2, .int .i64 y2]),
    IsV (.int .u64 P2),
    IsV (.bool r2),
    IsV (.int .i64 c),
    IsV (.bool r2),
    IsV (.bool true),
    IsV (.bool true),
    IsV (.bool true),
    IsV (.bool true),
    IsV (.agg #[.int .i64 x2, .int .i64 y2]),
    IsV (.bool true),
    IsV (.bool false),
    IsV (.bool false),
    IsV (.agg #[.int .i64 u2, .int .i64 v2]),
    IsV (.agg #[.int .i64 x2, .int .i64 y2]),
    IsV (.bool true),
    IsV (.bool true),
    IsV (.bool true),
    IsV (.bool true)]
    [34, 35, 36, 37, 38, 39, 40, 41, 42, 43, 44, 45, 46, 47, 48, 49, 50, 51, 52, 53, 54, 55, 56, 57, 58, 59, 60, 61, 62, 63, 64, 65, 66, 67, 68, 69, 70, 71, 4] (by kernel_rfl) (Gw.drew _) Gw.trans (by rw [hsz]; kernel_rfl) (by kernel_rfl) ?_ ?_ ?_
  · intro f hf
    simp only [List.mem_cons, List.not_mem_nil, or_false] at hf
    rcases hf with rfl | rfl | rfl | rfl | rfl | rfl | rfl | rfl | rfl | rfl | rfl | rfl | rfl | rfl | rfl | rfl | rfl | rfl | rfl | rfl | rfl | rfl | rfl | rfl | rfl | rfl | rfl | rfl | rfl | rfl | rfl | rfl | rfl | rfl | rfl | rfl | rfl | rfl | rfl <;> intro v a b h g <;> first | exact IsV.mono h
  · refine ⟨?_, ?_, ?_, ?_, ?_, ?_, ?_, ?_, ?_, ?_, ?_, ?_, ?_, ?_, ?_, ?_, ?_, ?_, ?_, ?_, ?_, ?_, ?_, ?_, ?_, ?_, ?_, ?_, ?_, ?_, ?_, ?_, ?_, ?_, ?_, ?_, ?_, ?_, ?_, trivial⟩
    · refine owes_v (Go.Op.load 23 (Go.Operand.tmp 2)) 23 [] (by kernel_rfl) (by kernel_rfl) (by kernel_rfl) rfl fun vals w1 ρ hG hF hρ hcst hfun => ?_
      have e2 : ρ (.tmp 2) = .pointer (some ⟨A, 0, none⟩) := ((hρ 2).trans (slotO [] (by kernel_rfl))).trans sl2
      obtain ⟨j1, j2⟩ := And.intro ((hG.cell (p := ⟨A, 0, none⟩) hA).trans ca0) ((hG.cell (p := ⟨A, 1, none⟩) hA).trans ca1)
      clear hρ hF hcst hfun sl2 sl3 sl5 sl6 sl7 fin
      exact opv_val (by go_simp <;> rfl) ⟨gw_self _, rfl⟩
    · refine owes_v (Go.Op.call { callee := Go.Callee.value (Go.Operand.func 14), args := #[Go.Operand.tmp 34], argTypes := #[23] }) 4 [0] (by kernel_rfl) (by kernel_rfl) (by kernel_rfl) rfl fun vals w1 ρ hG hF hρ hcst hfun => ?_
      have e34 : ρ (.tmp 34) = .agg #[.int .i64 x1, .int .i64 y1] := ((hρ 34).trans (slotJ [0] (by rw [hsz]; decide) (by kernel_rfl))).trans (hF 0 (by decide))
      clear hρ hF hcst sl2 sl3 sl5 sl6 sl7 fin
      exact opv_enter (by go_simp <;> rfl) (of_bel (HS1.out w1))
    · refine owes_v (Go.Op.unOp Go.UnOp.not 4 (Go.Operand.tmp 35)) 4 [1] (by kernel_rfl) (by kernel_rfl) (by kernel_rfl) rfl fun vals w1 ρ hG hF hρ hcst hfun => ?_
      have e35 : ρ (.tmp 35) = .bool true := ((hρ 35).trans (slotJ [1] (by rw [hsz]; decide) (by kernel_rfl))).trans (hF 1 (by decide))
      clear hρ hF hcst hfun sl2 sl3 sl5 sl6 sl7 fin
      exact opv_val (by go_simp <;> rfl) ⟨gw_self _, rfl⟩
    · exact owes_mvj 2 36 (by kernel_rfl) (by kernel_rfl) (by kernel_rfl) (by kernel_rfl) (by rw [hsz]; decide) (fun v w h => h)
    · refine owes_vt 3 false (Go.Op.load 23 (Go.Operand.tmp 6)) 23 [] (by kernel_rfl) (by kernel_rfl) (by kernel_rfl) (fun _ _ h => h) (by rw [hsz]; kernel_rfl) (by kernel_rfl) rfl fun vals w1 ρ hG hF hρ hcst hfun => ?_
      have e6 : ρ (.tmp 6) = .pointer (some ⟨E, 0, none⟩) := ((hρ 6).trans (slotO [] (by kernel_rfl))).trans sl6
      obtain ⟨j1, j2⟩ := And.intro ((hG.cell (p := ⟨E, 0, none⟩) hE).trans ce0) ((hG.cell (p := ⟨E, 1, none⟩) hE).trans ce1)
      clear hρ hF hcst hfun sl2 sl3 sl5 sl6 sl7 fin
      exact opv_val (by go_simp <;> rfl) ⟨gw_self _, rfl⟩
    · refine owes_vt 3 false (Go.Op.load 23 (Go.Operand.tmp 2)) 23 [] (by kernel_rfl) (by kernel_rfl) (by kernel_rfl) (fun _ _ h => h) (by rw [hsz]; kernel_rfl) (by kernel_rfl) rfl fun vals w1 ρ hG hF hρ hcst hfun => ?_
      have e2 : ρ (.tmp 2) = .pointer (some ⟨A, 0, none⟩) := ((hρ 2).trans (slotO [] (by kernel_rfl))).trans sl2
      obtain ⟨j1, j2⟩ := And.intro ((hG.cell (p := ⟨A, 0, none⟩) hA).trans ca0) ((hG.cell (p := ⟨A, 1, none⟩) hA).trans ca1)
      clear hρ hF hcst hfun sl2 sl3 sl5 sl6 sl7 fin
      exact opv_val (by go_simp <;> rfl) ⟨gw_self _, rfl⟩
    · refine owes_vt 3 false (Go.Op.binOp Go.BinOp.eql 23 (Go.Operand.tmp 38) (Go.Operand.tmp 39) 23) 4 [4, 5] (by kernel_rfl) (by kernel_rfl) (by kernel_rfl) (fun _ _ h => h) (by rw [hsz]; kernel_rfl) (by kernel_rfl) rfl fun vals w1 ρ hG hF hρ hcst hfun => ?_
      have e38 : ρ (.tmp 38) = .agg #[.int .i64 u1, .int .i64 v1] := ((hρ 38).trans (slotJ [4, 5] (by rw [hsz]; decide) (by kernel_rfl))).trans (hF 4 (by decide))
      have e39 : ρ (.tmp 39) = .agg #[.int .i64 x1, .int .i64 y1] := ((hρ 39).trans (slotJ [4, 5] (by rw [hsz]; decide) (by kernel_rfl))).trans (hF 5 (by decide))
      have kq := HE1.out
      clear hρ hF hcst hfun sl2 sl3 sl5 sl6 sl7 fin
      exact opv_val (by go_simp <;> rfl) ⟨gw_self _, rfl⟩
    · refine owes_v (Go.Op.pick (Go.Operand.tmp 37) (Go.Operand.const (Go.Value.bool true)) (Go.Operand.tmp 40)) 4 [3, 6] (by kernel_rfl) (by kernel_rfl) (by kernel_rfl) rfl fun vals w1 ρ hG hF hρ hcst hfun => ?_
      have e37 : ρ (.tmp 37) = .bool false := ((hρ 37).trans (slotJ [3, 6] (by rw [hsz]; decide) (by kernel_rfl))).trans (hF 3 (by decide))
      have e40 : ρ (.tmp 40) = .bool true := ((hρ 40).trans (slotJ [3, 6] (by rw [hsz]; decide) (by kernel_rfl))).trans (hF 6 (by decide))
      clear hρ hF hfun sl2 sl3 sl5 sl6 sl7 fin
      exact opv_val (by go_simp <;> rfl) ⟨gw_self _, rfl⟩
    · exact owes_mvj 7 41 (by kernel_rfl) (by kernel_rfl) (by kernel_rfl) (by kernel_rfl) (by rw [hsz]; decide) (fun v w h => h)
    · refine owes_vt 8 true (Go.Op.load 23 (Go.Operand.tmp 2)) 23 [] (by kernel_rfl) (by kernel_rfl) (by kernel_rfl) (fun _ _ h => h) (by rw [hsz]; kernel_rfl) (by kernel_rfl) rfl fun vals w1 ρ hG hF hρ hcst hfun => ?_
      have e2 : ρ (.tmp 2) = .pointer (some ⟨A, 0, none⟩) := ((hρ 2).trans (slotO [] (by kernel_rfl))).trans sl2
      obtain ⟨j1, j2⟩ := And.intro ((hG.cell (p := ⟨A, 0, none⟩) hA).trans ca0) ((hG.cell (p := ⟨A, 1, none⟩) hA).trans ca1)
      clear hρ hF hcst hfun sl2 sl3 sl5 sl6 sl7 fin
      exact opv_val (by go_simp <;> rfl) ⟨gw_self _, rfl⟩
    · refine owes_vt 8 true (Go.Op.call { callee := Go.Callee.value (Go.Operand.func 14), args := #[Go.Operand.tmp 43], argTypes := #[23] }) 4 [9] (by kernel_rfl) (by kernel_rfl) (by kernel_rfl) (fun _ _ h => h) (by rw [hsz]; kernel_rfl) (by kernel_rfl) rfl fun vals w1 ρ hG hF hρ hcst hfun => ?_
      have e43 : ρ (.tmp 43) = .agg #[.int .i64 x1, .int .i64 y1] := ((hρ 43).trans (slotJ [9] (by rw [hsz]; decide) (by kernel_rfl))).trans (hF 9 (by decide))
      clear hρ hF hcst sl2 sl3 sl5 sl6 sl7 fin
      exact opv_enter (by go_simp <;> rfl) (of_bel (HS1.out w1))
    · refine owes_vt 8 true (Go.Op.unOp Go.UnOp.not 4 (Go.Operand.tmp 44)) 4 [10] (by kernel_rfl) (by kernel_rfl) (by kernel_rfl) (fun _ _ h => h) (by rw [hsz]; kernel_rfl) (by kernel_rfl) rfl fun vals w1 ρ hG hF hρ hcst hfun => ?_
      have e44 : ρ (.tmp 44) = .bool true := ((hρ 44).trans (slotJ [10] (by rw [hsz]; decide) (by kernel_rfl))).trans (hF 10 (by decide))
      clear hρ hF hcst hfun sl2 sl3 sl5 sl6 sl7 fin
      exact opv_val (by go_simp <;> rfl) ⟨gw_self _, rfl⟩
    · refine owes_vt 8 true (Go.Op.move (Go.Operand.tmp 45)) 4 [11] (by kernel_rfl) (by kernel_rfl) (by kernel_rfl) (fun _ _ h => h) (by rw [hsz]; kernel_rfl) (by kernel_rfl) rfl fun vals w1 ρ hG hF hρ hcst hfun => ?_
      have e45 : ρ (.tmp 45) = .bool false := ((hρ 45).trans (slotJ [11] (by rw [hsz]; decide) (by kernel_rfl))).trans (hF 11 (by decide))
      clear hρ hF hcst hfun sl2 sl3 sl5 sl6 sl7 fin
      exact opv_val (by go_simp <;> rfl) ⟨gw_self _, rfl⟩
    · refine owes_vt 12 false (Go.Op.load 23 (Go.Operand.tmp 3)) 23 [] (by kernel_rfl) (by kernel_rfl) (by kernel_rfl) (fun _ _ h => h) (by rw [hsz]; kernel_rfl) (by kernel_rfl) rfl fun vals w1 ρ hG hF hρ hcst hfun => ?_
      have e3 : ρ (.tmp 3) = .pointer (some ⟨B, 0, none⟩) := ((hρ 3).trans (slotO [] (by kernel_rfl))).trans sl3
      obtain ⟨j1, j2⟩ := And.intro ((hG.cell (p := ⟨B, 0, none⟩) hB).trans cb0) ((hG.cell (p := ⟨B, 1, none⟩) hB).trans cb1)
      clear hρ hF hcst hfun sl2 sl3 sl5 sl6 sl7 fin
      exact opv_val (by go_simp <;> rfl) ⟨gw_self _, rfl⟩
    · refine owes_vt 12 false (Go.Op.call { callee := Go.Callee.value (Go.Operand.func 14), args := #[Go.Operand.tmp 47], argTypes := #[23] }) 4 [13] (by kernel_rfl) (by kernel_rfl) (by kernel_rfl) (fun _ _ h => h) (by rw [hsz]; kernel_rfl) (by kernel_rfl) rfl fun vals w1 ρ hG hF hρ hcst hfun => ?_
      have e47 : ρ (.tmp 47) = .agg #[.int .i64 x2, .int .i64 y2] := ((hρ 47).trans (slotJ [13] (by rw [hsz]; decide) (by kernel_rfl))).trans (hF 13 (by decide))
      clear hρ hF hcst sl2 sl3 sl5 sl6 sl7 fin
      exact opv_enter (by go_simp <;> rfl) (of_bel (HS2.out w1))
    · refine owes_vt 12 false (Go.Op.unOp Go.UnOp.not 4 (Go.Operand.tmp 48)) 4 [14] (by kernel_rfl) (by kernel_rfl) (by kernel_rfl) (fun _ _ h => h) (by rw [hsz]; kernel_rfl) (by kernel_rfl) rfl fun vals w1 ρ hG hF hρ hcst hfun => ?_
      have e48 : ρ (.tmp 48) = .bool true := ((hρ 48).trans (slotJ [14] (by rw [hsz]; decide) (by kernel_rfl))).trans (hF 14 (by decide))
      clear hρ hF hcst hfun sl2 sl3 sl5 sl6 sl7 fin
      exact opv_val (by go_simp <;> rfl) ⟨gw_self _, rfl⟩
    · refine owes_vt 8 true (Go.Op.pick (Go.Operand.tmp 46) (Go.Operand.const (Go.Value.bool true)) (Go.Operand.tmp 49)) 4 [12, 15] (by kernel_rfl) (by kernel_rfl) (by kernel_rfl) (fun _ _ h => h) (by rw [hsz]; kernel_rfl) (by kernel_rfl) rfl fun vals w1 ρ hG hF hρ hcst hfun => ?_
      have e46 : ρ (.tmp 46) = .bool false := ((hρ 46).trans (slotJ [12, 15] (by rw [hsz]; decide) (by kernel_rfl))).trans (hF 12 (by decide))
      have e49 : ρ (.tmp 49) = .bool false := ((hρ 49).trans (slotJ [12, 15] (by rw [hsz]; decide) (by kernel_rfl))).trans (hF 15 (by decide))
      clear hρ hF hfun sl2 sl3 sl5 sl6 sl7 fin
      exact opv_val (by go_simp <;> rfl) ⟨gw_self _, rfl⟩
    · refine owes_vt 8 true (Go.Op.move (Go.Operand.tmp 50)) 4 [16] (by kernel_rfl) (by kernel_rfl) (by kernel_rfl) (fun _ _ h => h) (by rw [hsz]; kernel_rfl) (by kernel_rfl) rfl fun vals w1 ρ hG hF hρ hcst hfun => ?_
      have e50 : ρ (.tmp 50) = .bool false := ((hρ 50).trans (slotJ [16] (by rw [hsz]; decide) (by kernel_rfl))).trans (hF 16 (by decide))
      clear hρ hF hcst hfun sl2 sl3 sl5 sl6 sl7 fin
      exact opv_val (by go_simp <;> rfl) ⟨gw_self _, rfl⟩
    · refine owes_vt 17 false (Go.Op.load 23 (Go.Operand.tmp 2)) 23 [] (by kernel_rfl) (by kernel_rfl) (by kernel_rfl) (fun _ _ h => h) (by rw [hsz]; kernel_rfl) (by kernel_rfl) rfl fun vals w1 ρ hG hF hρ hcst hfun => ?_
      have e2 : ρ (.tmp 2) = .pointer (some ⟨A, 0, none⟩) := ((hρ 2).trans (slotO [] (by kernel_rfl))).trans sl2
      obtain ⟨j1, j2⟩ := And.intro ((hG.cell (p := ⟨A, 0, none⟩) hA).trans ca0) ((hG.cell (p := ⟨A, 1, none⟩) hA).trans ca1)
      clear hρ hF hcst hfun sl2 sl3 sl5 sl6 sl7 fin
      exact opv_val (by go_simp <;> rfl) ⟨gw_self _, rfl⟩
    · refine owes_vt 17 false (Go.Op.call { callee := Go.Callee.value (Go.Operand.func 13), args := #[Go.Operand.tmp 52], argTypes := #[23] }) 30 [18] (by kernel_rfl) (by kernel_rfl) (by kernel_rfl) (fun _ _ h => h) (by rw [hsz]; kernel_rfl) (by kernel_rfl) rfl fun vals w1 ρ hG hF hρ hcst hfun => ?_
      have e52 : ρ (.tmp 52) = .agg #[.int .i64 x1, .int .i64 y1] := ((hρ 52).trans (slotJ [18] (by rw [hsz]; decide) (by kernel_rfl))).trans (hF 18 (by decide))
      clear hρ hF hcst sl2 sl3 sl5 sl6 sl7 fin
      exact opv_enter (by go_simp <;> rfl) (of_bel (HP1.out w1))
    · refine owes_vt 17 false (Go.Op.load 23 (Go.Operand.tmp 3)) 23 [] (by kernel_rfl) (by kernel_rfl) (by kernel_rfl) (fun _ _ h => h) (by rw [hsz]; kernel_rfl) (by kernel_rfl) rfl fun vals w1 ρ hG hF hρ hcst hfun => ?_
      have e3 : ρ (.tmp 3) = .pointer (some ⟨B, 0, none⟩) := ((hρ 3).trans (slotO [] (by kernel_rfl))).trans sl3
      obtain ⟨j1, j2⟩ := And.intro ((hG.cell (p := ⟨B, 0, none⟩) hB).trans cb0) ((hG.cell (p := ⟨B, 1, none⟩) hB).trans cb1)
      clear hρ hF hcst hfun sl2 sl3 sl5 sl6 sl7 fin
      exact opv_val (by go_simp <;> rfl) ⟨gw_self _, rfl⟩
    · refine owes_vt 17 false (Go.Op.call { callee := Go.Callee.value (Go.Operand.func 13), args := #[Go.Operand.tmp 54], argTypes := #[23] }) 30 [20] (by kernel_rfl) (by kernel_rfl) (by kernel_rfl) (fun _ _ h => h) (by rw [hsz]; kernel_rfl) (by kernel_rfl) rfl fun vals w1 ρ hG hF hρ hcst hfun => ?_
      have e54 : ρ (.tmp 54) = .agg #[.int .i64 x2, .int .i64 y2] := ((hρ 54).trans (slotJ [20] (by rw [hsz]; decide) (by kernel_rfl))).trans (hF 20 (by decide))
      clear hρ hF hcst sl2 sl3 sl5 sl6 sl7 fin
      exact opv_enter (by go_simp <;> rfl) (of_bel (HP2.out w1))
    · refine owes_vt 17 false (Go.Op.binOp Go.BinOp.eql 30 (Go.Operand.tmp 53) (Go.Operand.tmp 55) 30) 4 [19, 21] (by kernel_rfl) (by kernel_rfl) (by kernel_rfl) (fun _ _ h => h) (by rw [hsz]; kernel_rfl) (by kernel_rfl) rfl fun vals w1 ρ hG hF hρ hcst hfun => ?_
      have e53 : ρ (.tmp 53) = .int .u64 P1 := ((hρ 53).trans (slotJ [19, 21] (by rw [hsz]; decide) (by kernel_rfl))).trans (hF 19 (by decide))
      have e55 : ρ (.tmp 55) = .int .u64 P2 := ((hρ 55).trans (slotJ [19, 21] (by rw [hsz]; decide) (by kernel_rfl))).trans (hF 21 (by decide))
      clear hρ hF hcst hfun sl2 sl3 sl5 sl6 sl7 fin
      exact opv_val (by go_simp <;> rfl) ⟨gw_self _, rfl⟩
    · refine owes_vt 17 false (Go.Op.move (Go.Operand.tmp 5)) 3 [] (by kernel_rfl) (by kernel_rfl) (by kernel_rfl) (fun _ _ h => h) (by rw [hsz]; kernel_rfl) (by kernel_rfl) rfl fun vals w1 ρ hG hF hρ hcst hfun => ?_
      have e5 : ρ (.tmp 5) = .int .i64 c := ((hρ 5).trans (slotO [] (by kernel_rfl))).trans sl5
      clear hρ hF hcst hfun sl2 sl3 sl5 sl6 sl7 fin
      exact opv_val (by go_simp <;> rfl) ⟨gw_self _, rfl⟩
    · refine owes_vt 17 false (Go.Op.binOp Go.BinOp.eql 3 (Go.Operand.tmp 57) (Go.Operand.const (Go.Value.int Go.IntKind.i64 0)) 3) 4 [23] (by kernel_rfl) (by kernel_rfl) (by kernel_rfl) (fun _ _ h => h) (by rw [hsz]; kernel_rfl) (by kernel_rfl) rfl fun vals w1 ρ hG hF hρ hcst hfun => ?_
      have e57 : ρ (.tmp 57) = .int .i64 c := ((hρ 57).trans (slotJ [23] (by rw [hsz]; decide) (by kernel_rfl))).trans (hF 23 (by decide))
      clear hρ hF hfun sl2 sl3 sl5 sl6 sl7 fin
      exact opv_val (by go_simp <;> rfl) ⟨gw_self _, rfl⟩
    · refine owes_vt 17 false (Go.Op.binOp Go.BinOp.eql 4 (Go.Operand.tmp 56) (Go.Operand.tmp 58) 4) 4 [22, 24] (by kernel_rfl) (by kernel_rfl) (by kernel_rfl) (fun _ _ h => h) (by rw [hsz]; kernel_rfl) (by kernel_rfl) rfl fun vals w1 ρ hG hF hρ hcst hfun => ?_
      have e56 : ρ (.tmp 56) = .bool r2 := ((hρ 56).trans (slotJ [22, 24] (by rw [hsz]; decide) (by kernel_rfl))).trans (hF 22 (by decide))
      have e58 : ρ (.tmp 58) = .bool r2 := ((hρ 58).trans (slotJ [22, 24] (by rw [hsz]; decide) (by kernel_rfl))).trans (hF 24 (by decide))
      clear hρ hF hcst hfun sl2 sl3 sl5 sl6 sl7 fin
      exact opv_val (by go_simp <;> rfl) ⟨gw_self _, rfl⟩
    · refine owes_vt 8 true (Go.Op.pick (Go.Operand.tmp 51) (Go.Operand.const (Go.Value.bool true)) (Go.Operand.tmp 59)) 4 [17, 25] (by kernel_rfl) (by kernel_rfl) (by kernel_rfl) (fun _ _ h => h) (by rw [hsz]; kernel_rfl) (by kernel_rfl) rfl fun vals w1 ρ hG hF hρ hcst hfun => ?_
      have e51 : ρ (.tmp 51) = .bool false := ((hρ 51).trans (slotJ [17, 25] (by rw [hsz]; decide) (by kernel_rfl))).trans (hF 17 (by decide))
      have e59 : ρ (.tmp 59) = .bool true := ((hρ 59).trans (slotJ [17, 25] (by rw [hsz]; decide) (by kernel_rfl))).trans (hF 25 (by decide))
      clear hρ hF hfun sl2 sl3 sl5 sl6 sl7 fin
      exact opv_val (by go_simp <;> rfl) ⟨gw_self _, rfl⟩
    · refine owes_v (Go.Op.pick (Go.Operand.tmp 42) (Go.Operand.tmp 60) (Go.Operand.const (Go.Value.bool false))) 4 [8, 26] (by kernel_rfl) (by kernel_rfl) (by kernel_rfl) rfl fun vals w1 ρ hG hF hρ hcst hfun => ?_
      have e42 : ρ (.tmp 42) = .bool true := ((hρ 42).trans (slotJ [8, 26] (by rw [hsz]; decide) (by kernel_rfl))).trans (hF 8 (by decide))
      have e60 : ρ (.tmp 60) = .bool true := ((hρ 60).trans (slotJ [8, 26] (by rw [hsz]; decide) (by kernel_rfl))).trans (hF 26 (by decide))
      clear hρ hF hfun sl2 sl3 sl5 sl6 sl7 fin
      exact opv_val (by go_simp <;> rfl) ⟨gw_self _, rfl⟩
    · exact owes_mvj 27 61 (by kernel_rfl) (by kernel_rfl) (by kernel_rfl) (by kernel_rfl) (by rw [hsz]; decide) (fun v w h => h)
    · refine owes_vt 28 true (Go.Op.load 23 (Go.Operand.tmp 3)) 23 [] (by kernel_rfl) (by kernel_rfl) (by kernel_rfl) (fun _ _ h => h) (by rw [hsz]; kernel_rfl) (by kernel_rfl) rfl fun vals w1 ρ hG hF hρ hcst hfun => ?_
      have e3 : ρ (.tmp 3) = .pointer (some ⟨B, 0, none⟩) := ((hρ 3).trans (slotO [] (by kernel_rfl))).trans sl3
      obtain ⟨j1, j2⟩ := And.intro ((hG.cell (p := ⟨B, 0, none⟩) hB).trans cb0) ((hG.cell (p := ⟨B, 1, none⟩) hB).trans cb1)
      clear hρ hF hcst hfun sl2 sl3 sl5 sl6 sl7 fin
      exact opv_val (by go_simp <;> rfl) ⟨gw_self _, rfl⟩
    · refine owes_vt 28 true (Go.Op.call { callee := Go.Callee.value (Go.Operand.func 14), args := #[Go.Operand.tmp 63], argTypes := #[23] }) 4 [29] (by kernel_rfl) (by kernel_rfl) (by kernel_rfl) (fun _ _ h => h) (by rw [hsz]; kernel_rfl) (by kernel_rfl) rfl fun vals w1 ρ hG hF hρ hcst hfun => ?_
      have e63 : ρ (.tmp 63) = .agg #[.int .i64 x2, .int .i64 y2] := ((hρ 63).trans (slotJ [29] (by rw [hsz]; decide) (by kernel_rfl))).trans (hF 29 (by decide))
      clear hρ hF hcst sl2 sl3 sl5 sl6 sl7 fin
      exact opv_enter (by go_simp <;> rfl) (of_bel (HS2.out w1))
    · refine owes_vt 28 true (Go.Op.unOp Go.UnOp.not 4 (Go.Operand.tmp 64)) 4 [30] (by kernel_rfl) (by kernel_rfl) (by kernel_rfl) (fun _ _ h => h) (by rw [hsz]; kernel_rfl) (by kernel_rfl) rfl fun vals w1 ρ hG hF hρ hcst hfun => ?_
      have e64 : ρ (.tmp 64) = .bool true := ((hρ 64).trans (slotJ [30] (by rw [hsz]; decide) (by kernel_rfl))).trans (hF 30 (by decide))
      clear hρ hF hcst hfun sl2 sl3 sl5 sl6 sl7 fin
      exact opv_val (by go_simp <;> rfl) ⟨gw_self _, rfl⟩
    · refine owes_vt 28 true (Go.Op.move (Go.Operand.tmp 65)) 4 [31] (by kernel_rfl) (by kernel_rfl) (by kernel_rfl) (fun _ _ h => h) (by rw [hsz]; kernel_rfl) (by kernel_rfl) rfl fun vals w1 ρ hG hF hρ hcst hfun => ?_
      have e65 : ρ (.tmp 65) = .bool false := ((hρ 65).trans (slotJ [31] (by rw [hsz]; decide) (by kernel_rfl))).trans (hF 31 (by decide))
      clear hρ hF hcst hfun sl2 sl3 sl5 sl6 sl7 fin
      exact opv_val (by go_simp <;> rfl) ⟨gw_self _, rfl⟩
    · refine owes_vt 32 false (Go.Op.load 23 (Go.Operand.tmp 7)) 23 [] (by kernel_rfl) (by kernel_rfl) (by kernel_rfl) (fun _ _ h => h) (by rw [hsz]; kernel_rfl) (by kernel_rfl) rfl fun vals w1 ρ hG hF hρ hcst hfun => ?_
      have e7 : ρ (.tmp 7) = .pointer (some ⟨F, 0, none⟩) := ((hρ 7).trans (slotO [] (by kernel_rfl))).trans sl7
      obtain ⟨j1, j2⟩ := And.intro ((hG.cell (p := ⟨F, 0, none⟩) hF2).trans cf0) ((hG.cell (p := ⟨F, 1, none⟩) hF2).trans cf1)
      clear hρ hF hcst hfun sl2 sl3 sl5 sl6 sl7 fin
      exact opv_val (by go_simp <;> rfl) ⟨gw_self _, rfl⟩
    · refine owes_vt 32 false (Go.Op.load 23 (Go.Operand.tmp 3)) 23 [] (by kernel_rfl) (by kernel_rfl) (by kernel_rfl) (fun _ _ h => h) (by rw [hsz]; kernel_rfl) (by kernel_rfl) rfl fun vals w1 ρ hG hF hρ hcst hfun => ?_
      have e3 : ρ (.tmp 3) = .pointer (some ⟨B, 0, none⟩) := ((hρ 3).trans (slotO [] (by kernel_rfl))).trans sl3
      obtain ⟨j1, j2⟩ := And.intro ((hG.cell (p := ⟨B, 0, none⟩) hB).trans cb0) ((hG.cell (p := ⟨B, 1, none⟩) hB).trans cb1)
      clear hρ hF hcst hfun sl2 sl3 sl5 sl6 sl7 fin
      exact opv_val (by go_simp <;> rfl) ⟨gw_self _, rfl⟩
    · refine owes_vt 32 false (Go.Op.binOp Go.BinOp.eql 23 (Go.Operand.tmp 67) (Go.Operand.tmp 68) 23) 4 [33, 34] (by kernel_rfl) (by kernel_rfl) (by kernel_rfl) (fun _ _ h => h) (by rw [hsz]; kernel_rfl) (by kernel_rfl) rfl fun vals w1 ρ hG hF hρ hcst hfun => ?_
      have e67 : ρ (.tmp 67) = .agg #[.int .i64 u2, .int .i64 v2] := ((hρ 67).trans (slotJ [33, 34] (by rw [hsz]; decide) (by kernel_rfl))).trans (hF 33 (by decide))
      have e68 : ρ (.tmp 68) = .agg #[.int .i64 x2, .int .i64 y2] := ((hρ 68).trans (slotJ [33, 34] (by rw [hsz]; decide) (by kernel_rfl))).trans (hF 34 (by decide))
      have kq := HE2.out
      clear hρ hF hcst hfun sl2 sl3 sl5 sl6 sl7 fin
      exact opv_val (by go_simp <;> rfl) ⟨gw_self _, rfl⟩
    · refine owes_vt 28 true (Go.Op.pick (Go.Operand.tmp 66) (Go.Operand.const (Go.Value.bool true)) (Go.Operand.tmp 69)) 4 [32, 35] (by kernel_rfl) (by kernel_rfl) (by kernel_rfl) (fun _ _ h => h) (by rw [hsz]; kernel_rfl) (by kernel_rfl) rfl fun vals w1 ρ hG hF hρ hcst hfun => ?_
      have e66 : ρ (.tmp 66) = .bool false := ((hρ 66).trans (slotJ [32, 35] (by rw [hsz]; decide) (by kernel_rfl))).trans (hF 32 (by decide))
      have e69 : ρ (.tmp 69) = .bool true := ((hρ 69).trans (slotJ [32, 35] (by rw [hsz]; decide) (by kernel_rfl))).trans (hF 35 (by decide))
      clear hρ hF hfun sl2 sl3 sl5 sl6 sl7 fin
      exact opv_val (by go_simp <;> rfl) ⟨gw_self _, rfl⟩
    · refine owes_v (Go.Op.pick (Go.Operand.tmp 62) (Go.Operand.tmp 70) (Go.Operand.const (Go.Value.bool false))) 4 [28, 36] (by kernel_rfl) (by kernel_rfl) (by kernel_rfl) rfl fun vals w1 ρ hG hF hρ hcst hfun => ?_
      have e62 : ρ (.tmp 62) = .bool true := ((hρ 62).trans (slotJ [28, 36] (by rw [hsz]; decide) (by kernel_rfl))).trans (hF 28 (by decide))
      have e70 : ρ (.tmp 70) = .bool true := ((hρ 70).trans (slotJ [28, 36] (by rw [hsz]; decide) (by kernel_rfl))).trans (hF 36 (by decide))
      clear hρ hF hfun sl2 sl3 sl5 sl6 sl7 fin
      exact opv_val (by go_simp <;> rfl) ⟨gw_self _, rfl⟩
    · exact owes_mvj 37 71 (by kernel_rfl) (by kernel_rfl) (by kernel_rfl) (by kernel_rfl) (by rw [hsz]; decide) (fun v w h => h)
  · intro vals w1 hG hF
    exact fin vals w1 hG (hF 38 (by decide +kernel))
theorem kt10_reg (Q : Exit → Act → World → Prop) (a0 : Act) (w : World) (A B E F : Nat) (x1 y1 x2 y2 u1 v1 u2 v2 P1 P2 c : Int) (hA : A < w.heap.size) (hB : B < w.heap.size) (hE : E < w.heap.size) (hF2 : F < w.heap.size) (ca0 : w.cell? ⟨A, 0, none⟩ = some (.int .i64 x1)) (ca1 : w.cell? ⟨A, 1, none⟩ = some (.int .i64 y1)) (cb0 : w.cell? ⟨B, 0, none⟩ = some (.int .i64 x2)) (cb1 : w.cell? ⟨B, 1, none⟩ = some (.int .i64 y2)) (ce0 : w.cell? ⟨E, 0, none⟩ = some (.int .i64 u1)) (ce1 : w.cell? ⟨E, 1, none⟩ = some (.int .i64 v1)) (cf0 : w.cell? ⟨F, 0, none⟩ = some (.int .i64 u2)) (cf1 : w.cell? ⟨F, 1, none⟩ = some (.int .i64 v2)) (HP1 : Hid (∀ W, Calls Try.prog 13 #[.agg #[.int .i64 x1, .int .i64 y1]] W fun e w' => e = .returned (.int .u64 P1) ∧ Below W.heap.size W w')) (HP2 : Hid (∀ W, Calls Try.prog 13 #[.agg #[.int .i64 x2, .int .i64 y2]] W fun e w' => e = .returned (.int .u64 P2) ∧ Below W.heap.size W w')) (HS1 : Hid (∀ W, Calls Try.prog 14 #[.agg #[.int .i64 x1, .int .i64 y1]] W fun e w' => e = .returned (.bool true) ∧ Below W.heap.size W w')) (HS2 : Hid (∀ W, Calls Try.prog 14 #[.agg #[.int .i64 x2, .int .i64 y2]] W fun e w' => e = .returned (.bool false) ∧ Below W.heap.size W w')) (HE1 : Hid (∀ W, (Op.equalIn 10000 23 (.agg #[.int .i64 u1, .int .i64 v1]) (.agg #[.int .i64 x1, .int .i64 y1])).run Try.prog W = .ok true W)) (hsz : a0.tmps.size = 72) (sl2 : a0.tmps.getD 2 undef = .pointer (some ⟨A, 0, none⟩)) (sl3 : a0.tmps.getD 3 undef = .pointer (some ⟨B, 0, none⟩)) (sl6 : a0.tmps.getD 6 undef = .pointer (some ⟨E, 0, none⟩))
    (fin : ∀ (vals : Nat → Value) (w1 : World), Below w.heap.size w w1 → (IsV (.bool true)) (vals 38) w1 → Q .normal (putD vals [34, 35, 36, 37, 38, 39, 40, 41, 42, 43, 44, 45, 46, 47, 48, 49, 50, 51, 52, 53, 54, 55, 56, 57, 58, 59, 60, 61, 62, 63, 64, 65, 66, 67, 68, 69, 70, 71, 4] 0 a0) w1) :
    (Code.region 8 (regIn Try.f3 8) true).wp Try.prog Q a0 w := by
  refine region_by (G := fun w w1 => Below w.heap.size w w1) [IsV (.agg #[.int .i64 x1, .int .i64 y1]),
    IsV (.bool true),
    IsV (.bool false),
    IsV (.bool false),
    IsV (.agg #[.int .i64 u1, .int .i64 v1]),
    IsV (.agg #[.int .i64 x1, .int .i64 y1]),
    IsV (.bool true),
    IsV (.bool true),
    IsV (.bool true),
    IsV (.agg #[.int .i64 x1, .int .i64 y1]),
    IsV (.bool true),
    IsV (.bool false),
    IsV (.bool false),
    IsV (.agg #[.int .i64 x2, .int .i64 y2]),
    IsV (.bool false),
    IsV (.bool true),
    IsV (.bool true),
    IsV (.bool true),
    IsV undef,
    IsV undef,
    IsV undef,
    IsV undef,
    IsV undef,
    IsV undef,
    IsV undef,
    IsV undef,
    IsV (.bool true),
    IsV (.bool true),
    IsV (.bool true),
    IsV (.agg #[.int .i64 x2, .int .i64 y2]),
    IsV (.bool false),
    IsV (.bool true),
    IsV (.bool true),
    IsV undef,
    IsV undef,
    IsV undef,
    IsV (.bool true),
    IsV (.bool true),
    IsV (.bool true)]
    [34, 35, 36, 37, 38, 39, 40, 41, 42, 43, 44, 45, 46, 47, 48, 49, 50, 51, 52, 53, 54, 55, 56, 57, 58, 59, 60, 61, 62, 63, 64, 65, 66, 67, 68, 69, 70, 71, 4] (by kernel_rfl) (Gw.drew _) Gw.trans (by rw [hsz]; kernel_rfl) (by kernel_rfl) ?_ ?_ ?_
  · intro f hf
    simp only [List.mem_cons, List.not_mem_nil, or_false] at hf
    rcases hf with rfl | rfl | rfl | rfl | rfl | rfl | rfl | rfl | rfl | rfl | rfl | rfl | rfl | rfl | rfl | rfl | rfl | rfl | rfl | rfl | rfl | rfl | rfl | rfl | rfl | rfl | rfl | rfl | rfl | rfl | rfl | rfl | rfl | rfl | rfl | rfl | rfl | rfl | rfl <;> intro v a b h g <;> first | exact IsV.mono h
  · refine ⟨?_, ?_, ?_, ?_, ?_, ?_, ?_, ?_, ?_, ?_, ?_, ?_, ?_, ?_, ?_, ?_, ?_, ?_, ?_, ?_, ?_, ?_, ?_, ?_, ?_, ?_, ?_, ?_, ?_, ?_, ?_, ?_, ?_, ?_, ?_, ?_, ?_, ?_, ?_, trivial⟩
    · refine owes_v (Go.Op.load 23 (Go.Operand.tmp 2)) 23 [] (by kernel_rfl) (by kernel_rfl) (by kernel_rfl) rfl fun vals w1 ρ hG hF hρ hcst hfun => ?_
      have e2 : ρ (.tmp 2) = .pointer (some ⟨A, 0, none⟩) := ((hρ 2).trans (slotO [] (by kernel_rfl))).trans sl2
      obtain ⟨j1, j2⟩ := And.intro ((hG.cell (p := ⟨A, 0, none⟩) hA).trans ca0) ((hG.cell (p := ⟨A, 1, none⟩) hA).trans ca1)
      clear hρ hF hcst hfun sl2 sl3 sl6 fin
      exact opv_val (by go_simp <;> rfl) ⟨gw_self _, rfl⟩
    · refine owes_v (Go.Op.call { callee := Go.Callee.value (Go.Operand.func 14), args := #[Go.Operand.tmp 34], argTypes := #[23] }) 4 [0] (by kernel_rfl) (by kernel_rfl) (by kernel_rfl) rfl fun vals w1 ρ hG hF hρ hcst hfun => ?_
      have e34 : ρ (.tmp 34) = .agg #[.int .i64 x1, .int .i64 y1] := ((hρ 34).trans (slotJ [0] (by rw [hsz]; decide) (by kernel_rfl))).trans (hF 0 (by decide))
      clear hρ hF hcst sl2 sl3 sl6 fin
      exact opv_enter (by go_simp <;> rfl) (of_bel (HS1.out w1))
    · refine owes_v (Go.Op.unOp Go.UnOp.not 4 (Go.Operand.tmp 35)) 4 [1] (by kernel_rfl) (by kernel_rfl) (by kernel_rfl) rfl fun vals w1 ρ hG hF hρ hcst hfun => ?_
      have e35 : ρ (.tmp 35) = .bool true := ((hρ 35).trans (slotJ [1] (by rw [hsz]; decide) (by kernel_rfl))).trans (hF 1 (by decide))
      clear hρ hF hcst hfun sl2 sl3 sl6 fin
      exact opv_val (by go_simp <;> rfl) ⟨gw_self _, rfl⟩
    · exact owes_mvj 2 36 (by kernel_rfl) (by kernel_rfl) (by kernel_rfl) (by kernel_rfl) (by rw [hsz]; decide) (fun v w h => h)
    · refine owes_vt 3 false (Go.Op.load 23 (Go.Operand.tmp 6)) 23 [] (by kernel_rfl) (by kernel_rfl) (by kernel_rfl) (fun _ _ h => h) (by rw [hsz]; kernel_rfl) (by kernel_rfl) rfl fun vals w1 ρ hG hF hρ hcst hfun => ?_
      have e6 : ρ (.tmp 6) = .pointer (some ⟨E, 0, none⟩) := ((hρ 6).trans (slotO [] (by kernel_rfl))).trans sl6
      obtain ⟨j1, j2⟩ := And.intro ((hG.cell (p := ⟨E, 0, none⟩) hE).trans ce0) ((hG.cell (p := ⟨E, 1, none⟩) hE).trans ce1)
      clear hρ hF hcst hfun sl2 sl3 sl6 fin
      exact opv_val (by go_simp <;> rfl) ⟨gw_self _, rfl⟩
    · refine owes_vt 3 false (Go.Op.load 23 (Go.Operand.tmp 2)) 23 [] (by kernel_rfl) (by kernel_rfl) (by kernel_rfl) (fun _ _ h => h) (by rw [hsz]; kernel_rfl) (by kernel_rfl) rfl fun vals w1 ρ hG hF hρ hcst hfun => ?_
      have e2 : ρ (.tmp 2) = .pointer (some ⟨A, 0, none⟩) := ((hρ 2).trans (slotO [] (by kernel_rfl))).trans sl2
      obtain ⟨j1, j2⟩ := And.intro ((hG.cell (p := ⟨A, 0, none⟩) hA).trans ca0) ((hG.cell (p := ⟨A, 1, none⟩) hA).trans ca1)
      clear hρ hF hcst hfun sl2 sl3 sl6 fin
      exact opv_val (by go_simp <;> rfl) ⟨gw_self _, rfl⟩
    · refine owes_vt 3 false (Go.Op.binOp Go.BinOp.eql 23 (Go.Operand.tmp 38) (Go.Operand.tmp 39) 23) 4 [4, 5] (by kernel_rfl) (by kernel_rfl) (by kernel_rfl) (fun _ _ h => h) (by rw [hsz]; kernel_rfl) (by kernel_rfl) rfl fun vals w1 ρ hG hF hρ hcst hfun => ?_
      have e38 : ρ (.tmp 38) = .agg #[.int .i64 u1, .int .i64 v1] := ((hρ 38).trans (slotJ [4, 5] (by rw [hsz]; decide) (by kernel_rfl))).trans (hF 4 (by decide))
      have e39 : ρ (.tmp 39) = .agg #[.int .i64 x1, .int .i64 y1] := ((hρ 39).trans (slotJ [4, 5] (by rw [hsz]; decide) (by kernel_rfl))).trans (hF 5 (by decide))
      have kq := HE1.out
      clear hρ hF hcst hfun sl2 sl3 sl6 fin
      exact opv_val (by go_simp <;> rfl) ⟨gw_self _, rfl⟩
    · refine owes_v (Go.Op.pick (Go.Operand.tmp 37) (Go.Operand.const (Go.Value.bool true)) (Go.Operand.tmp 40)) 4 [3, 6] (by kernel_rfl) (by kernel_rfl) (by kernel_rfl) rfl fun vals w1 ρ hG hF hρ hcst hfun => ?_
      have e37 : ρ (.tmp 37) = .bool false := ((hρ 37).trans (slotJ [3, 6] (by rw [hsz]; decide) (by kernel_rfl))).trans (hF 3 (by decide))
      have e40 : ρ (.tmp 40) = .bool true := ((hρ 40).trans (slotJ [3, 6] (by rw [hsz]; decide) (by kernel_rfl))).trans (hF 6 (by decide))
      clear hρ hF hfun sl2 sl3 sl6 fin
      exact opv_val (by go_simp <;> rfl) ⟨gw_self _, rfl⟩
    · exact owes_mvj 7 41 (by kernel_rfl) (by kernel_rfl) (by kernel_rfl) (by kernel_rfl) (by rw [hsz]; decide) (fun v w h => h)
    · refine owes_vt 8 true (Go.Op.load 23 (Go.Operand.tmp 2)) 23 [] (by kernel_rfl) (by kernel_rfl) (by kernel_rfl) (fun _ _ h => h) (by rw [hsz]; kernel_rfl) (by kernel_rfl) rfl fun vals w1 ρ hG hF hρ hcst hfun => ?_
      have e2 : ρ (.tmp 2) = .pointer (some ⟨A, 0, none⟩) := ((hρ 2).trans (slotO [] (by kernel_rfl))).trans sl2
      obtain ⟨j1, j2⟩ := And.intro ((hG.cell (p := ⟨A, 0, none⟩) hA).trans ca0) ((hG.cell (p := ⟨A, 1, none⟩) hA).trans ca1)
      clear hρ hF hcst hfun sl2 sl3 sl6 fin
      exact opv_val (by go_simp <;> rfl) ⟨gw_self _, rfl⟩
    · refine owes_vt 8 true (Go.Op.call { callee := Go.Callee.value (Go.Operand.func 14), args := #[Go.Operand.tmp 43], argTypes := #[23] }) 4 [9] (by kernel_rfl) (by kernel_rfl) (by kernel_rfl) (fun _ _ h => h) (by rw [hsz]; kernel_rfl) (by kernel_rfl) rfl fun vals w1 ρ hG hF hρ hcst hfun => ?_
      have e43 : ρ (.tmp 43) = .agg #[.int .i64 x1, .int .i64 y1] := ((hρ 43).trans (slotJ [9] (by rw [hsz]; decide) (by kernel_rfl))).trans (hF 9 (by decide))
      clear hρ hF hcst sl2 sl3 sl6 fin
      exact opv_enter (by go_simp <;> rfl) (of_bel (HS1.out w1))
    · refine owes_vt 8 true (Go.Op.unOp Go.UnOp.not 4 (Go.Operand.tmp 44)) 4 [10] (by kernel_rfl) (by kernel_rfl) (by kernel_rfl) (fun _ _ h => h) (by rw [hsz]; kernel_rfl) (by kernel_rfl) rfl fun vals w1 ρ hG hF hρ hcst hfun => ?_
      have e44 : ρ (.tmp 44) = .bool true := ((hρ 44).trans (slotJ [10] (by rw [hsz]; decide) (by kernel_rfl))).trans (hF 10 (by decide))
      clear hρ hF hcst hfun sl2 sl3 sl6 fin
      exact opv_val (by go_simp <;> rfl) ⟨gw_self _, rfl⟩
    · refine owes_vt 8 true (Go.Op.move (Go.Operand.tmp 45)) 4 [11] (by kernel_rfl) (by kernel_rfl) (by kernel_rfl) (fun _ _ h => h) (by rw [hsz]; kernel_rfl) (by kernel_rfl) rfl fun vals w1 ρ hG hF hρ hcst hfun => ?_
      have e45 : ρ (.tmp 45) = .bool false := ((hρ 45).trans (slotJ [11] (by rw [hsz]; decide) (by kernel_rfl))).trans (hF 11 (by decide))
      clear hρ hF hcst hfun sl2 sl3 sl6 fin
      exact opv_val (by go_simp <;> rfl) ⟨gw_self _, rfl⟩
    · refine owes_vt 12 false (Go.Op.load 23 (Go.Operand.tmp 3)) 23 [] (by kernel_rfl) (by kernel_rfl) (by kernel_rfl) (fun _ _ h => h) (by rw [hsz]; kernel_rfl) (by kernel_rfl) rfl fun vals w1 ρ hG hF hρ hcst hfun => ?_
      have e3 : ρ (.tmp 3) = .pointer (some ⟨B, 0, none⟩) := ((hρ 3).trans (slotO [] (by kernel_rfl))).trans sl3
      obtain ⟨j1, j2⟩ := And.intro ((hG.cell (p := ⟨B, 0, none⟩) hB).trans cb0) ((hG.cell (p := ⟨B, 1, none⟩) hB).trans cb1)
      clear hρ hF hcst hfun sl2 sl3 sl6 fin
      exact opv_val (by go_simp <;> rfl) ⟨gw_self _, rfl⟩
    · refine owes_vt 12 false (Go.Op.call { callee := Go.Callee.value (Go.Operand.func 14), args := #[Go.Operand.tmp 47], argTypes := #[23] }) 4 [13] (by kernel_rfl) (by kernel_rfl) (by kernel_rfl) (fun _ _ h => h) (by rw [hsz]; kernel_rfl) (by kernel_rfl) rfl fun vals w1 ρ hG hF hρ hcst hfun => ?_
      have e47 : ρ (.tmp 47) = .agg #[.int .i64 x2, .int .i64 y2] := ((hρ 47).trans (slotJ [13] (by rw [hsz]; decide) (by kernel_rfl))).trans (hF 13 (by decide))
      clear hρ hF hcst sl2 sl3 sl6 fin
      exact opv_enter (by go_simp <;> rfl) (of_bel (HS2.out w1))
    · refine owes_vt 12 false (Go.Op.unOp Go.UnOp.not 4 (Go.Operand.tmp 48)) 4 [14] (by kernel_rfl) (by kernel_rfl) (by kernel_rfl) (fun _ _ h => h) (by rw [hsz]; kernel_rfl) (by kernel_rfl) rfl fun vals w1 ρ hG hF hρ hcst hfun => ?_
      have e48 : ρ (.tmp 48) = .bool false := ((hρ 48).trans (slotJ [14] (by rw [hsz]; decide) (by kernel_rfl))).trans (hF 14 (by decide))
      clear hρ hF hcst hfun sl2 sl3 sl6 fin
      exact opv_val (by go_simp <;> rfl) ⟨gw_self _, rfl⟩
    · refine owes_vt 8 true (Go.Op.pick (Go.Operand.tmp 46) (Go.Operand.const (Go.Value.bool true)) (Go.Operand.tmp 49)) 4 [12, 15] (by kernel_rfl) (by kernel_rfl) (by kernel_rfl) (fun _ _ h => h) (by rw [hsz]; kernel_rfl) (by kernel_rfl) rfl fun vals w1 ρ hG hF hρ hcst hfun => ?_
      have e46 : ρ (.tmp 46) = .bool false := ((hρ 46).trans (slotJ [12, 15] (by rw [hsz]; decide) (by kernel_rfl))).trans (hF 12 (by decide))
      have e49 : ρ (.tmp 49) = .bool true := ((hρ 49).trans (slotJ [12, 15] (by rw [hsz]; decide) (by kernel_rfl))).trans (hF 15 (by decide))
      clear hρ hF hfun sl2 sl3 sl6 fin
      exact opv_val (by go_simp <;> rfl) ⟨gw_self _, rfl⟩
    · refine owes_vt 8 true (Go.Op.move (Go.Operand.tmp 50)) 4 [16] (by kernel_rfl) (by kernel_rfl) (by kernel_rfl) (fun _ _ h => h) (by rw [hsz]; kernel_rfl) (by kernel_rfl) rfl fun vals w1 ρ hG hF hρ hcst hfun => ?_
      have e50 : ρ (.tmp 50) = .bool true := ((hρ 50).trans (slotJ [16] (by rw [hsz]; decide) (by kernel_rfl))).trans (hF 16 (by decide))
      clear hρ hF hcst hfun sl2 sl3 sl6 fin
      exact opv_val (by go_simp <;> rfl) ⟨gw_self _, rfl⟩
    · exact owes_no 17 true false (by decide) (by kernel_rfl) (by kernel_rfl) (fun _ _ h => h) (by rw [hsz]; kernel_rfl) (fun _ => rfl)
    · exact owes_no 17 true false (by decide) (by kernel_rfl) (by kernel_rfl) (fun _ _ h => h) (by rw [hsz]; kernel_rfl) (fun _ => rfl)
    · exact owes_no 17 true false (by decide) (by kernel_rfl) (by kernel_rfl) (fun _ _ h => h) (by rw [hsz]; kernel_rfl) (fun _ => rfl)
    · exact owes_no 17 true false (by decide) (by kernel_rfl) (by kernel_rfl) (fun _ _ h => h) (by rw [hsz]; kernel_rfl) (fun _ => rfl)
    · exact owes_no 17 true false (by decide) (by kernel_rfl) (by kernel_rfl) (fun _ _ h => h) (by rw [hsz]; kernel_rfl) (fun _ => rfl)
    · exact owes_no 17 true false (by decide) (by kernel_rfl) (by kernel_rfl) (fun _ _ h => h) (by rw [hsz]; kernel_rfl) (fun _ => rfl)
    · exact owes_no 17 true false (by decide) (by kernel_rfl) (by kernel_rfl) (fun _ _ h => h) (by rw [hsz]; kernel_rfl) (fun _ => rfl)
    · exact owes_no 17 true false (by decide) (by kernel_rfl) (by kernel_rfl) (fun _ _ h => h) (by rw [hsz]; kernel_rfl) (fun _ => rfl)
    · refine owes_vt 8 true (Go.Op.pick (Go.Operand.tmp 51) (Go.Operand.const (Go.Value.bool true)) (Go.Operand.tmp 59)) 4 [17, 25] (by kernel_rfl) (by kernel_rfl) (by kernel_rfl) (fun _ _ h => h) (by rw [hsz]; kernel_rfl) (by kernel_rfl) rfl fun vals w1 ρ hG hF hρ hcst hfun => ?_
      have e51 : ρ (.tmp 51) = .bool true := ((hρ 51).trans (slotJ [17, 25] (by rw [hsz]; decide) (by kernel_rfl))).trans (hF 17 (by decide))
      have f59 : (IsV undef) (vals 25) w1 := hF 25 (by decide)
      have e59 : ρ (.tmp 59) = vals 25 := (hρ 59).trans (slotJ [17, 25] (by rw [hsz]; decide) (by kernel_rfl))
      clear hρ hF hfun sl2 sl3 sl6 fin
      exact opv_val (by go_simp <;> rfl) ⟨gw_self _, rfl⟩
    · refine owes_v (Go.Op.pick (Go.Operand.tmp 42) (Go.Operand.tmp 60) (Go.Operand.const (Go.Value.bool false))) 4 [8, 26] (by kernel_rfl) (by kernel_rfl) (by kernel_rfl) rfl fun vals w1 ρ hG hF hρ hcst hfun => ?_
      have e42 : ρ (.tmp 42) = .bool true := ((hρ 42).trans (slotJ [8, 26] (by rw [hsz]; decide) (by kernel_rfl))).trans (hF 8 (by decide))
      have e60 : ρ (.tmp 60) = .bool true := ((hρ 60).trans (slotJ [8, 26] (by rw [hsz]; decide) (by kernel_rfl))).trans (hF 26 (by decide))
      clear hρ hF hfun sl2 sl3 sl6 fin
      exact opv_val (by go_simp <;> rfl) ⟨gw_self _, rfl⟩
    · exact owes_mvj 27 61 (by kernel_rfl) (by kernel_rfl) (by kernel_rfl) (by kernel_rfl) (by rw [hsz]; decide) (fun v w h => h)
    · refine owes_vt 28 true (Go.Op.load 23 (Go.Operand.tmp 3)) 23 [] (by kernel_rfl) (by kernel_rfl) (by kernel_rfl) (fun _ _ h => h) (by rw [hsz]; kernel_rfl) (by kernel_rfl) rfl fun vals w1 ρ hG hF hρ hcst hfun => ?_
      have e3 : ρ (.tmp 3) = .pointer (some ⟨B, 0, none⟩) := ((hρ 3).trans (slotO [] (by kernel_rfl))).trans sl3
      obtain ⟨j1, j2⟩ := And.intro ((hG.cell (p := ⟨B, 0, none⟩) hB).trans cb0) ((hG.cell (p := ⟨B, 1, none⟩) hB).trans cb1)
      clear hρ hF hcst hfun sl2 sl3 sl6 fin
      exact opv_val (by go_simp <;> rfl) ⟨gw_self _, rfl⟩
    · refine owes_vt 28 true (Go.Op.call { callee := Go.Callee.value (Go.Operand.func 14), args := #[Go.Operand.tmp 63], argTypes := #[23] }) 4 [29] (by kernel_rfl) (by kernel_rfl) (by kernel_rfl) (fun _ _ h => h) (by rw [hsz]; kernel_rfl) (by kernel_rfl) rfl fun vals w1 ρ hG hF hρ hcst hfun => ?_
      have e63 : ρ (.tmp 63) = .agg #[.int .i64 x2, .int .i64 y2] := ((hρ 63).trans (slotJ [29] (by rw [hsz]; decide) (by kernel_rfl))).trans (hF 29 (by decide))
      clear hρ hF hcst sl2 sl3 sl6 fin
      exact opv_enter (by go_simp <;> rfl) (of_bel (HS2.out w1))
    · refine owes_vt 28 true (Go.Op.unOp Go.UnOp.not 4 (Go.Operand.tmp 64)) 4 [30] (by kernel_rfl) (by kernel_rfl) (by kernel_rfl) (fun _ _ h => h) (by rw [hsz]; kernel_rfl) (by kernel_rfl) rfl fun vals w1 ρ hG hF hρ hcst hfun => ?_
      have e64 : ρ (.tmp 64) = .bool false := ((hρ 64).trans (slotJ [30] (by rw [hsz]; decide) (by kernel_rfl))).trans (hF 30 (by decide))
      clear hρ hF hcst hfun sl2 sl3 sl6 fin
      exact opv_val (by go_simp <;> rfl) ⟨gw_self _, rfl⟩
    · refine owes_vt 28 true (Go.Op.move (Go.Operand.tmp 65)) 4 [31] (by kernel_rfl) (by kernel_rfl) (by kernel_rfl) (fun _ _ h => h) (by rw [hsz]; kernel_rfl) (by kernel_rfl) rfl fun vals w1 ρ hG hF hρ hcst hfun => ?_
      have e65 : ρ (.tmp 65) = .bool true := ((hρ 65).trans (slotJ [31] (by rw [hsz]; decide) (by kernel_rfl))).trans (hF 31 (by decide))
      clear hρ hF hcst hfun sl2 sl3 sl6 fin
      exact opv_val (by go_simp <;> rfl) ⟨gw_self _, rfl⟩
    · exact owes_no 32 true false (by decide) (by kernel_rfl) (by kernel_rfl) (fun _ _ h => h) (by rw [hsz]; kernel_rfl) (fun _ => rfl)
    · exact owes_no 32 true false (by decide) (by kernel_rfl) (by kernel_rfl) (fun _ _ h => h) (by rw [hsz]; kernel_rfl) (fun _ => rfl)
    · exact owes_no 32 true false (by decide) (by kernel_rfl) (by kernel_rfl) (fun _ _ h => h) (by rw [hsz]; kernel_rfl) (fun _ => rfl)
    · refine owes_vt 28 true (Go.Op.pick (Go.Operand.tmp 66) (Go.Operand.const (Go.Value.bool true)) (Go.Operand.tmp 69)) 4 [32, 35] (by kernel_rfl) (by kernel_rfl) (by kernel_rfl) (fun _ _ h => h) (by rw [hsz]; kernel_rfl) (by kernel_rfl) rfl fun vals w1 ρ hG hF hρ hcst hfun => ?_
      have e66 : ρ (.tmp 66) = .bool true := ((hρ 66).trans (slotJ [32, 35] (by rw [hsz]; decide) (by kernel_rfl))).trans (hF 32 (by decide))
      have f69 : (IsV undef) (vals 35) w1 := hF 35 (by decide)
      have e69 : ρ (.tmp 69) = vals 35 := (hρ 69).trans (slotJ [32, 35] (by rw [hsz]; decide) (by kernel_rfl))
      clear hρ hF hfun sl2 sl3 sl6 fin
      exact opv_val (by go_simp <;> rfl) ⟨gw_self _, rfl⟩
    · refine owes_v (Go.Op.pick (Go.Operand.tmp 62) (Go.Operand.tmp 70) (Go.Operand.const (Go.Value.bool false))) 4 [28, 36] (by kernel_rfl) (by kernel_rfl) (by kernel_rfl) rfl fun vals w1 ρ hG hF hρ hcst hfun => ?_
      have e62 : ρ (.tmp 62) = .bool true := ((hρ 62).trans (slotJ [28, 36] (by rw [hsz]; decide) (by kernel_rfl))).trans (hF 28 (by decide))
      have e70 : ρ (.tmp 70) = .bool true := ((hρ 70).trans (slotJ [28, 36] (by rw [hsz]; decide) (by kernel_rfl))).trans (hF 36 (by decide))
      clear hρ hF hfun sl2 sl3 sl6 fin
      exact opv_val (by go_simp <;> rfl) ⟨gw_self _, rfl⟩
    · exact owes_mvj 37 71 (by kernel_rfl) (by kernel_rfl) (by kernel_rfl) (by kernel_rfl) (by rw [hsz]; decide) (fun v w h => h)
  · intro vals w1 hG hF
    exact fin vals w1 hG (hF 38 (by decide +kernel))
theorem kt01_reg (Q : Exit → Act → World → Prop) (a0 : Act) (w : World) (A B E F : Nat) (x1 y1 x2 y2 u1 v1 u2 v2 P1 P2 c : Int) (hA : A < w.heap.size) (hB : B < w.heap.size) (hE : E < w.heap.size) (hF2 : F < w.heap.size) (ca0 : w.cell? ⟨A, 0, none⟩ = some (.int .i64 x1)) (ca1 : w.cell? ⟨A, 1, none⟩ = some (.int .i64 y1)) (cb0 : w.cell? ⟨B, 0, none⟩ = some (.int .i64 x2)) (cb1 : w.cell? ⟨B, 1, none⟩ = some (.int .i64 y2)) (ce0 : w.cell? ⟨E, 0, none⟩ = some (.int .i64 u1)) (ce1 : w.cell? ⟨E, 1, none⟩ = some (.int .i64 v1)) (cf0 : w.cell? ⟨F, 0, none⟩ = some (.int .i64 u2)) (cf1 : w.cell? ⟨F, 1, none⟩ = some (.int .i64 v2)) (HP1 : Hid (∀ W, Calls Try.prog 13 #[.agg #[.int .i64 x1, .int .i64 y1]] W fun e w' => e = .returned (.int .u64 P1) ∧ Below W.heap.size W w')) (HP2 : Hid (∀ W, Calls Try.prog 13 #[.agg #[.int .i64 x2, .int .i64 y2]] W fun e w' => e = .returned (.int .u64 P2) ∧ Below W.heap.size W w')) (HS1 : Hid (∀ W, Calls Try.prog 14 #[.agg #[.int .i64 x1, .int .i64 y1]] W fun e w' => e = .returned (.bool false) ∧ Below W.heap.size W w')) (HS2 : Hid (∀ W, Calls Try.prog 14 #[.agg #[.int .i64 x2, .int .i64 y2]] W fun e w' => e = .returned (.bool true) ∧ Below W.heap.size W w')) (HE2 : Hid (∀ W, (Op.equalIn 10000 23 (.agg #[.int .i64 u2, .int .i64 v2]) (.agg #[.int .i64 x2, .int .i64 y2])).run Try.prog W = .ok true W)) (hsz : a0.tmps.size = 72) (sl2 : a0.tmps.getD 2 undef = .pointer (some ⟨A, 0, none⟩)) (sl3 : a0.tmps.getD 3 undef = .pointer (some ⟨B, 0, none⟩)) (sl7 : a0.tmps.getD 7 undef = .pointer (some ⟨F, 0, none⟩))
    (fin : ∀ (vals : Nat → Value) (w1 : World), Below w.heap.size w w1 → (IsV (.bool true)) (vals 38) w1 → Q .normal (putD vals [34, 35, 36, 37, 38, 39, 40, 41, 42, 43, 44, 45, 46, 47, 48, 49, 50, 51, 52, 53, 54, 55, 56, 57, 58, 59, 60, 61, 62, 63, 64, 65, 66, 67, 68, 69, 70, 71, 4] 0 a0) w1) :
    (Code.region 8 (regIn Try.f3 8) true).wp Try.prog Q a0 w := by
  refine region_by (G := fun w w1 => Below w.heap.size w w1) [IsV (.agg #[.int .i64 x1, .int .i64 y1]),
    IsV (.bool false),
    IsV (.bool true),
    IsV (.bool true),
    IsV undef,
    IsV undef,
    IsV undef,
    IsV (.bool true),
    IsV (.bool true),
    IsV (.agg #[.int .i64 x1, .int .i64 y1]),
    IsV (.bool false),
    IsV (.bool true),
    IsV (.bool true),
    IsV undef,
    IsV undef,
    IsV undef,
    IsV (.bool true),
    IsV (.bool true),
    IsV undef,
    IsV undef,
    IsV undef,
    IsV undef,
    IsV undef,
    IsV undef,
    IsV undef,
    IsV undef,
    IsV (.bool true),
    IsV (.bool true),
    IsV (.bool true),
    IsV (.agg #[.int .i64 x2, .int .i64 y2]),
    IsV (.bool true),
    IsV (.bool false),
    IsV (.bool false),
    IsV (.agg #[.int .i64 u2, .int .i64 v2]),
    IsV (.agg #[.int .i64 x2, .int .i64 y2]),
    IsV (.bool true),
    IsV (.bool true),
    IsV (.bool true),
    IsV (.bool true)]
    [34, 35, 36, 37, 38, 39, 40, 41, 42, 43, 44, 45, 46, 47, 48, 49, 50, 51, 52, 53, 54, 55, 56, 57, 58, 59, 60, 61, 62, 63, 64, 65, 66, 67, 68, 69, 70, 71, 4] (by kernel_rfl) (Gw.drew _) Gw.trans (by rw [hsz]; kernel_rfl) (by kernel_rfl) ?_ ?_ ?_
  · intro f hf
    simp only [List.mem_cons, List.not_mem_nil, or_false] at hf
    rcases hf with rfl | rfl | rfl | rfl | rfl | rfl | rfl | rfl | rfl | rfl | rfl | rfl | rfl | rfl | rfl | rfl | rfl | rfl | rfl | rfl | rfl | rfl | rfl | rfl | rfl | rfl | rfl | rfl | rfl | rfl | rfl | rfl | rfl | rfl | rfl | rfl | rfl | rfl | rfl <;> intro v a b h g <;> first | exact IsV.mono h
  · refine ⟨?_, ?_, ?_, ?_, ?_, ?_, ?_, ?_, ?_, ?_, ?_, ?_, ?_, ?_, ?_, ?_, ?_, ?_, ?_, ?_, ?_, ?_, ?_, ?_, ?_, ?_, ?_, ?_, ?_, ?_, ?_, ?_, ?_, ?_, ?_, ?_, ?_, ?_, ?_, trivial⟩
    · refine owes_v (Go.Op.load 23 (Go.Operand.tmp 2)) 23 [] (by kernel_rfl) (by kernel_rfl) (by kernel_rfl) rfl fun vals w1 ρ hG hF hρ hcst hfun => ?_
      have e2 : ρ (.tmp 2) = .pointer (some ⟨A, 0, none⟩) := ((hρ 2).trans (slotO [] (by kernel_rfl))).trans sl2
      obtain ⟨j1, j2⟩ := And.intro ((hG.cell (p := ⟨A, 0, none⟩) hA).trans ca0) ((hG.cell (p := ⟨A, 1, none⟩) hA).trans ca1)
      clear hρ hF hcst hfun sl2 sl3 sl7 fin
      exact opv_val (by go_simp <;> rfl) ⟨gw_self _, rfl⟩
    · refine owes_v (Go.Op.call { callee := Go.Callee.value (Go.Operand.func 14), args := #[Go.Operand.tmp 34], argTypes := #[23] }) 4 [0] (by kernel_rfl) (by kernel_rfl) (by kernel_rfl) rfl fun vals w1 ρ hG hF hρ hcst hfun => ?_
      have e34 : ρ (.tmp 34) = .agg #[.int .i64 x1, .int .i64 y1] := ((hρ 34).trans (slotJ [0] (by rw [hsz]; decide) (by kernel_rfl))).trans (hF 0 (by decide))
      clear hρ hF hcst sl2 sl3 sl7 fin
      exact opv_enter (by go_simp <;> rfl) (of_bel (HS1.out w1))
    · refine owes_v (Go.Op.unOp Go.UnOp.not 4 (Go.Operand.tmp 35)) 4 [1] (by kernel_rfl) (by kernel_rfl) (by kernel_rfl) rfl fun vals w1 ρ hG hF hρ hcst hfun => ?_
      have e35 : ρ (.tmp 35) = .bool false := ((hρ 35).trans (slotJ [1] (by rw [hsz]; decide) (by kernel_rfl))).trans (hF 1 (by decide))
      clear hρ hF hcst hfun sl2 sl3 sl7 fin
      exact opv_val (by go_simp <;> rfl) ⟨gw_self _, rfl⟩
    · exact owes_mvj 2 36 (by kernel_rfl) (by kernel_rfl) (by kernel_rfl) (by kernel_rfl) (by rw [hsz]; decide) (fun v w h => h)
    · exact owes_no 3 true false (by decide) (by kernel_rfl) (by kernel_rfl) (fun _ _ h => h) (by rw [hsz]; kernel_rfl) (fun _ => rfl)
    · exact owes_no 3 true false (by decide) (by kernel_rfl) (by kernel_rfl) (fun _ _ h => h) (by rw [hsz]; kernel_rfl) (fun _ => rfl)
    · exact owes_no 3 true false (by decide) (by kernel_rfl) (by kernel_rfl) (fun _ _ h => h) (by rw [hsz]; kernel_rfl) (fun _ => rfl)
    · refine owes_v (Go.Op.pick (Go.Operand.tmp 37) (Go.Operand.const (Go.Value.bool true)) (Go.Operand.tmp 40)) 4 [3, 6] (by kernel_rfl) (by kernel_rfl) (by kernel_rfl) rfl fun vals w1 ρ hG hF hρ hcst hfun => ?_
      have e37 : ρ (.tmp 37) = .bool true := ((hρ 37).trans (slotJ [3, 6] (by rw [hsz]; decide) (by kernel_rfl))).trans (hF 3 (by decide))
      have f40 : (IsV undef) (vals 6) w1 := hF 6 (by decide)
      have e40 : ρ (.tmp 40) = vals 6 := (hρ 40).trans (slotJ [3, 6] (by rw [hsz]; decide) (by kernel_rfl))
      clear hρ hF hfun sl2 sl3 sl7 fin
      exact opv_val (by go_simp <;> rfl) ⟨gw_self _, rfl⟩
    · exact owes_mvj 7 41 (by kernel_rfl) (by kernel_rfl) (by kernel_rfl) (by kernel_rfl) (by rw [hsz]; decide) (fun v w h => h)
    · refine owes_vt 8 true (Go.Op.load 23 (Go.Operand.tmp 2)) 23 [] (by kernel_rfl) (by kernel_rfl) (by kernel_rfl) (fun _ _ h => h) (by rw [hsz]; kernel_rfl) (by kernel_rfl) rfl fun vals w1 ρ hG hF hρ hcst hfun => ?_
      have e2 : ρ (.tmp 2) = .pointer (some ⟨A, 0, none⟩) := ((hρ 2).trans (slotO [] (by kernel_rfl))).trans sl2
      obtain ⟨j1, j2⟩ := And.intro ((hG.cell (p := ⟨A, 0, none⟩) hA).trans ca0) ((hG.cell (p := ⟨A, 1, none⟩) hA).trans ca1)
      clear hρ hF hcst hfun sl2 sl3 sl7 fin
      exact opv_val (by go_simp <;> rfl) ⟨gw_self _, rfl⟩
    · refine owes_vt 8 true (Go.Op.call { callee := Go.Callee.value (Go.Operand.func 14), args := #[Go.Operand.tmp 43], argTypes := #[23] }) 4 [9] (by kernel_rfl) (by kernel_rfl) (by kernel_rfl) (fun _ _ h => h) (by rw [hsz]; kernel_rfl) (by kernel_rfl) rfl fun vals w1 ρ hG hF hρ hcst hfun => ?_
      have e43 : ρ (.tmp 43) = .agg #[.int .i64 x1, .int .i64 y1] := ((hρ 43).trans (slotJ [9] (by rw [hsz]; decide) (by kernel_rfl))).trans (hF 9 (by decide))
      clear hρ hF hcst sl2 sl3 sl7 fin
      exact opv_enter (by go_simp <;> rfl) (of_bel (HS1.out w1))
    · refine owes_vt 8 true (Go.Op.unOp Go.UnOp.not 4 (Go.Operand.tmp 44)) 4 [10] (by kernel_rfl) (by kernel_rfl) (by kernel_rfl) (fun _ _ h => h) (by rw [hsz]; kernel_rfl) (by kernel_rfl) rfl fun vals w1 ρ hG hF hρ hcst hfun => ?_
      have e44 : ρ (.tmp 44) = .bool false := ((hρ 44).trans (slotJ [10] (by rw [hsz]; decide) (by kernel_rfl))).trans (hF 10 (by decide))
      clear hρ hF hcst hfun sl2 sl3 sl7 fin
      exact opv_val (by go_simp <;> rfl) ⟨gw_self _, rfl⟩
    · refine owes_vt 8 true (Go.Op.move (Go.Operand.tmp 45)) 4 [11] (by kernel_rfl) (by kernel_rfl) (by kernel_rfl) (fun _ _ h => h) (by rw [hsz]; kernel_rfl) (by kernel_rfl) rfl fun vals w1 ρ hG hF hρ hcst hfun => ?_
      have e45 : ρ (.tmp 45) = .bool true := ((hρ 45).trans (slotJ [11] (by rw [hsz]; decide) (by kernel_rfl))).trans (hF 11 (by decide))
      clear hρ hF hcst hfun sl2 sl3 sl7 fin
      exact opv_val (by go_simp <;> rfl) ⟨gw_self _, rfl⟩
    · exact owes_no 12 true false (by decide) (by kernel_rfl) (by kernel_rfl) (fun _ _ h => h) (by rw [hsz]; kernel_rfl) (fun _ => rfl)
    · exact owes_no 12 true false (by decide) (by kernel_rfl) (by kernel_rfl) (fun _ _ h => h) (by rw [hsz]; kernel_rfl) (fun _ => rfl)
    · exact owes_no 12 true false (by decide) (by kernel_rfl) (by kernel_rfl) (fun _ _ h => h) (by rw [hsz]; kernel_rfl) (fun _ => rfl)
    · refine owes_vt 8 true (Go.Op.pick (Go.Operand.tmp 46) (Go.Operand.const (Go.Value.bool true)) (Go.Operand.tmp 49)) 4 [12, 15] (by kernel_rfl) (by kernel_rfl) (by kernel_rfl) (fun _ _ h => h) (by rw [hsz]; kernel_rfl) (by kernel_rfl) rfl fun vals w1 ρ hG hF hρ hcst hfun => ?_
      have e46 : ρ (.tmp 46) = .bool true := ((hρ 46).trans (slotJ [12, 15] (by rw [hsz]; decide) (by kernel_rfl))).trans (hF 12 (by decide))
      have f49 : (IsV undef) (vals 15) w1 := hF 15 (by decide)
      have e49 : ρ (.tmp 49) = vals 15 := (hρ 49).trans (slotJ [12, 15] (by rw [hsz]; decide) (by kernel_rfl))
      clear hρ hF hfun sl2 sl3 sl7 fin
      exact opv_val (by go_simp <;> rfl) ⟨gw_self _, rfl⟩
    · refine owes_vt 8 true (Go.Op.move (Go.Operand.tmp 50)) 4 [16] (by kernel_rfl) (by kernel_rfl) (by kernel_rfl) (fun _ _ h => h) (by rw [hsz]; kernel_rfl) (by kernel_rfl) rfl fun vals w1 ρ hG hF hρ hcst hfun => ?_
      have e50 : ρ (.tmp 50) = .bool true := ((hρ 50).trans (slotJ [16] (by rw [hsz]; decide) (by kernel_rfl))).trans (hF 16 (by decide))
      clear hρ hF hcst hfun sl2 sl3 sl7 fin
      exact opv_val (by go_simp <;> rfl) ⟨gw_self _, rfl⟩
    · exact owes_no 17 true false (by decide) (by kernel_rfl) (by kernel_rfl) (fun _ _ h => h) (by rw [hsz]; kernel_rfl) (fun _ => rfl)
    · exact owes_no 17 true false (by decide) (by kernel_rfl) (by kernel_rfl) (fun _ _ h => h) (by rw [hsz]; kernel_rfl) (fun _ => rfl)
    · exact owes_no 17 true false (by decide) (by kernel_rfl) (by kernel_rfl) (fun _ _ h => h) (by rw [hsz]; kernel_rfl) (fun _ => rfl)
    · exact owes_no 17 true false (by decide) (by kernel_rfl) (by kernel_rfl) (fun _ _ h => h) (by rw [hsz]; kernel_rfl) (fun _ => rfl)
    · exact owes_no 17 true false (by decide) (by kernel_rfl) (by kernel_rfl) (fun _ _ h => h) (by rw [hsz]; kernel_rfl) (fun _ => rfl)
    · exact owes_no 17 true false (by decide) (by kernel_rfl) (by kernel_rfl) (fun _ _ h => h) (by rw [hsz]; kernel_rfl) (fun _ => rfl)
    · exact owes_no 17 true false (by decide) (by kernel_rfl) (by kernel_rfl) (fun _ _ h => h) (by rw [hsz]; kernel_rfl) (fun _ => rfl)
    · exact owes_no 17 true false (by decide) (by kernel_rfl) (by kernel_rfl) (fun _ _ h => h) (by rw [hsz]; kernel_rfl) (fun _ => rfl)
    · refine owes_vt 8 true (Go.Op.pick (Go.Operand.tmp 51) (Go.Operand.const (Go.Value.bool true)) (Go.Operand.tmp 59)) 4 [17, 25] (by kernel_rfl) (by kernel_rfl) (by kernel_rfl) (fun _ _ h => h) (by rw [hsz]; kernel_rfl) (by kernel_rfl) rfl fun vals w1 ρ hG hF hρ hcst hfun => ?_
      have e51 : ρ (.tmp 51) = .bool true := ((hρ 51).trans (slotJ [17, 25] (by rw [hsz]; decide) (by kernel_rfl))).trans (hF 17 (by decide))
      have f59 : (IsV undef) (vals 25) w1 := hF 25 (by decide)
      have e59 : ρ (.tmp 59) = vals 25 := (hρ 59).trans (slotJ [17, 25] (by rw [hsz]; decide) (by kernel_rfl))
      clear hρ hF hfun sl2 sl3 sl7 fin
      exact opv_val (by go_simp <;> rfl) ⟨gw_self _, rfl⟩
    · refine owes_v (Go.Op.pick (Go.Operand.tmp 42) (Go.Operand.tmp 60) (Go.Operand.const (Go.Value.bool false))) 4 [8, 26] (by kernel_rfl) (by kernel_rfl) (by kernel_rfl) rfl fun vals w1 ρ hG hF hρ hcst hfun => ?_
      have e42 : ρ (.tmp 42) = .bool true := ((hρ 42).trans (slotJ [8, 26] (by rw [hsz]; decide) (by kernel_rfl))).trans (hF 8 (by decide))
      have e60 : ρ (.tmp 60) = .bool true := ((hρ 60).trans (slotJ [8, 26] (by rw [hsz]; decide) (by kernel_rfl))).trans (hF 26 (by decide))
      clear hρ hF hfun sl2 sl3 sl7 fin
      exact opv_val (by go_simp <;> rfl) ⟨gw_self _, rfl⟩
    · exact owes_mvj 27 61 (by kernel_rfl) (by kernel_rfl) (by kernel_rfl) (by kernel_rfl) (by rw [hsz]; decide) (fun v w h => h)
    · refine owes_vt 28 true (Go.Op.load 23 (Go.Operand.tmp 3)) 23 [] (by kernel_rfl) (by kernel_rfl) (by kernel_rfl) (fun _ _ h => h) (by rw [hsz]; kernel_rfl) (by kernel_rfl) rfl fun vals w1 ρ hG hF hρ hcst hfun => ?_
      have e3 : ρ (.tmp 3) = .pointer (some ⟨B, 0, none⟩) := ((hρ 3).trans (slotO [] (by kernel_rfl))).trans sl3
      obtain ⟨j1, j2⟩ := And.intro ((hG.cell (p := ⟨B, 0, none⟩) hB).trans cb0) ((hG.cell (p := ⟨B, 1, none⟩) hB).trans cb1)
      clear hρ hF hcst hfun sl2 sl3 sl7 fin
      exact opv_val (by go_simp <;> rfl) ⟨gw_self _, rfl⟩
    · refine owes_vt 28 true (Go.Op.call { callee := Go.Callee.value (Go.Operand.func 14), args := #[Go.Operand.tmp 63], argTypes := #[23] }) 4 [29] (by kernel_rfl) (by kernel_rfl) (by kernel_rfl) (fun _ _ h => h) (by rw [hsz]; kernel_rfl) (by kernel_rfl) rfl fun vals w1 ρ hG hF hρ hcst hfun => ?_
      have e63 : ρ (.tmp 63) = .agg #[.int .i64 x2, .int .i64 y2] := ((hρ 63).trans (slotJ [29] (by rw [hsz]; decide) (by kernel_rfl))).trans (hF 29 (by decide))
      clear hρ hF hcst sl2 sl3 sl7 fin
      exact opv_enter (by go_simp <;> rfl) (of_bel (HS2.out w1))
    · refine owes_vt 28 true (Go.Op.unOp Go.UnOp.not 4 (Go.Operand.tmp 64)) 4 [30] (by kernel_rfl) (by kernel_rfl) (by kernel_rfl) (fun _ _ h => h) (by rw [hsz]; kernel_rfl) (by kernel_rfl) rfl fun vals w1 ρ hG hF hρ hcst hfun => ?_
      have e64 : ρ (.tmp 64) = .bool true := ((hρ 64).trans (slotJ [30] (by rw [hsz]; decide) (by kernel_rfl))).trans (hF 30 (by decide))
      clear hρ hF hcst hfun sl2 sl3 sl7 fin
      exact opv_val (by go_simp <;> rfl) ⟨gw_self _, rfl⟩
    · refine owes_vt 28 true (Go.Op.move (Go.Operand.tmp 65)) 4 [31] (by kernel_rfl) (by kernel_rfl) (by kernel_rfl) (fun _ _ h => h) (by rw [hsz]; kernel_rfl) (by kernel_rfl) rfl fun vals w1 ρ hG hF hρ hcst hfun => ?_
      have e65 : ρ (.tmp 65) = .bool false := ((hρ 65).trans (slotJ [31] (by rw [hsz]; decide) (by kernel_rfl))).trans (hF 31 (by decide))
      clear hρ hF hcst hfun sl2 sl3 sl7 fin
      exact opv_val (by go_simp <;> rfl) ⟨gw_self _, rfl⟩
    · refine owes_vt 32 false (Go.Op.load 23 (Go.Operand.tmp 7)) 23 [] (by kernel_rfl) (by kernel_rfl) (by kernel_rfl) (fun _ _ h => h) (by rw [hsz]; kernel_rfl) (by kernel_rfl) rfl fun vals w1 ρ hG hF hρ hcst hfun => ?_
      have e7 : ρ (.tmp 7) = .pointer (some ⟨F, 0, none⟩) := ((hρ 7).trans (slotO [] (by kernel_rfl))).trans sl7
      obtain ⟨j1, j2⟩ := And.intro ((hG.cell (p := ⟨F, 0, none⟩) hF2).trans cf0) ((hG.cell (p := ⟨F, 1, none⟩) hF2).trans cf1)
      clear hρ hF hcst hfun sl2 sl3 sl7 fin
      exact opv_val (by go_simp <;> rfl) ⟨gw_self _, rfl⟩
    · refine owes_vt 32 false (Go.Op.load 23 (Go.Operand.tmp 3)) 23 [] (by kernel_rfl) (by kernel_rfl) (by kernel_rfl) (fun _ _ h => h) (by rw [hsz]; kernel_rfl) (by kernel_rfl) rfl fun vals w1 ρ hG hF hρ hcst hfun => ?_
      have e3 : ρ (.tmp 3) = .pointer (some ⟨B, 0, none⟩) := ((hρ 3).trans (slotO [] (by kernel_rfl))).trans sl3
      obtain ⟨j1, j2⟩ := And.intro ((hG.cell (p := ⟨B, 0, none⟩) hB).trans cb0) ((hG.cell (p := ⟨B, 1, none⟩) hB).trans cb1)
      clear hρ hF hcst hfun sl2 sl3 sl7 fin
      exact opv_val (by go_simp <;> rfl) ⟨gw_self _, rfl⟩
    · refine owes_vt 32 false (Go.Op.binOp Go.BinOp.eql 23 (Go.Operand.tmp 67) (Go.Operand.tmp 68) 23) 4 [33, 34] (by kernel_rfl) (by kernel_rfl) (by kernel_rfl) (fun _ _ h => h) (by rw [hsz]; kernel_rfl) (by kernel_rfl) rfl fun vals w1 ρ hG hF hρ hcst hfun => ?_
      have e67 : ρ (.tmp 67) = .agg #[.int .i64 u2, .int .i64 v2] := ((hρ 67).trans (slotJ [33, 34] (by rw [hsz]; decide) (by kernel_rfl))).trans (hF 33 (by decide))
      have e68 : ρ (.tmp 68) = .agg #[.int .i64 x2, .int .i64 y2] := ((hρ 68).trans (slotJ [33, 34] (by rw [hsz]; decide) (by kernel_rfl))).trans (hF 34 (by decide))
      have kq := HE2.out
      clear hρ hF hcst hfun sl2 sl3 sl7 fin
      exact opv_val (by go_simp <;> rfl) ⟨gw_self _, rfl⟩
    · refine owes_vt 28 true (Go.Op.pick (Go.Operand.tmp 66) (Go.Operand.const (Go.Value.bool true)) (Go.Operand.tmp 69)) 4 [32, 35] (by kernel_rfl) (by kernel_rfl) (by kernel_rfl) (fun _ _ h => h) (by rw [hsz]; kernel_rfl) (by kernel_rfl) rfl fun vals w1 ρ hG hF hρ hcst hfun => ?_
      have e66 : ρ (.tmp 66) = .bool false := ((hρ 66).trans (slotJ [32, 35] (by rw [hsz]; decide) (by kernel_rfl))).trans (hF 32 (by decide))
      have e69 : ρ (.tmp 69) = .bool true := ((hρ 69).trans (slotJ [32, 35] (by rw [hsz]; decide) (by kernel_rfl))).trans (hF 35 (by decide))
      clear hρ hF hfun sl2 sl3 sl7 fin
      exact opv_val (by go_simp <;> rfl) ⟨gw_self _, rfl⟩
    · refine owes_v (Go.Op.pick (Go.Operand.tmp 62) (Go.Operand.tmp 70) (Go.Operand.const (Go.Value.bool false))) 4 [28, 36] (by kernel_rfl) (by kernel_rfl) (by kernel_rfl) rfl fun vals w1 ρ hG hF hρ hcst hfun => ?_
      have e62 : ρ (.tmp 62) = .bool true := ((hρ 62).trans (slotJ [28, 36] (by rw [hsz]; decide) (by kernel_rfl))).trans (hF 28 (by decide))
      have e70 : ρ (.tmp 70) = .bool true := ((hρ 70).trans (slotJ [28, 36] (by rw [hsz]; decide) (by kernel_rfl))).trans (hF 36 (by decide))
      clear hρ hF hfun sl2 sl3 sl7 fin
      exact opv_val (by go_simp <;> rfl) ⟨gw_self _, rfl⟩
    · exact owes_mvj 37 71 (by kernel_rfl) (by kernel_rfl) (by kernel_rfl) (by kernel_rfl) (by rw [hsz]; decide) (fun v w h => h)
  · intro vals w1 hG hF
    exact fin vals w1 hG (hF 38 (by decide +kernel))
theorem kt00_reg (Q : Exit → Act → World → Prop) (a0 : Act) (w : World) (A B E F : Nat) (x1 y1 x2 y2 u1 v1 u2 v2 P1 P2 c : Int) (hA : A < w.heap.size) (hB : B < w.heap.size) (hE : E < w.heap.size) (hF2 : F < w.heap.size) (ca0 : w.cell? ⟨A, 0, none⟩ = some (.int .i64 x1)) (ca1 : w.cell? ⟨A, 1, none⟩ = some (.int .i64 y1)) (cb0 : w.cell? ⟨B, 0, none⟩ = some (.int .i64 x2)) (cb1 : w.cell? ⟨B, 1, none⟩ = some (.int .i64 y2)) (ce0 : w.cell? ⟨E, 0, none⟩ = some (.int .i64 u1)) (ce1 : w.cell? ⟨E, 1, none⟩ = some (.int .i64 v1)) (cf0 : w.cell? ⟨F, 0, none⟩ = some (.int .i64 u2)) (cf1 : w.cell? ⟨F, 1, none⟩ = some (.int .i64 v2)) (HP1 : Hid (∀ W, Calls Try.prog 13 #[.agg #[.int .i64 x1, .int .i64 y1]] W fun e w' => e = .returned (.int .u64 P1) ∧ Below W.heap.size W w')) (HP2 : Hid (∀ W, Calls Try.prog 13 #[.agg #[.int .i64 x2, .int .i64 y2]] W fun e w' => e = .returned (.int .u64 P2) ∧ Below W.heap.size W w')) (HS1 : Hid (∀ W, Calls Try.prog 14 #[.agg #[.int .i64 x1, .int .i64 y1]] W fun e w' => e = .returned (.bool false) ∧ Below W.heap.size W w')) (HS2 : Hid (∀ W, Calls Try.prog 14 #[.agg #[.int .i64 x2, .int .i64 y2]] W fun e w' => e = .returned (.bool false) ∧ Below W.heap.size W w')) (hsz : a0.tmps.size = 72) (sl2 : a0.tmps.getD 2 undef = .pointer (some ⟨A, 0, none⟩)) (sl3 : a0.tmps.getD 3 undef = .pointer (some ⟨B, 0, none⟩))
    (fin : ∀ (vals : Nat → Value) (w1 : World), Below w.heap.size w w1 → (IsV (.bool true)) (vals 38) w1 → Q .normal (putD vals [34, 35, 36, 37, 38, 39, 40, 41, 42, 43, 44, 45, 46, 47, 48, 49, 50, 51, 52, 53, 54, 55, 56, 57, 58, 59, 60, 61, 62, 63, 64, 65, 66, 67, 68, 69, 70, 71, 4] 0 a0) w1) :
    (Code.region 8 (regIn Try.f3 8) true).wp Try.prog Q a0 w := by
  refine region_by (G := fun w w1 => Below w.heap.size w w1) [IsV (.agg #[.int .i64 x1, .int .i64 y1]),
    IsV (.bool false),
    IsV (.bool true),
    IsV (.bool true),
    IsV undef,
    IsV undef,
    IsV undef,
    IsV (.bool true),
    IsV (.bool true),
    IsV (.agg #[.int .i64 x1, .int .i64 y1]),
    IsV (.bool false),
    IsV (.bool true),
    IsV (.bool true),
    IsV undef,
    IsV undef,
    IsV undef,
    IsV (.bool true),
    IsV (.bool true),
    IsV undef,
    IsV undef,
    IsV undef,
    IsV undef,
    IsV undef,
    IsV undef,
    IsV undef,
    IsV undef,
    IsV (.bool true),
    IsV (.bool true),
    IsV (.bool true),
    IsV (.agg #[.int .i64 x2, .int .i64 y2]),
    IsV (.bool false),
    IsV (.bool true),
    IsV (.bool true),
    IsV undef,
    IsV undef,
    IsV undef,
    IsV (.bool true),
    IsV (.bool true),
    IsV (.bool true)]
    [34, 35, 36, 37, 38, 39, 40, 41, 42, 43, 44, 45, 46, 47, 48, 49, 50, 51, 52, 53, 54, 55, 56, 57, 58, 59, 60, 61, 62, 63, 64, 65, 66, 67, 68, 69, 70, 71, 4] (by kernel_rfl) (Gw.drew _) Gw.trans (by rw [hsz]; kernel_rfl) (by kernel_rfl) ?_ ?_ ?_
  · intro f hf
    simp only [List.mem_cons, List.not_mem_nil, or_false] at hf
    rcases hf with rfl | rfl | rfl | rfl | rfl | rfl | rfl | rfl | rfl | rfl | rfl | rfl | rfl | rfl | rfl | rfl | rfl | rfl | rfl | rfl | rfl | rfl | rfl | rfl | rfl | rfl | rfl | rfl | rfl | rfl | rfl | rfl | rfl | rfl | rfl | rfl | rfl | rfl | rfl <;> intro v a b h g <;> first | exact IsV.mono h
  · refine ⟨?_, ?_, ?_, ?_, ?_, ?_, ?_, ?_, ?_, ?_, ?_, ?_, ?_, ?_, ?_, ?_, ?_, ?_, ?_, ?_, ?_, ?_, ?_, ?_, ?_, ?_, ?_, ?_, ?_, ?_, ?_, ?_, ?_, ?_, ?_, ?_, ?_, ?_, ?_, trivial⟩
    · refine owes_v (Go.Op.load 23 (Go.Operand.tmp 2)) 23 [] (by kernel_rfl) (by kernel_rfl) (by kernel_rfl) rfl fun vals w1 ρ hG hF hρ hcst hfun => ?_
      have e2 : ρ (.tmp 2) = .pointer (some ⟨A, 0, none⟩) := ((hρ 2).trans (slotO [] (by kernel_rfl))).trans sl2
      obtain ⟨j1, j2⟩ := And.intro ((hG.cell (p := ⟨A, 0, none⟩) hA).trans ca0) ((hG.cell (p := ⟨A, 1, none⟩) hA).trans ca1)
      clear hρ hF hcst hfun sl2 sl3 fin
      exact opv_val (by go_simp <;> rfl) ⟨gw_self _, rfl⟩
    · refine owes_v (Go.Op.call { callee := Go.Callee.value (Go.Operand.func 14), args := #[Go.Operand.tmp 34], argTypes := #[23] }) 4 [0] (by kernel_rfl) (by kernel_rfl) (by kernel_rfl) rfl fun vals w1 ρ hG hF hρ hcst hfun => ?_
      have e34 : ρ (.tmp 34) = .agg #[.int .i64 x1, .int .i64 y1] := ((hρ 34).trans (slotJ [0] (by rw [hsz]; decide) (by kernel_rfl))).trans (hF 0 (by decide))
      clear hρ hF hcst sl2 sl3 fin
      exact opv_enter (by go_simp <;> rfl) (of_bel (HS1.out w1))
    · refine owes_v (Go.Op.unOp Go.UnOp.not 4 (Go.Operand.tmp 35)) 4 [1] (by kernel_rfl) (by kernel_rfl) (by kernel_rfl) rfl fun vals w1 ρ hG hF hρ hcst hfun => ?_
      have e35 : ρ (.tmp 35) = .bool false := ((hρ 35).trans (slotJ [1] (by rw [hsz]; decide) (by kernel_rfl))).trans (hF 1 (by decide))
      clear hρ hF hcst hfun sl2 sl3 fin
      exact opv_val (by go_simp <;> rfl) ⟨gw_self _, rfl⟩
    · exact owes_mvj 2 36 (by kernel_rfl) (by kernel_rfl) (by kernel_rfl) (by kernel_rfl) (by rw [hsz]; decide) (fun v w h => h)
    · exact owes_no 3 true false (by decide) (by kernel_rfl) (by kernel_rfl) (fun _ _ h => h) (by rw [hsz]; kernel_rfl) (fun _ => rfl)
    · exact owes_no 3 true false (by decide) (by kernel_rfl) (by kernel_rfl) (fun _ _ h => h) (by rw [hsz]; kernel_rfl) (fun _ => rfl)
    · exact owes_no 3 true false (by decide) (by kernel_rfl) (by kernel_rfl) (fun _ _ h => h) (by rw [hsz]; kernel_rfl) (fun _ => rfl)
    · refine owes_v (Go.Op.pick (Go.Operand.tmp 37) (Go.Operand.const (Go.Value.bool true)) (Go.Operand.tmp 40)) 4 [3, 6] (by kernel_rfl) (by kernel_rfl) (by kernel_rfl) rfl fun vals w1 ρ hG hF hρ hcst hfun => ?_
      have e37 : ρ (.tmp 37) = .bool true := ((hρ 37).trans (slotJ [3, 6] (by rw [hsz]; decide) (by kernel_rfl))).trans (hF 3 (by decide))
      have f40 : (IsV undef) (vals 6) w1 := hF 6 (by decide)
      have e40 : ρ (.tmp 40) = vals 6 := (hρ 40).trans (slotJ [3, 6] (by rw [hsz]; decide) (by kernel_rfl))
      clear hρ hF hfun sl2 sl3 fin
      exact opv_val (by go_simp <;> rfl) ⟨gw_self _, rfl⟩
    · exact owes_mvj 7 41 (by kernel_rfl) (by kernel_rfl) (by kernel_rfl) (by kernel_rfl) (by rw [hsz]; decide) (fun v w h => h)
    · refine owes_vt 8 true (Go.Op.load 23 (Go.Operand.tmp 2)) 23 [] (by kernel_rfl) (by kernel_rfl) (by kernel_rfl) (fun _ _ h => h) (by rw [hsz]; kernel_rfl) (by kernel_rfl) rfl fun vals w1 ρ hG hF hρ hcst hfun => ?_
      have e2 : ρ (.tmp 2) = .pointer (some ⟨A, 0, none⟩) := ((hρ 2).trans (slotO [] (by kernel_rfl))).trans sl2
      obtain ⟨j1, j2⟩ := And.intro ((hG.cell (p := ⟨A, 0, none⟩) hA).trans ca0) ((hG.cell (p := ⟨A, 1, none⟩) hA).trans ca1)
      clear hρ hF hcst hfun sl2 sl3 fin
      exact opv_val (by go_simp <;> rfl) ⟨gw_self _, rfl⟩
    · refine owes_vt 8 true (Go.Op.call { callee := Go.Callee.value (Go.Operand.func 14), args := #[Go.Operand.tmp 43], argTypes := #[23] }) 4 [9] (by kernel_rfl) (by kernel_rfl) (by kernel_rfl) (fun _ _ h => h) (by rw [hsz]; kernel_rfl) (by kernel_rfl) rfl fun vals w1 ρ hG hF hρ hcst hfun => ?_
      have e43 : ρ (.tmp 43) = .agg #[.int .i64 x1, .int .i64 y1] := ((hρ 43).trans (slotJ [9] (by rw [hsz]; decide) (by kernel_rfl))).trans (hF 9 (by decide))
      clear hρ hF hcst sl2 sl3 fin
      exact opv_enter (by go_simp <;> rfl) (of_bel (HS1.out w1))
    · refine owes_vt 8 true (Go.Op.unOp Go.UnOp.not 4 (Go.Operand.tmp 44)) 4 [10] (by kernel_rfl) (by kernel_rfl) (by kernel_rfl) (fun _ _ h => h) (by rw [hsz]; kernel_rfl) (by kernel_rfl) rfl fun vals w1 ρ hG hF hρ hcst hfun => ?_
      have e44 : ρ (.tmp 44) = .bool false := ((hρ 44).trans (slotJ [10] (by rw [hsz]; decide) (by kernel_rfl))).trans (hF 10 (by decide))
      clear hρ hF hcst hfun sl2 sl3 fin
      exact opv_val (by go_simp <;> rfl) ⟨gw_self _, rfl⟩
    · refine owes_vt 8 true (Go.Op.move (Go.Operand.tmp 45)) 4 [11] (by kernel_rfl) (by kernel_rfl) (by kernel_rfl) (fun _ _ h => h) (by rw [hsz]; kernel_rfl) (by kernel_rfl) rfl fun vals w1 ρ hG hF hρ hcst hfun => ?_
      have e45 : ρ (.tmp 45) = .bool true := ((hρ 45).trans (slotJ [11] (by rw [hsz]; decide) (by kernel_rfl))).trans (hF 11 (by decide))
      clear hρ hF hcst hfun sl2 sl3 fin
      exact opv_val (by go_simp <;> rfl) ⟨gw_self _, rfl⟩
    · exact owes_no 12 true false (by decide) (by kernel_rfl) (by kernel_rfl) (fun _ _ h => h) (by rw [hsz]; kernel_rfl) (fun _ => rfl)
    · exact owes_no 12 true false (by decide) (by kernel_rfl) (by kernel_rfl) (fun _ _ h => h) (by rw [hsz]; kernel_rfl) (fun _ => rfl)
    · exact owes_no 12 true false (by decide) (by kernel_rfl) (by kernel_rfl) (fun _ _ h => h) (by rw [hsz]; kernel_rfl) (fun _ => rfl)
    · refine owes_vt 8 true (Go.Op.pick (Go.Operand.tmp 46) (Go.Operand.const (Go.Value.bool true)) (Go.Operand.tmp 49)) 4 [12, 15] (by kernel_rfl) (by kernel_rfl) (by kernel_rfl) (fun _ _ h => h) (by rw [hsz]; kernel_rfl) (by kernel_rfl) rfl fun vals w1 ρ hG hF hρ hcst hfun => ?_
      have e46 : ρ (.tmp 46) = .bool true := ((hρ 46).trans (slotJ [12, 15] (by rw [hsz]; decide) (by kernel_rfl))).trans (hF 12 (by decide))
      have f49 : (IsV undef) (vals 15) w1 := hF 15 (by decide)
      have e49 : ρ (.tmp 49) = vals 15 := (hρ 49).trans (slotJ [12, 15] (by rw [hsz]; decide) (by kernel_rfl))
      clear hρ hF hfun sl2 sl3 fin
      exact opv_val (by go_simp <;> rfl) ⟨gw_self _, rfl⟩
    · refine owes_vt 8 true (Go.Op.move (Go.Operand.tmp 50)) 4 [16] (by kernel_rfl) (by kernel_rfl) (by kernel_rfl) (fun _ _ h => h) (by rw [hsz]; kernel_rfl) (by kernel_rfl) rfl fun vals w1 ρ hG hF hρ hcst hfun => ?_
      have e50 : ρ (.tmp 50) = .bool true := ((hρ 50).trans (slotJ [16] (by rw [hsz]; decide) (by kernel_rfl))).trans (hF 16 (by decide))
      clear hρ hF hcst hfun sl2 sl3 fin
      exact opv_val (by go_simp <;> rfl) ⟨gw_self _, rfl⟩
    · exact owes_no 17 true false (by decide) (by kernel_rfl) (by kernel_rfl) (fun _ _ h => h) (by rw [hsz]; kernel_rfl) (fun _ => rfl)
    · exact owes_no 17 true false (by decide) (by kernel_rfl) (by kernel_rfl) (fun _ _ h => h) (by rw [hsz]; kernel_rfl) (fun _ => rfl)
    · exact owes_no 17 true false (by decide) (by kernel_rfl) (by kernel_rfl) (fun _ _ h => h) (by rw [hsz]; kernel_rfl) (fun _ => rfl)
    · exact owes_no 17 true false (by decide) (by kernel_rfl) (by kernel_rfl) (fun _ _ h => h) (by rw [hsz]; kernel_rfl) (fun _ => rfl)
    · exact owes_no 17 true false (by decide) (by kernel_rfl) (by kernel_rfl) (fun _ _ h => h) (by rw [hsz]; kernel_rfl) (fun _ => rfl)
    · exact owes_no 17 true false (by decide) (by kernel_rfl) (by kernel_rfl) (fun _ _ h => h) (by rw [hsz]; kernel_rfl) (fun _ => rfl)
    · exact owes_no 17 true false (by decide) (by kernel_rfl) (by kernel_rfl) (fun _ _ h => h) (by rw [hsz]; kernel_rfl) (fun _ => rfl)
    · exact owes_no 17 true false (by decide) (by kernel_rfl) (by kernel_rfl) (fun _ _ h => h) (by rw [hsz]; kernel_rfl) (fun _ => rfl)
    · refine owes_vt 8 true (Go.Op.pick (Go.Operand.tmp 51) (Go.Operand.const (Go.Value.bool true)) (Go.Operand.tmp 59)) 4 [17, 25] (by kernel_rfl) (by kernel_rfl) (by kernel_rfl) (fun _ _ h => h) (by rw [hsz]; kernel_rfl) (by kernel_rfl) rfl fun vals w1 ρ hG hF hρ hcst hfun => ?_
      have e51 : ρ (.tmp 51) = .bool true := ((hρ 51).trans (slotJ [17, 25] (by rw [hsz]; decide) (by kernel_rfl))).trans (hF 17 (by decide))
      have f59 : (IsV undef) (vals 25) w1 := hF 25 (by decide)
      have e59 : ρ (.tmp 59) = vals 25 := (hρ 59).trans (slotJ [17, 25] (by rw [hsz]; decide) (by kernel_rfl))
      clear hρ hF hfun sl2 sl3 fin
      exact opv_val (by go_simp <;> rfl) ⟨gw_self _, rfl⟩
    · refine owes_v (Go.Op.pick (Go.Operand.tmp 42) (Go.Operand.tmp 60) (Go.Operand.const (Go.Value.bool false))) 4 [8, 26] (by kernel_rfl) (by kernel_rfl) (by kernel_rfl) rfl fun vals w1 ρ hG hF hρ hcst hfun => ?_
      have e42 : ρ (.tmp 42) = .bool true := ((hρ 42).trans (slotJ [8, 26] (by rw [hsz]; decide) (by kernel_rfl))).trans (hF 8 (by decide))
      have e60 : ρ (.tmp 60) = .bool true := ((hρ 60).trans (slotJ [8, 26] (by rw [hsz]; decide) (by kernel_rfl))).trans (hF 26 (by decide))
      clear hρ hF hfun sl2 sl3 fin
      exact opv_val (by go_simp <;> rfl) ⟨gw_self _, rfl⟩
    · exact owes_mvj 27 61 (by kernel_rfl) (by kernel_rfl) (by kernel_rfl) (by kernel_rfl) (by rw [hsz]; decide) (fun v w h => h)
    · refine owes_vt 28 true (Go.Op.load 23 (Go.Operand.tmp 3)) 23 [] (by kernel_rfl) (by kernel_rfl) (by kernel_rfl) (fun _ _ h => h) (by rw [hsz]; kernel_rfl) (by kernel_rfl) rfl fun vals w1 ρ hG hF hρ hcst hfun => ?_
      have e3 : ρ (.tmp 3) = .pointer (some ⟨B, 0, none⟩) := ((hρ 3).trans (slotO [] (by kernel_rfl))).trans sl3
      obtain ⟨j1, j2⟩ := And.intro ((hG.cell (p := ⟨B, 0, none⟩) hB).trans cb0) ((hG.cell (p := ⟨B, 1, none⟩) hB).trans cb1)
      clear hρ hF hcst hfun sl2 sl3 fin
      exact opv_val (by go_simp <;> rfl) ⟨gw_self _, rfl⟩
    · refine owes_vt 28 true (Go.Op.call { callee := Go.Callee.value (Go.Operand.func 14), args := #[Go.Operand.tmp 63], argTypes := #[23] }) 4 [29] (by kernel_rfl) (by kernel_rfl) (by kernel_rfl) (fun _ _ h => h) (by rw [hsz]; kernel_rfl) (by kernel_rfl) rfl fun vals w1 ρ hG hF hρ hcst hfun => ?_
      have e63 : ρ (.tmp 63) = .agg #[.int .i64 x2, .int .i64 y2] := ((hρ 63).trans (slotJ [29] (by rw [hsz]; decide) (by kernel_rfl))).trans (hF 29 (by decide))
      clear hρ hF hcst sl2 sl3 fin
      exact opv_enter (by go_simp <;> rfl) (of_bel (HS2.out w1))
    · refine owes_vt 28 true (Go.Op.unOp Go.UnOp.not 4 (Go.Operand.tmp 64)) 4 [30] (by kernel_rfl) (by kernel_rfl) (by kernel_rfl) (fun _ _ h => h) (by rw [hsz]; kernel_rfl) (by kernel_rfl) rfl fun vals w1 ρ hG hF hρ hcst hfun => ?_
      have e64 : ρ (.tmp 64) = .bool false := ((hρ 64).trans (slotJ [30] (by rw [hsz]; decide) (by kernel_rfl))).trans (hF 30 (by decide))
      clear hρ hF hcst hfun sl2 sl3 fin
      exact opv_val (by go_simp <;> rfl) ⟨gw_self _, rfl⟩
    · refine owes_vt 28 true (Go.Op.move (Go.Operand.tmp 65)) 4 [31] (by kernel_rfl) (by kernel_rfl) (by kernel_rfl) (fun _ _ h => h) (by rw [hsz]; kernel_rfl) (by kernel_rfl) rfl fun vals w1 ρ hG hF hρ hcst hfun => ?_
      have e65 : ρ (.tmp 65) = .bool true := ((hρ 65).trans (slotJ [31] (by rw [hsz]; decide) (by kernel_rfl))).trans (hF 31 (by decide))
      clear hρ hF hcst hfun sl2 sl3 fin
      exact opv_val (by go_simp <;> rfl) ⟨gw_self _, rfl⟩
    · exact owes_no 32 true false (by decide) (by kernel_rfl) (by kernel_rfl) (fun _ _ h => h) (by rw [hsz]; kernel_rfl) (fun _ => rfl)
    · exact owes_no 32 true false (by decide) (by kernel_rfl) (by kernel_rfl) (fun _ _ h => h) (by rw [hsz]; kernel_rfl) (fun _ => rfl)
    · exact owes_no 32 true false (by decide) (by kernel_rfl) (by kernel_rfl) (fun _ _ h => h) (by rw [hsz]; kernel_rfl) (fun _ => rfl)
    · refine owes_vt 28 true (Go.Op.pick (Go.Operand.tmp 66) (Go.Operand.const (Go.Value.bool true)) (Go.Operand.tmp 69)) 4 [32, 35] (by kernel_rfl) (by kernel_rfl) (by kernel_rfl) (fun _ _ h => h) (by rw [hsz]; kernel_rfl) (by kernel_rfl) rfl fun vals w1 ρ hG hF hρ hcst hfun => ?_
      have e66 : ρ (.tmp 66) = .bool true := ((hρ 66).trans (slotJ [32, 35] (by rw [hsz]; decide) (by kernel_rfl))).trans (hF 32 (by decide))
      have f69 : (IsV undef) (vals 35) w1 := hF 35 (by decide)
      have e69 : ρ (.tmp 69) = vals 35 := (hρ 69).trans (slotJ [32, 35] (by rw [hsz]; decide) (by kernel_rfl))
      clear hρ hF hfun sl2 sl3 fin
      exact opv_val (by go_simp <;> rfl) ⟨gw_self _, rfl⟩
    · refine owes_v (Go.Op.pick (Go.Operand.tmp 62) (Go.Operand.tmp 70) (Go.Operand.const (Go.Value.bool false))) 4 [28, 36] (by kernel_rfl) (by kernel_rfl) (by kernel_rfl) rfl fun vals w1 ρ hG hF hρ hcst hfun => ?_
      have e62 : ρ (.tmp 62) = .bool true := ((hρ 62).trans (slotJ [28, 36] (by rw [hsz]; decide) (by kernel_rfl))).trans (hF 28 (by decide))
      have e70 : ρ (.tmp 70) = .bool true := ((hρ 70).trans (slotJ [28, 36] (by rw [hsz]; decide) (by kernel_rfl))).trans (hF 36 (by decide))
      clear hρ hF hfun sl2 sl3 fin
      exact opv_val (by go_simp <;> rfl) ⟨gw_self _, rfl⟩
    · exact owes_mvj 37 71 (by kernel_rfl) (by kernel_rfl) (by kernel_rfl) (by kernel_rfl) (by rw [hsz]; decide) (fun v w h => h)
  · intro vals w1 hG hF
    exact fin vals w1 hG (hF 38 (by decide +kernel))
theorem ktwo_walk (w : World) (x1 : Int) (wx1 : (Lit.int .i64 x1).wf = true) (y1 : Int) (wy1 : (Lit.int .i64 y1).wf = true) (x2 : Int) (wx2 : (Lit.int .i64 x2).wf = true) (y2 : Int) (wy2 : (Lit.int .i64 y2).wf = true) :
    Calls Try.prog 3 #[.agg #[.int .i64 x1, .int .i64 y1], .agg #[.int .i64 x2, .int .i64 y2]] w (TruP (.bool true) w) := by
  obtain ⟨W0, hW0⟩ : ∃ X, X = (w.alloc (.cells #[.int .i64 x1, .int .i64 y1] 23)).alloc (.cells #[.int .i64 x2, .int .i64 y2] 23) := ⟨_, rfl⟩
  obtain ⟨H, hH⟩ : ∃ H, H = w.heap.size := ⟨_, rfl⟩
  have hA : Bk W0 H 23 #[.int .i64 x1, .int .i64 y1] := by rw [hW0, hH]; exact (Bk.new w _ _).alloc _
  have hB : Bk W0 (H + 1) 23 #[.int .i64 x2, .int .i64 y2] := by
    have := Bk.new (w.alloc (.cells #[.int .i64 x1, .int .i64 y1] 23)) 23 #[.int .i64 x2, .int .i64 y2]
    rw [World.size_alloc] at this
    rw [hW0, hH]; exact this
  have hW : Below w.heap.size w W0 := by rw [hW0]; exact (Gw.alloc w _).alloc (by simp) _
  have HK := Lib.hid (And.intro hA (And.intro hB hW))
  obtain ⟨c, hc⟩ : ∃ c, c = cmpN (x1, y1) (x2, y2) := ⟨_, rfl⟩
  have hl := cmpN_lo (x1, y1) (x2, y2)
  have HC := Lib.hid (show ∀ W, Calls Try.prog 9 #[.agg #[.int .i64 x1, .int .i64 y1], .agg #[.int .i64 x2, .int .i64 y2]] W fun e w' => e = .returned (.int .i64 c) ∧ Below W.heap.size W w' from fun W => by rw [hc]; exact compare_b (x1, y1) (x2, y2) W)
  have HR := Lib.hid (show ∀ W, Calls Try.prog 10 #[.agg #[.int .i64 x1, .int .i64 y1], .agg #[.int .i64 x2, .int .i64 y2]] W fun e w' => e = .returned (.int .i64 c) ∧ Below W.heap.size W w' from fun W => by rw [hc]; exact refcmp_c (x1, y1) (x2, y2) W)
  have HD := Lib.hid (show ∀ W, Calls Try.prog 9 #[.agg #[.int .i64 x2, .int .i64 y2], .agg #[.int .i64 x1, .int .i64 y1]] W fun e w' => e = .returned (.int .i64 (-c)) ∧ Below W.heap.size W w' from fun W => by rw [hc, show -cmpN (x1, y1) (x2, y2) = cmpN (x2, y2) (x1, y1) from by rw [cmpN_neg]; omega]; exact compare_b (x2, y2) (x1, y1) W)
  have HZ := Lib.hid (show (c == 0) = decide ((x1, y1) = (x2, y2)) from by rw [hc, Bool.eq_iff_iff, beq_iff_eq, decide_eq_true_eq]; exact cmpN_zero _ _)
  have HWR := Lib.hid (show IntKind.i64.wrap (-c) = -c from IntWalk.i64_in _ (by rw [hc]; omega))
  obtain ⟨P1, hP1⟩ : ∃ P, P = packI (x1, y1) := ⟨_, rfl⟩
  obtain ⟨P2, hP2⟩ : ∃ P, P = packI (x2, y2) := ⟨_, rfl⟩
  have HP1 := Lib.hid (show ∀ W, Calls Try.prog 13 #[.agg #[.int .i64 x1, .int .i64 y1]] W fun e w' => e = .returned (.int .u64 P1) ∧ Below W.heap.size W w' from fun W => by rw [hP1]; exact pack_c (x1, y1) W)
  have HP2 := Lib.hid (show ∀ W, Calls Try.prog 13 #[.agg #[.int .i64 x2, .int .i64 y2]] W fun e w' => e = .returned (.int .u64 P2) ∧ Below W.heap.size W w' from fun W => by rw [hP2]; exact pack_c (x2, y2) W)
  obtain ⟨u1, v1, hu1⟩ : ∃ u v, (u, v) = unpackI P1 := ⟨_, _, rfl⟩
  obtain ⟨u2, v2, hu2⟩ : ∃ u v, (u, v) = unpackI P2 := ⟨_, _, rfl⟩
  have HU1 := Lib.hid (show ∀ W, Calls Try.prog 12 #[.int .u64 P1] W fun e w' => e = .returned (.agg #[.int .i64 u1, .int .i64 v1]) ∧ Below W.heap.size W w' from fun W => by have h := unpack_c P1 W (by rw [hP1]; exact (pack_lo _).1) (by rw [hP1]; exact (pack_lo _).2); rw [← hu1] at h; exact h)
  have HU2 := Lib.hid (show ∀ W, Calls Try.prog 12 #[.int .u64 P2] W fun e w' => e = .returned (.agg #[.int .i64 u2, .int .i64 v2]) ∧ Below W.heap.size W w' from fun W => by have h := unpack_c P2 W (by rw [hP2]; exact (pack_lo _).1) (by rw [hP2]; exact (pack_lo _).2); rw [← hu2] at h; exact h)
  obtain ⟨s1, hs1⟩ : ∃ s, s = shortB (x1, y1) := ⟨_, rfl⟩
  obtain ⟨s2, hs2⟩ : ∃ s, s = shortB (x2, y2) := ⟨_, rfl⟩
  have HS1 := Lib.hid (show ∀ W, Calls Try.prog 14 #[.agg #[.int .i64 x1, .int .i64 y1]] W fun e w' => e = .returned (.bool s1) ∧ Below W.heap.size W w' from fun W => by rw [hs1]; exact short_c (x1, y1) W)
  have HS2 := Lib.hid (show ∀ W, Calls Try.prog 14 #[.agg #[.int .i64 x2, .int .i64 y2]] W fun e w' => e = .returned (.bool s2) ∧ Below W.heap.size W w' from fun W => by rw [hs2]; exact short_c (x2, y2) W)
  have HE1 := Lib.hid (show s1 = true → ∀ W, (Op.equalIn 10000 23 (.agg #[.int .i64 u1, .int .i64 v1]) (.agg #[.int .i64 x1, .int .i64 y1])).run Try.prog W = .ok true W from fun h W => by
    have h2 : (u1, v1) = (x1, y1) := by rw [hu1, hP1, unpack_pack _ (by rw [← hs1]; exact h)]
    injection h2 with h3 h4
    subst h3
    subst h4
    have h5 := eqK (u1, v1) (u1, v1) W
    rw [decide_eq_true rfl] at h5
    exact h5)
  have HE2 := Lib.hid (show s2 = true → ∀ W, (Op.equalIn 10000 23 (.agg #[.int .i64 u2, .int .i64 v2]) (.agg #[.int .i64 x2, .int .i64 y2])).run Try.prog W = .ok true W from fun h W => by
    have h2 : (u2, v2) = (x2, y2) := by rw [hu2, hP2, unpack_pack _ (by rw [← hs2]; exact h)]
    injection h2 with h3 h4
    subst h3
    subst h4
    have h5 := eqK (u2, v2) (u2, v2) W
    rw [decide_eq_true rfl] at h5
    exact h5)
  have HPZ := Lib.hid (show s1 = true → s2 = true → (P1 == P2) = (c == 0) from fun h1 h2 => by
    rw [HZ.out, hP1, hP2, Bool.eq_iff_iff, beq_iff_eq, decide_eq_true_eq]
    constructor
    · intro h
      rw [← unpack_pack _ (by rw [← hs1]; exact h1 : shortB (x1, y1) = true), h, unpack_pack _ (by rw [← hs2]; exact h2)]
    · intro h; rw [h])
  clear wx1 wy1 wx2 wy2 hA hB hW hc hl hP1 hP2 hu1 hu2 hs1 hs2
  go_enter Try.func3, Try.ntmps3
  go_wp2_with fail
  rw [← hW0, ← hH]
  clear hW0 hH
  refine Calls.mono (known10_c _) ?_
  rintro e w1 ⟨rfl, b1⟩
  have HA := Lib.hid (HK.out.1.below b1 HK.out.1.lt)
  have HB := Lib.hid (HK.out.2.1.below b1 HK.out.2.1.lt)
  have HW := Lib.hid (HK.out.2.2.trans (b1.mono HK.out.2.2.size))
  clear b1 HK
  obtain ⟨c0, c1⟩ := HA.out.two
  obtain ⟨d0, d1⟩ := HB.out.two
  go_wp2_with fail
  refine Calls.mono (HC.out _) ?_
  rintro e w2 ⟨rfl, b2⟩
  have HA2 := Lib.hid (HA.out.below b2 HA.out.lt)
  have HB2 := Lib.hid (HB.out.below b2 HB.out.lt)
  have HW2 := Lib.hid (HW.out.trans (b2.mono HW.out.size))
  clear b2 c0 c1 d0 d1 HC
  go_wp2_with fail
  refine kt_reg _ _ _ H (H + 1) x1 y1 x2 y2 c (-c) HA2.out.lt HB2.out.lt HA2.out.two.1 HA2.out.two.2 HB2.out.two.1 HB2.out.two.2 HR HD rfl HWR.out rfl rfl rfl rfl ?_
  intro vals w3 hG h0
  unfold IsV at h0
  simp only [putD, Act.put, List.setIfInBounds_toArray, List.set_cons_zero, List.set_cons_succ, h0]
  have HA3 := Lib.hid (HA2.out.below hG HA2.out.lt)
  have HB3 := Lib.hid (HB2.out.below hG HB2.out.lt)
  have HW3 := Lib.hid (HW2.out.trans (hG.mono HW2.out.size))
  clear h0 hG HR HD HWR
  obtain ⟨c0, c1⟩ := HA3.out.two
  obtain ⟨d0, d1⟩ := HB3.out.two
  go_wp2_with fail
  refine Calls.mono (HP1.out _) ?_
  rintro e w4 ⟨rfl, b4⟩
  have HA4 := Lib.hid (HA3.out.below b4 HA3.out.lt)
  have HB4 := Lib.hid (HB3.out.below b4 HB3.out.lt)
  have HW4 := Lib.hid (HW3.out.trans (b4.mono HW3.out.size))
  clear b4 c0 c1 d0 d1
  go_wp2_with fail
  refine Calls.mono (HU1.out _) ?_
  rintro e w5 ⟨rfl, b5⟩
  obtain ⟨E5, hE5⟩ : ∃ E, E = w5.heap.size := ⟨_, rfl⟩
  obtain ⟨w6, hw6⟩ : ∃ X, X = w5.alloc (.cells #[.int .i64 u1, .int .i64 v1] 23) := ⟨_, rfl⟩
  have b6 : Below w4.heap.size w4 w6 := by rw [hw6]; exact b5.trans ((Gw.alloc w5 _).mono b5.size)
  have HE6 := Lib.hid (show Bk w6 E5 23 #[.int .i64 u1, .int .i64 v1] from by rw [hw6, hE5]; exact Bk.new w5 _ _)
  have HA6 := Lib.hid (HA4.out.below b6 HA4.out.lt)
  have HB6 := Lib.hid (HB4.out.below b6 HB4.out.lt)
  have HW6 := Lib.hid (HW4.out.trans (b6.mono HW4.out.size))
  obtain ⟨c0, c1⟩ := HA6.out.two
  obtain ⟨d0, d1⟩ := HB6.out.two
  clear b5 b6 HU1
  rw [hw6] at c0 c1 d0 d1
  go_wp2_with fail
  rw [← hw6, ← hE5]
  clear c0 c1 d0 d1
  refine Calls.mono (HP2.out _) ?_
  rintro e w7 ⟨rfl, b7⟩
  have HA7 := Lib.hid (HA6.out.below b7 HA6.out.lt)
  have HB7 := Lib.hid (HB6.out.below b7 HB6.out.lt)
  have HE7 := Lib.hid (HE6.out.below b7 HE6.out.lt)
  have HW7 := Lib.hid (HW6.out.trans (b7.mono HW6.out.size))
  clear b7 hw6 hE5
  go_wp2_with fail
  refine Calls.mono (HU2.out _) ?_
  rintro e w8 ⟨rfl, b8⟩
  obtain ⟨F8, hF8⟩ : ∃ E, E = w8.heap.size := ⟨_, rfl⟩
  obtain ⟨w9, hw9⟩ : ∃ X, X = w8.alloc (.cells #[.int .i64 u2, .int .i64 v2] 23) := ⟨_, rfl⟩
  have b9 : Below w7.heap.size w7 w9 := by rw [hw9]; exact b8.trans ((Gw.alloc w8 _).mono b8.size)
  have HF9 := Lib.hid (show Bk w9 F8 23 #[.int .i64 u2, .int .i64 v2] from by rw [hw9, hF8]; exact Bk.new w8 _ _)
  have HA9 := Lib.hid (HA7.out.below b9 HA7.out.lt)
  have HB9 := Lib.hid (HB7.out.below b9 HB7.out.lt)
  have HE9 := Lib.hid (HE7.out.below b9 HE7.out.lt)
  have HW9 := Lib.hid (HW7.out.trans (b9.mono HW7.out.size))
  clear b8 b9 HU2
  go_wp2_with fail
  rw [← hw9, ← hF8]
  clear hw9 hF8
  cases s1 <;> cases s2
  · refine kt00_reg _ _ _ H (H + 1) E5 F8 x1 y1 x2 y2 u1 v1 u2 v2 P1 P2 c HA9.out.lt HB9.out.lt HE9.out.lt HF9.out.lt HA9.out.two.1 HA9.out.two.2 HB9.out.two.1 HB9.out.two.2 HE9.out.two.1 HE9.out.two.2 HF9.out.two.1 HF9.out.two.2 HP1 HP2 HS1 HS2 rfl rfl rfl ?_
    intro vals w10 hG h0
    unfold IsV at h0
    simp only [putD, Act.put, List.setIfInBounds_toArray, List.set_cons_zero, List.set_cons_succ, h0]
    clear h0
    go_wp2_with fail
    go_ret
    exact ⟨rfl, HW9.out.trans (hG.mono HW9.out.size)⟩
  · refine kt01_reg _ _ _ H (H + 1) E5 F8 x1 y1 x2 y2 u1 v1 u2 v2 P1 P2 c HA9.out.lt HB9.out.lt HE9.out.lt HF9.out.lt HA9.out.two.1 HA9.out.two.2 HB9.out.two.1 HB9.out.two.2 HE9.out.two.1 HE9.out.two.2 HF9.out.two.1 HF9.out.two.2 HP1 HP2 HS1 HS2 (Lib.hid (HE2.out rfl)) rfl rfl rfl rfl ?_
    intro vals w10 hG h0
    unfold IsV at h0
    simp only [putD, Act.put, List.setIfInBounds_toArray, List.set_cons_zero, List.set_cons_succ, h0]
    clear h0
    go_wp2_with fail
    go_ret
    exact ⟨rfl, HW9.out.trans (hG.mono HW9.out.size)⟩
  · refine kt10_reg _ _ _ H (H + 1) E5 F8 x1 y1 x2 y2 u1 v1 u2 v2 P1 P2 c HA9.out.lt HB9.out.lt HE9.out.lt HF9.out.lt HA9.out.two.1 HA9.out.two.2 HB9.out.two.1 HB9.out.two.2 HE9.out.two.1 HE9.out.two.2 HF9.out.two.1 HF9.out.two.2 HP1 HP2 HS1 HS2 (Lib.hid (HE1.out rfl)) rfl rfl rfl rfl ?_
    intro vals w10 hG h0
    unfold IsV at h0
    simp only [putD, Act.put, List.setIfInBounds_toArray, List.set_cons_zero, List.set_cons_succ, h0]
    clear h0
    go_wp2_with fail
    go_ret
    exact ⟨rfl, HW9.out.trans (hG.mono HW9.out.size)⟩
  · refine kt11_reg _ _ _ H (H + 1) E5 F8 x1 y1 x2 y2 u1 v1 u2 v2 P1 P2 c HA9.out.lt HB9.out.lt HE9.out.lt HF9.out.lt HA9.out.two.1 HA9.out.two.2 HB9.out.two.1 HB9.out.two.2 HE9.out.two.1 HE9.out.two.2 HF9.out.two.1 HF9.out.two.2 HP1 HP2 HS1 HS2 (Lib.hid (HE1.out rfl)) (Lib.hid (HE2.out rfl)) (c == 0) (HPZ.out rfl rfl) rfl rfl rfl rfl rfl rfl rfl ?_
    intro vals w10 hG h0
    unfold IsV at h0
    simp only [putD, Act.put, List.setIfInBounds_toArray, List.set_cons_zero, List.set_cons_succ, h0]
    clear h0
    go_wp2_with fail
    go_ret
    exact ⟨rfl, HW9.out.trans (hG.mono HW9.out.size)⟩
end Go.Proofs.Ytgddehhigamkkaa
namespace Go.Proofs.Ytgddehhigamkkaa.keysTwo
open Go.ChangeShapes Go.WideShapes Go.ChangeAt Go.RowKit
open Go.ChangeMaps (open_string shut_string)
set_option linter.unusedVariables false
set_option maxRecDepth 100000 in
theorem lifted (os : Os) (started : os.Started) (H : Type) (enc : TypeId × Value → H) :
    ReturnsInHanded {} Try.checked os 3 .any (Rows.keysTwoSpec.pre6 enc Try.prog Try.f3 Rows.keysTwoRow.domain false) (Rows.keysTwoSpec.post enc Try.prog Try.f3 false true false false) := by
  refine returnsInHanded_of_change (C := Try.checked) own started (by kernel_rfl) Try.func3
    (ChangeSpec.witness6 (enc := enc) (C := Try.checked) false ⟨#[], #[.agg #[.int .i64 0, .int .i64 0], .agg #[.int .i64 0, .int .i64 0]], []⟩ 8 (by kernel_rfl) (by kernel_rfl) (by kernel_rfl) (by kernel_rfl)) ?_
  intro W base args ds gs before hval0 hW hcnd _
  have hval : ∀ (j : Nat) t v, Try.f3.params[j]? = some t → args[j]? = some v → Value.okWide Try.prog W .any base t v := hval0
  have hW' := hW
  obtain ⟨p, q, hA0, hV, rfl, hfz, hnd⟩ := hW
  have hA : DataW.TrodAll enc Try.prog W 0 (fun _ => true) true Try.f3.params.toList args.toList ds p := hA0
  rw [Try.params3] at hA hval
  obtain ⟨v0, vs0, d0, ds0, p0, q0, hargs, rfl, rfl, h0, r0⟩ := trodAll_cons hA
  obtain ⟨v1, vs1, d1, ds1, p1, q1, rfl, rfl, rfl, h1, r1⟩ := trodAll_cons r0
  obtain ⟨rfl, rfl, rfl⟩ := trodAll_nil r1
  obtain rfl : args = #[v0, v1] := by cases args; simp_all
  obtain ⟨rfl, rfl⟩ := trodVars_none hV
  have k0 := h0
  have lt0 : ∀ x ∈ p0, x.block < W.heap.size := by obtain ⟨m, hm⟩ := k0; exact DataW.trod_lt m _ _ _ hm
  obtain ⟨a0x, a0y, e0v, w0x, w0y⟩ := open_ints2 .i64 .i64 Try.underlying23 (by kernel_rfl) (by kernel_rfl) (by kernel_rfl) (by kernel_rfl) (hval 0 23 v0 rfl rfl) h0; subst e0v
  have k1 := h1
  have lt1 : ∀ x ∈ p1, x.block < W.heap.size := by obtain ⟨m, hm⟩ := k1; exact DataW.trod_lt m _ _ _ hm
  obtain ⟨a1x, a1y, e1v, w1x, w1y⟩ := open_ints2 .i64 .i64 Try.underlying23 (by kernel_rfl) (by kernel_rfl) (by kernel_rfl) (by kernel_rfl) (hval 1 23 v1 rfl rfl) h1; subst e1v
  clear hA0 hval0
  refine (ktwo_walk W a0x w0x a0y w0y a1x w1x a1y w1y).mono fun e W' ⟨he, bel⟩ => ?_
  subst he
  exact ⟨_, rfl, _, _, _, [], _, [], hW', trodAll_mk1 (shut_bool Try.underlying4 _), (trodAll_cons_mk (Below.trod laidOut (by kernel_rfl) (of_decide_eq_true (by kernel_rfl)) k0 bel lt0) (trodAll_cons_mk (Below.trod laidOut (by kernel_rfl) (of_decide_eq_true (by kernel_rfl)) k1 bel lt1) trodAll_mk0)), rfl, bel.frame _, fun h => by cases h⟩
theorem over : Rows.keysTwoRow.holds Try.pinned (OpenSpec.ofChange Rows.keysTwoSpec) :=
  OpenClaim.holds_of_wide 3 Try.f3 rfl rfl rfl rfl rfl rfl rfl ⟨rfl, rfl, rfl, rfl, rfl⟩ rfl rfl rfl rfl rfl (by kernel_rfl) Try.func3 (by kernel_rfl)
    (of_decide_eq_true (by kernel_rfl)) (by unfold Func.isWrapper; first | (rw [if_pos (by decide +kernel)]; kernel_rfl) | (rw [if_neg (by decide +kernel)]; exact ⟨rfl, rfl⟩))
    (fun os started H enc _ => lifted os started H enc)
theorem proved : Rows.KeysTwoSaid := over
end Go.Proofs.Ytgddehhigamkkaa.keysTwo
