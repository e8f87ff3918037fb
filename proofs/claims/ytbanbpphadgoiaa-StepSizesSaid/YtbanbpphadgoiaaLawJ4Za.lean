/- The law StepSizes of layer 22 returns true for every argument. No conditions. -/
import Derived.Test.YtbanbpphadgoiaaZa6
namespace Go.Proofs.Ytbanbpphadgoiaa
set_option linter.unusedVariables false
set_option linter.unusedSimpArgs false
open Go.RowKit Go.Maps
set_option maxHeartbeats 4000000
set_option maxRecDepth 100000
theorem sz_r (Q : Exit → Act → World → Prop) (a0 : Act) (w : World) (N c1 c2 c3 u v : Nat) (A1 A2 A3 : Option Addr) (tp : Int) (hu : u < w.heap.size) (hv : v < w.heap.size) (cu : w.cell? ⟨u, 2, none⟩ = some (.int .i64 tp)) (cv : w.cell? ⟨v, 2, none⟩ = some (.int .i64 tp)) (hp : Hid (∀ W, Below w.heap.size w W → Calls Try.prog 23 #[.slice A1 N c1, .slice A3 N c3] W (RetP (.bool true) W))) (hq : Hid (∀ W, Below w.heap.size w W → Calls Try.prog 23 #[.slice A2 N c2, .slice A3 N c3] W (RetP (.bool true) W))) (hsz : a0.tmps.size = 171) (sl15 : a0.tmps.getD 15 undef = .slice A3 N c3) (sl23 : a0.tmps.getD 23 undef = .pointer (some ⟨u, 0, none⟩)) (sl24 : a0.tmps.getD 24 undef = .slice A1 N c1) (sl25 : a0.tmps.getD 25 undef = .int .i64 0) (sl26 : a0.tmps.getD 26 undef = .pointer (some ⟨v, 0, none⟩)) (sl27 : a0.tmps.getD 27 undef = .slice A2 N c2) (sl28 : a0.tmps.getD 28 undef = .int .i64 0)
    (fin : ∀ (vals : Nat → Value) (w1 : World), Below w.heap.size w w1 → (IsV (.bool false)) (vals 26) w1 → Q .normal (putD vals [115, 116, 117, 118, 119, 120, 121, 122, 123, 124, 125, 126, 127, 128, 129, 130, 131, 132, 133, 134, 135, 136, 137, 138, 139, 140, 141] 0 a0) w1) :
    (Code.region 23 (regIn Try.f6 23) true).wp Try.prog Q a0 w := by
  refine region_by (G := fun w w1 => Below w.heap.size w w1) [IsV (.int .i64 0),
    IsV (.int .i64 0),
    IsV (.int .i64 0),
    IsV (.bool false),
    IsV (.bool false),
    IsV (.slice A1 N c1),
    IsV (.slice A3 N c3),
    IsV (.bool true),
    IsV (.bool false),
    IsV (.bool false),
    IsV (.bool false),
    IsV (.slice A2 N c2),
    IsV (.slice A3 N c3),
    IsV (.bool true),
    IsV (.bool false),
    IsV (.bool false),
    IsV (.bool false),
    IsV (.pointer (some ⟨u, 0, none⟩)),
    IsV (.pointer (some ⟨u, 0, none⟩)),
    IsV (.pointer (some ⟨u, 2, none⟩)),
    IsV (.int .i64 tp),
    IsV (.pointer (some ⟨v, 0, none⟩)),
    IsV (.pointer (some ⟨v, 0, none⟩)),
    IsV (.pointer (some ⟨v, 2, none⟩)),
    IsV (.int .i64 tp),
    IsV (.bool false),
    IsV (.bool false)]
    [115, 116, 117, 118, 119, 120, 121, 122, 123, 124, 125, 126, 127, 128, 129, 130, 131, 132, 133, 134, 135, 136, 137, 138, 139, 140, 141] (by kernel_rfl) (Gw.drew _) Gw.trans (by rw [hsz]; kernel_rfl) (by kernel_rfl) ?_ ?_ ?_
  · intro f hf
    simp only [List.mem_cons, List.not_mem_nil, or_false] at hf
    rcases hf with rfl | rfl | rfl | rfl | rfl | rfl | rfl | rfl | rfl | rfl | rfl | rfl | rfl | rfl | rfl | rfl | rfl | rfl | rfl | rfl | rfl | rfl | rfl | rfl | rfl | rfl | rfl <;> intro v a b h g <;> first | exact IsV.mono h
  · refine ⟨?_, ?_, ?_, ?_, ?_, ?_, ?_, ?_, ?_, ?_, ?_, ?_, ?_, ?_, ?_, ?_, ?_, ?_, ?_, ?_, ?_, ?_, ?_, ?_, ?_, ?_, ?_, trivial⟩
    · exact owes_mv 25 (by kernel_rfl) (by kernel_rfl) (by kernel_rfl) sl25 (fun _ => rfl)
    · exact owes_mv 28 (by kernel_rfl) (by kernel_rfl) (by kernel_rfl) sl28 (fun _ => rfl)
    · refine owes_v (Go.Op.binOp Go.BinOp.add 3 (Go.Operand.tmp 115) (Go.Operand.tmp 116) 3) 3 [0, 1] (by kernel_rfl) (by kernel_rfl) (by kernel_rfl) rfl fun vals w1 ρ hG hF hρ hcst hfun => ?_
      have e115 : ρ (.tmp 115) = .int .i64 0 := ((hρ 115).trans (slotJ [0, 1] (by rw [hsz]; decide) (by kernel_rfl))).trans (hF 0 (by decide))
      have e116 : ρ (.tmp 116) = .int .i64 0 := ((hρ 116).trans (slotJ [0, 1] (by rw [hsz]; decide) (by kernel_rfl))).trans (hF 1 (by decide))
      clear hρ hF hcst hfun sl15 sl23 sl24 sl25 sl26 sl27 sl28 fin
      exact opv_val (by go_simp <;> rfl) ⟨gw_self _, rfl⟩
    · refine owes_v (Go.Op.binOp Go.BinOp.neq 3 (Go.Operand.tmp 117) (Go.Operand.const (Go.Value.int Go.IntKind.i64 0)) 3) 4 [2] (by kernel_rfl) (by kernel_rfl) (by kernel_rfl) rfl fun vals w1 ρ hG hF hρ hcst hfun => ?_
      have e117 : ρ (.tmp 117) = .int .i64 0 := ((hρ 117).trans (slotJ [2] (by rw [hsz]; decide) (by kernel_rfl))).trans (hF 2 (by decide))
      clear hρ hF hfun sl15 sl23 sl24 sl25 sl26 sl27 sl28 fin
      exact opv_val (by go_simp <;> rfl) ⟨gw_self _, rfl⟩
    · exact owes_mvj 3 118 (by kernel_rfl) (by kernel_rfl) (by kernel_rfl) (by kernel_rfl) (by rw [hsz]; decide) (fun v w h => h)
    · refine owes_vt 4 false (Go.Op.move (Go.Operand.tmp 24)) 23 [] (by kernel_rfl) (by kernel_rfl) (by kernel_rfl) (fun _ _ h => h) (by rw [hsz]; kernel_rfl) (by kernel_rfl) rfl fun vals w1 ρ hG hF hρ hcst hfun => ?_
      have e24 : ρ (.tmp 24) = .slice A1 N c1 := ((hρ 24).trans (slotO [] (by kernel_rfl))).trans sl24
      clear hρ hF hcst hfun sl15 sl23 sl24 sl25 sl26 sl27 sl28 fin
      exact opv_val (by go_simp <;> rfl) ⟨gw_self _, rfl⟩
    · refine owes_vt 4 false (Go.Op.move (Go.Operand.tmp 15)) 23 [] (by kernel_rfl) (by kernel_rfl) (by kernel_rfl) (fun _ _ h => h) (by rw [hsz]; kernel_rfl) (by kernel_rfl) rfl fun vals w1 ρ hG hF hρ hcst hfun => ?_
      have e15 : ρ (.tmp 15) = .slice A3 N c3 := ((hρ 15).trans (slotO [] (by kernel_rfl))).trans sl15
      clear hρ hF hcst hfun sl15 sl23 sl24 sl25 sl26 sl27 sl28 fin
      exact opv_val (by go_simp <;> rfl) ⟨gw_self _, rfl⟩
    · refine owes_vt 4 false (Go.Op.call { callee := Go.Callee.value (Go.Operand.func 23), args := #[Go.Operand.tmp 120, Go.Operand.tmp 121], argTypes := #[23, 23] }) 4 [5, 6] (by kernel_rfl) (by kernel_rfl) (by kernel_rfl) (fun _ _ h => h) (by rw [hsz]; kernel_rfl) (by kernel_rfl) rfl fun vals w1 ρ hG hF hρ hcst hfun => ?_
      have e120 : ρ (.tmp 120) = .slice A1 N c1 := ((hρ 120).trans (slotJ [5, 6] (by rw [hsz]; decide) (by kernel_rfl))).trans (hF 5 (by decide))
      have e121 : ρ (.tmp 121) = .slice A3 N c3 := ((hρ 121).trans (slotJ [5, 6] (by rw [hsz]; decide) (by kernel_rfl))).trans (hF 6 (by decide))
      clear hρ hF hcst sl15 sl23 sl24 sl25 sl26 sl27 sl28 fin
      exact opv_enter (by go_simp <;> rfl) (of_ret (hp.out w1 hG))
    · refine owes_vt 4 false (Go.Op.unOp Go.UnOp.not 4 (Go.Operand.tmp 122)) 4 [7] (by kernel_rfl) (by kernel_rfl) (by kernel_rfl) (fun _ _ h => h) (by rw [hsz]; kernel_rfl) (by kernel_rfl) rfl fun vals w1 ρ hG hF hρ hcst hfun => ?_
      have e122 : ρ (.tmp 122) = .bool true := ((hρ 122).trans (slotJ [7] (by rw [hsz]; decide) (by kernel_rfl))).trans (hF 7 (by decide))
      clear hρ hF hcst hfun sl15 sl23 sl24 sl25 sl26 sl27 sl28 fin
      exact opv_val (by go_simp <;> rfl) ⟨gw_self _, rfl⟩
    · refine owes_v (Go.Op.pick (Go.Operand.tmp 119) (Go.Operand.const (Go.Value.bool true)) (Go.Operand.tmp 123)) 4 [4, 8] (by kernel_rfl) (by kernel_rfl) (by kernel_rfl) rfl fun vals w1 ρ hG hF hρ hcst hfun => ?_
      have e119 : ρ (.tmp 119) = .bool false := ((hρ 119).trans (slotJ [4, 8] (by rw [hsz]; decide) (by kernel_rfl))).trans (hF 4 (by decide))
      have e123 : ρ (.tmp 123) = .bool false := ((hρ 123).trans (slotJ [4, 8] (by rw [hsz]; decide) (by kernel_rfl))).trans (hF 8 (by decide))
      clear hρ hF hfun sl15 sl23 sl24 sl25 sl26 sl27 sl28 fin
      exact opv_val (by go_simp <;> rfl) ⟨gw_self _, rfl⟩
    · exact owes_mvj 9 124 (by kernel_rfl) (by kernel_rfl) (by kernel_rfl) (by kernel_rfl) (by rw [hsz]; decide) (fun v w h => h)
    · refine owes_vt 10 false (Go.Op.move (Go.Operand.tmp 27)) 23 [] (by kernel_rfl) (by kernel_rfl) (by kernel_rfl) (fun _ _ h => h) (by rw [hsz]; kernel_rfl) (by kernel_rfl) rfl fun vals w1 ρ hG hF hρ hcst hfun => ?_
      have e27 : ρ (.tmp 27) = .slice A2 N c2 := ((hρ 27).trans (slotO [] (by kernel_rfl))).trans sl27
      clear hρ hF hcst hfun sl15 sl23 sl24 sl25 sl26 sl27 sl28 fin
      exact opv_val (by go_simp <;> rfl) ⟨gw_self _, rfl⟩
    · refine owes_vt 10 false (Go.Op.move (Go.Operand.tmp 15)) 23 [] (by kernel_rfl) (by kernel_rfl) (by kernel_rfl) (fun _ _ h => h) (by rw [hsz]; kernel_rfl) (by kernel_rfl) rfl fun vals w1 ρ hG hF hρ hcst hfun => ?_
      have e15 : ρ (.tmp 15) = .slice A3 N c3 := ((hρ 15).trans (slotO [] (by kernel_rfl))).trans sl15
      clear hρ hF hcst hfun sl15 sl23 sl24 sl25 sl26 sl27 sl28 fin
      exact opv_val (by go_simp <;> rfl) ⟨gw_self _, rfl⟩
    · refine owes_vt 10 false (Go.Op.call { callee := Go.Callee.value (Go.Operand.func 23), args := #[Go.Operand.tmp 126, Go.Operand.tmp 127], argTypes := #[23, 23] }) 4 [11, 12] (by kernel_rfl) (by kernel_rfl) (by kernel_rfl) (fun _ _ h => h) (by rw [hsz]; kernel_rfl) (by kernel_rfl) rfl fun vals w1 ρ hG hF hρ hcst hfun => ?_
      have e126 : ρ (.tmp 126) = .slice A2 N c2 := ((hρ 126).trans (slotJ [11, 12] (by rw [hsz]; decide) (by kernel_rfl))).trans (hF 11 (by decide))
      have e127 : ρ (.tmp 127) = .slice A3 N c3 := ((hρ 127).trans (slotJ [11, 12] (by rw [hsz]; decide) (by kernel_rfl))).trans (hF 12 (by decide))
      clear hρ hF hcst sl15 sl23 sl24 sl25 sl26 sl27 sl28 fin
      exact opv_enter (by go_simp <;> rfl) (of_ret (hq.out w1 hG))
    · refine owes_vt 10 false (Go.Op.unOp Go.UnOp.not 4 (Go.Operand.tmp 128)) 4 [13] (by kernel_rfl) (by kernel_rfl) (by kernel_rfl) (fun _ _ h => h) (by rw [hsz]; kernel_rfl) (by kernel_rfl) rfl fun vals w1 ρ hG hF hρ hcst hfun => ?_
      have e128 : ρ (.tmp 128) = .bool true := ((hρ 128).trans (slotJ [13] (by rw [hsz]; decide) (by kernel_rfl))).trans (hF 13 (by decide))
      clear hρ hF hcst hfun sl15 sl23 sl24 sl25 sl26 sl27 sl28 fin
      exact opv_val (by go_simp <;> rfl) ⟨gw_self _, rfl⟩
    · refine owes_v (Go.Op.pick (Go.Operand.tmp 125) (Go.Operand.const (Go.Value.bool true)) (Go.Operand.tmp 129)) 4 [10, 14] (by kernel_rfl) (by kernel_rfl) (by kernel_rfl) rfl fun vals w1 ρ hG hF hρ hcst hfun => ?_
      have e125 : ρ (.tmp 125) = .bool false := ((hρ 125).trans (slotJ [10, 14] (by rw [hsz]; decide) (by kernel_rfl))).trans (hF 10 (by decide))
      have e129 : ρ (.tmp 129) = .bool false := ((hρ 129).trans (slotJ [10, 14] (by rw [hsz]; decide) (by kernel_rfl))).trans (hF 14 (by decide))
      clear hρ hF hfun sl15 sl23 sl24 sl25 sl26 sl27 sl28 fin
      exact opv_val (by go_simp <;> rfl) ⟨gw_self _, rfl⟩
    · exact owes_mvj 15 130 (by kernel_rfl) (by kernel_rfl) (by kernel_rfl) (by kernel_rfl) (by rw [hsz]; decide) (fun v w h => h)
    · refine owes_vt 16 false (Go.Op.move (Go.Operand.tmp 23)) 26 [] (by kernel_rfl) (by kernel_rfl) (by kernel_rfl) (fun _ _ h => h) (by rw [hsz]; kernel_rfl) (by kernel_rfl) rfl fun vals w1 ρ hG hF hρ hcst hfun => ?_
      have e23 : ρ (.tmp 23) = .pointer (some ⟨u, 0, none⟩) := ((hρ 23).trans (slotO [] (by kernel_rfl))).trans sl23
      clear hρ hF hcst hfun sl15 sl23 sl24 sl25 sl26 sl27 sl28 fin
      exact opv_val (by go_simp <;> rfl) ⟨gw_self _, rfl⟩
    · refine owes_vt 16 false (Go.Op.nilCheck (Go.Operand.tmp 132)) 0 [17] (by kernel_rfl) (by kernel_rfl) (by kernel_rfl) (fun _ _ h => h) (by rw [hsz]; kernel_rfl) (by kernel_rfl) rfl fun vals w1 ρ hG hF hρ hcst hfun => ?_
      have e132 : ρ (.tmp 132) = .pointer (some ⟨u, 0, none⟩) := ((hρ 132).trans (slotJ [17] (by rw [hsz]; decide) (by kernel_rfl))).trans (hF 17 (by decide))
      clear hρ hF hcst hfun sl15 sl23 sl24 sl25 sl26 sl27 sl28 fin
      exact opv_val (by go_simp <;> rfl) ⟨gw_self _, rfl⟩
    · refine owes_vt 16 false (Go.Op.fieldAddr 61 (Go.Operand.tmp 133) 2) 0 [18] (by kernel_rfl) (by kernel_rfl) (by kernel_rfl) (fun _ _ h => h) (by rw [hsz]; kernel_rfl) (by kernel_rfl) rfl fun vals w1 ρ hG hF hρ hcst hfun => ?_
      have e133 : ρ (.tmp 133) = .pointer (some ⟨u, 0, none⟩) := ((hρ 133).trans (slotJ [18] (by rw [hsz]; decide) (by kernel_rfl))).trans (hF 18 (by decide))
      clear hρ hF hcst hfun sl15 sl23 sl24 sl25 sl26 sl27 sl28 fin
      exact opv_val (by go_simp <;> rfl) ⟨gw_self _, rfl⟩
    · refine owes_vt 16 false (Go.Op.load 3 (Go.Operand.tmp 134)) 3 [19] (by kernel_rfl) (by kernel_rfl) (by kernel_rfl) (fun _ _ h => h) (by rw [hsz]; kernel_rfl) (by kernel_rfl) rfl fun vals w1 ρ hG hF hρ hcst hfun => ?_
      have e134 : ρ (.tmp 134) = .pointer (some ⟨u, 2, none⟩) := ((hρ 134).trans (slotJ [19] (by rw [hsz]; decide) (by kernel_rfl))).trans (hF 19 (by decide))
      have k := (hG.cell (p := ⟨u, 2, none⟩) hu).trans cu
      clear hρ hF hcst hfun sl15 sl23 sl24 sl25 sl26 sl27 sl28 fin
      exact opv_val (by go_simp <;> rfl) ⟨gw_self _, rfl⟩
    · refine owes_vt 16 false (Go.Op.move (Go.Operand.tmp 26)) 26 [] (by kernel_rfl) (by kernel_rfl) (by kernel_rfl) (fun _ _ h => h) (by rw [hsz]; kernel_rfl) (by kernel_rfl) rfl fun vals w1 ρ hG hF hρ hcst hfun => ?_
      have e26 : ρ (.tmp 26) = .pointer (some ⟨v, 0, none⟩) := ((hρ 26).trans (slotO [] (by kernel_rfl))).trans sl26
      clear hρ hF hcst hfun sl15 sl23 sl24 sl25 sl26 sl27 sl28 fin
      exact opv_val (by go_simp <;> rfl) ⟨gw_self _, rfl⟩
    · refine owes_vt 16 false (Go.Op.nilCheck (Go.Operand.tmp 136)) 0 [21] (by kernel_rfl) (by kernel_rfl) (by kernel_rfl) (fun _ _ h => h) (by rw [hsz]; kernel_rfl) (by kernel_rfl) rfl fun vals w1 ρ hG hF hρ hcst hfun => ?_
      have e136 : ρ (.tmp 136) = .pointer (some ⟨v, 0, none⟩) := ((hρ 136).trans (slotJ [21] (by rw [hsz]; decide) (by kernel_rfl))).trans (hF 21 (by decide))
      clear hρ hF hcst hfun sl15 sl23 sl24 sl25 sl26 sl27 sl28 fin
      exact opv_val (by go_simp <;> rfl) ⟨gw_self _, rfl⟩
    · refine owes_vt 16 false (Go.Op.fieldAddr 61 (Go.Operand.tmp 137) 2) 0 [22] (by kernel_rfl) (by kernel_rfl) (by kernel_rfl) (fun _ _ h => h) (by rw [hsz]; kernel_rfl) (by kernel_rfl) rfl fun vals w1 ρ hG hF hρ hcst hfun => ?_
      have e137 : ρ (.tmp 137) = .pointer (some ⟨v, 0, none⟩) := ((hρ 137).trans (slotJ [22] (by rw [hsz]; decide) (by kernel_rfl))).trans (hF 22 (by decide))
      clear hρ hF hcst hfun sl15 sl23 sl24 sl25 sl26 sl27 sl28 fin
      exact opv_val (by go_simp <;> rfl) ⟨gw_self _, rfl⟩
    · refine owes_vt 16 false (Go.Op.load 3 (Go.Operand.tmp 138)) 3 [23] (by kernel_rfl) (by kernel_rfl) (by kernel_rfl) (fun _ _ h => h) (by rw [hsz]; kernel_rfl) (by kernel_rfl) rfl fun vals w1 ρ hG hF hρ hcst hfun => ?_
      have e138 : ρ (.tmp 138) = .pointer (some ⟨v, 2, none⟩) := ((hρ 138).trans (slotJ [23] (by rw [hsz]; decide) (by kernel_rfl))).trans (hF 23 (by decide))
      have k := (hG.cell (p := ⟨v, 2, none⟩) hv).trans cv
      clear hρ hF hcst hfun sl15 sl23 sl24 sl25 sl26 sl27 sl28 fin
      exact opv_val (by go_simp <;> rfl) ⟨gw_self _, rfl⟩
    · refine owes_vt 16 false (Go.Op.binOp Go.BinOp.neq 3 (Go.Operand.tmp 135) (Go.Operand.tmp 139) 3) 4 [20, 24] (by kernel_rfl) (by kernel_rfl) (by kernel_rfl) (fun _ _ h => h) (by rw [hsz]; kernel_rfl) (by kernel_rfl) rfl fun vals w1 ρ hG hF hρ hcst hfun => ?_
      have e135 : ρ (.tmp 135) = .int .i64 tp := ((hρ 135).trans (slotJ [20, 24] (by rw [hsz]; decide) (by kernel_rfl))).trans (hF 20 (by decide))
      have e139 : ρ (.tmp 139) = .int .i64 tp := ((hρ 139).trans (slotJ [20, 24] (by rw [hsz]; decide) (by kernel_rfl))).trans (hF 24 (by decide))
      clear hρ hF hcst hfun sl15 sl23 sl24 sl25 sl26 sl27 sl28 fin
      exact opv_val (by go_simp <;> rfl) ⟨gw_self _, rfl⟩
    · refine owes_v (Go.Op.pick (Go.Operand.tmp 131) (Go.Operand.const (Go.Value.bool true)) (Go.Operand.tmp 140)) 4 [16, 25] (by kernel_rfl) (by kernel_rfl) (by kernel_rfl) rfl fun vals w1 ρ hG hF hρ hcst hfun => ?_
      have e131 : ρ (.tmp 131) = .bool false := ((hρ 131).trans (slotJ [16, 25] (by rw [hsz]; decide) (by kernel_rfl))).trans (hF 16 (by decide))
      have e140 : ρ (.tmp 140) = .bool false := ((hρ 140).trans (slotJ [16, 25] (by rw [hsz]; decide) (by kernel_rfl))).trans (hF 25 (by decide))
      clear hρ hF hfun sl15 sl23 sl24 sl25 sl26 sl27 sl28 fin
      exact opv_val (by go_simp <;> rfl) ⟨gw_self _, rfl⟩
  · intro vals w1 hG hF
    exact fin vals w1 hG (hF 26 (by decide +kernel))
def SzS (roots : List Int) (s : Sc) (i c : Nat) : Prop := doneS (roots.map rootP) s = true ∨ i ≤ c
/-- Two collectors, and what lies below them. -/
def TwoC (ws : List (BitVec 64)) (l : List Nat) (b t : Nat) (roots : List Int) (w3 W : World) (Bx Qx : Nat) (fx : CoF) (By Qy : Nat) (fy : CoF) (sx : Sc) (cx : Nat) (sy : Sc) (cy : Nat) : Prop :=
  ∃ (Sx : Nat → Prop) (xx : Value) (Sy : Nat → Prop) (xy : Value), ColL ws l b t roots W Bx Sx Qx fx xx sx cx ∧ ColL ws l b t roots W By Sy Qy fy xy sy cy ∧ (∀ j, Sx j → ¬ Sy j) ∧ Below Bx w3 W ∧ Bx ≤ By ∧ Bx = w3.heap.size
section
variable {ws : List (BitVec 64)} {l : List Nat} {b t : Nat} {roots : List Int} {w3 W : World} {Bx Qx : Nat} {fx : CoF} {By Qy : Nat} {fy : CoF} {sx : Sc} {cx : Nat} {sy : Sc} {cy : Nat}
theorem TwoC.below {W' : World} (h : TwoC ws l b t roots w3 W Bx Qx fx By Qy fy sx cx sy cy) (hb : Below W.heap.size W W') : TwoC ws l b t roots w3 W' Bx Qx fx By Qy fy sx cx sy cy := by
  obtain ⟨Sx, xx, Sy, xy, h1, h2, h3, h4, h5, h6⟩ := h
  exact ⟨Sx, xx, Sy, xy, h1.below hb, h2.below hb, h3, h4.trans (hb.mono (by have := h4.size; omega)), h5, h6⟩
theorem two_x (L : Lw ws l b t roots) (h : TwoC ws l b t roots w3 W Bx Qx fx By Qy fy sx cx sy cy) (n : Int) (hn : n ≤ 9223372036854775807) :
    Calls Try.prog 15 #[.pointer (some ⟨Qx, 0, none⟩), .int .i64 n] W fun r w' => ∃ (bo : Bool) (s' : Sc) (c' : Nat), r = .returned (.tuple #[.bool bo, .int .i64 0]) ∧ TwoC ws l b t roots w3 w' Bx Qx fx By Qy fy s' c' sy cy ∧ (doneS (roots.map rootP) s' = true ∨ c' = cx + n.toNat) := by
  obtain ⟨Sx, xx, Sy, xy, h1, h2, h3, h4, h5, h6⟩ := h
  refine (lstep_c W L h1 n hn).mono ?_
  rintro r w' ⟨s', c', S', x', rfl, p, k, hS, _, hd, _⟩
  refine ⟨_, s', c', rfl, ⟨S', x', Sy, xy, p, h2.kept k (fun j hj hs => h3 j hs hj), fun j hj hy => ?_, h4.trans (k.below (by have := h4.size; omega) (fun k hk => (h1.co.own k hk).1)), h5, h6⟩, hd⟩
  rcases hS j hj with h | h
  · exact h3 j h hy
  · have := (h2.co.own j hy).2; omega
theorem two_y (L : Lw ws l b t roots) (h : TwoC ws l b t roots w3 W Bx Qx fx By Qy fy sx cx sy cy) (n : Int) (hn : n ≤ 9223372036854775807) :
    Calls Try.prog 15 #[.pointer (some ⟨Qy, 0, none⟩), .int .i64 n] W fun r w' => ∃ (bo : Bool) (s' : Sc) (c' : Nat), r = .returned (.tuple #[.bool bo, .int .i64 0]) ∧ TwoC ws l b t roots w3 w' Bx Qx fx By Qy fy sx cx s' c' ∧ (doneS (roots.map rootP) s' = true ∨ c' = cy + n.toNat) := by
  obtain ⟨Sx, xx, Sy, xy, h1, h2, h3, h4, h5, h6⟩ := h
  refine (lstep_c W L h2 n hn).mono ?_
  rintro r w' ⟨s', c', S', x', rfl, p, k, hS, _, hd, _⟩
  refine ⟨_, s', c', rfl, ⟨Sx, xx, S', x', h1.kept k h3, p, fun j hj hy => ?_, h4.trans (k.below (by have := h4.size; omega) (fun k hk => Nat.le_trans h5 (h2.co.own k hk).1)), h5, h6⟩, hd⟩
  rcases hS j hy with h | h
  · exact h3 j hj h
  · have := (h1.co.own j hj).2; omega
theorem two_dx (L : Lw ws l b t roots) (h : TwoC ws l b t roots w3 W Bx Qx fx By Qy fy sx cx sy cy) : Calls Try.prog 19 #[.pointer (some ⟨Qx, 0, none⟩)] W (RetP (.bool (doneS (roots.map rootP) sx)) W) := by
  obtain ⟨Sx, xx, Sy, xy, h1, _⟩ := h
  exact ldone_c W L h1
theorem two_dy (L : Lw ws l b t roots) (h : TwoC ws l b t roots w3 W Bx Qx fx By Qy fy sx cx sy cy) : Calls Try.prog 19 #[.pointer (some ⟨Qy, 0, none⟩)] W (RetP (.bool (doneS (roots.map rootP) sy)) W) := by
  obtain ⟨Sx, xx, Sy, xy, _, h1, _⟩ := h
  exact ldone_c W L h1
theorem TwoC.ms (h : TwoC ws l b t roots w3 W Bx Qx fx By Qy fy sx cx sy cy) : cx ≤ 330 ∧ cy ≤ 330 := by
  obtain ⟨Sx, xx, Sy, xy, h1, h2, _⟩ := h
  have := h1.ms
  have := h2.ms
  omega
theorem TwoC.bel (h : TwoC ws l b t roots w3 W Bx Qx fx By Qy fy sx cx sy cy) : Below w3.heap.size w3 W := by
  obtain ⟨Sx, xx, Sy, xy, h1, h2, _, h4, _, h6⟩ := h
  rw [← h6]; exact h4
end
theorem sizes_walk (w : World) (A : Option Addr) (ws : List (BitVec 64)) (c : Nat) (_g : ws.length ≤ c) (_m : c ≤ maxLen) (hr : Rd u64v w w.heap.size A ws) (b : Int) (_w1 : (Lit.int .i64 b).wf = true) (t : Int) (_w2 : (Lit.int .i64 t).wf = true) (A2 : Option Addr) (roots : List Int) (c2 : Nat) (_g2 : roots.length ≤ c2) (_m2 : c2 ≤ maxLen) (hr2 : Rd inV w w.heap.size A2 roots ∧ ∀ x ∈ roots, (Lit.int .i64 x).wf = true) (n : Int) (w3 : (Lit.int .u8 n).wf = true) (n2 : Int) (w4 : (Lit.int .u8 n2).wf = true) :
    Calls Try.prog 6 #[.slice A ws.length c, .int .i64 b, .int .i64 t, .slice A2 roots.length c2, .int .u8 n, .int .u8 n2] w (RetP (.bool true) w) := by
  have hn : 0 ≤ n ∧ n ≤ 255 := by simp [Lit.wf, IntKind.min, IntKind.max, IntKind.signed, IntKind.bits] at w3; omega
  have hn2 : 0 ≤ n2 ∧ n2 ≤ 255 := by simp [Lit.wf, IntKind.min, IntKind.max, IntKind.signed, IntKind.bits] at w4; omega
  have HK := Lib.hid (known22_c w)
  have HR := Lib.hid hr
  have HR2 := Lib.hid (show Rd zV w w.heap.size A2 roots ∧ ∀ x ∈ roots, kW x from hr2)
  obtain ⟨N, hN⟩ : ∃ N, N = ws.length := ⟨_, rfl⟩
  obtain ⟨M, hM⟩ : ∃ N, N = roots.length := ⟨_, rfl⟩
  have hNm : (N : Int) ≤ 9223372036854775807 := by have h1 := _g; have h2 := _m; simp [maxLen] at h2; omega
  have hMm : (M : Int) ≤ 9223372036854775807 := by have h1 := _g2; have h2 := _m2; simp [maxLen] at h2; omega
  clear _g _m hr _w1 _w2 _g2 _m2 hr2 w3 w4
  by_cases hl : 250 < N ∨ 30 < M
  · rw [← hN, ← hM]
    clear hN hM hn hn2
    have t1 : ¬ ((N : Int) ≤ 250 ∧ (M : Int) ≤ 30) := by omega
    go_enter Try.func6, Try.ntmps6
    go_wp2_with fail
    refine Calls.mono HK.out ?_
    rintro r w1 ⟨rfl, b1⟩
    have HB1 := Lib.hid b1
    clear b1
    by_cases q1 : (250 : Int) < (N : Int)
    · go_wp2_with fail
      go_ret
      exact ⟨rfl, HB1.out⟩
    · have q2 : (30 : Int) < (M : Int) := by omega
      go_wp2_with fail
      go_ret
      exact ⟨rfl, HB1.out⟩
  have q1 : ¬ (250 : Int) < (N : Int) := by omega
  have q2 : ¬ (30 : Int) < (M : Int) := by omega
  obtain ⟨R, hRr⟩ : ∃ R, R = n.toNat % 9 := ⟨_, rfl⟩
  have m1 : n % 9 = (R : Int) := by omega
  have m2 : n.tmod 9 = (R : Int) := by rw [Int.tmod_eq_emod_of_nonneg hn.1]; exact m1
  have m3 : (R : Int) < 9 := by omega
  have m0 : (0 : Int) ≤ (R : Int) := by omega
  obtain ⟨K, hK⟩ : ∃ K, K = 1 + R := ⟨_, rfl⟩
  have m4 : (1 : Int) + (R : Int) = (K : Int) := by omega
  have HKk := Lib.hid (show 1 ≤ K ∧ K ≤ 10 by omega)
  obtain ⟨R2, hRr2⟩ : ∃ R, R = n2.toNat % 9 := ⟨_, rfl⟩
  have m12 : n2 % 9 = (R2 : Int) := by omega
  have m22 : n2.tmod 9 = (R2 : Int) := by rw [Int.tmod_eq_emod_of_nonneg hn2.1]; exact m12
  have m32 : (R2 : Int) < 9 := by omega
  have m02 : (0 : Int) ≤ (R2 : Int) := by omega
  obtain ⟨K2, hK2⟩ : ∃ K, K = 1 + R2 := ⟨_, rfl⟩
  have m42 : (1 : Int) + (R2 : Int) = (K2 : Int) := by omega
  have HKk2 := Lib.hid (show 1 ≤ K2 ∧ K2 ≤ 10 by omega)
  have HTo := Lib.hid (fun W hr => to_c W A ws c hr (by omega) b t (ws.length : Int))
  have HCp := Lib.hid (fun W B s g v b t e (p : SpAt W B s g v ws b t e) l ho (hr : Rd zV W W.heap.size A2 roots) => lcopy_c W B s g v ws b t e p (by omega) l ho A2 roots c2 hr (by omega) HR2.out.2)
  have HNw := Lib.hid (fun W B s g v b t e (p : SpAt W B s g v ws b t e) l ho (hr : Rd zV W W.heap.size A2 roots) => lnew_c W B s g v ws b t e p (by omega) l ho A2 roots c2 hr (by omega) HR2.out.2)
  have HN := Lib.hid (And.intro hN hM)
  rw [← hN] at HTo ⊢
  rw [← hM] at HNw HCp ⊢
  clear hN hM hl hNm hMm hRr hK hRr2 hK2
  go_enter Try.func6, Try.ntmps6
  go_wp2_with fail
  refine Calls.mono HK.out ?_
  rintro r w1 ⟨rfl, b1⟩
  have HB1 := Lib.hid b1
  clear b1
  go_wp2_with fail
  refine Calls.mono (HTo.out w1 ((HR.out.below HB1.out).more HB1.out.size)) ?_
  rintro r w2 (⟨rfl, b2⟩ | ⟨B, T, E, s, g, v, l, rfl, rfl, hE, hBT, hTE, hEl, hob, rfl, hsp, b2⟩)
  · have HB2 := Lib.hid (HB1.out.trans (b2.mono HB1.out.size))
    clear b2
    go_wp2_with fail
    go_ret
    exact ⟨rfl, HB2.out⟩
  · have HB2 := Lib.hid (HB1.out.trans (b2.mono HB1.out.size))
    have HCp2 := Lib.hid (HCp.out w2 w1.heap.size s g v B T E hsp l hob ((HR2.out.1.below HB2.out).more HB2.out.size))
    have HNw2 := Lib.hid (fun W (hb : Below w2.heap.size w2 W) => HNw.out W w1.heap.size s g v B T E (hsp.below hb) l hob ((HR2.out.1.below (HB2.out.trans (hb.mono HB2.out.size))).more (HB2.out.trans (hb.mono HB2.out.size)).size))
    clear b2 hsp hE hBT hTE hEl hob HNw HTo HK HB1 HCp
    go_wp2_with fail
    refine Calls.mono HCp2.out ?_
    rintro r w3 (⟨er, hne, here, rfl, b3⟩ | ⟨L, hE0, qs, d, st, gt, vt, q, hR, rfl, hst, hrow, b3⟩)
    · have HB3 := Lib.hid (HB2.out.trans (b3.mono HB2.out.size))
      clear b3 here
      go_wp2_with fail
      go_ret
      exact ⟨rfl, HB3.out⟩
    · have HB3 := Lib.hid (HB2.out.trans (b3.mono HB2.out.size))
      have HNw3 := Lib.hid (HNw2.out w3 b3)
      have HNw4 := Lib.hid (fun W (hb : Below w3.heap.size w3 W) => HNw2.out W (b3.trans (hb.mono b3.size)))
      have HL := Lib.hid L
      have HRd := Lib.hid hR
      have HT3 := Lib.hid hrow
      have HE0 := Lib.hid hE0
      clear b3 L hR hst hrow HNw2 HCp2 hE0
      rw [← HN.out.2]
      go_wp2_with fail
      refine Calls.mono HNw3.out ?_
      rintro r w4 (⟨er2, hne2, here2, rfl, b4⟩ | ⟨_, _, Sx, Qx, fx, xx, rfl, px, b4⟩)
      · exact absurd (here2.trans HE0.out) hne2
      have HX := Lib.hid (And.intro px b4)
      have HNw5 := Lib.hid (HNw4.out w4 b4)
      clear px b4 HNw3 HNw4
      go_wp2_with fail
      refine Calls.mono HNw5.out ?_
      rintro r w5 (⟨er2, hne2, here2, rfl, b5⟩ | ⟨_, _, Sy, Qy, fy, xy, rfl, py, b5⟩)
      · exact absurd (here2.trans HE0.out) hne2
      obtain ⟨Bx, hBx⟩ : ∃ B, B = w3.heap.size := ⟨_, rfl⟩
      obtain ⟨By, hBy⟩ : ∃ B, B = w4.heap.size := ⟨_, rfl⟩
      have HS5 := Lib.hid (show ∃ (sx : Sc) (cx : Nat) (sy : Sc) (cy : Nat), TwoC ws l B T roots w3 w5 Bx Qx fx By Qy fy sx cx sy cy ∧ SzS roots sx 0 cx ∧ SzS roots sy 0 cy from
        ⟨_, _, _, _, ⟨Sx, xx, Sy, xy, by rw [hBx]; exact HX.out.1.below b5, by rw [hBy]; exact py, fun j h1 h2 => by have := (HX.out.1.co.own j h1).2; have := (py.co.own j h2).1; omega, by rw [hBx]; exact HX.out.2.trans (b5.mono HX.out.2.size), by rw [hBx, hBy]; exact HX.out.2.size, hBx⟩, .inr (Nat.zero_le _), .inr (Nat.zero_le _)⟩)
      clear py b5 hBx hBy HNw5
      go_wp2_with fail
      go_loopw [21] (fun x W => ∃ i : Nat, x = .int .i64 i ∧ i ≤ 400 ∧ Hid (∃ (sx : Sc) (cx : Nat) (sy : Sc) (cy : Nat), TwoC ws l B T roots w3 W Bx Qx fx By Qy fy sx cx sy cy ∧ SzS roots sx i cx ∧ SzS roots sy 0 cy)) (fun x _ => 400 - (Go.RowKit.intOf x).toNat)
      case atStart => exact ⟨0, rfl, by decide, HS5⟩
      case round =>
        obtain ⟨i, rfl, hi, hS⟩ := hrel
        clear HS5 HX
        obtain ⟨sx, cx, sy, cy, pt, hx, hy⟩ := hS.out
        have hms := pt.ms
        have HE := Lib.hid (And.intro pt (And.intro hx hy))
        have HDn := Lib.hid (fun W (hb : Below wr.heap.size wr W) => two_dx HL.out (pt.below hb))
        clear pt hS hy
        by_cases hlt : (i : Int) < 400 ∧ doneS (roots.map rootP) sx = false
        · have hlt1 := hlt.1
          rw [hlt.2] at HDn
          have hx2 : i ≤ cx := by
            rcases hx with h | h
            · rw [hlt.2] at h; cases h
            · exact h
          clear hlt hx hms
          go_wp2_with fail
          refine Calls.mono (HDn.out wr (Below.refl _ _)) ?_
          rintro r w7 ⟨rfl, b7⟩
          have H7 := Lib.hid b7
          clear b7
          go_wp2_with fail
          refine Calls.mono (two_x HL.out (HE.out.1.below H7.out) (K : Int) (by have := HKk.out; omega)) ?_
          rintro r w8 ⟨bo, s8, c8, rfl, p8, d8⟩
          have H8 := Lib.hid (show ∃ (sx : Sc) (cx : Nat) (sy : Sc) (cy : Nat), TwoC ws l B T roots w3 w8 Bx Qx fx By Qy fy sx cx sy cy ∧ SzS roots sx (i + 1) cx ∧ SzS roots sy 0 cy from ⟨_, _, _, _, p8, d8.imp id (fun h => by have := HKk.out; omega), HE.out.2.2⟩)
          clear p8 d8 hx2
          go_wp2_with fail
          go_roundw
          case rel => first | exact ⟨i + 1, by go_num, by omega, H8⟩ | ((repeat apply Exists.intro); refine ⟨?_, rfl⟩; exact ⟨i + 1, by go_num, by omega, H8⟩)
          case measure => simp [Go.RowKit.intOf]; omega
        · have hdx : doneS (roots.map rootP) sx = true := by
            cases hd : doneS (roots.map rootP) sx with
            | true => rfl
            | false =>
              rcases hx with h | h
              · rw [hd] at h; cases h
              · exact absurd ⟨by omega, hd⟩ hlt
          rw [hdx] at HDn
          have HDx := Lib.hid hdx
          clear hlt hx hms hdx
          have key : ∀ W, Hid (Below wr.heap.size wr W) → Hid (∃ (sy : Sc) (cy : Nat), TwoC ws l B T roots w3 W Bx Qx fx By Qy fy sx cx sy cy ∧ SzS roots sy 0 cy) := fun W hb => Lib.hid ⟨_, _, HE.out.1.below hb.out, HE.out.2.2⟩
          by_cases hlt : (i : Int) < 400
          · go_wp2_with fail
            refine Calls.mono (HDn.out wr (Below.refl _ _)) ?_
            rintro r w7 ⟨rfl, b7⟩
            have H7 := key w7 (Lib.hid b7)
            clear b7 key HDn HE
            go_wp2_with fail
            go_loopw [22] (fun x W => ∃ i : Nat, x = .int .i64 i ∧ i ≤ 400 ∧ Hid (∃ (sy : Sc) (cy : Nat), TwoC ws l B T roots w3 W Bx Qx fx By Qy fy sx cx sy cy ∧ SzS roots sy i cy)) (fun x _ => 400 - (Go.RowKit.intOf x).toNat)
            case atStart => exact ⟨0, rfl, by decide, H7⟩
            case round =>
              rename_i wq
              obtain ⟨k, rfl, hk, hS⟩ := hrel
              clear H7
              obtain ⟨sy, cy, pt, hy⟩ := hS.out
              have hms := pt.ms
              have HE := Lib.hid (And.intro pt hy)
              have HDn := Lib.hid (fun W (hb : Below wr.heap.size wr W) => two_dy HL.out (pt.below hb))
              clear pt hS
              by_cases hlt2 : (k : Int) < 400 ∧ doneS (roots.map rootP) sy = false
              · have hlt1 := hlt2.1
                rw [hlt2.2] at HDn
                have hx2 : k ≤ cy := by
                  rcases hy with h | h
                  · rw [hlt2.2] at h; cases h
                  · exact h
                clear hlt2 hy hms
                go_wp2_with fail
                refine Calls.mono (HDn.out wr (Below.refl _ _)) ?_
                rintro r w8 ⟨rfl, b8⟩
                have H8 := Lib.hid b8
                clear b8
                go_wp2_with fail
                refine Calls.mono (two_y HL.out (HE.out.1.below H8.out) (K2 : Int) (by have := HKk2.out; omega)) ?_
                rintro r w9 ⟨bo, s9, c9, rfl, p9, d9⟩
                have H9 := Lib.hid (show ∃ (sy : Sc) (cy : Nat), TwoC ws l B T roots w3 w9 Bx Qx fx By Qy fy sx cx sy cy ∧ SzS roots sy (k + 1) cy from ⟨_, _, p9, d9.imp id (fun h => by have := HKk2.out; omega)⟩)
                clear p9 d9 hx2
                go_wp2_with fail
                go_roundw
                case rel => first | exact ⟨k + 1, by go_num, by omega, H9⟩ | ((repeat apply Exists.intro); refine ⟨?_, rfl⟩; exact ⟨k + 1, by go_num, by omega, H9⟩)
                case measure => simp [Go.RowKit.intOf]; omega
              · have hdy : doneS (roots.map rootP) sy = true := by
                  cases hd : doneS (roots.map rootP) sy with
                  | true => rfl
                  | false =>
                    rcases hy with h | h
                    · rw [hd] at h; cases h
                    · exact absurd ⟨by omega, hd⟩ hlt2
                rw [hdy] at HDn
                have HDy := Lib.hid hdy
                clear hlt2 hy hms hdy
                have key : ∀ W, Hid (Below wr.heap.size wr W) → Hid (TwoC ws l B T roots w3 W Bx Qx fx By Qy fy sx cx sy cy) := fun W hb => Lib.hid (HE.out.1.below hb.out)
                by_cases hlt2 : (k : Int) < 400
                · go_wp2_with fail
                  refine Calls.mono (HDn.out wr (Below.refl _ _)) ?_
                  rintro r w8 ⟨rfl, b8⟩
                  have H8 := key w8 (Lib.hid b8)
                  clear b8 key HDn HE
                  obtain ⟨Sx8, xx8, Sy8, xy8, px8, py8, _⟩ := H8.out
                  have HRx := Lib.hid (lresult_c w8 HL.out px8 HDx.out HRd.out)
                  have HPy := Lib.hid py8
                  have HBe := Lib.hid H8.out.bel
                  rw [← HN.out.2] at HRx
                  clear px8 py8 H8
                  go_wp2_with fail
                  refine Calls.mono HRx.out ?_
                  rintro r w9 ⟨su, gu, vu, A5, c5, rfl, hsu, hru, b9⟩
                  have HU := Lib.hid (And.intro hsu (And.intro hru b9))
                  have HRy := Lib.hid (lresult_c w9 HL.out (HPy.out.below b9) HDy.out HRd.out)
                  rw [← HN.out.2] at HRy
                  clear hsu hru b9 HRx HPy
                  go_wp2_with fail
                  refine Calls.mono HRy.out ?_
                  rintro r w10 ⟨sv, gv, vv, A6, c6, rfl, hsv, hrv, b10⟩
                  have hsu := HU.out.1.below b10
                  have hru := (HU.out.2.1.below b10).more b10.size
                  have hb9 : Below w3.heap.size w3 w9 := HBe.out.trans (HU.out.2.2.mono HBe.out.size)
                  have hb10 : Below w3.heap.size w3 w10 := hb9.trans (b10.mono hb9.size)
                  have hrq := (HT3.out.below hb10).more hb10.size
                  obtain ⟨qs2, d2, hR2, hT2, htp2, hq2, _⟩ := rl_some HL.out
                  rw [HRd.out] at hR2
                  injection hR2 with hR2
                  injection hR2 with e1 e2
                  subst e1
                  subst e2
                  have HD := Lib.hid (And.intro hT2 (And.intro htp2 hq2))
                  obtain ⟨tp, htp⟩ : ∃ tp, tp = d.top := ⟨_, rfl⟩
                  have cu := hsu.four.2.2.1
                  have cv := hsv.four.2.2.1
                  rw [← htp] at cu cv
                  have hu := hsu.blk.lt
                  have hv := hsv.blk.lt
                  have hbz : M = (backZ qs).length := by rw [HN.out.2, ← HD.out.2.2]; simp [backZ]
                  have HIn := Lib.hid (fun W (hb : Below w10.heap.size w10 W) => ints_z W A5 (some ⟨q, 0, none⟩) c5 M M (backZ qs) hbz (by omega) ((hru.below hb).more hb.size) ((hrq.below hb).more hb.size))
                  have HIn2 := Lib.hid (fun W (hb : Below w10.heap.size w10 W) => ints_z W A6 (some ⟨q, 0, none⟩) c6 M M (backZ qs) hbz (by omega) ((hrv.below hb).more hb.size) ((hrq.below hb).more hb.size))
                  have H10 := Lib.hid (And.intro hsu (And.intro hsv (HB3.out.trans (hb10.mono HB3.out.size))))
                  have HTp := Lib.hid htp
                  have htp3 : (tp : Int) ≤ 300 := by have := HD.out.2.1; omega
                  clear hsu hsv hru hrv hrq b10 hb9 hb10 htp hT2 htp2 hq2 hbz HRy HU HBe
                  go_wp2_with fail
                  refine sz_r _ _ _ M c5 c6 M su sv A5 A6 (some ⟨q, 0, none⟩) tp hu hv cu cv HIn HIn2 rfl ?_ ?_ ?_ ?_ ?_ ?_ ?_ ?_
                  · rfl
                  · rfl
                  · rfl
                  · rfl
                  · rfl
                  · rfl
                  · rfl
                  intro vals w11 hG h141
                  unfold IsV at h141
                  simp only [putD, Act.put, List.setIfInBounds_toArray, List.set_cons_zero, List.set_cons_succ, h141]
                  have H11 := Lib.hid hG
                  have HBz := Lib.hid (Below.refl w11.heap.size w11)
                  clear hG h141 cu cv hu hv
                  go_wp2_with fail
                  go_loopw [29] (fun x W => ∃ i : Nat, x = .int .i64 i ∧ i ≤ tp ∧ Hid (Below w11.heap.size w11 W)) (fun x _ => tp - (Go.RowKit.intOf x).toNat)
                  case atStart => exact ⟨0, rfl, Nat.zero_le _, HBz⟩
                  case round =>
                    obtain ⟨j, rfl, hj, hS⟩ := hrel
                    have hb := H11.out.trans (hS.out.mono H11.out.size)
                    have hu2 := H10.out.1.below hb
                    have hv2 := H10.out.2.1.below hb
                    obtain ⟨cu0, _, cu2, _⟩ := hu2.four
                    obtain ⟨cv0, _, cv2, _⟩ := hv2.four
                    rw [← HTp.out] at cu2
                    by_cases hltj : (j : Int) < (tp : Int)
                    · have hjl : j < d.T.length := by have := HD.out.1; omega
                      have HG1 := Lib.hid (get_in _ _ gu vu d.T j hjl (by have := HD.out.1; omega) hu2.mem)
                      have HG2 := Lib.hid (get_in _ _ gv vv d.T j hjl (by have := HD.out.1; omega) hv2.mem)
                      obtain ⟨xv, hxv⟩ : ∃ xv, xv = U64 d.T[j] := ⟨_, rfl⟩
                      rw [← hxv] at HG1 HG2
                      clear hxv hjl hb hu2 hv2
                      go_wp2_with fail
                      refine Calls.mono HG1.out ?_
                      rintro r w12 ⟨rfl, hw12⟩
                      subst hw12
                      go_wp2_with fail
                      refine Calls.mono HG2.out ?_
                      rintro r w12 ⟨rfl, hw12⟩
                      subst hw12
                      go_wp2_with fail
                      go_roundw
                      case rel => first | exact ⟨j + 1, by go_num, by omega, hS⟩ | ((repeat apply Exists.intro); refine ⟨?_, rfl⟩; exact ⟨j + 1, by go_num, by omega, hS⟩)
                      case measure => simp [Go.RowKit.intOf]; omega
                    · clear hb hu2 hv2
                      go_wp2_with fail
                      go_ret
                      have h3 := H10.out.2.2.trans (H11.out.mono H10.out.2.2.size)
                      exact ⟨rfl, h3.trans (hS.out.mono h3.size)⟩
                · have H8 := key wr (Lib.hid (Below.refl _ _))
                  obtain ⟨w8, hw8⟩ : ∃ w8, w8 = wr := ⟨_, rfl⟩
                  rw [← hw8] at H8 ⊢
                  clear key HDn HE hw8
                  obtain ⟨Sx8, xx8, Sy8, xy8, px8, py8, _⟩ := H8.out
                  have HRx := Lib.hid (lresult_c w8 HL.out px8 HDx.out HRd.out)
                  have HPy := Lib.hid py8
                  have HBe := Lib.hid H8.out.bel
                  rw [← HN.out.2] at HRx
                  clear px8 py8 H8
                  go_wp2_with fail
                  refine Calls.mono HRx.out ?_
                  rintro r w9 ⟨su, gu, vu, A5, c5, rfl, hsu, hru, b9⟩
                  have HU := Lib.hid (And.intro hsu (And.intro hru b9))
                  have HRy := Lib.hid (lresult_c w9 HL.out (HPy.out.below b9) HDy.out HRd.out)
                  rw [← HN.out.2] at HRy
                  clear hsu hru b9 HRx HPy
                  go_wp2_with fail
                  refine Calls.mono HRy.out ?_
                  rintro r w10 ⟨sv, gv, vv, A6, c6, rfl, hsv, hrv, b10⟩
                  have hsu := HU.out.1.below b10
                  have hru := (HU.out.2.1.below b10).more b10.size
                  have hb9 : Below w3.heap.size w3 w9 := HBe.out.trans (HU.out.2.2.mono HBe.out.size)
                  have hb10 : Below w3.heap.size w3 w10 := hb9.trans (b10.mono hb9.size)
                  have hrq := (HT3.out.below hb10).more hb10.size
                  obtain ⟨qs2, d2, hR2, hT2, htp2, hq2, _⟩ := rl_some HL.out
                  rw [HRd.out] at hR2
                  injection hR2 with hR2
                  injection hR2 with e1 e2
                  subst e1
                  subst e2
                  have HD := Lib.hid (And.intro hT2 (And.intro htp2 hq2))
                  obtain ⟨tp, htp⟩ : ∃ tp, tp = d.top := ⟨_, rfl⟩
                  have cu := hsu.four.2.2.1
                  have cv := hsv.four.2.2.1
                  rw [← htp] at cu cv
                  have hu := hsu.blk.lt
                  have hv := hsv.blk.lt
                  have hbz : M = (backZ qs).length := by rw [HN.out.2, ← HD.out.2.2]; simp [backZ]
                  have HIn := Lib.hid (fun W (hb : Below w10.heap.size w10 W) => ints_z W A5 (some ⟨q, 0, none⟩) c5 M M (backZ qs) hbz (by omega) ((hru.below hb).more hb.size) ((hrq.below hb).more hb.size))
                  have HIn2 := Lib.hid (fun W (hb : Below w10.heap.size w10 W) => ints_z W A6 (some ⟨q, 0, none⟩) c6 M M (backZ qs) hbz (by omega) ((hrv.below hb).more hb.size) ((hrq.below hb).more hb.size))
                  have H10 := Lib.hid (And.intro hsu (And.intro hsv (HB3.out.trans (hb10.mono HB3.out.size))))
                  have HTp := Lib.hid htp
                  have htp3 : (tp : Int) ≤ 300 := by have := HD.out.2.1; omega
                  clear hsu hsv hru hrv hrq b10 hb9 hb10 htp hT2 htp2 hq2 hbz HRy HU HBe
                  go_wp2_with fail
                  refine sz_r _ _ _ M c5 c6 M su sv A5 A6 (some ⟨q, 0, none⟩) tp hu hv cu cv HIn HIn2 rfl ?_ ?_ ?_ ?_ ?_ ?_ ?_ ?_
                  · rfl
                  · rfl
                  · rfl
                  · rfl
                  · rfl
                  · rfl
                  · rfl
                  intro vals w11 hG h141
                  unfold IsV at h141
                  simp only [putD, Act.put, List.setIfInBounds_toArray, List.set_cons_zero, List.set_cons_succ, h141]
                  have H11 := Lib.hid hG
                  have HBz := Lib.hid (Below.refl w11.heap.size w11)
                  clear hG h141 cu cv hu hv
                  go_wp2_with fail
                  go_loopw [29] (fun x W => ∃ i : Nat, x = .int .i64 i ∧ i ≤ tp ∧ Hid (Below w11.heap.size w11 W)) (fun x _ => tp - (Go.RowKit.intOf x).toNat)
                  case atStart => exact ⟨0, rfl, Nat.zero_le _, HBz⟩
                  case round =>
                    obtain ⟨j, rfl, hj, hS⟩ := hrel
                    have hb := H11.out.trans (hS.out.mono H11.out.size)
                    have hu2 := H10.out.1.below hb
                    have hv2 := H10.out.2.1.below hb
                    obtain ⟨cu0, _, cu2, _⟩ := hu2.four
                    obtain ⟨cv0, _, cv2, _⟩ := hv2.four
                    rw [← HTp.out] at cu2
                    by_cases hltj : (j : Int) < (tp : Int)
                    · have hjl : j < d.T.length := by have := HD.out.1; omega
                      have HG1 := Lib.hid (get_in _ _ gu vu d.T j hjl (by have := HD.out.1; omega) hu2.mem)
                      have HG2 := Lib.hid (get_in _ _ gv vv d.T j hjl (by have := HD.out.1; omega) hv2.mem)
                      obtain ⟨xv, hxv⟩ : ∃ xv, xv = U64 d.T[j] := ⟨_, rfl⟩
                      rw [← hxv] at HG1 HG2
                      clear hxv hjl hb hu2 hv2
                      go_wp2_with fail
                      refine Calls.mono HG1.out ?_
                      rintro r w12 ⟨rfl, hw12⟩
                      subst hw12
                      go_wp2_with fail
                      refine Calls.mono HG2.out ?_
                      rintro r w12 ⟨rfl, hw12⟩
                      subst hw12
                      go_wp2_with fail
                      go_roundw
                      case rel => first | exact ⟨j + 1, by go_num, by omega, hS⟩ | ((repeat apply Exists.intro); refine ⟨?_, rfl⟩; exact ⟨j + 1, by go_num, by omega, hS⟩)
                      case measure => simp [Go.RowKit.intOf]; omega
                    · clear hb hu2 hv2
                      go_wp2_with fail
                      go_ret
                      have h3 := H10.out.2.2.trans (H11.out.mono H10.out.2.2.size)
                      exact ⟨rfl, h3.trans (hS.out.mono h3.size)⟩
          · have H7 := key wr (Lib.hid (Below.refl _ _))
            obtain ⟨w7, hw7⟩ : ∃ w7, w7 = wr := ⟨_, rfl⟩
            rw [← hw7] at H7 ⊢
            clear key HDn HE hw7
            go_wp2_with fail
            go_loopw [22] (fun x W => ∃ i : Nat, x = .int .i64 i ∧ i ≤ 400 ∧ Hid (∃ (sy : Sc) (cy : Nat), TwoC ws l B T roots w3 W Bx Qx fx By Qy fy sx cx sy cy ∧ SzS roots sy i cy)) (fun x _ => 400 - (Go.RowKit.intOf x).toNat)
            case atStart => exact ⟨0, rfl, by decide, H7⟩
            case round =>
              rename_i wq
              obtain ⟨k, rfl, hk, hS⟩ := hrel
              clear H7
              obtain ⟨sy, cy, pt, hy⟩ := hS.out
              have hms := pt.ms
              have HE := Lib.hid (And.intro pt hy)
              have HDn := Lib.hid (fun W (hb : Below wr.heap.size wr W) => two_dy HL.out (pt.below hb))
              clear pt hS
              by_cases hlt2 : (k : Int) < 400 ∧ doneS (roots.map rootP) sy = false
              · have hlt1 := hlt2.1
                rw [hlt2.2] at HDn
                have hx2 : k ≤ cy := by
                  rcases hy with h | h
                  · rw [hlt2.2] at h; cases h
                  · exact h
                clear hlt2 hy hms
                go_wp2_with fail
                refine Calls.mono (HDn.out wr (Below.refl _ _)) ?_
                rintro r w8 ⟨rfl, b8⟩
                have H8 := Lib.hid b8
                clear b8
                go_wp2_with fail
                refine Calls.mono (two_y HL.out (HE.out.1.below H8.out) (K2 : Int) (by have := HKk2.out; omega)) ?_
                rintro r w9 ⟨bo, s9, c9, rfl, p9, d9⟩
                have H9 := Lib.hid (show ∃ (sy : Sc) (cy : Nat), TwoC ws l B T roots w3 w9 Bx Qx fx By Qy fy sx cx sy cy ∧ SzS roots sy (k + 1) cy from ⟨_, _, p9, d9.imp id (fun h => by have := HKk2.out; omega)⟩)
                clear p9 d9 hx2
                go_wp2_with fail
                go_roundw
                case rel => first | exact ⟨k + 1, by go_num, by omega, H9⟩ | ((repeat apply Exists.intro); refine ⟨?_, rfl⟩; exact ⟨k + 1, by go_num, by omega, H9⟩)
                case measure => simp [Go.RowKit.intOf]; omega
              · have hdy : doneS (roots.map rootP) sy = true := by
                  cases hd : doneS (roots.map rootP) sy with
                  | true => rfl
                  | false =>
                    rcases hy with h | h
                    · rw [hd] at h; cases h
                    · exact absurd ⟨by omega, hd⟩ hlt2
                rw [hdy] at HDn
                have HDy := Lib.hid hdy
                clear hlt2 hy hms hdy
                have key : ∀ W, Hid (Below wr.heap.size wr W) → Hid (TwoC ws l B T roots w3 W Bx Qx fx By Qy fy sx cx sy cy) := fun W hb => Lib.hid (HE.out.1.below hb.out)
                by_cases hlt2 : (k : Int) < 400
                · go_wp2_with fail
                  refine Calls.mono (HDn.out wr (Below.refl _ _)) ?_
                  rintro r w8 ⟨rfl, b8⟩
                  have H8 := key w8 (Lib.hid b8)
                  clear b8 key HDn HE
                  obtain ⟨Sx8, xx8, Sy8, xy8, px8, py8, _⟩ := H8.out
                  have HRx := Lib.hid (lresult_c w8 HL.out px8 HDx.out HRd.out)
                  have HPy := Lib.hid py8
                  have HBe := Lib.hid H8.out.bel
                  rw [← HN.out.2] at HRx
                  clear px8 py8 H8
                  go_wp2_with fail
                  refine Calls.mono HRx.out ?_
                  rintro r w9 ⟨su, gu, vu, A5, c5, rfl, hsu, hru, b9⟩
                  have HU := Lib.hid (And.intro hsu (And.intro hru b9))
                  have HRy := Lib.hid (lresult_c w9 HL.out (HPy.out.below b9) HDy.out HRd.out)
                  rw [← HN.out.2] at HRy
                  clear hsu hru b9 HRx HPy
                  go_wp2_with fail
                  refine Calls.mono HRy.out ?_
                  rintro r w10 ⟨sv, gv, vv, A6, c6, rfl, hsv, hrv, b10⟩
                  have hsu := HU.out.1.below b10
                  have hru := (HU.out.2.1.below b10).more b10.size
                  have hb9 : Below w3.heap.size w3 w9 := HBe.out.trans (HU.out.2.2.mono HBe.out.size)
                  have hb10 : Below w3.heap.size w3 w10 := hb9.trans (b10.mono hb9.size)
                  have hrq := (HT3.out.below hb10).more hb10.size
                  obtain ⟨qs2, d2, hR2, hT2, htp2, hq2, _⟩ := rl_some HL.out
                  rw [HRd.out] at hR2
                  injection hR2 with hR2
                  injection hR2 with e1 e2
                  subst e1
                  subst e2
                  have HD := Lib.hid (And.intro hT2 (And.intro htp2 hq2))
                  obtain ⟨tp, htp⟩ : ∃ tp, tp = d.top := ⟨_, rfl⟩
                  have cu := hsu.four.2.2.1
                  have cv := hsv.four.2.2.1
                  rw [← htp] at cu cv
                  have hu := hsu.blk.lt
                  have hv := hsv.blk.lt
                  have hbz : M = (backZ qs).length := by rw [HN.out.2, ← HD.out.2.2]; simp [backZ]
                  have HIn := Lib.hid (fun W (hb : Below w10.heap.size w10 W) => ints_z W A5 (some ⟨q, 0, none⟩) c5 M M (backZ qs) hbz (by omega) ((hru.below hb).more hb.size) ((hrq.below hb).more hb.size))
                  have HIn2 := Lib.hid (fun W (hb : Below w10.heap.size w10 W) => ints_z W A6 (some ⟨q, 0, none⟩) c6 M M (backZ qs) hbz (by omega) ((hrv.below hb).more hb.size) ((hrq.below hb).more hb.size))
                  have H10 := Lib.hid (And.intro hsu (And.intro hsv (HB3.out.trans (hb10.mono HB3.out.size))))
                  have HTp := Lib.hid htp
                  have htp3 : (tp : Int) ≤ 300 := by have := HD.out.2.1; omega
                  clear hsu hsv hru hrv hrq b10 hb9 hb10 htp hT2 htp2 hq2 hbz HRy HU HBe
                  go_wp2_with fail
                  refine sz_r _ _ _ M c5 c6 M su sv A5 A6 (some ⟨q, 0, none⟩) tp hu hv cu cv HIn HIn2 rfl ?_ ?_ ?_ ?_ ?_ ?_ ?_ ?_
                  · rfl
                  · rfl
                  · rfl
                  · rfl
                  · rfl
                  · rfl
                  · rfl
                  intro vals w11 hG h141
                  unfold IsV at h141
                  simp only [putD, Act.put, List.setIfInBounds_toArray, List.set_cons_zero, List.set_cons_succ, h141]
                  have H11 := Lib.hid hG
                  have HBz := Lib.hid (Below.refl w11.heap.size w11)
                  clear hG h141 cu cv hu hv
                  go_wp2_with fail
                  go_loopw [29] (fun x W => ∃ i : Nat, x = .int .i64 i ∧ i ≤ tp ∧ Hid (Below w11.heap.size w11 W)) (fun x _ => tp - (Go.RowKit.intOf x).toNat)
                  case atStart => exact ⟨0, rfl, Nat.zero_le _, HBz⟩
                  case round =>
                    obtain ⟨j, rfl, hj, hS⟩ := hrel
                    have hb := H11.out.trans (hS.out.mono H11.out.size)
                    have hu2 := H10.out.1.below hb
                    have hv2 := H10.out.2.1.below hb
                    obtain ⟨cu0, _, cu2, _⟩ := hu2.four
                    obtain ⟨cv0, _, cv2, _⟩ := hv2.four
                    rw [← HTp.out] at cu2
                    by_cases hltj : (j : Int) < (tp : Int)
                    · have hjl : j < d.T.length := by have := HD.out.1; omega
                      have HG1 := Lib.hid (get_in _ _ gu vu d.T j hjl (by have := HD.out.1; omega) hu2.mem)
                      have HG2 := Lib.hid (get_in _ _ gv vv d.T j hjl (by have := HD.out.1; omega) hv2.mem)
                      obtain ⟨xv, hxv⟩ : ∃ xv, xv = U64 d.T[j] := ⟨_, rfl⟩
                      rw [← hxv] at HG1 HG2
                      clear hxv hjl hb hu2 hv2
                      go_wp2_with fail
                      refine Calls.mono HG1.out ?_
                      rintro r w12 ⟨rfl, hw12⟩
                      subst hw12
                      go_wp2_with fail
                      refine Calls.mono HG2.out ?_
                      rintro r w12 ⟨rfl, hw12⟩
                      subst hw12
                      go_wp2_with fail
                      go_roundw
                      case rel => first | exact ⟨j + 1, by go_num, by omega, hS⟩ | ((repeat apply Exists.intro); refine ⟨?_, rfl⟩; exact ⟨j + 1, by go_num, by omega, hS⟩)
                      case measure => simp [Go.RowKit.intOf]; omega
                    · clear hb hu2 hv2
                      go_wp2_with fail
                      go_ret
                      have h3 := H10.out.2.2.trans (H11.out.mono H10.out.2.2.size)
                      exact ⟨rfl, h3.trans (hS.out.mono h3.size)⟩
                · have H8 := key wr (Lib.hid (Below.refl _ _))
                  obtain ⟨w8, hw8⟩ : ∃ w8, w8 = wr := ⟨_, rfl⟩
                  rw [← hw8] at H8 ⊢
                  clear key HDn HE hw8
                  obtain ⟨Sx8, xx8, Sy8, xy8, px8, py8, _⟩ := H8.out
                  have HRx := Lib.hid (lresult_c w8 HL.out px8 HDx.out HRd.out)
                  have HPy := Lib.hid py8
                  have HBe := Lib.hid H8.out.bel
                  rw [← HN.out.2] at HRx
                  clear px8 py8 H8
                  go_wp2_with fail
                  refine Calls.mono HRx.out ?_
                  rintro r w9 ⟨su, gu, vu, A5, c5, rfl, hsu, hru, b9⟩
                  have HU := Lib.hid (And.intro hsu (And.intro hru b9))
                  have HRy := Lib.hid (lresult_c w9 HL.out (HPy.out.below b9) HDy.out HRd.out)
                  rw [← HN.out.2] at HRy
                  clear hsu hru b9 HRx HPy
                  go_wp2_with fail
                  refine Calls.mono HRy.out ?_
                  rintro r w10 ⟨sv, gv, vv, A6, c6, rfl, hsv, hrv, b10⟩
                  have hsu := HU.out.1.below b10
                  have hru := (HU.out.2.1.below b10).more b10.size
                  have hb9 : Below w3.heap.size w3 w9 := HBe.out.trans (HU.out.2.2.mono HBe.out.size)
                  have hb10 : Below w3.heap.size w3 w10 := hb9.trans (b10.mono hb9.size)
                  have hrq := (HT3.out.below hb10).more hb10.size
                  obtain ⟨qs2, d2, hR2, hT2, htp2, hq2, _⟩ := rl_some HL.out
                  rw [HRd.out] at hR2
                  injection hR2 with hR2
                  injection hR2 with e1 e2
                  subst e1
                  subst e2
                  have HD := Lib.hid (And.intro hT2 (And.intro htp2 hq2))
                  obtain ⟨tp, htp⟩ : ∃ tp, tp = d.top := ⟨_, rfl⟩
                  have cu := hsu.four.2.2.1
                  have cv := hsv.four.2.2.1
                  rw [← htp] at cu cv
                  have hu := hsu.blk.lt
                  have hv := hsv.blk.lt
                  have hbz : M = (backZ qs).length := by rw [HN.out.2, ← HD.out.2.2]; simp [backZ]
                  have HIn := Lib.hid (fun W (hb : Below w10.heap.size w10 W) => ints_z W A5 (some ⟨q, 0, none⟩) c5 M M (backZ qs) hbz (by omega) ((hru.below hb).more hb.size) ((hrq.below hb).more hb.size))
                  have HIn2 := Lib.hid (fun W (hb : Below w10.heap.size w10 W) => ints_z W A6 (some ⟨q, 0, none⟩) c6 M M (backZ qs) hbz (by omega) ((hrv.below hb).more hb.size) ((hrq.below hb).more hb.size))
                  have H10 := Lib.hid (And.intro hsu (And.intro hsv (HB3.out.trans (hb10.mono HB3.out.size))))
                  have HTp := Lib.hid htp
                  have htp3 : (tp : Int) ≤ 300 := by have := HD.out.2.1; omega
                  clear hsu hsv hru hrv hrq b10 hb9 hb10 htp hT2 htp2 hq2 hbz HRy HU HBe
                  go_wp2_with fail
                  refine sz_r _ _ _ M c5 c6 M su sv A5 A6 (some ⟨q, 0, none⟩) tp hu hv cu cv HIn HIn2 rfl ?_ ?_ ?_ ?_ ?_ ?_ ?_ ?_
                  · rfl
                  · rfl
                  · rfl
                  · rfl
                  · rfl
                  · rfl
                  · rfl
                  intro vals w11 hG h141
                  unfold IsV at h141
                  simp only [putD, Act.put, List.setIfInBounds_toArray, List.set_cons_zero, List.set_cons_succ, h141]
                  have H11 := Lib.hid hG
                  have HBz := Lib.hid (Below.refl w11.heap.size w11)
                  clear hG h141 cu cv hu hv
                  go_wp2_with fail
                  go_loopw [29] (fun x W => ∃ i : Nat, x = .int .i64 i ∧ i ≤ tp ∧ Hid (Below w11.heap.size w11 W)) (fun x _ => tp - (Go.RowKit.intOf x).toNat)
                  case atStart => exact ⟨0, rfl, Nat.zero_le _, HBz⟩
                  case round =>
                    obtain ⟨j, rfl, hj, hS⟩ := hrel
                    have hb := H11.out.trans (hS.out.mono H11.out.size)
                    have hu2 := H10.out.1.below hb
                    have hv2 := H10.out.2.1.below hb
                    obtain ⟨cu0, _, cu2, _⟩ := hu2.four
                    obtain ⟨cv0, _, cv2, _⟩ := hv2.four
                    rw [← HTp.out] at cu2
                    by_cases hltj : (j : Int) < (tp : Int)
                    · have hjl : j < d.T.length := by have := HD.out.1; omega
                      have HG1 := Lib.hid (get_in _ _ gu vu d.T j hjl (by have := HD.out.1; omega) hu2.mem)
                      have HG2 := Lib.hid (get_in _ _ gv vv d.T j hjl (by have := HD.out.1; omega) hv2.mem)
                      obtain ⟨xv, hxv⟩ : ∃ xv, xv = U64 d.T[j] := ⟨_, rfl⟩
                      rw [← hxv] at HG1 HG2
                      clear hxv hjl hb hu2 hv2
                      go_wp2_with fail
                      refine Calls.mono HG1.out ?_
                      rintro r w12 ⟨rfl, hw12⟩
                      subst hw12
                      go_wp2_with fail
                      refine Calls.mono HG2.out ?_
                      rintro r w12 ⟨rfl, hw12⟩
                      subst hw12
                      go_wp2_with fail
                      go_roundw
                      case rel => first | exact ⟨j + 1, by go_num, by omega, hS⟩ | ((repeat apply Exists.intro); refine ⟨?_, rfl⟩; exact ⟨j + 1, by go_num, by omega, hS⟩)
                      case measure => simp [Go.RowKit.intOf]; omega
                    · clear hb hu2 hv2
                      go_wp2_with fail
                      go_ret
                      have h3 := H10.out.2.2.trans (H11.out.mono H10.out.2.2.size)
                      exact ⟨rfl, h3.trans (hS.out.mono h3.size)⟩
end Go.Proofs.Ytbanbpphadgoiaa
namespace Go.Proofs.Ytbanbpphadgoiaa.stepSizes
open Go.ChangeShapes Go.WideShapes Go.ChangeAt Go.RowKit
open Go.ChangeMaps (open_string shut_string)
set_option linter.unusedVariables false
set_option maxRecDepth 100000 in
theorem lifted (os : Os) (started : os.Started) (H : Type) (enc : TypeId × Value → H) :
    ReturnsInHanded {} Try.checked os 6 .any (Rows.stepSizesSpec.pre6 enc Try.prog Try.f6 Rows.stepSizesRow.domain false) (Rows.stepSizesSpec.post enc Try.prog Try.f6 false true false false) := by
  refine returnsInHanded_of_change (C := Try.checked) own started (by kernel_rfl) Try.func6
    (ChangeSpec.witness6 (enc := enc) (C := Try.checked) false ⟨#[], #[.slice none 0 0, .int .i64 0, .int .i64 0, .slice none 0 0, .int .u8 0, .int .u8 0], []⟩ 8 (by kernel_rfl) (by kernel_rfl) (by kernel_rfl) (by kernel_rfl)) ?_
  intro W base args ds gs before hval0 hW hcnd _
  have hval : ∀ (j : Nat) t v, Try.f6.params[j]? = some t → args[j]? = some v → Value.okWide Try.prog W .any base t v := hval0
  have hW' := hW
  obtain ⟨p, q, hA0, hV, rfl, hfz, hnd⟩ := hW
  have hA : DataW.TrodAll enc Try.prog W 0 (fun _ => true) true Try.f6.params.toList args.toList ds p := hA0
  rw [Try.params6] at hA hval
  obtain ⟨v0, vs0, d0, ds0, p0, q0, hargs, rfl, rfl, h0, r0⟩ := trodAll_cons hA
  obtain ⟨v1, vs1, d1, ds1, p1, q1, rfl, rfl, rfl, h1, r1⟩ := trodAll_cons r0
  obtain ⟨v2, vs2, d2, ds2, p2, q2, rfl, rfl, rfl, h2, r2⟩ := trodAll_cons r1
  obtain ⟨v3, vs3, d3, ds3, p3, q3, rfl, rfl, rfl, h3, r3⟩ := trodAll_cons r2
  obtain ⟨v4, vs4, d4, ds4, p4, q4, rfl, rfl, rfl, h4, r4⟩ := trodAll_cons r3
  obtain ⟨v5, vs5, d5, ds5, p5, q5, rfl, rfl, rfl, h5, r5⟩ := trodAll_cons r4
  obtain ⟨rfl, rfl, rfl⟩ := trodAll_nil r5
  obtain rfl : args = #[v0, v1, v2, v3, v4, v5] := by cases args; simp_all
  obtain ⟨rfl, rfl⟩ := trodVars_none hV
  have k0 := h0
  have lt0 : ∀ x ∈ p0, x.block < W.heap.size := by obtain ⟨m, hm⟩ := k0; exact DataW.trod_lt m _ _ _ hm
  obtain ⟨A0, a0, c0, e0v, g0, m0, w0⟩ := open_words Try.underlying22 Try.underlying62 (by kernel_rfl) (hval 0 22 v0 rfl rfl) h0; subst e0v
  have k1 := h1
  have lt1 : ∀ x ∈ p1, x.block < W.heap.size := by obtain ⟨m, hm⟩ := k1; exact DataW.trod_lt m _ _ _ hm
  obtain ⟨a1, e1v, _, _, w1⟩ := open_int Try.underlying3 (hval 1 3 v1 rfl rfl) h1; subst e1v
  have k2 := h2
  have lt2 : ∀ x ∈ p2, x.block < W.heap.size := by obtain ⟨m, hm⟩ := k2; exact DataW.trod_lt m _ _ _ hm
  obtain ⟨a2, e2v, _, _, w2⟩ := open_int Try.underlying3 (hval 2 3 v2 rfl rfl) h2; subst e2v
  have k3 := h3
  have lt3 : ∀ x ∈ p3, x.block < W.heap.size := by obtain ⟨m, hm⟩ := k3; exact DataW.trod_lt m _ _ _ hm
  obtain ⟨A3, a3, c3, e3v, g3, m3, w3⟩ := open_intz Try.underlying23 Try.underlying3 (by kernel_rfl) (hval 3 23 v3 rfl rfl) h3; subst e3v
  have k4 := h4
  have lt4 : ∀ x ∈ p4, x.block < W.heap.size := by obtain ⟨m, hm⟩ := k4; exact DataW.trod_lt m _ _ _ hm
  obtain ⟨a4, e4v, _, _, w4⟩ := open_int Try.underlying5 (hval 4 5 v4 rfl rfl) h4; subst e4v
  have k5 := h5
  have lt5 : ∀ x ∈ p5, x.block < W.heap.size := by obtain ⟨m, hm⟩ := k5; exact DataW.trod_lt m _ _ _ hm
  obtain ⟨a5, e5v, _, _, w5⟩ := open_int Try.underlying5 (hval 5 5 v5 rfl rfl) h5; subst e5v
  clear hA0 hval0
  refine (sizes_walk W A0 a0 c0 g0 m0 w0 a1 w1 a2 w2 A3 a3 c3 g3 m3 w3 a4 w4 a5 w5).mono fun e W' ⟨he, bel⟩ => ?_
  subst he
  exact ⟨_, rfl, _, _, _, [], _, [], hW', trodAll_mk1 (shut_bool Try.underlying4 _), (trodAll_cons_mk (Below.trod laidOut (by kernel_rfl) (of_decide_eq_true (by kernel_rfl)) k0 bel lt0) (trodAll_cons_mk (Below.trod laidOut (by kernel_rfl) (of_decide_eq_true (by kernel_rfl)) k1 bel lt1) (trodAll_cons_mk (Below.trod laidOut (by kernel_rfl) (of_decide_eq_true (by kernel_rfl)) k2 bel lt2) (trodAll_cons_mk (Below.trod laidOut (by kernel_rfl) (of_decide_eq_true (by kernel_rfl)) k3 bel lt3) (trodAll_cons_mk (Below.trod laidOut (by kernel_rfl) (of_decide_eq_true (by kernel_rfl)) k4 bel lt4) (trodAll_cons_mk (Below.trod laidOut (by kernel_rfl) (of_decide_eq_true (by kernel_rfl)) k5 bel lt5) trodAll_mk0)))))), rfl, bel.frame _, fun h => by cases h⟩
theorem over : Rows.stepSizesRow.holds Try.pinned (OpenSpec.ofChange Rows.stepSizesSpec) :=
  OpenClaim.holds_of_wide 6 Try.f6 rfl rfl rfl rfl rfl rfl rfl ⟨rfl, rfl, rfl, rfl, rfl⟩ rfl rfl rfl rfl rfl (by kernel_rfl) Try.func6 (by kernel_rfl)
    (of_decide_eq_true (by kernel_rfl)) (by unfold Func.isWrapper; first | (rw [if_pos (by decide +kernel)]; kernel_rfl) | (rw [if_neg (by decide +kernel)]; exact ⟨rfl, rfl⟩))
    (fun os started H enc _ => lifted os started H enc)
theorem proved : Rows.StepSizesSaid := over
end Go.Proofs.Ytbanbpphadgoiaa.stepSizes
