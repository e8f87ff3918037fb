/- The reference's Equal at graphs. Conditions: lengths. -/
import Derived.Test.YtidaimcndbhefaaGtB
namespace Go.Proofs.Ytidaimcndbhefaa
set_option linter.unusedVariables false
set_option linter.unusedSimpArgs false
open Go.RowKit Go.Maps
set_option maxHeartbeats 4000000
set_option maxRecDepth 100000
theorem req_r (Q : Exit → Act → World → Prop) (a0 : Act) (w : World) (bx bY : Nat) (a b : Addr) (N xc yc i : Nat) (xD yD : Value) (x y : Int) (r : Bool) (hx : Hid (∀ W, Below w.heap.size w W → W.cell? ⟨bx, 0, none⟩ = some (.slice (some a) N xc) ∧ W.cell? (a.add i) = some (.int .i64 x))) (hy : Hid (∀ W, Below w.heap.size w W → W.cell? ⟨bY, 0, none⟩ = some (.slice (some b) N yc) ∧ W.cell? (b.add i) = some (.int .i64 y))) (hr : (x != y) = r) (p1 : (0 : Int) ≤ (i : Int)) (p2 : (i : Int) < (N : Int)) (hsz : a0.tmps.size = 112) (sl6 : a0.tmps.getD 6 undef = .pointer (some ⟨bx, 0, none⟩)) (sl7 : a0.tmps.getD 7 undef = .pointer (some ⟨bY, 0, none⟩)) (sl8 : a0.tmps.getD 8 undef = .int .i64 i)
    (fin : ∀ (vals : Nat → Value) (w1 : World), Below w.heap.size w w1 → (IsV (.bool r)) (vals 10) w1 → Q .normal (putD vals [66, 67, 68, 69, 70, 71, 72, 73, 74, 75, 76] 0 a0) w1) :
    (Code.region 13 (regIn Try.f17 13) true).wp Try.prog Q a0 w := by
  refine region_by (G := fun w w1 => Below w.heap.size w w1) [IsV (.pointer (some ⟨bx, 0, none⟩)),
    IsV (.slice (some a) N xc),
    IsV (.int .i64 i),
    IsV (.pointer (some (a.add i))),
    IsV (.int .i64 x),
    IsV (.pointer (some ⟨bY, 0, none⟩)),
    IsV (.slice (some b) N yc),
    IsV (.int .i64 i),
    IsV (.pointer (some (b.add i))),
    IsV (.int .i64 y),
    IsV (.bool r)]
    [66, 67, 68, 69, 70, 71, 72, 73, 74, 75, 76] (by kernel_rfl) (Gw.drew _) Gw.trans (by rw [hsz]; kernel_rfl) (by kernel_rfl) ?_ ?_ ?_
  · intro f hf
    simp only [List.mem_cons, List.not_mem_nil, or_false] at hf
    rcases hf with rfl | rfl | rfl | rfl | rfl | rfl | rfl | rfl | rfl | rfl | rfl <;> intro v a b h g <;> first | exact IsV.mono h
  · refine ⟨?_, ?_, ?_, ?_, ?_, ?_, ?_, ?_, ?_, ?_, ?_, trivial⟩
    · refine owes_v (Go.Op.fieldAddr 60 (Go.Operand.tmp 6) 0) 0 [] (by kernel_rfl) (by kernel_rfl) (by kernel_rfl) rfl fun vals w1 ρ hG hF hρ hcst hfun => ?_
      have e6 : ρ (.tmp 6) = .pointer (some ⟨bx, 0, none⟩) := ((hρ 6).trans (slotO [] (by kernel_rfl))).trans sl6
      clear hρ hF hcst hfun sl6 sl7 sl8 fin
      exact opv_val (by go_simp <;> rfl) ⟨gw_self _, rfl⟩
    · refine owes_v (Go.Op.load 26 (Go.Operand.tmp 66)) 26 [0] (by kernel_rfl) (by kernel_rfl) (by kernel_rfl) rfl fun vals w1 ρ hG hF hρ hcst hfun => ?_
      have e66 : ρ (.tmp 66) = .pointer (some ⟨bx, 0, none⟩) := ((hρ 66).trans (slotJ [0] (by rw [hsz]; decide) (by kernel_rfl))).trans (hF 0 (by decide))
      have k := (hx.out w1 hG).1
      clear hρ hF hcst hfun sl6 sl7 sl8 fin
      exact opv_val (by go_simp <;> rfl) ⟨gw_self _, rfl⟩
    · exact owes_mv 8 (by kernel_rfl) (by kernel_rfl) (by kernel_rfl) sl8 (fun _ => rfl)
    · refine owes_v (Go.Op.indexAddr 26 (Go.Operand.tmp 67) (Go.Operand.tmp 68)) 0 [1, 2] (by kernel_rfl) (by kernel_rfl) (by kernel_rfl) rfl fun vals w1 ρ hG hF hρ hcst hfun => ?_
      have e67 : ρ (.tmp 67) = .slice (some a) N xc := ((hρ 67).trans (slotJ [1, 2] (by rw [hsz]; decide) (by kernel_rfl))).trans (hF 1 (by decide))
      have e68 : ρ (.tmp 68) = .int .i64 i := ((hρ 68).trans (slotJ [1, 2] (by rw [hsz]; decide) (by kernel_rfl))).trans (hF 2 (by decide))
      clear hρ hF hcst hfun sl6 sl7 sl8 fin
      exact opv_val (by go_simp <;> rfl) ⟨gw_self _, rfl⟩
    · refine owes_v (Go.Op.load 3 (Go.Operand.tmp 69)) 3 [3] (by kernel_rfl) (by kernel_rfl) (by kernel_rfl) rfl fun vals w1 ρ hG hF hρ hcst hfun => ?_
      have e69 : ρ (.tmp 69) = .pointer (some (a.add i)) := ((hρ 69).trans (slotJ [3] (by rw [hsz]; decide) (by kernel_rfl))).trans (hF 3 (by decide))
      have k := (hx.out w1 hG).2
      clear hρ hF hcst hfun sl6 sl7 sl8 fin
      exact opv_val (by go_simp <;> rfl) ⟨gw_self _, rfl⟩
    · refine owes_v (Go.Op.fieldAddr 60 (Go.Operand.tmp 7) 0) 0 [] (by kernel_rfl) (by kernel_rfl) (by kernel_rfl) rfl fun vals w1 ρ hG hF hρ hcst hfun => ?_
      have e7 : ρ (.tmp 7) = .pointer (some ⟨bY, 0, none⟩) := ((hρ 7).trans (slotO [] (by kernel_rfl))).trans sl7
      clear hρ hF hcst hfun sl6 sl7 sl8 fin
      exact opv_val (by go_simp <;> rfl) ⟨gw_self _, rfl⟩
    · refine owes_v (Go.Op.load 26 (Go.Operand.tmp 71)) 26 [5] (by kernel_rfl) (by kernel_rfl) (by kernel_rfl) rfl fun vals w1 ρ hG hF hρ hcst hfun => ?_
      have e71 : ρ (.tmp 71) = .pointer (some ⟨bY, 0, none⟩) := ((hρ 71).trans (slotJ [5] (by rw [hsz]; decide) (by kernel_rfl))).trans (hF 5 (by decide))
      have k := (hy.out w1 hG).1
      clear hρ hF hcst hfun sl6 sl7 sl8 fin
      exact opv_val (by go_simp <;> rfl) ⟨gw_self _, rfl⟩
    · exact owes_mv 8 (by kernel_rfl) (by kernel_rfl) (by kernel_rfl) sl8 (fun _ => rfl)
    · refine owes_v (Go.Op.indexAddr 26 (Go.Operand.tmp 72) (Go.Operand.tmp 73)) 0 [6, 7] (by kernel_rfl) (by kernel_rfl) (by kernel_rfl) rfl fun vals w1 ρ hG hF hρ hcst hfun => ?_
      have e72 : ρ (.tmp 72) = .slice (some b) N yc := ((hρ 72).trans (slotJ [6, 7] (by rw [hsz]; decide) (by kernel_rfl))).trans (hF 6 (by decide))
      have e73 : ρ (.tmp 73) = .int .i64 i := ((hρ 73).trans (slotJ [6, 7] (by rw [hsz]; decide) (by kernel_rfl))).trans (hF 7 (by decide))
      clear hρ hF hcst hfun sl6 sl7 sl8 fin
      exact opv_val (by go_simp <;> rfl) ⟨gw_self _, rfl⟩
    · refine owes_v (Go.Op.load 3 (Go.Operand.tmp 74)) 3 [8] (by kernel_rfl) (by kernel_rfl) (by kernel_rfl) rfl fun vals w1 ρ hG hF hρ hcst hfun => ?_
      have e74 : ρ (.tmp 74) = .pointer (some (b.add i)) := ((hρ 74).trans (slotJ [8] (by rw [hsz]; decide) (by kernel_rfl))).trans (hF 8 (by decide))
      have k := (hy.out w1 hG).2
      clear hρ hF hcst hfun sl6 sl7 sl8 fin
      exact opv_val (by go_simp <;> rfl) ⟨gw_self _, rfl⟩
    · refine owes_v (Go.Op.binOp Go.BinOp.neq 3 (Go.Operand.tmp 70) (Go.Operand.tmp 75) 3) 4 [4, 9] (by kernel_rfl) (by kernel_rfl) (by kernel_rfl) rfl fun vals w1 ρ hG hF hρ hcst hfun => ?_
      have e70 : ρ (.tmp 70) = .int .i64 x := ((hρ 70).trans (slotJ [4, 9] (by rw [hsz]; decide) (by kernel_rfl))).trans (hF 4 (by decide))
      have e75 : ρ (.tmp 75) = .int .i64 y := ((hρ 75).trans (slotJ [4, 9] (by rw [hsz]; decide) (by kernel_rfl))).trans (hF 9 (by decide))
      clear hρ hF hcst hfun sl6 sl7 sl8 fin
      exact opv_val (by go_simp <;> first | rfl | exact hr | rw [hr]) ⟨gw_self _, rfl⟩
  · intro vals w1 hG hF
    exact fin vals w1 hG (hF 10 (by decide +kernel))
theorem reqa_r (Q : Exit → Act → World → Prop) (a0 : Act) (w : World) (bx bY : Nat) (a b : Addr) (M xc yc i : Nat) (s u : ByteArray) (hx : Hid (∀ W, Below w.heap.size w W → W.cell? ⟨bx, 1, none⟩ = some (.slice (some a) M xc) ∧ W.cell? (a.add (i * 2)) = some (.string s))) (hy : Hid (∀ W, Below w.heap.size w W → W.cell? ⟨bY, 1, none⟩ = some (.slice (some b) M yc) ∧ W.cell? (b.add (i * 2)) = some (.string u))) (hr : ¬ s.toList = u.toList) (p1 : (0 : Int) ≤ (i : Int)) (p2 : (i : Int) < (M : Int)) (hsz : a0.tmps.size = 112) (sl2 : a0.tmps.getD 2 undef = .pointer (some ⟨bx, 0, none⟩)) (sl3 : a0.tmps.getD 3 undef = .pointer (some ⟨bY, 0, none⟩)) (sl9 : a0.tmps.getD 9 undef = .int .i64 i)
    (fin : ∀ (vals : Nat → Value) (w1 : World), Below w.heap.size w w1 → (IsV (.bool true)) (vals 27) w1 → Q .normal (putD vals [84, 85, 86, 87, 88, 89, 90, 91, 92, 93, 94, 95, 96, 97, 98, 99, 100, 101, 102, 103, 104, 105, 106, 107, 108, 109, 110, 111] 0 a0) w1) :
    (Code.region 18 (regIn Try.f17 18) true).wp Try.prog Q a0 w := by
  refine region_by (G := fun w w1 => Below w.heap.size w w1) [IsV (.pointer (some ⟨bx, 1, none⟩)),
    IsV (.slice (some a) M xc),
    IsV (.int .i64 i),
    IsV (.pointer (some (a.add (i * 2)))),
    IsV (.pointer (some (a.add (i * 2)))),
    IsV (.string s),
    IsV (.pointer (some ⟨bY, 1, none⟩)),
    IsV (.slice (some b) M yc),
    IsV (.int .i64 i),
    IsV (.pointer (some (b.add (i * 2)))),
    IsV (.pointer (some (b.add (i * 2)))),
    IsV (.string u),
    IsV (.bool true),
    IsV (.bool true),
    IsV undef,
    IsV undef,
    IsV undef,
    IsV undef,
    IsV undef,
    IsV undef,
    IsV undef,
    IsV undef,
    IsV undef,
    IsV undef,
    IsV undef,
    IsV undef,
    IsV undef,
    IsV (.bool true)]
    [84, 85, 86, 87, 88, 89, 90, 91, 92, 93, 94, 95, 96, 97, 98, 99, 100, 101, 102, 103, 104, 105, 106, 107, 108, 109, 110, 111] (by kernel_rfl) (Gw.drew _) Gw.trans (by rw [hsz]; kernel_rfl) (by kernel_rfl) ?_ ?_ ?_
  · intro f hf
    simp only [List.mem_cons, List.not_mem_nil, or_false] at hf
    rcases hf with rfl | rfl | rfl | rfl | rfl | rfl | rfl | rfl | rfl | rfl | rfl | rfl | rfl | rfl | rfl | rfl | rfl | rfl | rfl | rfl | rfl | rfl | rfl | rfl | rfl | rfl | rfl | rfl <;> intro v a b h g <;> first | exact IsV.mono h
  · refine ⟨?_, ?_, ?_, ?_, ?_, ?_, ?_, ?_, ?_, ?_, ?_, ?_, ?_, ?_, ?_, ?_, ?_, ?_, ?_, ?_, ?_, ?_, ?_, ?_, ?_, ?_, ?_, ?_, trivial⟩
    · refine owes_v (Go.Op.fieldAddr 32 (Go.Operand.tmp 2) 1) 0 [] (by kernel_rfl) (by kernel_rfl) (by kernel_rfl) rfl fun vals w1 ρ hG hF hρ hcst hfun => ?_
      have e2 : ρ (.tmp 2) = .pointer (some ⟨bx, 0, none⟩) := ((hρ 2).trans (slotO [] (by kernel_rfl))).trans sl2
      clear hρ hF hcst hfun sl2 sl3 sl9 fin
      exact opv_val (by go_simp <;> rfl) ⟨gw_self _, rfl⟩
    · refine owes_v (Go.Op.load 30 (Go.Operand.tmp 84)) 30 [0] (by kernel_rfl) (by kernel_rfl) (by kernel_rfl) rfl fun vals w1 ρ hG hF hρ hcst hfun => ?_
      have e84 : ρ (.tmp 84) = .pointer (some ⟨bx, 1, none⟩) := ((hρ 84).trans (slotJ [0] (by rw [hsz]; decide) (by kernel_rfl))).trans (hF 0 (by decide))
      have k := (hx.out w1 hG).1
      clear hρ hF hcst hfun sl2 sl3 sl9 fin
      exact opv_val (by go_simp <;> rfl) ⟨gw_self _, rfl⟩
    · exact owes_mv 9 (by kernel_rfl) (by kernel_rfl) (by kernel_rfl) sl9 (fun _ => rfl)
    · refine owes_v (Go.Op.indexAddr 30 (Go.Operand.tmp 85) (Go.Operand.tmp 86)) 0 [1, 2] (by kernel_rfl) (by kernel_rfl) (by kernel_rfl) rfl fun vals w1 ρ hG hF hρ hcst hfun => ?_
      have e85 : ρ (.tmp 85) = .slice (some a) M xc := ((hρ 85).trans (slotJ [1, 2] (by rw [hsz]; decide) (by kernel_rfl))).trans (hF 1 (by decide))
      have e86 : ρ (.tmp 86) = .int .i64 i := ((hρ 86).trans (slotJ [1, 2] (by rw [hsz]; decide) (by kernel_rfl))).trans (hF 2 (by decide))
      clear hρ hF hcst hfun sl2 sl3 sl9 fin
      exact opv_val (by go_simp <;> rfl) ⟨gw_self _, rfl⟩
    · refine owes_v (Go.Op.fieldAddr 61 (Go.Operand.tmp 87) 0) 0 [3] (by kernel_rfl) (by kernel_rfl) (by kernel_rfl) rfl fun vals w1 ρ hG hF hρ hcst hfun => ?_
      have e87 : ρ (.tmp 87) = .pointer (some (a.add (i * 2))) := ((hρ 87).trans (slotJ [3] (by rw [hsz]; decide) (by kernel_rfl))).trans (hF 3 (by decide))
      clear hρ hF hcst hfun sl2 sl3 sl9 fin
      exact opv_val (by go_simp <;> rfl) ⟨gw_self _, rfl⟩
    · refine owes_v (Go.Op.load 9 (Go.Operand.tmp 88)) 9 [4] (by kernel_rfl) (by kernel_rfl) (by kernel_rfl) rfl fun vals w1 ρ hG hF hρ hcst hfun => ?_
      have e88 : ρ (.tmp 88) = .pointer (some (a.add (i * 2))) := ((hρ 88).trans (slotJ [4] (by rw [hsz]; decide) (by kernel_rfl))).trans (hF 4 (by decide))
      have k := (hx.out w1 hG).2
      clear hρ hF hcst hfun sl2 sl3 sl9 fin
      exact opv_val (by go_simp <;> rfl) ⟨gw_self _, rfl⟩
    · refine owes_v (Go.Op.fieldAddr 32 (Go.Operand.tmp 3) 1) 0 [] (by kernel_rfl) (by kernel_rfl) (by kernel_rfl) rfl fun vals w1 ρ hG hF hρ hcst hfun => ?_
      have e3 : ρ (.tmp 3) = .pointer (some ⟨bY, 0, none⟩) := ((hρ 3).trans (slotO [] (by kernel_rfl))).trans sl3
      clear hρ hF hcst hfun sl2 sl3 sl9 fin
      exact opv_val (by go_simp <;> rfl) ⟨gw_self _, rfl⟩
    · refine owes_v (Go.Op.load 30 (Go.Operand.tmp 90)) 30 [6] (by kernel_rfl) (by kernel_rfl) (by kernel_rfl) rfl fun vals w1 ρ hG hF hρ hcst hfun => ?_
      have e90 : ρ (.tmp 90) = .pointer (some ⟨bY, 1, none⟩) := ((hρ 90).trans (slotJ [6] (by rw [hsz]; decide) (by kernel_rfl))).trans (hF 6 (by decide))
      have k := (hy.out w1 hG).1
      clear hρ hF hcst hfun sl2 sl3 sl9 fin
      exact opv_val (by go_simp <;> rfl) ⟨gw_self _, rfl⟩
    · exact owes_mv 9 (by kernel_rfl) (by kernel_rfl) (by kernel_rfl) sl9 (fun _ => rfl)
    · refine owes_v (Go.Op.indexAddr 30 (Go.Operand.tmp 91) (Go.Operand.tmp 92)) 0 [7, 8] (by kernel_rfl) (by kernel_rfl) (by kernel_rfl) rfl fun vals w1 ρ hG hF hρ hcst hfun => ?_
      have e91 : ρ (.tmp 91) = .slice (some b) M yc := ((hρ 91).trans (slotJ [7, 8] (by rw [hsz]; decide) (by kernel_rfl))).trans (hF 7 (by decide))
      have e92 : ρ (.tmp 92) = .int .i64 i := ((hρ 92).trans (slotJ [7, 8] (by rw [hsz]; decide) (by kernel_rfl))).trans (hF 8 (by decide))
      clear hρ hF hcst hfun sl2 sl3 sl9 fin
      exact opv_val (by go_simp <;> rfl) ⟨gw_self _, rfl⟩
    · refine owes_v (Go.Op.fieldAddr 61 (Go.Operand.tmp 93) 0) 0 [9] (by kernel_rfl) (by kernel_rfl) (by kernel_rfl) rfl fun vals w1 ρ hG hF hρ hcst hfun => ?_
      have e93 : ρ (.tmp 93) = .pointer (some (b.add (i * 2))) := ((hρ 93).trans (slotJ [9] (by rw [hsz]; decide) (by kernel_rfl))).trans (hF 9 (by decide))
      clear hρ hF hcst hfun sl2 sl3 sl9 fin
      exact opv_val (by go_simp <;> rfl) ⟨gw_self _, rfl⟩
    · refine owes_v (Go.Op.load 9 (Go.Operand.tmp 94)) 9 [10] (by kernel_rfl) (by kernel_rfl) (by kernel_rfl) rfl fun vals w1 ρ hG hF hρ hcst hfun => ?_
      have e94 : ρ (.tmp 94) = .pointer (some (b.add (i * 2))) := ((hρ 94).trans (slotJ [10] (by rw [hsz]; decide) (by kernel_rfl))).trans (hF 10 (by decide))
      have k := (hy.out w1 hG).2
      clear hρ hF hcst hfun sl2 sl3 sl9 fin
      exact opv_val (by go_simp <;> rfl) ⟨gw_self _, rfl⟩
    · refine owes_v (Go.Op.binOp Go.BinOp.neq 9 (Go.Operand.tmp 89) (Go.Operand.tmp 95) 9) 4 [5, 11] (by kernel_rfl) (by kernel_rfl) (by kernel_rfl) rfl fun vals w1 ρ hG hF hρ hcst hfun => ?_
      have e89 : ρ (.tmp 89) = .string s := ((hρ 89).trans (slotJ [5, 11] (by rw [hsz]; decide) (by kernel_rfl))).trans (hF 5 (by decide))
      have e95 : ρ (.tmp 95) = .string u := ((hρ 95).trans (slotJ [5, 11] (by rw [hsz]; decide) (by kernel_rfl))).trans (hF 11 (by decide))
      clear hρ hF hcst hfun sl2 sl3 sl9 fin
      exact opv_val (by go_simp <;> first | rfl | exact hr) ⟨gw_self _, rfl⟩
    · exact owes_mvj 12 96 (by kernel_rfl) (by kernel_rfl) (by kernel_rfl) (by kernel_rfl) (by rw [hsz]; decide) (fun v w h => h)
    · exact owes_no 13 true false (by decide) (by kernel_rfl) (by kernel_rfl) (fun _ _ h => h) (by rw [hsz]; kernel_rfl) (fun _ => rfl)
    · exact owes_no 13 true false (by decide) (by kernel_rfl) (by kernel_rfl) (fun _ _ h => h) (by rw [hsz]; kernel_rfl) (fun _ => rfl)
    · exact owes_no 13 true false (by decide) (by kernel_rfl) (by kernel_rfl) (fun _ _ h => h) (by rw [hsz]; kernel_rfl) (fun _ => rfl)
    · exact owes_no 13 true false (by decide) (by kernel_rfl) (by kernel_rfl) (fun _ _ h => h) (by rw [hsz]; kernel_rfl) (fun _ => rfl)
    · exact owes_no 13 true false (by decide) (by kernel_rfl) (by kernel_rfl) (fun _ _ h => h) (by rw [hsz]; kernel_rfl) (fun _ => rfl)
    · exact owes_no 13 true false (by decide) (by kernel_rfl) (by kernel_rfl) (fun _ _ h => h) (by rw [hsz]; kernel_rfl) (fun _ => rfl)
    · exact owes_no 13 true false (by decide) (by kernel_rfl) (by kernel_rfl) (fun _ _ h => h) (by rw [hsz]; kernel_rfl) (fun _ => rfl)
    · exact owes_no 13 true false (by decide) (by kernel_rfl) (by kernel_rfl) (fun _ _ h => h) (by rw [hsz]; kernel_rfl) (fun _ => rfl)
    · exact owes_no 13 true false (by decide) (by kernel_rfl) (by kernel_rfl) (fun _ _ h => h) (by rw [hsz]; kernel_rfl) (fun _ => rfl)
    · exact owes_no 13 true false (by decide) (by kernel_rfl) (by kernel_rfl) (fun _ _ h => h) (by rw [hsz]; kernel_rfl) (fun _ => rfl)
    · exact owes_no 13 true false (by decide) (by kernel_rfl) (by kernel_rfl) (fun _ _ h => h) (by rw [hsz]; kernel_rfl) (fun _ => rfl)
    · exact owes_no 13 true false (by decide) (by kernel_rfl) (by kernel_rfl) (fun _ _ h => h) (by rw [hsz]; kernel_rfl) (fun _ => rfl)
    · exact owes_no 13 true false (by decide) (by kernel_rfl) (by kernel_rfl) (fun _ _ h => h) (by rw [hsz]; kernel_rfl) (fun _ => rfl)
    · refine owes_v (Go.Op.pick (Go.Operand.tmp 97) (Go.Operand.const (Go.Value.bool true)) (Go.Operand.tmp 110)) 4 [13, 26] (by kernel_rfl) (by kernel_rfl) (by kernel_rfl) rfl fun vals w1 ρ hG hF hρ hcst hfun => ?_
      have e97 : ρ (.tmp 97) = .bool true := ((hρ 97).trans (slotJ [13, 26] (by rw [hsz]; decide) (by kernel_rfl))).trans (hF 13 (by decide))
      have e110 : ρ (.tmp 110) = undef := ((hρ 110).trans (slotJ [13, 26] (by rw [hsz]; decide) (by kernel_rfl))).trans (hF 26 (by decide))
      clear hρ hF hfun sl2 sl3 sl9 fin
      exact opv_val (by go_simp <;> rfl) ⟨gw_self _, rfl⟩
  · intro vals w1 hG hF
    exact fin vals w1 hG (hF 27 (by decide +kernel))
theorem reqb_r (Q : Exit → Act → World → Prop) (a0 : Act) (w : World) (bx bY : Nat) (a b : Addr) (M xc yc i : Nat) (s : ByteArray) (x y : Int) (r : Bool) (hx : Hid (∀ W, Below w.heap.size w W → W.cell? ⟨bx, 1, none⟩ = some (.slice (some a) M xc) ∧ W.cell? (a.add (i * 2)) = some (.string s) ∧ W.cell? ⟨(a.add (i * 2)).block, (a.add (i * 2)).off + 1, none⟩ = some (.int .i64 x))) (hy : Hid (∀ W, Below w.heap.size w W → W.cell? ⟨bY, 1, none⟩ = some (.slice (some b) M yc) ∧ W.cell? (b.add (i * 2)) = some (.string s) ∧ W.cell? ⟨(b.add (i * 2)).block, (b.add (i * 2)).off + 1, none⟩ = some (.int .i64 y))) (hr : (x != y) = r) (p1 : (0 : Int) ≤ (i : Int)) (p2 : (i : Int) < (M : Int)) (hsz : a0.tmps.size = 112) (sl2 : a0.tmps.getD 2 undef = .pointer (some ⟨bx, 0, none⟩)) (sl3 : a0.tmps.getD 3 undef = .pointer (some ⟨bY, 0, none⟩)) (sl9 : a0.tmps.getD 9 undef = .int .i64 i)
    (fin : ∀ (vals : Nat → Value) (w1 : World), Below w.heap.size w w1 → (IsV (.bool r)) (vals 27) w1 → Q .normal (putD vals [84, 85, 86, 87, 88, 89, 90, 91, 92, 93, 94, 95, 96, 97, 98, 99, 100, 101, 102, 103, 104, 105, 106, 107, 108, 109, 110, 111] 0 a0) w1) :
    (Code.region 18 (regIn Try.f17 18) true).wp Try.prog Q a0 w := by
  refine region_by (G := fun w w1 => Below w.heap.size w w1) [IsV (.pointer (some ⟨bx, 1, none⟩)),
    IsV (.slice (some a) M xc),
    IsV (.int .i64 i),
    IsV (.pointer (some (a.add (i * 2)))),
    IsV (.pointer (some (a.add (i * 2)))),
    IsV (.string s),
    IsV (.pointer (some ⟨bY, 1, none⟩)),
    IsV (.slice (some b) M yc),
    IsV (.int .i64 i),
    IsV (.pointer (some (b.add (i * 2)))),
    IsV (.pointer (some (b.add (i * 2)))),
    IsV (.string s),
    IsV (.bool false),
    IsV (.bool false),
    IsV (.pointer (some ⟨bx, 1, none⟩)),
    IsV (.slice (some a) M xc),
    IsV (.int .i64 i),
    IsV (.pointer (some (a.add (i * 2)))),
    IsV (.pointer (some ⟨(a.add (i * 2)).block, (a.add (i * 2)).off + 1, none⟩)),
    IsV (.int .i64 x),
    IsV (.pointer (some ⟨bY, 1, none⟩)),
    IsV (.slice (some b) M yc),
    IsV (.int .i64 i),
    IsV (.pointer (some (b.add (i * 2)))),
    IsV (.pointer (some ⟨(b.add (i * 2)).block, (b.add (i * 2)).off + 1, none⟩)),
    IsV (.int .i64 y),
    IsV (.bool r),
    IsV (.bool r)]
    [84, 85, 86, 87, 88, 89, 90, 91, 92, 93, 94, 95, 96, 97, 98, 99, 100, 101, 102, 103, 104, 105, 106, 107, 108, 109, 110, 111] (by kernel_rfl) (Gw.drew _) Gw.trans (by rw [hsz]; kernel_rfl) (by kernel_rfl) ?_ ?_ ?_
  · intro f hf
    simp only [List.mem_cons, List.not_mem_nil, or_false] at hf
    rcases hf with rfl | rfl | rfl | rfl | rfl | rfl | rfl | rfl | rfl | rfl | rfl | rfl | rfl | rfl | rfl | rfl | rfl | rfl | rfl | rfl | rfl | rfl | rfl | rfl | rfl | rfl | rfl | rfl <;> intro v a b h g <;> first | exact IsV.mono h
  · refine ⟨?_, ?_, ?_, ?_, ?_, ?_, ?_, ?_, ?_, ?_, ?_, ?_, ?_, ?_, ?_, ?_, ?_, ?_, ?_, ?_, ?_, ?_, ?_, ?_, ?_, ?_, ?_, ?_, trivial⟩
    · refine owes_v (Go.Op.fieldAddr 32 (Go.Operand.tmp 2) 1) 0 [] (by kernel_rfl) (by kernel_rfl) (by kernel_rfl) rfl fun vals w1 ρ hG hF hρ hcst hfun => ?_
      have e2 : ρ (.tmp 2) = .pointer (some ⟨bx, 0, none⟩) := ((hρ 2).trans (slotO [] (by kernel_rfl))).trans sl2
      clear hρ hF hcst hfun sl2 sl3 sl9 fin
      exact opv_val (by go_simp <;> rfl) ⟨gw_self _, rfl⟩
    · refine owes_v (Go.Op.load 30 (Go.Operand.tmp 84)) 30 [0] (by kernel_rfl) (by kernel_rfl) (by kernel_rfl) rfl fun vals w1 ρ hG hF hρ hcst hfun => ?_
      have e84 : ρ (.tmp 84) = .pointer (some ⟨bx, 1, none⟩) := ((hρ 84).trans (slotJ [0] (by rw [hsz]; decide) (by kernel_rfl))).trans (hF 0 (by decide))
      have k := (hx.out w1 hG).1
      clear hρ hF hcst hfun sl2 sl3 sl9 fin
      exact opv_val (by go_simp <;> rfl) ⟨gw_self _, rfl⟩
    · exact owes_mv 9 (by kernel_rfl) (by kernel_rfl) (by kernel_rfl) sl9 (fun _ => rfl)
    · refine owes_v (Go.Op.indexAddr 30 (Go.Operand.tmp 85) (Go.Operand.tmp 86)) 0 [1, 2] (by kernel_rfl) (by kernel_rfl) (by kernel_rfl) rfl fun vals w1 ρ hG hF hρ hcst hfun => ?_
      have e85 : ρ (.tmp 85) = .slice (some a) M xc := ((hρ 85).trans (slotJ [1, 2] (by rw [hsz]; decide) (by kernel_rfl))).trans (hF 1 (by decide))
      have e86 : ρ (.tmp 86) = .int .i64 i := ((hρ 86).trans (slotJ [1, 2] (by rw [hsz]; decide) (by kernel_rfl))).trans (hF 2 (by decide))
      clear hρ hF hcst hfun sl2 sl3 sl9 fin
      exact opv_val (by go_simp <;> rfl) ⟨gw_self _, rfl⟩
    · refine owes_v (Go.Op.fieldAddr 61 (Go.Operand.tmp 87) 0) 0 [3] (by kernel_rfl) (by kernel_rfl) (by kernel_rfl) rfl fun vals w1 ρ hG hF hρ hcst hfun => ?_
      have e87 : ρ (.tmp 87) = .pointer (some (a.add (i * 2))) := ((hρ 87).trans (slotJ [3] (by rw [hsz]; decide) (by kernel_rfl))).trans (hF 3 (by decide))
      clear hρ hF hcst hfun sl2 sl3 sl9 fin
      exact opv_val (by go_simp <;> rfl) ⟨gw_self _, rfl⟩
    · refine owes_v (Go.Op.load 9 (Go.Operand.tmp 88)) 9 [4] (by kernel_rfl) (by kernel_rfl) (by kernel_rfl) rfl fun vals w1 ρ hG hF hρ hcst hfun => ?_
      have e88 : ρ (.tmp 88) = .pointer (some (a.add (i * 2))) := ((hρ 88).trans (slotJ [4] (by rw [hsz]; decide) (by kernel_rfl))).trans (hF 4 (by decide))
      have k := (hx.out w1 hG).2.1
      clear hρ hF hcst hfun sl2 sl3 sl9 fin
      exact opv_val (by go_simp <;> rfl) ⟨gw_self _, rfl⟩
    · refine owes_v (Go.Op.fieldAddr 32 (Go.Operand.tmp 3) 1) 0 [] (by kernel_rfl) (by kernel_rfl) (by kernel_rfl) rfl fun vals w1 ρ hG hF hρ hcst hfun => ?_
      have e3 : ρ (.tmp 3) = .pointer (some ⟨bY, 0, none⟩) := ((hρ 3).trans (slotO [] (by kernel_rfl))).trans sl3
      clear hρ hF hcst hfun sl2 sl3 sl9 fin
      exact opv_val (by go_simp <;> rfl) ⟨gw_self _, rfl⟩
    · refine owes_v (Go.Op.load 30 (Go.Operand.tmp 90)) 30 [6] (by kernel_rfl) (by kernel_rfl) (by kernel_rfl) rfl fun vals w1 ρ hG hF hρ hcst hfun => ?_
      have e90 : ρ (.tmp 90) = .pointer (some ⟨bY, 1, none⟩) := ((hρ 90).trans (slotJ [6] (by rw [hsz]; decide) (by kernel_rfl))).trans (hF 6 (by decide))
      have k := (hy.out w1 hG).1
      clear hρ hF hcst hfun sl2 sl3 sl9 fin
      exact opv_val (by go_simp <;> rfl) ⟨gw_self _, rfl⟩
    · exact owes_mv 9 (by kernel_rfl) (by kernel_rfl) (by kernel_rfl) sl9 (fun _ => rfl)
    · refine owes_v (Go.Op.indexAddr 30 (Go.Operand.tmp 91) (Go.Operand.tmp 92)) 0 [7, 8] (by kernel_rfl) (by kernel_rfl) (by kernel_rfl) rfl fun vals w1 ρ hG hF hρ hcst hfun => ?_
      have e91 : ρ (.tmp 91) = .slice (some b) M yc := ((hρ 91).trans (slotJ [7, 8] (by rw [hsz]; decide) (by kernel_rfl))).trans (hF 7 (by decide))
      have e92 : ρ (.tmp 92) = .int .i64 i := ((hρ 92).trans (slotJ [7, 8] (by rw [hsz]; decide) (by kernel_rfl))).trans (hF 8 (by decide))
      clear hρ hF hcst hfun sl2 sl3 sl9 fin
      exact opv_val (by go_simp <;> rfl) ⟨gw_self _, rfl⟩
    · refine owes_v (Go.Op.fieldAddr 61 (Go.Operand.tmp 93) 0) 0 [9] (by kernel_rfl) (by kernel_rfl) (by kernel_rfl) rfl fun vals w1 ρ hG hF hρ hcst hfun => ?_
      have e93 : ρ (.tmp 93) = .pointer (some (b.add (i * 2))) := ((hρ 93).trans (slotJ [9] (by rw [hsz]; decide) (by kernel_rfl))).trans (hF 9 (by decide))
      clear hρ hF hcst hfun sl2 sl3 sl9 fin
      exact opv_val (by go_simp <;> rfl) ⟨gw_self _, rfl⟩
    · refine owes_v (Go.Op.load 9 (Go.Operand.tmp 94)) 9 [10] (by kernel_rfl) (by kernel_rfl) (by kernel_rfl) rfl fun vals w1 ρ hG hF hρ hcst hfun => ?_
      have e94 : ρ (.tmp 94) = .pointer (some (b.add (i * 2))) := ((hρ 94).trans (slotJ [10] (by rw [hsz]; decide) (by kernel_rfl))).trans (hF 10 (by decide))
      have k := (hy.out w1 hG).2.1
      clear hρ hF hcst hfun sl2 sl3 sl9 fin
      exact opv_val (by go_simp <;> rfl) ⟨gw_self _, rfl⟩
    · refine owes_v (Go.Op.binOp Go.BinOp.neq 9 (Go.Operand.tmp 89) (Go.Operand.tmp 95) 9) 4 [5, 11] (by kernel_rfl) (by kernel_rfl) (by kernel_rfl) rfl fun vals w1 ρ hG hF hρ hcst hfun => ?_
      have e89 : ρ (.tmp 89) = .string s := ((hρ 89).trans (slotJ [5, 11] (by rw [hsz]; decide) (by kernel_rfl))).trans (hF 5 (by decide))
      have e95 : ρ (.tmp 95) = .string s := ((hρ 95).trans (slotJ [5, 11] (by rw [hsz]; decide) (by kernel_rfl))).trans (hF 11 (by decide))
      clear hρ hF hcst hfun sl2 sl3 sl9 fin
      exact opv_val (by go_simp <;> rfl) ⟨gw_self _, rfl⟩
    · exact owes_mvj 12 96 (by kernel_rfl) (by kernel_rfl) (by kernel_rfl) (by kernel_rfl) (by rw [hsz]; decide) (fun v w h => h)
    · refine owes_vt 13 false (Go.Op.fieldAddr 32 (Go.Operand.tmp 2) 1) 0 [] (by kernel_rfl) (by kernel_rfl) (by kernel_rfl) (fun _ _ h => h) (by rw [hsz]; kernel_rfl) (by kernel_rfl) rfl fun vals w1 ρ hG hF hρ hcst hfun => ?_
      have e2 : ρ (.tmp 2) = .pointer (some ⟨bx, 0, none⟩) := ((hρ 2).trans (slotO [] (by kernel_rfl))).trans sl2
      clear hρ hF hcst hfun sl2 sl3 sl9 fin
      exact opv_val (by go_simp <;> rfl) ⟨gw_self _, rfl⟩
    · refine owes_vt 13 false (Go.Op.load 30 (Go.Operand.tmp 98)) 30 [14] (by kernel_rfl) (by kernel_rfl) (by kernel_rfl) (fun _ _ h => h) (by rw [hsz]; kernel_rfl) (by kernel_rfl) rfl fun vals w1 ρ hG hF hρ hcst hfun => ?_
      have e98 : ρ (.tmp 98) = .pointer (some ⟨bx, 1, none⟩) := ((hρ 98).trans (slotJ [14] (by rw [hsz]; decide) (by kernel_rfl))).trans (hF 14 (by decide))
      have k := (hx.out w1 hG).1
      clear hρ hF hcst hfun sl2 sl3 sl9 fin
      exact opv_val (by go_simp <;> rfl) ⟨gw_self _, rfl⟩
    · refine owes_vt 13 false (Go.Op.move (Go.Operand.tmp 9)) 3 [] (by kernel_rfl) (by kernel_rfl) (by kernel_rfl) (fun _ _ h => h) (by rw [hsz]; kernel_rfl) (by kernel_rfl) rfl fun vals w1 ρ hG hF hρ hcst hfun => ?_
      have e9 : ρ (.tmp 9) = .int .i64 i := ((hρ 9).trans (slotO [] (by kernel_rfl))).trans sl9
      clear hρ hF hcst hfun sl2 sl3 sl9 fin
      exact opv_val (by go_simp <;> rfl) ⟨gw_self _, rfl⟩
    · refine owes_vt 13 false (Go.Op.indexAddr 30 (Go.Operand.tmp 99) (Go.Operand.tmp 100)) 0 [15, 16] (by kernel_rfl) (by kernel_rfl) (by kernel_rfl) (fun _ _ h => h) (by rw [hsz]; kernel_rfl) (by kernel_rfl) rfl fun vals w1 ρ hG hF hρ hcst hfun => ?_
      have e99 : ρ (.tmp 99) = .slice (some a) M xc := ((hρ 99).trans (slotJ [15, 16] (by rw [hsz]; decide) (by kernel_rfl))).trans (hF 15 (by decide))
      have e100 : ρ (.tmp 100) = .int .i64 i := ((hρ 100).trans (slotJ [15, 16] (by rw [hsz]; decide) (by kernel_rfl))).trans (hF 16 (by decide))
      clear hρ hF hcst hfun sl2 sl3 sl9 fin
      exact opv_val (by go_simp <;> rfl) ⟨gw_self _, rfl⟩
    · refine owes_vt 13 false (Go.Op.fieldAddr 61 (Go.Operand.tmp 101) 1) 0 [17] (by kernel_rfl) (by kernel_rfl) (by kernel_rfl) (fun _ _ h => h) (by rw [hsz]; kernel_rfl) (by kernel_rfl) rfl fun vals w1 ρ hG hF hρ hcst hfun => ?_
      have e101 : ρ (.tmp 101) = .pointer (some (a.add (i * 2))) := ((hρ 101).trans (slotJ [17] (by rw [hsz]; decide) (by kernel_rfl))).trans (hF 17 (by decide))
      clear hρ hF hcst hfun sl2 sl3 sl9 fin
      exact opv_val (by go_simp <;> rfl) ⟨gw_self _, rfl⟩
    · refine owes_vt 13 false (Go.Op.load 3 (Go.Operand.tmp 102)) 3 [18] (by kernel_rfl) (by kernel_rfl) (by kernel_rfl) (fun _ _ h => h) (by rw [hsz]; kernel_rfl) (by kernel_rfl) rfl fun vals w1 ρ hG hF hρ hcst hfun => ?_
      have e102 : ρ (.tmp 102) = .pointer (some ⟨(a.add (i * 2)).block, (a.add (i * 2)).off + 1, none⟩) := ((hρ 102).trans (slotJ [18] (by rw [hsz]; decide) (by kernel_rfl))).trans (hF 18 (by decide))
      have k := (hx.out w1 hG).2.2
      clear hρ hF hcst hfun sl2 sl3 sl9 fin
      exact opv_val (by go_simp <;> rfl) ⟨gw_self _, rfl⟩
    · refine owes_vt 13 false (Go.Op.fieldAddr 32 (Go.Operand.tmp 3) 1) 0 [] (by kernel_rfl) (by kernel_rfl) (by kernel_rfl) (fun _ _ h => h) (by rw [hsz]; kernel_rfl) (by kernel_rfl) rfl fun vals w1 ρ hG hF hρ hcst hfun => ?_
      have e3 : ρ (.tmp 3) = .pointer (some ⟨bY, 0, none⟩) := ((hρ 3).trans (slotO [] (by kernel_rfl))).trans sl3
      clear hρ hF hcst hfun sl2 sl3 sl9 fin
      exact opv_val (by go_simp <;> rfl) ⟨gw_self _, rfl⟩
    · refine owes_vt 13 false (Go.Op.load 30 (Go.Operand.tmp 104)) 30 [20] (by kernel_rfl) (by kernel_rfl) (by kernel_rfl) (fun _ _ h => h) (by rw [hsz]; kernel_rfl) (by kernel_rfl) rfl fun vals w1 ρ hG hF hρ hcst hfun => ?_
      have e104 : ρ (.tmp 104) = .pointer (some ⟨bY, 1, none⟩) := ((hρ 104).trans (slotJ [20] (by rw [hsz]; decide) (by kernel_rfl))).trans (hF 20 (by decide))
      have k := (hy.out w1 hG).1
      clear hρ hF hcst hfun sl2 sl3 sl9 fin
      exact opv_val (by go_simp <;> rfl) ⟨gw_self _, rfl⟩
    · refine owes_vt 13 false (Go.Op.move (Go.Operand.tmp 9)) 3 [] (by kernel_rfl) (by kernel_rfl) (by kernel_rfl) (fun _ _ h => h) (by rw [hsz]; kernel_rfl) (by kernel_rfl) rfl fun vals w1 ρ hG hF hρ hcst hfun => ?_
      have e9 : ρ (.tmp 9) = .int .i64 i := ((hρ 9).trans (slotO [] (by kernel_rfl))).trans sl9
      clear hρ hF hcst hfun sl2 sl3 sl9 fin
      exact opv_val (by go_simp <;> rfl) ⟨gw_self _, rfl⟩
    · refine owes_vt 13 false (Go.Op.indexAddr 30 (Go.Operand.tmp 105) (Go.Operand.tmp 106)) 0 [21, 22] (by kernel_rfl) (by kernel_rfl) (by kernel_rfl) (fun _ _ h => h) (by rw [hsz]; kernel_rfl) (by kernel_rfl) rfl fun vals w1 ρ hG hF hρ hcst hfun => ?_
      have e105 : ρ (.tmp 105) = .slice (some b) M yc := ((hρ 105).trans (slotJ [21, 22] (by rw [hsz]; decide) (by kernel_rfl))).trans (hF 21 (by decide))
      have e106 : ρ (.tmp 106) = .int .i64 i := ((hρ 106).trans (slotJ [21, 22] (by rw [hsz]; decide) (by kernel_rfl))).trans (hF 22 (by decide))
      clear hρ hF hcst hfun sl2 sl3 sl9 fin
      exact opv_val (by go_simp <;> rfl) ⟨gw_self _, rfl⟩
    · refine owes_vt 13 false (Go.Op.fieldAddr 61 (Go.Operand.tmp 107) 1) 0 [23] (by kernel_rfl) (by kernel_rfl) (by kernel_rfl) (fun _ _ h => h) (by rw [hsz]; kernel_rfl) (by kernel_rfl) rfl fun vals w1 ρ hG hF hρ hcst hfun => ?_
      have e107 : ρ (.tmp 107) = .pointer (some (b.add (i * 2))) := ((hρ 107).trans (slotJ [23] (by rw [hsz]; decide) (by kernel_rfl))).trans (hF 23 (by decide))
      clear hρ hF hcst hfun sl2 sl3 sl9 fin
      exact opv_val (by go_simp <;> rfl) ⟨gw_self _, rfl⟩
    · refine owes_vt 13 false (Go.Op.load 3 (Go.Operand.tmp 108)) 3 [24] (by kernel_rfl) (by kernel_rfl) (by kernel_rfl) (fun _ _ h => h) (by rw [hsz]; kernel_rfl) (by kernel_rfl) rfl fun vals w1 ρ hG hF hρ hcst hfun => ?_
      have e108 : ρ (.tmp 108) = .pointer (some ⟨(b.add (i * 2)).block, (b.add (i * 2)).off + 1, none⟩) := ((hρ 108).trans (slotJ [24] (by rw [hsz]; decide) (by kernel_rfl))).trans (hF 24 (by decide))
      have k := (hy.out w1 hG).2.2
      clear hρ hF hcst hfun sl2 sl3 sl9 fin
      exact opv_val (by go_simp <;> rfl) ⟨gw_self _, rfl⟩
    · refine owes_vt 13 false (Go.Op.binOp Go.BinOp.neq 3 (Go.Operand.tmp 103) (Go.Operand.tmp 109) 3) 4 [19, 25] (by kernel_rfl) (by kernel_rfl) (by kernel_rfl) (fun _ _ h => h) (by rw [hsz]; kernel_rfl) (by kernel_rfl) rfl fun vals w1 ρ hG hF hρ hcst hfun => ?_
      have e103 : ρ (.tmp 103) = .int .i64 x := ((hρ 103).trans (slotJ [19, 25] (by rw [hsz]; decide) (by kernel_rfl))).trans (hF 19 (by decide))
      have e109 : ρ (.tmp 109) = .int .i64 y := ((hρ 109).trans (slotJ [19, 25] (by rw [hsz]; decide) (by kernel_rfl))).trans (hF 25 (by decide))
      clear hρ hF hcst hfun sl2 sl3 sl9 fin
      exact opv_val (by go_simp <;> first | rfl | exact hr | rw [hr]) ⟨gw_self _, rfl⟩
    · refine owes_v (Go.Op.pick (Go.Operand.tmp 97) (Go.Operand.const (Go.Value.bool true)) (Go.Operand.tmp 110)) 4 [13, 26] (by kernel_rfl) (by kernel_rfl) (by kernel_rfl) rfl fun vals w1 ρ hG hF hρ hcst hfun => ?_
      have e97 : ρ (.tmp 97) = .bool false := ((hρ 97).trans (slotJ [13, 26] (by rw [hsz]; decide) (by kernel_rfl))).trans (hF 13 (by decide))
      have e110 : ρ (.tmp 110) = .bool r := ((hρ 110).trans (slotJ [13, 26] (by rw [hsz]; decide) (by kernel_rfl))).trans (hF 26 (by decide))
      clear hρ hF hfun sl2 sl3 sl9 fin
      exact opv_val (by go_simp <;> rfl) ⟨gw_self _, rfl⟩
  · intro vals w1 hG hF
    exact fin vals w1 hG (hF 27 (by decide +kernel))
theorem same_false {a b : Gv} (h : ¬ (a.r = b.r ∧ a.n.map Nv.m = b.n.map Nv.m)) : sameG a b = false := by
  cases e : sameG a b with
  | false => rfl
  | true =>
    unfold sameG at e
    rw [Bool.and_eq_true, sameR_iff, sameNs_iff] at e
    exact absurd e h
theorem same_true {a b : Gv} (h : a.r = b.r) (h2 : a.n.map Nv.m = b.n.map Nv.m) : sameG a b = true := by
  unfold sameG
  rw [Bool.and_eq_true, sameR_iff, sameNs_iff]
  exact ⟨h, h2⟩
theorem str_ne {xs ys : List (BitVec 8)} (h : ¬ xs = ys) : ¬ (strB xs).toList = (strB ys).toList := fun e => h (strB_inj (listB_inj e))
theorem req_c (w : World) (a b : Gv) (ha : a.At w w.heap.size) (hb : b.At w w.heap.size) (hs : FewP a) : Calls Try.prog 17 #[a.v, b.v] w (RetP (.bool (sameG a b)) w) := by
  have HA := Lib.hid ha
  have HB := Lib.hid hb
  obtain ⟨R, hR⟩ : ∃ R, R = sameG a b := ⟨_, rfl⟩
  rw [← hR]
  have HR := Lib.hid hR
  have HP := Lib.hid hs.2.2.1
  have hsn := hs.1
  have hsr := hs.2.1
  obtain ⟨A, ca, A2, ca2, ns, rs⟩ := a
  obtain ⟨C, cc, C2, cc2, ms, us⟩ := b
  obtain ⟨N, hN⟩ : ∃ N, N = ns.length := ⟨_, rfl⟩
  obtain ⟨M, hM⟩ : ∃ M, M = rs.length := ⟨_, rfl⟩
  obtain ⟨N2, hN2⟩ : ∃ N2, N2 = ms.length := ⟨_, rfl⟩
  obtain ⟨M2, hM2⟩ : ∃ M2, M2 = us.length := ⟨_, rfl⟩
  have q0 : (N : Int) ≤ 60 := by rw [hN]; exact Int.ofNat_le.2 hsn
  have q1 : (M : Int) ≤ 80 := by rw [hM]; exact Int.ofNat_le.2 hsr
  have HN := Lib.hid (And.intro hN (And.intro hM (And.intro hN2 hM2)))
  unfold Gv.v Gv.vn Gv.vr
  simp only at HP ⊢
  rw [← hN, ← hM, ← hN2, ← hM2]
  clear ha hb hs hsn hsr hN hM hN2 hM2 hR
  go_enter Try.func17, Try.ntmps17
  by_cases hnn : N = N2
  · by_cases hmm : M = M2
    · subst hnn
      subst hmm
      go_wp2_with fail
      obtain ⟨W1, hW1⟩ : ∃ W1, W1 = (w.alloc (.cells #[.slice A N ca, .slice A2 M ca2] 32)).alloc (.cells #[.slice C N cc, .slice C2 M cc2] 32) := ⟨_, rfl⟩
      have HW1 := Lib.hid (show Bk W1 w.heap.size 32 #[.slice A N ca, .slice A2 M ca2] ∧ Bk W1 (w.heap.size + 1) 32 #[.slice C N cc, .slice C2 M cc2] ∧ Below w.heap.size w W1 from by
        rw [hW1]
        have k1 := Bk.new (w.alloc (.cells #[.slice A N ca, .slice A2 M ca2] 32)) 32 #[.slice C N cc, .slice C2 M cc2]
        simp only [World.size_alloc] at k1
        exact ⟨(Bk.new w _ _).alloc _, k1, (Gw.alloc w _).trans ((Gw.alloc _ _).mono (by simp))⟩)
      rw [← hW1]
      clear hW1
      go_loopw [5] (fun i W => ∃ k : Nat, i = .int .i64 k ∧ k ≤ N ∧ Hid ((ns.take k).map Nv.m = (ms.take k).map Nv.m) ∧ Below W1.heap.size W1 W) (fun i _ => N - (Go.RowKit.intOf i).toNat)
      case atStart => exact ⟨0, rfl, Nat.zero_le _, Lib.hid rfl, Below.refl _ _⟩
      case round =>
        obtain ⟨k, rfl, hk, ht, hB⟩ := hrel
        have HBk := Lib.hid hB
        have hb1 := HW1.out.1.below hB HW1.out.1.lt
        have hb2 := HW1.out.2.1.below hB HW1.out.2.1.lt
        have c0 := hb1.two.1
        have c1 := hb2.two.1
        have hl1 := hb1.lt
        have hl2 := hb2.lt
        have HBw := Lib.hid (show Below w.heap.size w wr from HW1.out.2.2.trans (hB.mono HW1.out.2.2.size))
        by_cases hlt : k < N
        · have hkn : k < ns.length := by rw [← HN.out.1]; exact hlt
          have hkm : k < ms.length := by rw [← HN.out.2.2.1]; exact hlt
          obtain ⟨x, hx⟩ : ∃ x, x = ns[k] := ⟨_, rfl⟩
          obtain ⟨y, hy⟩ : ∃ y, y = ms[k] := ⟨_, rfl⟩
          obtain ⟨ad, rfl, hc2, hc3, hxa⟩ : ∃ ad, A = some ad ∧ wr.cell? (ad.add (k * 2)) = some x.vp ∧ wr.cell? ⟨(ad.add (k * 2)).block, (ad.add (k * 2)).off + 1, none⟩ = some x.vd ∧ x.At wr wr.heap.size := by
            obtain ⟨ad, e, _, h1, h2, h3⟩ := (HA.out.n.below HBw.out) k hkn
            exact ⟨ad, e, by rw [hx]; exact h1, by rw [hx]; exact h2, by rw [hx]; exact h3.more HBw.out.size⟩
          obtain ⟨ae, rfl, hd2, hd3, hya⟩ : ∃ ad, C = some ad ∧ wr.cell? (ad.add (k * 2)) = some y.vp ∧ wr.cell? ⟨(ad.add (k * 2)).block, (ad.add (k * 2)).off + 1, none⟩ = some y.vd ∧ y.At wr wr.heap.size := by
            obtain ⟨ad, e, _, h1, h2, h3⟩ := (HB.out.n.below HBw.out) k hkm
            exact ⟨ad, e, by rw [hy]; exact h1, by rw [hy]; exact h2, by rw [hy]; exact h3.more HBw.out.size⟩
          have hsz := HP.out x (by rw [hx]; exact List.getElem_mem _)
          have HT := Lib.hid (show x.m = y.m → (ns.take (k + 1)).map Nv.m = (ms.take (k + 1)).map Nv.m from fun e => by
            rw [take_snoc ns k hkn, take_snoc ms k hkm, List.map_append, List.map_append, ht.out, ← hx, ← hy]; simp [e])
          have HF := Lib.hid (show ¬ x.m = y.m → R = false from fun e => by
            rw [HR.out]
            refine same_false fun h => e ?_
            have h2 := congrArg (fun l => l[k]?) h.2
            simp only [List.getElem?_map, List.getElem?_eq_getElem hkn, List.getElem?_eq_getElem hkm, Option.map_some, Option.some.injEq] at h2
            rw [hx, hy]; exact h2)
          have p1 : (0 : Int) ≤ (k : Int) := by omega
          have p2 : (k : Int) < (N : Int) := by omega
          clear hx hy hkn hkm hB ht hb1 hb2
          obtain ⟨xA, xc, xD, xd, xps, xbs⟩ := x
          obtain ⟨yA, yc, yD, yd, yps, ybs⟩ := y
          obtain ⟨xn, hxn⟩ : ∃ n, n = xps.length := ⟨_, rfl⟩
          obtain ⟨xm, hxm⟩ : ∃ n, n = xbs.length := ⟨_, rfl⟩
          obtain ⟨yn, hyn⟩ : ∃ n, n = yps.length := ⟨_, rfl⟩
          obtain ⟨ym, hym⟩ : ∃ n, n = ybs.length := ⟨_, rfl⟩
          unfold Nv.vp at hc2 hd2
          unfold Nv.vd at hc3 hd3
          unfold Nv.m at HT HF
          simp only at hc2 hc3 hd2 hd3 HT HF hsz
          rw [← hxn] at hc2 hsz
          rw [← hxm] at hc3
          rw [← hyn] at hd2
          rw [← hym] at hd3
          have hcl := cell_lt hc2
          have hcl' : (ad.add (k * 2)).block < wr.heap.size := hcl
          have hdl := cell_lt hd2
          have hdl' : (ae.add (k * 2)).block < wr.heap.size := hdl
          obtain ⟨W2, hW2⟩ : ∃ W2, W2 = (wr.alloc (.cells #[.slice xA xn xc, .slice xD xm xd] 60)).alloc (.cells #[.slice yA yn yc, .slice yD ym yd] 60) := ⟨_, rfl⟩
          have HW2 := Lib.hid (show Bk W2 wr.heap.size 60 #[.slice xA xn xc, .slice xD xm xd] ∧ Bk W2 (wr.heap.size + 1) 60 #[.slice yA yn yc, .slice yD ym yd] ∧ Below wr.heap.size wr W2 from by
            rw [hW2]
            have k1 := Bk.new (wr.alloc (.cells #[.slice xA xn xc, .slice xD xm xd] 60)) 60 #[.slice yA yn yc, .slice yD ym yd]
            simp only [World.size_alloc] at k1
            exact ⟨(Bk.new wr _ _).alloc _, k1, (Gw.alloc wr _).trans ((Gw.alloc _ _).mono (by simp))⟩)
          obtain ⟨s1, hs1⟩ : ∃ s, s = strB xbs := ⟨_, rfl⟩
          obtain ⟨s2, hs2⟩ : ∃ s, s = strB ybs := ⟨_, rfl⟩
          have k1 : (convert 51 9 (.slice xD xm xd)).run Try.prog ((wr.alloc (.cells #[.slice xA xn xc, .slice xD xm xd] 60)).alloc (.cells #[.slice yA yn yc, .slice yD ym yd] 60)) = .ok (.string s1) ((wr.alloc (.cells #[.slice xA xn xc, .slice xD xm xd] 60)).alloc (.cells #[.slice yA yn yc, .slice yD ym yd] 60)) := by
            rw [← hW2, hs1, hxm]; exact str_conv xbs xD xd _ W2 (hxa.up HW2.out.2.2).b
          have k2 : (convert 51 9 (.slice yD ym yd)).run Try.prog ((wr.alloc (.cells #[.slice xA xn xc, .slice xD xm xd] 60)).alloc (.cells #[.slice yA yn yc, .slice yD ym yd] 60)) = .ok (.string s2) ((wr.alloc (.cells #[.slice xA xn xc, .slice xD xm xd] 60)).alloc (.cells #[.slice yA yn yc, .slice yD ym yd] 60)) := by
            rw [← hW2, hs2, hym]; exact str_conv ybs yD yd _ W2 (hya.up HW2.out.2.2).b
          have HXY := Lib.hid (And.intro (hxa.up HW2.out.2.2) (hya.up HW2.out.2.2))
          have hW2' := Lib.hid hW2
          have HL := Lib.hid (And.intro hxn hyn)
          clear hxa hya hcl hdl hW2
          by_cases hn : xn = yn
          · by_cases hbb : xbs = ybs
            · have hss : s1 = s2 := by rw [hs1, hs2, hbb]
              subst hss
              subst hn
              clear hs1 hs2 hxm hym hxn hyn
              have hq1 : (xn : Int) ≤ 70 := by have := hsz.1; omega
              clear hsz
              go_wp2_with fail
              rw [← hW2'.out]
              clear hc2 hc3 hd2 hd3 k1 k2 hcl' hdl' c0 c1
              have HBo := Lib.hid (show Below W1.heap.size W1 W2 from HBk.out.trans (HW2.out.2.2.mono HBk.out.size))
              obtain ⟨bx, hbx⟩ : ∃ bx, bx = wr.heap.size := ⟨_, rfl⟩
              rw [← hbx] at HW2 ⊢
              clear hbx
              go_loopw [8] (fun i W => ∃ n : Nat, i = .int .i64 n ∧ n ≤ xn ∧ Hid (xps.take n = yps.take n) ∧ Below W2.heap.size W2 W) (fun i _ => xn - (Go.RowKit.intOf i).toNat)
              case atStart => exact ⟨0, rfl, Nat.zero_le _, Lib.hid rfl, Below.refl _ _⟩
              case round =>
                obtain ⟨n, rfl, hn, ht, hB⟩ := hrel
                have hb1 := HW2.out.1.below hB HW2.out.1.lt
                have hb2 := HW2.out.2.1.below hB HW2.out.2.1.lt
                have HBn := Lib.hid hB
                by_cases hln : n < xn
                · have h1 : n < xps.length := by rw [← HL.out.1]; exact hln
                  have h2 : n < yps.length := by rw [← HL.out.2]; exact hln
                  obtain ⟨x, hx⟩ : ∃ y, y = xps[n] := ⟨_, rfl⟩
                  obtain ⟨y, hy⟩ : ∃ y, y = yps[n] := ⟨_, rfl⟩
                  obtain ⟨aa, rfl, haa, hca⟩ := (HXY.out.1.p.below hB) n h1
                  obtain ⟨ab, rfl, hab, hcb⟩ := (HXY.out.2.p.below hB) n h2
                  rw [← hx] at hca
                  rw [← hy] at hcb
                  unfold iV at hca hcb
                  have HX := Lib.hid (fun (W : World) (b : Below wr.heap.size wr W) => show W.cell? ⟨bx, 0, none⟩ = some (.slice (some aa) xn xc) ∧ W.cell? (aa.add n) = some (.int .i64 x) from ⟨(hb1.below b hb1.lt).cell 0, (b.cell (cell_lt hca)).trans hca⟩)
                  have HY := Lib.hid (fun (W : World) (b : Below wr.heap.size wr W) => show W.cell? ⟨bx + 1, 0, none⟩ = some (.slice (some ab) xn yc) ∧ W.cell? (ab.add n) = some (.int .i64 y) from ⟨(hb2.below b hb2.lt).cell 0, (b.cell (cell_lt hcb)).trans hcb⟩)
                  have d0 := (HX.out wr (Below.refl _ _)).1
                  have p3 : (0 : Int) ≤ (n : Int) := by omega
                  have p4 : (n : Int) < (xn : Int) := by omega
                  by_cases hxy : x = y
                  · have hrf : (x != y) = false := by simp [hxy]
                    have HTn := Lib.hid (take_eq_succ h1 h2 ht.out (by rw [← hx, ← hy, hxy]))
                    clear hx hy haa hab hca hcb h1 h2 hxy ht hB hb1 hb2
                    go_wp2_with fail
                    refine req_r _ _ _ bx (bx + 1) aa ab xn xc yc n (.slice xD xm xd) (.slice yD ym yd) x y false HX HY hrf p3 p4 rfl rfl rfl rfl ?_
                    intro vals w4 hG h24
                    unfold IsV at h24
                    simp only [putD, Act.put, List.setIfInBounds_toArray, List.set_cons_zero, List.set_cons_succ, h24]
                    have HB4 := Lib.hid (HBn.out.trans (hG.mono HBn.out.size))
                    clear h24 hG HX HY hrf d0
                    go_wp2_with fail
                    go_roundw
                    case rel => exact ⟨n + 1, by go_num, by omega, HTn, HB4.out⟩
                    case measure => simp [Go.RowKit.intOf]; omega
                  · have hrf : (x != y) = true := by simp [hxy]
                    have HRf := Lib.hid (HF.out (fun e => hxy (by
                      have e1 : xps = yps := congrArg Prod.fst e
                      subst e1
                      rw [hx, hy])))
                    clear hx hy haa hab hca hcb h1 h2 hxy ht hB hb1 hb2
                    go_wp2_with fail
                    refine req_r _ _ _ bx (bx + 1) aa ab xn xc yc n (.slice xD xm xd) (.slice yD ym yd) x y true HX HY hrf p3 p4 rfl rfl rfl rfl ?_
                    intro vals w4 hG h24
                    unfold IsV at h24
                    simp only [putD, Act.put, List.setIfInBounds_toArray, List.set_cons_zero, List.set_cons_succ, h24]
                    have HB4 := Lib.hid (HBn.out.trans (hG.mono HBn.out.size))
                    clear h24 hG HX HY hrf d0
                    go_wp2_with fail
                    go_ret
                    rw [HRf.out]
                    have hz := HBo.out.trans (HB4.out.mono HBo.out.size)
                    exact ⟨rfl, HW1.out.2.2.trans (hz.mono HW1.out.2.2.size)⟩
                · have hnx : n = xn := by omega
                  have HTk := Lib.hid (HT.out (by
                    have := ht.out
                    rw [hnx, List.take_of_length_le (by rw [← HL.out.1]; exact Nat.le_refl _), List.take_of_length_le (by rw [← HL.out.2]; exact Nat.le_refl _)] at this
                    rw [this, hbb]))
                  have d0 := hb1.two.1
                  have HBz := Lib.hid (HBo.out.trans (hB.mono HBo.out.size))
                  clear hnx hb1 hb2 hB ht
                  go_wp2_with fail
                  go_roundw
                  case rel => exact ⟨k + 1, by go_num, by omega, HTk, HBz.out⟩
                  case measure => simp [Go.RowKit.intOf]; omega
            · have hss : ¬ s1.toList = s2.toList := by rw [hs1, hs2]; exact str_ne hbb
              have hss2 : (s1.toList == s2.toList) = false := by simpa using hss
              have HRf := Lib.hid (HF.out (fun e => hbb (congrArg Prod.snd e)))
              subst hn
              clear hs1 hs2 hxm hym hxn hyn hbb
              go_wp2_with fail
              go_ret
              rw [HRf.out]
              rw [← hW2'.out]
              have hz := HBk.out.trans (HW2.out.2.2.mono HBk.out.size)
              exact ⟨rfl, HW1.out.2.2.trans (hz.mono HW1.out.2.2.size)⟩
          · have t1 : ¬ (xn : Int) = (yn : Int) := by omega
            have HRf := Lib.hid (HF.out (fun e => hn (by
              have e1 : xps = yps := congrArg Prod.fst e
              rw [hxn, hyn, e1])))
            clear hs1 hs2 hxm hym hxn hyn hn
            go_wp2_with fail
            go_ret
            rw [HRf.out]
            rw [← hW2'.out]
            have hz := HBk.out.trans (HW2.out.2.2.mono HBk.out.size)
            exact ⟨rfl, HW1.out.2.2.trans (hz.mono HW1.out.2.2.size)⟩
        · have hkN : k = N := by omega
          have HTn := Lib.hid (show ns.map Nv.m = ms.map Nv.m from by
            have := ht.out
            rwa [hkN, List.take_of_length_le (by rw [← HN.out.1]; exact Nat.le_refl _), List.take_of_length_le (by rw [← HN.out.2.2.1]; exact Nat.le_refl _)] at this)
          clear hkN ht hb1 hb2
          go_wp2_with fail
          clear hl1 hl2 c0 c1 hlt
          obtain ⟨W0, hW0⟩ : ∃ W0, W0 = wr := ⟨_, rfl⟩
          rw [← hW0] at hB ⊢
          clear hW0
          go_loopw [9] (fun i W => ∃ k : Nat, i = .int .i64 k ∧ k ≤ M ∧ Hid (rs.take k = us.take k) ∧ Below W1.heap.size W1 W) (fun i _ => M - (Go.RowKit.intOf i).toNat)
          case atStart => exact ⟨0, rfl, Nat.zero_le _, Lib.hid rfl, hB⟩
          case round =>
            obtain ⟨k, rfl, hk, ht, hB⟩ := hrel
            have HBk := Lib.hid hB
            have hb1 := HW1.out.1.below hB HW1.out.1.lt
            have hb2 := HW1.out.2.1.below hB HW1.out.2.1.lt
            have c0 := hb1.two.2
            have hl1 := hb1.lt
            have HBw := Lib.hid (show Below w.heap.size w wr from HW1.out.2.2.trans (hB.mono HW1.out.2.2.size))
            by_cases hlt : k < M
            · have h1 : k < rs.length := by rw [← HN.out.2.1]; exact hlt
              have h2 : k < us.length := by rw [← HN.out.2.2.2]; exact hlt
              obtain ⟨x, hx⟩ : ∃ x, x = rs[k] := ⟨_, rfl⟩
              obtain ⟨y, hy⟩ : ∃ x, x = us[k] := ⟨_, rfl⟩
              obtain ⟨ad, rfl, hc2, hc3⟩ : ∃ ad, A2 = some ad ∧ wr.cell? (ad.add (k * 2)) = some (.string x.s) ∧ wr.cell? ⟨(ad.add (k * 2)).block, (ad.add (k * 2)).off + 1, none⟩ = some (.int .i64 x.t) := by
                obtain ⟨ad, e, _, h1, h2⟩ := (HA.out.r.below HBw.out) k h1
                exact ⟨ad, e, by rw [hx]; exact h1, by rw [hx]; exact h2⟩
              obtain ⟨ae, rfl, hd2, hd3⟩ : ∃ ad, C2 = some ad ∧ wr.cell? (ad.add (k * 2)) = some (.string y.s) ∧ wr.cell? ⟨(ad.add (k * 2)).block, (ad.add (k * 2)).off + 1, none⟩ = some (.int .i64 y.t) := by
                obtain ⟨ad, e, _, h1, h2⟩ := (HB.out.r.below HBw.out) k h2
                exact ⟨ad, e, by rw [hy]; exact h1, by rw [hy]; exact h2⟩
              have HF := Lib.hid (show ¬ x = y → R = false from fun e => by
                rw [HR.out]
                refine same_false fun h => e ?_
                have h3 : rs = us := h.1
                subst h3
                rw [hx, hy])
              have HTk := Lib.hid (show x = y → rs.take (k + 1) = us.take (k + 1) from fun e => take_eq_succ h1 h2 ht.out (by rw [← hx, ← hy, e]))
              have p3 : (0 : Int) ≤ (k : Int) := by omega
              have p4 : (k : Int) < (M : Int) := by omega
              by_cases hs : x.s = y.s
              · rw [← hs] at hd2
                have HX := Lib.hid (fun (W : World) (b : Below wr.heap.size wr W) => show W.cell? ⟨w.heap.size, 1, none⟩ = some (.slice (some ad) M ca2) ∧ W.cell? (ad.add (k * 2)) = some (.string x.s) ∧ W.cell? ⟨(ad.add (k * 2)).block, (ad.add (k * 2)).off + 1, none⟩ = some (.int .i64 x.t) from ⟨(hb1.below b hb1.lt).cell 1, (b.cell (cell_lt hc2)).trans hc2, (b.cell (cell_lt hc3)).trans hc3⟩)
                have HY := Lib.hid (fun (W : World) (b : Below wr.heap.size wr W) => show W.cell? ⟨w.heap.size + 1, 1, none⟩ = some (.slice (some ae) M cc2) ∧ W.cell? (ae.add (k * 2)) = some (.string x.s) ∧ W.cell? ⟨(ae.add (k * 2)).block, (ae.add (k * 2)).off + 1, none⟩ = some (.int .i64 y.t) from ⟨(hb2.below b hb2.lt).cell 1, (b.cell (cell_lt hd2)).trans hd2, (b.cell (cell_lt hd3)).trans hd3⟩)
                by_cases hxy : x.t = y.t
                · have hrf : (x.t != y.t) = false := by simp [hxy]
                  have HTq := Lib.hid (HTk.out (by cases x; cases y; simp at hs hxy; rw [hs, hxy]))
                  clear hx hy hc2 hc3 hd2 hd3 h1 h2 ht hB hb1 hb2 hxy hs
                  go_wp2_with fail
                  refine reqb_r _ _ _ w.heap.size (w.heap.size + 1) ad ae M ca2 cc2 k x.s x.t y.t false HX HY hrf p3 p4 rfl rfl rfl rfl ?_
                  intro vals w4 hG h24
                  unfold IsV at h24
                  simp only [putD, Act.put, List.setIfInBounds_toArray, List.set_cons_zero, List.set_cons_succ, h24]
                  have HB4 := Lib.hid (HBk.out.trans (hG.mono HBk.out.size))
                  clear h24 hG HX HY hrf
                  go_wp2_with fail
                  go_roundw
                  case rel => exact ⟨k + 1, by go_num, by omega, HTq, HB4.out⟩
                  case measure => simp [Go.RowKit.intOf]; omega
                · have hrf : (x.t != y.t) = true := by simp [hxy]
                  have HRf := Lib.hid (HF.out (fun e => hxy (by rw [e])))
                  clear hx hy hc2 hc3 hd2 hd3 h1 h2 ht hB hb1 hb2 hxy hs
                  go_wp2_with fail
                  refine reqb_r _ _ _ w.heap.size (w.heap.size + 1) ad ae M ca2 cc2 k x.s x.t y.t true HX HY hrf p3 p4 rfl rfl rfl rfl ?_
                  intro vals w4 hG h24
                  unfold IsV at h24
                  simp only [putD, Act.put, List.setIfInBounds_toArray, List.set_cons_zero, List.set_cons_succ, h24]
                  have HB4 := Lib.hid (HBw.out.trans (hG.mono HBw.out.size))
                  clear h24 hG HX HY hrf
                  go_wp2_with fail
                  go_ret
                  rw [HRf.out]
                  exact ⟨rfl, HB4.out⟩
              · have HX := Lib.hid (fun (W : World) (b : Below wr.heap.size wr W) => show W.cell? ⟨w.heap.size, 1, none⟩ = some (.slice (some ad) M ca2) ∧ W.cell? (ad.add (k * 2)) = some (.string x.s) from ⟨(hb1.below b hb1.lt).cell 1, (b.cell (cell_lt hc2)).trans hc2⟩)
                have HY := Lib.hid (fun (W : World) (b : Below wr.heap.size wr W) => show W.cell? ⟨w.heap.size + 1, 1, none⟩ = some (.slice (some ae) M cc2) ∧ W.cell? (ae.add (k * 2)) = some (.string y.s) from ⟨(hb2.below b hb2.lt).cell 1, (b.cell (cell_lt hd2)).trans hd2⟩)
                have HRf := Lib.hid (HF.out (fun e => hs (by rw [e])))
                have hrf : ¬ x.s.toList = y.s.toList := fun e => hs (listB_inj e)
                clear hx hy hc2 hc3 hd2 hd3 h1 h2 ht hB hb1 hb2 hs
                go_wp2_with fail
                refine reqa_r _ _ _ w.heap.size (w.heap.size + 1) ad ae M ca2 cc2 k x.s y.s HX HY hrf p3 p4 rfl rfl rfl rfl ?_
                intro vals w4 hG h24
                unfold IsV at h24
                simp only [putD, Act.put, List.setIfInBounds_toArray, List.set_cons_zero, List.set_cons_succ, h24]
                have HB4 := Lib.hid (HBw.out.trans (hG.mono HBw.out.size))
                clear h24 hG HX HY hrf
                go_wp2_with fail
                go_ret
                rw [HRf.out]
                exact ⟨rfl, HB4.out⟩
            · have hkM : k = M := by omega
              have HRt := Lib.hid (show R = true from by
                have := ht.out
                rw [hkM, List.take_of_length_le (by rw [← HN.out.2.1]; exact Nat.le_refl _), List.take_of_length_le (by rw [← HN.out.2.2.2]; exact Nat.le_refl _)] at this
                rw [HR.out]
                exact same_true this HTn.out)
              clear hkM ht hB hb1 hb2
              go_wp2_with fail
              go_ret
              rw [HRt.out]
              exact ⟨rfl, HBw.out⟩
    · have HRf := Lib.hid (show R = false from by
        rw [HR.out]
        refine same_false fun h => hmm ?_
        have h3 : rs = us := h.1
        rw [HN.out.2.1, HN.out.2.2.2, h3])
      have t1 : ¬ (M : Int) = (M2 : Int) := by omega
      subst hnn
      go_wp2_with fail
      go_ret
      rw [HRf.out]
      exact ⟨rfl, (by repeat (first | with_reducible assumption | with_reducible exact Below.refl _ _ | with_reducible apply bdN | with_reducible apply Below.drew | with_reducible refine Below.alloc ?_ (by simp) _ | with_reducible refine Below.setCell ?_ (by simp) _))⟩
  · have HRf := Lib.hid (show R = false from by
      rw [HR.out]
      refine same_false fun h => hnn ?_
      have h3 := congrArg List.length h.2
      rw [List.length_map, List.length_map] at h3
      rw [HN.out.1, HN.out.2.2.1]
      exact h3)
    have t1 : ¬ (N : Int) = (N2 : Int) := by omega
    go_wp2_with fail
    go_ret
    rw [HRf.out]
    exact ⟨rfl, (by repeat (first | with_reducible assumption | with_reducible exact Below.refl _ _ | with_reducible apply bdN | with_reducible apply Below.drew | with_reducible refine Below.alloc ?_ (by simp) _ | with_reducible refine Below.setCell ?_ (by simp) _))⟩
end Go.Proofs.Ytidaimcndbhefaa
