/- Texts joined: GtC GtD GrJ GrK OpenR OpenG GtE. -/
import Derived.Test.YtidaimcndbhefaaGa6
import Derived.Deep.Slices
import Derived.Deep.Fields
/- The reference's Equal at graphs. Conditions: lengths. -/
namespace Go.Proofs.Ytidaimcndbhefaa
set_option linter.unusedVariables false
set_option linter.unusedSimpArgs false
open Go.RowKit Go.Maps
set_option maxHeartbeats 4000000
set_option maxRecDepth 100000
theorem req_r (Q : Exit → Act → World → Prop) (a0 : Act) (w : World) (bx bY : Nat) (a b : Addr) (N xc yc i : Nat) (xD yD : Value) (x y : Int) (r : Bool) (hx : Hid (∀ W, Below w.heap.size w W → W.cell? ⟨bx, 0, none⟩ = some (.slice (some a) N xc) ∧ W.cell? (a.add i) = some (.int .i64 x))) (hy : Hid (∀ W, Below w.heap.size w W → W.cell? ⟨bY, 0, none⟩ = some (.slice (some b) N yc) ∧ W.cell? (b.add i) = some (.int .i64 y))) (hr : (x != y) = r) (p1 : (0 : Int) ≤ (i : Int)) (p2 : (i : Int) < (N : Int)) (hsz : a0.tmps.size = 112) (sl6 : a0.tmps.getD 6 undef = .pointer (some ⟨bx, 0, none⟩)) (sl7 : a0.tmps.getD 7 undef = .pointer (some ⟨bY, 0, none⟩)) (sl8 : a0.tmps.getD 8 undef = .int .i64 i)
    (fin : ∀ (vals : Nat → Value) (w1 : World), Below w.heap.size w w1 → (IsV (.bool r)) (vals 10) w1 → Q .normal (putD vals [66, 67, 68, 69, 70, 71, 72, 73, 74, 75, 76] 0 a0) w1) :
    (Code.region 13 (regIn Try.f17 13) true).wp Try.prog Q a0 w := by
  refine region_by (G := fun w w1 => Below w.heap.size w w1) [IsV (.pointer (some ⟨bx, 0, none⟩)),
    IsV (.slice (some a) N xc),
    IsV (.int .i64 i),
    IsV (.pointer (some (a.add i))),
    IsV (.int .i64 x),
    IsV (.pointer (some ⟨bY, 0, none⟩)),
    IsV (.slice (some b) N yc),
    IsV (.int .i64 i),
    IsV (.pointer (some (b.add i))),
    IsV (.int .i64 y),
    IsV (.bool r)]
    [66, 67, 68, 69, 70, 71, 72, 73, 74, 75, 76] (by kernel_rfl) (Gw.drew _) Gw.trans (by rw [hsz]; kernel_rfl) (by kernel_rfl) ?_ ?_ ?_
  · intro f hf
    simp only [List.mem_cons, List.not_mem_nil, or_false] at hf
    rcases hf with rfl | rfl | rfl | rfl | rfl | rfl | rfl | rfl | rfl | rfl | rfl <;> intro v a b h g <;> first | exact IsV.mono h
  · refine ⟨?_, ?_, ?_, ?_, ?_, ?_, ?_, ?_, ?_, ?_, ?_, trivial⟩
    · refine owes_v (Go.Op.fieldAddr 60 (Go.Operand.tmp 6) 0) 0 [] (by kernel_rfl) (by kernel_rfl) (by kernel_rfl) rfl fun vals w1 ρ hG hF hρ hcst hfun => ?_
      have e6 : ρ (.tmp 6) = .pointer (some ⟨bx, 0, none⟩) := ((hρ 6).trans (slotO [] (by kernel_rfl))).trans sl6
      clear hρ hF hcst hfun sl6 sl7 sl8 fin
      exact opv_val (by go_simp <;> rfl) ⟨gw_self _, rfl⟩
    · refine owes_v (Go.Op.load 26 (Go.Operand.tmp 66)) 26 [0] (by kernel_rfl) (by kernel_rfl) (by kernel_rfl) rfl fun vals w1 ρ hG hF hρ hcst hfun => ?_
      have e66 : ρ (.tmp 66) = .pointer (some ⟨bx, 0, none⟩) := ((hρ 66).trans (slotJ [0] (by rw [hsz]; decide) (by kernel_rfl))).trans (hF 0 (by decide))
      have k := (hx.out w1 hG).1
      clear hρ hF hcst hfun sl6 sl7 sl8 fin
      exact opv_val (by go_simp <;> rfl) ⟨gw_self _, rfl⟩
    · exact owes_mv 8 (by kernel_rfl) (by kernel_rfl) (by kernel_rfl) sl8 (fun _ => rfl)
    · refine owes_v (Go.Op.indexAddr 26 (Go.Operand.tmp 67) (Go.Operand.tmp 68)) 0 [1, 2] (by kernel_rfl) (by kernel_rfl) (by kernel_rfl) rfl fun vals w1 ρ hG hF hρ hcst hfun => ?_
      have e67 : ρ (.tmp 67) = .slice (some a) N xc := ((hρ 67).trans (slotJ [1, 2] (by rw [hsz]; decide) (by kernel_rfl))).trans (hF 1 (by decide))
      have e68 : ρ (.tmp 68) = .int .i64 i := ((hρ 68).trans (slotJ [1, 2] (by rw [hsz]; decide) (by kernel_rfl))).trans (hF 2 (by decide))
      clear hρ hF hcst hfun sl6 sl7 sl8 fin
      exact opv_val (by go_simp <;> rfl) ⟨gw_self _, rfl⟩
    · refine owes_v (Go.Op.load 3 (Go.Operand.tmp 69)) 3 [3] (by kernel_rfl) (by kernel_rfl) (by kernel_rfl) rfl fun vals w1 ρ hG hF hρ hcst hfun => ?_
      have e69 : ρ (.tmp 69) = .pointer (some (a.add i)) := ((hρ 69).trans (slotJ [3] (by rw [hsz]; decide) (by kernel_rfl))).trans (hF 3 (by decide))
      have k := (hx.out w1 hG).2
      clear hρ hF hcst hfun sl6 sl7 sl8 fin
      exact opv_val (by go_simp <;> rfl) ⟨gw_self _, rfl⟩
    · refine owes_v (Go.Op.fieldAddr 60 (Go.Operand.tmp 7) 0) 0 [] (by kernel_rfl) (by kernel_rfl) (by kernel_rfl) rfl fun vals w1 ρ hG hF hρ hcst hfun => ?_
      have e7 : ρ (.tmp 7) = .pointer (some ⟨bY, 0, none⟩) := ((hρ 7).trans (slotO [] (by kernel_rfl))).trans sl7
      clear hρ hF hcst hfun sl6 sl7 sl8 fin
      exact opv_val (by go_simp <;> rfl) ⟨gw_self _, rfl⟩
    · refine owes_v (Go.Op.load 26 (Go.Operand.tmp 71)) 26 [5] (by kernel_rfl) (by kernel_rfl) (by kernel_rfl) rfl fun vals w1 ρ hG hF hρ hcst hfun => ?_
      have e71 : ρ (.tmp 71) = .pointer (some ⟨bY, 0, none⟩) := ((hρ 71).trans (slotJ [5] (by rw [hsz]; decide) (by kernel_rfl))).trans (hF 5 (by decide))
      have k := (hy.out w1 hG).1
      clear hρ hF hcst hfun sl6 sl7 sl8 fin
      exact opv_val (by go_simp <;> rfl) ⟨gw_self _, rfl⟩
    · exact owes_mv 8 (by kernel_rfl) (by kernel_rfl) (by kernel_rfl) sl8 (fun _ => rfl)
    · refine owes_v (Go.Op.indexAddr 26 (Go.Operand.tmp 72) (Go.Operand.tmp 73)) 0 [6, 7] (by kernel_rfl) (by kernel_rfl) (by kernel_rfl) rfl fun vals w1 ρ hG hF hρ hcst hfun => ?_
      have e72 : ρ (.tmp 72) = .slice (some b) N yc := ((hρ 72).trans (slotJ [6, 7] (by rw [hsz]; decide) (by kernel_rfl))).trans (hF 6 (by decide))
      have e73 : ρ (.tmp 73) = .int .i64 i := ((hρ 73).trans (slotJ [6, 7] (by rw [hsz]; decide) (by kernel_rfl))).trans (hF 7 (by decide))
      clear hρ hF hcst hfun sl6 sl7 sl8 fin
      exact opv_val (by go_simp <;> rfl) ⟨gw_self _, rfl⟩
    · refine owes_v (Go.Op.load 3 (Go.Operand.tmp 74)) 3 [8] (by kernel_rfl) (by kernel_rfl) (by kernel_rfl) rfl fun vals w1 ρ hG hF hρ hcst hfun => ?_
      have e74 : ρ (.tmp 74) = .pointer (some (b.add i)) := ((hρ 74).trans (slotJ [8] (by rw [hsz]; decide) (by kernel_rfl))).trans (hF 8 (by decide))
      have k := (hy.out w1 hG).2
      clear hρ hF hcst hfun sl6 sl7 sl8 fin
      exact opv_val (by go_simp <;> rfl) ⟨gw_self _, rfl⟩
    · refine owes_v (Go.Op.binOp Go.BinOp.neq 3 (Go.Operand.tmp 70) (Go.Operand.tmp 75) 3) 4 [4, 9] (by kernel_rfl) (by kernel_rfl) (by kernel_rfl) rfl fun vals w1 ρ hG hF hρ hcst hfun => ?_
      have e70 : ρ (.tmp 70) = .int .i64 x := ((hρ 70).trans (slotJ [4, 9] (by rw [hsz]; decide) (by kernel_rfl))).trans (hF 4 (by decide))
      have e75 : ρ (.tmp 75) = .int .i64 y := ((hρ 75).trans (slotJ [4, 9] (by rw [hsz]; decide) (by kernel_rfl))).trans (hF 9 (by decide))
      clear hρ hF hcst hfun sl6 sl7 sl8 fin
      exact opv_val (by go_simp <;> first | rfl | exact hr | rw [hr]) ⟨gw_self _, rfl⟩
  · intro vals w1 hG hF
    exact fin vals w1 hG (hF 10 (by decide +kernel))
theorem reqa_r (Q : Exit → Act → World → Prop) (a0 : Act) (w : World) (bx bY : Nat) (a b : Addr) (M xc yc i : Nat) (s u : ByteArray) (hx : Hid (∀ W, Below w.heap.size w W → W.cell? ⟨bx, 1, none⟩ = some (.slice (some a) M xc) ∧ W.cell? (a.add (i * 2)) = some (.string s))) (hy : Hid (∀ W, Below w.heap.size w W → W.cell? ⟨bY, 1, none⟩ = some (.slice (some b) M yc) ∧ W.cell? (b.add (i * 2)) = some (.string u))) (hr : ¬ s.toList = u.toList) (p1 : (0 : Int) ≤ (i : Int)) (p2 : (i : Int) < (M : Int)) (hsz : a0.tmps.size = 112) (sl2 : a0.tmps.getD 2 undef = .pointer (some ⟨bx, 0, none⟩)) (sl3 : a0.tmps.getD 3 undef = .pointer (some ⟨bY, 0, none⟩)) (sl9 : a0.tmps.getD 9 undef = .int .i64 i)
    (fin : ∀ (vals : Nat → Value) (w1 : World), Below w.heap.size w w1 → (IsV (.bool true)) (vals 27) w1 → Q .normal (putD vals [84, 85, 86, 87, 88, 89, 90, 91, 92, 93, 94, 95, 96, 97, 98, 99, 100, 101, 102, 103, 104, 105, 106, 107, 108, 109, 110, 111] 0 a0) w1) :
    (Code.region 18 (regIn Try.f17 18) true).wp Try.prog Q a0 w := by
  refine region_by (G := fun w w1 => Below w.heap.size w w1) [IsV (.pointer (some ⟨bx, 1, none⟩)),
    IsV (.slice (some a) M xc),
    IsV (.int .i64 i),
    IsV (.pointer (some (a.add (i * 2)))),
    IsV (.pointer (some (a.add (i * 2)))),
    IsV (.string s),
    IsV (.pointer (some ⟨bY, 1, none⟩)),
    IsV (.slice (some b) M yc),
    IsV (.int .i64 i),
    IsV (.pointer (some (b.add (i * 2)))),
    IsV (.pointer (some (b.add (i * 2)))),
    IsV (.string u),
    IsV (.bool true),
    IsV (.bool true),
    IsV undef,
    IsV undef,
    IsV undef,
    IsV undef,
    IsV undef,
    IsV undef,
    IsV undef,
    IsV undef,
    IsV undef,
    IsV undef,
    IsV undef,
    IsV undef,
    IsV undef,
    IsV (.bool true)]
    [84, 85, 86, 87, 88, 89, 90, 91, 92, 93, 94, 95, 96, 97, 98, 99, 100, 101, 102, 103, 104, 105, 106, 107, 108, 109, 110, 111] (by kernel_rfl) (Gw.drew _) Gw.trans (by rw [hsz]; kernel_rfl) (by kernel_rfl) ?_ ?_ ?_
  · intro f hf
    simp only [List.mem_cons, List.not_mem_nil, or_false] at hf
    rcases hf with rfl | rfl | rfl | rfl | rfl | rfl | rfl | rfl | rfl | rfl | rfl | rfl | rfl | rfl | rfl | rfl | rfl | rfl | rfl | rfl | rfl | rfl | rfl | rfl | rfl | rfl | rfl | rfl <;> intro v a b h g <;> first | exact IsV.mono h
  · refine ⟨?_, ?_, ?_, ?_, ?_, ?_, ?_, ?_, ?_, ?_, ?_, ?_, ?_, ?_, ?_, ?_, ?_, ?_, ?_, ?_, ?_, ?_, ?_, ?_, ?_, ?_, ?_, ?_, trivial⟩
    · refine owes_v (Go.Op.fieldAddr 32 (Go.Operand.tmp 2) 1) 0 [] (by kernel_rfl) (by kernel_rfl) (by kernel_rfl) rfl fun vals w1 ρ hG hF hρ hcst hfun => ?_
      have e2 : ρ (.tmp 2) = .pointer (some ⟨bx, 0, none⟩) := ((hρ 2).trans (slotO [] (by kernel_rfl))).trans sl2
      clear hρ hF hcst hfun sl2 sl3 sl9 fin
      exact opv_val (by go_simp <;> rfl) ⟨gw_self _, rfl⟩
    · refine owes_v (Go.Op.load 30 (Go.Operand.tmp 84)) 30 [0] (by kernel_rfl) (by kernel_rfl) (by kernel_rfl) rfl fun vals w1 ρ hG hF hρ hcst hfun => ?_
      have e84 : ρ (.tmp 84) = .pointer (some ⟨bx, 1, none⟩) := ((hρ 84).trans (slotJ [0] (by rw [hsz]; decide) (by kernel_rfl))).trans (hF 0 (by decide))
      have k := (hx.out w1 hG).1
      clear hρ hF hcst hfun sl2 sl3 sl9 fin
      exact opv_val (by go_simp <;> rfl) ⟨gw_self _, rfl⟩
    · exact owes_mv 9 (by kernel_rfl) (by kernel_rfl) (by kernel_rfl) sl9 (fun _ => rfl)
    · refine owes_v (Go.Op.indexAddr 30 (Go.Operand.tmp 85) (Go.Operand.tmp 86)) 0 [1, 2] (by kernel_rfl) (by kernel_rfl) (by kernel_rfl) rfl fun vals w1 ρ hG hF hρ hcst hfun => ?_
      have e85 : ρ (.tmp 85) = .slice (some a) M xc := ((hρ 85).trans (slotJ [1, 2] (by rw [hsz]; decide) (by kernel_rfl))).trans (hF 1 (by decide))
      have e86 : ρ (.tmp 86) = .int .i64 i := ((hρ 86).trans (slotJ [1, 2] (by rw [hsz]; decide) (by kernel_rfl))).trans (hF 2 (by decide))
      clear hρ hF hcst hfun sl2 sl3 sl9 fin
      exact opv_val (by go_simp <;> rfl) ⟨gw_self _, rfl⟩
    · refine owes_v (Go.Op.fieldAddr 61 (Go.Operand.tmp 87) 0) 0 [3] (by kernel_rfl) (by kernel_rfl) (by kernel_rfl) rfl fun vals w1 ρ hG hF hρ hcst hfun => ?_
      have e87 : ρ (.tmp 87) = .pointer (some (a.add (i * 2))) := ((hρ 87).trans (slotJ [3] (by rw [hsz]; decide) (by kernel_rfl))).trans (hF 3 (by decide))
      clear hρ hF hcst hfun sl2 sl3 sl9 fin
      exact opv_val (by go_simp <;> rfl) ⟨gw_self _, rfl⟩
    · refine owes_v (Go.Op.load 9 (Go.Operand.tmp 88)) 9 [4] (by kernel_rfl) (by kernel_rfl) (by kernel_rfl) rfl fun vals w1 ρ hG hF hρ hcst hfun => ?_
      have e88 : ρ (.tmp 88) = .pointer (some (a.add (i * 2))) := ((hρ 88).trans (slotJ [4] (by rw [hsz]; decide) (by kernel_rfl))).trans (hF 4 (by decide))
      have k := (hx.out w1 hG).2
      clear hρ hF hcst hfun sl2 sl3 sl9 fin
      exact opv_val (by go_simp <;> rfl) ⟨gw_self _, rfl⟩
    · refine owes_v (Go.Op.fieldAddr 32 (Go.Operand.tmp 3) 1) 0 [] (by kernel_rfl) (by kernel_rfl) (by kernel_rfl) rfl fun vals w1 ρ hG hF hρ hcst hfun => ?_
      have e3 : ρ (.tmp 3) = .pointer (some ⟨bY, 0, none⟩) := ((hρ 3).trans (slotO [] (by kernel_rfl))).trans sl3
      clear hρ hF hcst hfun sl2 sl3 sl9 fin
      exact opv_val (by go_simp <;> rfl) ⟨gw_self _, rfl⟩
    · refine owes_v (Go.Op.load 30 (Go.Operand.tmp 90)) 30 [6] (by kernel_rfl) (by kernel_rfl) (by kernel_rfl) rfl fun vals w1 ρ hG hF hρ hcst hfun => ?_
      have e90 : ρ (.tmp 90) = .pointer (some ⟨bY, 1, none⟩) := ((hρ 90).trans (slotJ [6] (by rw [hsz]; decide) (by kernel_rfl))).trans (hF 6 (by decide))
      have k := (hy.out w1 hG).1
      clear hρ hF hcst hfun sl2 sl3 sl9 fin
      exact opv_val (by go_simp <;> rfl) ⟨gw_self _, rfl⟩
    · exact owes_mv 9 (by kernel_rfl) (by kernel_rfl) (by kernel_rfl) sl9 (fun _ => rfl)
    · refine owes_v (Go.Op.indexAddr 30 (Go.Operand.tmp 91) (Go.Operand.tmp 92)) 0 [7, 8] (by kernel_rfl) (by kernel_rfl) (by kernel_rfl) rfl fun vals w1 ρ hG hF hρ hcst hfun => ?_
      have e91 : ρ (.tmp 91) = .slice (some b) M yc := ((hρ 91).trans (slotJ [7, 8] (by rw [hsz]; decide) (by kernel_rfl))).trans (hF 7 (by decide))
      have e92 : ρ (.tmp 92) = .int .i64 i := ((hρ 92).trans (slotJ [7, 8] (by rw [hsz]; decide) (by kernel_rfl))).trans (hF 8 (by decide))
      clear hρ hF hcst hfun sl2 sl3 sl9 fin
      exact opv_val (by go_simp <;> rfl) ⟨gw_self _, rfl⟩
    · refine owes_v (Go.Op.fieldAddr 61 (Go.Operand.tmp 93) 0) 0 [9] (by kernel_rfl) (by kernel_rfl) (by kernel_rfl) rfl fun vals w1 ρ hG hF hρ hcst hfun => ?_
      have e93 : ρ (.tmp 93) = .pointer (some (b.add (i * 2))) := ((hρ 93).trans (slotJ [9] (by rw [hsz]; decide) (by kernel_rfl))).trans (hF 9 (by decide))
      clear hρ hF hcst hfun sl2 sl3 sl9 fin
      exact opv_val (by go_simp <;> rfl) ⟨gw_self _, rfl⟩
    · refine owes_v (Go.Op.load 9 (Go.Operand.tmp 94)) 9 [10] (by kernel_rfl) (by kernel_rfl) (by kernel_rfl) rfl fun vals w1 ρ hG hF hρ hcst hfun => ?_
      have e94 : ρ (.tmp 94) = .pointer (some (b.add (i * 2))) := ((hρ 94).trans (slotJ [10] (by rw [hsz]; decide) (by kernel_rfl))).trans (hF 10 (by decide))
      have k := (hy.out w1 hG).2
      clear hρ hF hcst hfun sl2 sl3 sl9 fin
      exact opv_val (by go_simp <;> rfl) ⟨gw_self _, rfl⟩
    · refine owes_v (Go.Op.binOp Go.BinOp.neq 9 (Go.Operand.tmp 89) (Go.Operand.tmp 95) 9) 4 [5, 11] (by kernel_rfl) (by kernel_rfl) (by kernel_rfl) rfl fun vals w1 ρ hG hF hρ hcst hfun => ?_
      have e89 : ρ (.tmp 89) = .string s := ((hρ 89).trans (slotJ [5, 11] (by rw [hsz]; decide) (by kernel_rfl))).trans (hF 5 (by decide))
      have e95 : ρ (.tmp 95) = .string u := ((hρ 95).trans (slotJ [5, 11] (by rw [hsz]; decide) (by kernel_rfl))).trans (hF 11 (by decide))
      clear hρ hF hcst hfun sl2 sl3 sl9 fin
      exact opv_val (by go_simp <;> first | rfl | exact hr) ⟨gw_self _, rfl⟩
    · exact owes_mvj 12 96 (by kernel_rfl) (by kernel_rfl) (by kernel_rfl) (by kernel_rfl) (by rw [hsz]; decide) (fun v w h => h)
    · exact owes_no 13 true false (by decide) (by kernel_rfl) (by kernel_rfl) (fun _ _ h => h) (by rw [hsz]; kernel_rfl) (fun _ => rfl)
    · exact owes_no 13 true false (by decide) (by kernel_rfl) (by kernel_rfl) (fun _ _ h => h) (by rw [hsz]; kernel_rfl) (fun _ => rfl)
    · exact owes_no 13 true false (by decide) (by kernel_rfl) (by kernel_rfl) (fun _ _ h => h) (by rw [hsz]; kernel_rfl) (fun _ => rfl)
    · exact owes_no 13 true false (by decide) (by kernel_rfl) (by kernel_rfl) (fun _ _ h => h) (by rw [hsz]; kernel_rfl) (fun _ => rfl)
    · exact owes_no 13 true false (by decide) (by kernel_rfl) (by kernel_rfl) (fun _ _ h => h) (by rw [hsz]; kernel_rfl) (fun _ => rfl)
    · exact owes_no 13 true false (by decide) (by kernel_rfl) (by kernel_rfl) (fun _ _ h => h) (by rw [hsz]; kernel_rfl) (fun _ => rfl)
    · exact owes_no 13 true false (by decide) (by kernel_rfl) (by kernel_rfl) (fun _ _ h => h) (by rw [hsz]; kernel_rfl) (fun _ => rfl)
    · exact owes_no 13 true false (by decide) (by kernel_rfl) (by kernel_rfl) (fun _ _ h => h) (by rw [hsz]; kernel_rfl) (fun _ => rfl)
    · exact owes_no 13 true false (by decide) (by kernel_rfl) (by kernel_rfl) (fun _ _ h => h) (by rw [hsz]; kernel_rfl) (fun _ => rfl)
    · exact owes_no 13 true false (by decide) (by kernel_rfl) (by kernel_rfl) (fun _ _ h => h) (by rw [hsz]; kernel_rfl) (fun _ => rfl)
    · exact owes_no 13 true false (by decide) (by kernel_rfl) (by kernel_rfl) (fun _ _ h => h) (by rw [hsz]; kernel_rfl) (fun _ => rfl)
    · exact owes_no 13 true false (by decide) (by kernel_rfl) (by kernel_rfl) (fun _ _ h => h) (by rw [hsz]; kernel_rfl) (fun _ => rfl)
    · exact owes_no 13 true false (by decide) (by kernel_rfl) (by kernel_rfl) (fun _ _ h => h) (by rw [hsz]; kernel_rfl) (fun _ => rfl)
    · refine owes_v (Go.Op.pick (Go.Operand.tmp 97) (Go.Operand.const (Go.Value.bool true)) (Go.Operand.tmp 110)) 4 [13, 26] (by kernel_rfl) (by kernel_rfl) (by kernel_rfl) rfl fun vals w1 ρ hG hF hρ hcst hfun => ?_
      have e97 : ρ (.tmp 97) = .bool true := ((hρ 97).trans (slotJ [13, 26] (by rw [hsz]; decide) (by kernel_rfl))).trans (hF 13 (by decide))
      have e110 : ρ (.tmp 110) = undef := ((hρ 110).trans (slotJ [13, 26] (by rw [hsz]; decide) (by kernel_rfl))).trans (hF 26 (by decide))
      clear hρ hF hfun sl2 sl3 sl9 fin
      exact opv_val (by go_simp <;> rfl) ⟨gw_self _, rfl⟩
  · intro vals w1 hG hF
    exact fin vals w1 hG (hF 27 (by decide +kernel))
theorem reqb_r (Q : Exit → Act → World → Prop) (a0 : Act) (w : World) (bx bY : Nat) (a b : Addr) (M xc yc i : Nat) (s : ByteArray) (x y : Int) (r : Bool) (hx : Hid (∀ W, Below w.heap.size w W → W.cell? ⟨bx, 1, none⟩ = some (.slice (some a) M xc) ∧ W.cell? (a.add (i * 2)) = some (.string s) ∧ W.cell? ⟨(a.add (i * 2)).block, (a.add (i * 2)).off + 1, none⟩ = some (.int .i64 x))) (hy : Hid (∀ W, Below w.heap.size w W → W.cell? ⟨bY, 1, none⟩ = some (.slice (some b) M yc) ∧ W.cell? (b.add (i * 2)) = some (.string s) ∧ W.cell? ⟨(b.add (i * 2)).block, (b.add (i * 2)).off + 1, none⟩ = some (.int .i64 y))) (hr : (x != y) = r) (p1 : (0 : Int) ≤ (i : Int)) (p2 : (i : Int) < (M : Int)) (hsz : a0.tmps.size = 112) (sl2 : a0.tmps.getD 2 undef = .pointer (some ⟨bx, 0, none⟩)) (sl3 : a0.tmps.getD 3 undef = .pointer (some ⟨bY, 0, none⟩)) (sl9 : a0.tmps.getD 9 undef = .int .i64 i)
    (fin : ∀ (vals : Nat → Value) (w1 : World), Below w.heap.size w w1 → (IsV (.bool r)) (vals 27) w1 → Q .normal (putD vals [84, 85, 86, 87, 88, 89, 90, 91, 92, 93, 94, 95, 96, 97, 98, 99, 100, 101, 102, 103, 104, 105, 106, 107, 108, 109, 110, 111] 0 a0) w1) :
    (Code.region 18 (regIn Try.f17 18) true).wp Try.prog Q a0 w := by
  refine region_by (G := fun w w1 => Below w.heap.size w w1) [IsV (.pointer (some ⟨bx, 1, none⟩)),
    IsV (.slice (some a) M xc),
    IsV (.int .i64 i),
    IsV (.pointer (some (a.add (i * 2)))),
    IsV (.pointer (some (a.add (i * 2)))),
    IsV (.string s),
    IsV (.pointer (some ⟨bY, 1, none⟩)),
    IsV (.slice (some b) M yc),
    IsV (.int .i64 i),
    IsV (.pointer (some (b.add (i * 2)))),
    IsV (.pointer (some (b.add (i * 2)))),
    IsV (.string s),
    IsV (.bool false),
    IsV (.bool false),
    IsV (.pointer (some ⟨bx, 1, none⟩)),
    IsV (.slice (some a) M xc),
    IsV (.int .i64 i),
    IsV (.pointer (some (a.add (i * 2)))),
    IsV (.pointer (some ⟨(a.add (i * 2)).block, (a.add (i * 2)).off + 1, none⟩)),
    IsV (.int .i64 x),
    IsV (.pointer (some ⟨bY, 1, none⟩)),
    IsV (.slice (some b) M yc),
    IsV (.int .i64 i),
    IsV (.pointer (some (b.add (i * 2)))),
    IsV (.pointer (some ⟨(b.add (i * 2)).block, (b.add (i * 2)).off + 1, none⟩)),
    IsV (.int .i64 y),
    IsV (.bool r),
    IsV (.bool r)]
    [84, 85, 86, 87, 88, 89, 90, 91, 92, 93, 94, 95, 96, 97, 98, 99, 100, 101, 102, 103, 104, 105, 106, 107, 108, 109, 110, 111] (by kernel_rfl) (Gw.drew _) Gw.trans (by rw [hsz]; kernel_rfl) (by kernel_rfl) ?_ ?_ ?_
  · intro f hf
    simp only [List.mem_cons, List.not_mem_nil, or_false] at hf
    rcases hf with rfl | rfl | rfl | rfl | rfl | rfl | rfl | rfl | rfl | rfl | rfl | rfl | rfl | rfl | rfl | rfl | rfl | rfl | rfl | rfl | rfl | rfl | rfl | rfl | rfl | rfl | rfl | rfl <;> intro v a b h g <;> first | exact IsV.mono h
  · refine ⟨?_, ?_, ?_, ?_, ?_, ?_, ?_, ?_, ?_, ?_, ?_, ?_, ?_, ?_, ?_, ?_, ?_, ?_, ?_, ?_, ?_, ?_, ?_, ?_, ?_, ?_, ?_, ?_, trivial⟩
    · refine owes_v (Go.Op.fieldAddr 32 (Go.Operand.tmp 2) 1) 0 [] (by kernel_rfl) (by kernel_rfl) (by kernel_rfl) rfl fun vals w1 ρ hG hF hρ hcst hfun => ?_
      have e2 : ρ (.tmp 2) = .pointer (some ⟨bx, 0, none⟩) := ((hρ 2).trans (slotO [] (by kernel_rfl))).trans sl2
      clear hρ hF hcst hfun sl2 sl3 sl9 fin
      exact opv_val (by go_simp <;> rfl) ⟨gw_self _, rfl⟩
    · refine owes_v (Go.Op.load 30 (Go.Operand.tmp 84)) 30 [0] (by kernel_rfl) (by kernel_rfl) (by kernel_rfl) rfl fun vals w1 ρ hG hF hρ hcst hfun => ?_
      have e84 : ρ (.tmp 84) = .pointer (some ⟨bx, 1, none⟩) := ((hρ 84).trans (slotJ [0] (by rw [hsz]; decide) (by kernel_rfl))).trans (hF 0 (by decide))
      have k := (hx.out w1 hG).1
      clear hρ hF hcst hfun sl2 sl3 sl9 fin
      exact opv_val (by go_simp <;> rfl) ⟨gw_self _, rfl⟩
    · exact owes_mv 9 (by kernel_rfl) (by kernel_rfl) (by kernel_rfl) sl9 (fun _ => rfl)
    · refine owes_v (Go.Op.indexAddr 30 (Go.Operand.tmp 85) (Go.Operand.tmp 86)) 0 [1, 2] (by kernel_rfl) (by kernel_rfl) (by kernel_rfl) rfl fun vals w1 ρ hG hF hρ hcst hfun => ?_
      have e85 : ρ (.tmp 85) = .slice (some a) M xc := ((hρ 85).trans (slotJ [1, 2] (by rw [hsz]; decide) (by kernel_rfl))).trans (hF 1 (by decide))
      have e86 : ρ (.tmp 86) = .int .i64 i := ((hρ 86).trans (slotJ [1, 2] (by rw [hsz]; decide) (by kernel_rfl))).trans (hF 2 (by decide))
      clear hρ hF hcst hfun sl2 sl3 sl9 fin
      exact opv_val (by go_simp <;> rfl) ⟨gw_self _, rfl⟩
    · refine owes_v (Go.Op.fieldAddr 61 (Go.Operand.tmp 87) 0) 0 [3] (by kernel_rfl) (by kernel_rfl) (by kernel_rfl) rfl fun vals w1 ρ hG hF hρ hcst hfun => ?_
      have e87 : ρ (.tmp 87) = .pointer (some (a.add (i * 2))) := ((hρ 87).trans (slotJ [3] (by rw [hsz]; decide) (by kernel_rfl))).trans (hF 3 (by decide))
      clear hρ hF hcst hfun sl2 sl3 sl9 fin
      exact opv_val (by go_simp <;> rfl) ⟨gw_self _, rfl⟩
    · refine owes_v (Go.Op.load 9 (Go.Operand.tmp 88)) 9 [4] (by kernel_rfl) (by kernel_rfl) (by kernel_rfl) rfl fun vals w1 ρ hG hF hρ hcst hfun => ?_
      have e88 : ρ (.tmp 88) = .pointer (some (a.add (i * 2))) := ((hρ 88).trans (slotJ [4] (by rw [hsz]; decide) (by kernel_rfl))).trans (hF 4 (by decide))
      have k := (hx.out w1 hG).2.1
      clear hρ hF hcst hfun sl2 sl3 sl9 fin
      exact opv_val (by go_simp <;> rfl) ⟨gw_self _, rfl⟩
    · refine owes_v (Go.Op.fieldAddr 32 (Go.Operand.tmp 3) 1) 0 [] (by kernel_rfl) (by kernel_rfl) (by kernel_rfl) rfl fun vals w1 ρ hG hF hρ hcst hfun => ?_
      have e3 : ρ (.tmp 3) = .pointer (some ⟨bY, 0, none⟩) := ((hρ 3).trans (slotO [] (by kernel_rfl))).trans sl3
      clear hρ hF hcst hfun sl2 sl3 sl9 fin
      exact opv_val (by go_simp <;> rfl) ⟨gw_self _, rfl⟩
    · refine owes_v (Go.Op.load 30 (Go.Operand.tmp 90)) 30 [6] (by kernel_rfl) (by kernel_rfl) (by kernel_rfl) rfl fun vals w1 ρ hG hF hρ hcst hfun => ?_
      have e90 : ρ (.tmp 90) = .pointer (some ⟨bY, 1, none⟩) := ((hρ 90).trans (slotJ [6] (by rw [hsz]; decide) (by kernel_rfl))).trans (hF 6 (by decide))
      have k := (hy.out w1 hG).1
      clear hρ hF hcst hfun sl2 sl3 sl9 fin
      exact opv_val (by go_simp <;> rfl) ⟨gw_self _, rfl⟩
    · exact owes_mv 9 (by kernel_rfl) (by kernel_rfl) (by kernel_rfl) sl9 (fun _ => rfl)
    · refine owes_v (Go.Op.indexAddr 30 (Go.Operand.tmp 91) (Go.Operand.tmp 92)) 0 [7, 8] (by kernel_rfl) (by kernel_rfl) (by kernel_rfl) rfl fun vals w1 ρ hG hF hρ hcst hfun => ?_
      have e91 : ρ (.tmp 91) = .slice (some b) M yc := ((hρ 91).trans (slotJ [7, 8] (by rw [hsz]; decide) (by kernel_rfl))).trans (hF 7 (by decide))
      have e92 : ρ (.tmp 92) = .int .i64 i := ((hρ 92).trans (slotJ [7, 8] (by rw [hsz]; decide) (by kernel_rfl))).trans (hF 8 (by decide))
      clear hρ hF hcst hfun sl2 sl3 sl9 fin
      exact opv_val (by go_simp <;> rfl) ⟨gw_self _, rfl⟩
    · refine owes_v (Go.Op.fieldAddr 61 (Go.Operand.tmp 93) 0) 0 [9] (by kernel_rfl) (by kernel_rfl) (by kernel_rfl) rfl fun vals w1 ρ hG hF hρ hcst hfun => ?_
      have e93 : ρ (.tmp 93) = .pointer (some (b.add (i * 2))) := ((hρ 93).trans (slotJ [9] (by rw [hsz]; decide) (by kernel_rfl))).trans (hF 9 (by decide))
      clear hρ hF hcst hfun sl2 sl3 sl9 fin
      exact opv_val (by go_simp <;> rfl) ⟨gw_self _, rfl⟩
    · refine owes_v (Go.Op.load 9 (Go.Operand.tmp 94)) 9 [10] (by kernel_rfl) (by kernel_rfl) (by kernel_rfl) rfl fun vals w1 ρ hG hF hρ hcst hfun => ?_
      have e94 : ρ (.tmp 94) = .pointer (some (b.add (i * 2))) := ((hρ 94).trans (slotJ [10] (by rw [hsz]; decide) (by kernel_rfl))).trans (hF 10 (by decide))
      have k := (hy.out w1 hG).2.1
      clear hρ hF hcst hfun sl2 sl3 sl9 fin
      exact opv_val (by go_simp <;> rfl) ⟨gw_self _, rfl⟩
    · refine owes_v (Go.Op.binOp Go.BinOp.neq 9 (Go.Operand.tmp 89) (Go.Operand.tmp 95) 9) 4 [5, 11] (by kernel_rfl) (by kernel_rfl) (by kernel_rfl) rfl fun vals w1 ρ hG hF hρ hcst hfun => ?_
      have e89 : ρ (.tmp 89) = .string s := ((hρ 89).trans (slotJ [5, 11] (by rw [hsz]; decide) (by kernel_rfl))).trans (hF 5 (by decide))
      have e95 : ρ (.tmp 95) = .string s := ((hρ 95).trans (slotJ [5, 11] (by rw [hsz]; decide) (by kernel_rfl))).trans (hF 11 (by decide))
      clear hρ hF hcst hfun sl2 sl3 sl9 fin
      exact opv_val (by go_simp <;> rfl) ⟨gw_self _, rfl⟩
    · exact owes_mvj 12 96 (by kernel_rfl) (by kernel_rfl) (by kernel_rfl) (by kernel_rfl) (by rw [hsz]; decide) (fun v w h => h)
    · refine owes_vt 13 false (Go.Op.fieldAddr 32 (Go.Operand.tmp 2) 1) 0 [] (by kernel_rfl) (by kernel_rfl) (by kernel_rfl) (fun _ _ h => h) (by rw [hsz]; kernel_rfl) (by kernel_rfl) rfl fun vals w1 ρ hG hF hρ hcst hfun => ?_
      have e2 : ρ (.tmp 2) = .pointer (some ⟨bx, 0, none⟩) := ((hρ 2).trans (slotO [] (by kernel_rfl))).trans sl2
      clear hρ hF hcst hfun sl2 sl3 sl9 fin
      exact opv_val (by go_simp <;> rfl) ⟨gw_self _, rfl⟩
    · refine owes_vt 13 false (Go.Op.load 30 (Go.Operand.tmp 98)) 30 [14] (by kernel_rfl) (by kernel_rfl) (by kernel_rfl) (fun _ _ h => h) (by rw [hsz]; kernel_rfl) (by kernel_rfl) rfl fun vals w1 ρ hG hF hρ hcst hfun => ?_
      have e98 : ρ (.tmp 98) = .pointer (some ⟨bx, 1, none⟩) := ((hρ 98).trans (slotJ [14] (by rw [hsz]; decide) (by kernel_rfl))).trans (hF 14 (by decide))
      have k := (hx.out w1 hG).1
      clear hρ hF hcst hfun sl2 sl3 sl9 fin
      exact opv_val (by go_simp <;> rfl) ⟨gw_self _, rfl⟩
    · refine owes_vt 13 false (Go.Op.move (Go.Operand.tmp 9)) 3 [] (by kernel_rfl) (by kernel_rfl) (by kernel_rfl) (fun _ _ h => h) (by rw [hsz]; kernel_rfl) (by kernel_rfl) rfl fun vals w1 ρ hG hF hρ hcst hfun => ?_
      have e9 : ρ (.tmp 9) = .int .i64 i := ((hρ 9).trans (slotO [] (by kernel_rfl))).trans sl9
      clear hρ hF hcst hfun sl2 sl3 sl9 fin
      exact opv_val (by go_simp <;> rfl) ⟨gw_self _, rfl⟩
    · refine owes_vt 13 false (Go.Op.indexAddr 30 (Go.Operand.tmp 99) (Go.Operand.tmp 100)) 0 [15, 16] (by kernel_rfl) (by kernel_rfl) (by kernel_rfl) (fun _ _ h => h) (by rw [hsz]; kernel_rfl) (by kernel_rfl) rfl fun vals w1 ρ hG hF hρ hcst hfun => ?_
      have e99 : ρ (.tmp 99) = .slice (some a) M xc := ((hρ 99).trans (slotJ [15, 16] (by rw [hsz]; decide) (by kernel_rfl))).trans (hF 15 (by decide))
      have e100 : ρ (.tmp 100) = .int .i64 i := ((hρ 100).trans (slotJ [15, 16] (by rw [hsz]; decide) (by kernel_rfl))).trans (hF 16 (by decide))
      clear hρ hF hcst hfun sl2 sl3 sl9 fin
      exact opv_val (by go_simp <;> rfl) ⟨gw_self _, rfl⟩
    · refine owes_vt 13 false (Go.Op.fieldAddr 61 (Go.Operand.tmp 101) 1) 0 [17] (by kernel_rfl) (by kernel_rfl) (by kernel_rfl) (fun _ _ h => h) (by rw [hsz]; kernel_rfl) (by kernel_rfl) rfl fun vals w1 ρ hG hF hρ hcst hfun => ?_
      have e101 : ρ (.tmp 101) = .pointer (some (a.add (i * 2))) := ((hρ 101).trans (slotJ [17] (by rw [hsz]; decide) (by kernel_rfl))).trans (hF 17 (by decide))
      clear hρ hF hcst hfun sl2 sl3 sl9 fin
      exact opv_val (by go_simp <;> rfl) ⟨gw_self _, rfl⟩
    · refine owes_vt 13 false (Go.Op.load 3 (Go.Operand.tmp 102)) 3 [18] (by kernel_rfl) (by kernel_rfl) (by kernel_rfl) (fun _ _ h => h) (by rw [hsz]; kernel_rfl) (by kernel_rfl) rfl fun vals w1 ρ hG hF hρ hcst hfun => ?_
      have e102 : ρ (.tmp 102) = .pointer (some ⟨(a.add (i * 2)).block, (a.add (i * 2)).off + 1, none⟩) := ((hρ 102).trans (slotJ [18] (by rw [hsz]; decide) (by kernel_rfl))).trans (hF 18 (by decide))
      have k := (hx.out w1 hG).2.2
      clear hρ hF hcst hfun sl2 sl3 sl9 fin
      exact opv_val (by go_simp <;> rfl) ⟨gw_self _, rfl⟩
    · refine owes_vt 13 false (Go.Op.fieldAddr 32 (Go.Operand.tmp 3) 1) 0 [] (by kernel_rfl) (by kernel_rfl) (by kernel_rfl) (fun _ _ h => h) (by rw [hsz]; kernel_rfl) (by kernel_rfl) rfl fun vals w1 ρ hG hF hρ hcst hfun => ?_
      have e3 : ρ (.tmp 3) = .pointer (some ⟨bY, 0, none⟩) := ((hρ 3).trans (slotO [] (by kernel_rfl))).trans sl3
      clear hρ hF hcst hfun sl2 sl3 sl9 fin
      exact opv_val (by go_simp <;> rfl) ⟨gw_self _, rfl⟩
    · refine owes_vt 13 false (Go.Op.load 30 (Go.Operand.tmp 104)) 30 [20] (by kernel_rfl) (by kernel_rfl) (by kernel_rfl) (fun _ _ h => h) (by rw [hsz]; kernel_rfl) (by kernel_rfl) rfl fun vals w1 ρ hG hF hρ hcst hfun => ?_
      have e104 : ρ (.tmp 104) = .pointer (some ⟨bY, 1, none⟩) := ((hρ 104).trans (slotJ [20] (by rw [hsz]; decide) (by kernel_rfl))).trans (hF 20 (by decide))
      have k := (hy.out w1 hG).1
      clear hρ hF hcst hfun sl2 sl3 sl9 fin
      exact opv_val (by go_simp <;> rfl) ⟨gw_self _, rfl⟩
    · refine owes_vt 13 false (Go.Op.move (Go.Operand.tmp 9)) 3 [] (by kernel_rfl) (by kernel_rfl) (by kernel_rfl) (fun _ _ h => h) (by rw [hsz]; kernel_rfl) (by kernel_rfl) rfl fun vals w1 ρ hG hF hρ hcst hfun => ?_
      have e9 : ρ (.tmp 9) = .int .i64 i := ((hρ 9).trans (slotO [] (by kernel_rfl))).trans sl9
      clear hρ hF hcst hfun sl2 sl3 sl9 fin
      exact opv_val (by go_simp <;> rfl) ⟨gw_self _, rfl⟩
    · refine owes_vt 13 false (Go.Op.indexAddr 30 (Go.Operand.tmp 105) (Go.Operand.tmp 106)) 0 [21, 22] (by kernel_rfl) (by kernel_rfl) (by kernel_rfl) (fun _ _ h => h) (by rw [hsz]; kernel_rfl) (by kernel_rfl) rfl fun vals w1 ρ hG hF hρ hcst hfun => ?_
      have e105 : ρ (.tmp 105) = .slice (some b) M yc := ((hρ 105).trans (slotJ [21, 22] (by rw [hsz]; decide) (by kernel_rfl))).trans (hF 21 (by decide))
      have e106 : ρ (.tmp 106) = .int .i64 i := ((hρ 106).trans (slotJ [21, 22] (by rw [hsz]; decide) (by kernel_rfl))).trans (hF 22 (by decide))
      clear hρ hF hcst hfun sl2 sl3 sl9 fin
      exact opv_val (by go_simp <;> rfl) ⟨gw_self _, rfl⟩
    · refine owes_vt 13 false (Go.Op.fieldAddr 61 (Go.Operand.tmp 107) 1) 0 [23] (by kernel_rfl) (by kernel_rfl) (by kernel_rfl) (fun _ _ h => h) (by rw [hsz]; kernel_rfl) (by kernel_rfl) rfl fun vals w1 ρ hG hF hρ hcst hfun => ?_
      have e107 : ρ (.tmp 107) = .pointer (some (b.add (i * 2))) := ((hρ 107).trans (slotJ [23] (by rw [hsz]; decide) (by kernel_rfl))).trans (hF 23 (by decide))
      clear hρ hF hcst hfun sl2 sl3 sl9 fin
      exact opv_val (by go_simp <;> rfl) ⟨gw_self _, rfl⟩
    · refine owes_vt 13 false (Go.Op.load 3 (Go.Operand.tmp 108)) 3 [24] (by kernel_rfl) (by kernel_rfl) (by kernel_rfl) (fun _ _ h => h) (by rw [hsz]; kernel_rfl) (by kernel_rfl) rfl fun vals w1 ρ hG hF hρ hcst hfun => ?_
      have e108 : ρ (.tmp 108) = .pointer (some ⟨(b.add (i * 2)).block, (b.add (i * 2)).off + 1, none⟩) := ((hρ 108).trans (slotJ [24] (by rw [hsz]; decide) (by kernel_rfl))).trans (hF 24 (by decide))
      have k := (hy.out w1 hG).2.2
      clear hρ hF hcst hfun sl2 sl3 sl9 fin
      exact opv_val (by go_simp <;> rfl) ⟨gw_self _, rfl⟩
    · refine owes_vt 13 false (Go.Op.binOp Go.BinOp.neq 3 (Go.Operand.tmp 103) (Go.Operand.tmp 109) 3) 4 [19, 25] (by kernel_rfl) (by kernel_rfl) (by kernel_rfl) (fun _ _ h => h) (by rw [hsz]; kernel_rfl) (by kernel_rfl) rfl fun vals w1 ρ hG hF hρ hcst hfun => ?_
      have e103 : ρ (.tmp 103) = .int .i64 x := ((hρ 103).trans (slotJ [19, 25] (by rw [hsz]; decide) (by kernel_rfl))).trans (hF 19 (by decide))
      have e109 : ρ (.tmp 109) = .int .i64 y := ((hρ 109).trans (slotJ [19, 25] (by rw [hsz]; decide) (by kernel_rfl))).trans (hF 25 (by decide))
      clear hρ hF hcst hfun sl2 sl3 sl9 fin
      exact opv_val (by go_simp <;> first | rfl | exact hr | rw [hr]) ⟨gw_self _, rfl⟩
    · refine owes_v (Go.Op.pick (Go.Operand.tmp 97) (Go.Operand.const (Go.Value.bool true)) (Go.Operand.tmp 110)) 4 [13, 26] (by kernel_rfl) (by kernel_rfl) (by kernel_rfl) rfl fun vals w1 ρ hG hF hρ hcst hfun => ?_
      have e97 : ρ (.tmp 97) = .bool false := ((hρ 97).trans (slotJ [13, 26] (by rw [hsz]; decide) (by kernel_rfl))).trans (hF 13 (by decide))
      have e110 : ρ (.tmp 110) = .bool r := ((hρ 110).trans (slotJ [13, 26] (by rw [hsz]; decide) (by kernel_rfl))).trans (hF 26 (by decide))
      clear hρ hF hfun sl2 sl3 sl9 fin
      exact opv_val (by go_simp <;> rfl) ⟨gw_self _, rfl⟩
  · intro vals w1 hG hF
    exact fin vals w1 hG (hF 27 (by decide +kernel))
theorem same_false {a b : Gv} (h : ¬ (a.r = b.r ∧ a.n.map Nv.m = b.n.map Nv.m)) : sameG a b = false := by
  cases e : sameG a b with
  | false => rfl
  | true =>
    unfold sameG at e
    rw [Bool.and_eq_true, sameR_iff, sameNs_iff] at e
    exact absurd e h
theorem same_true {a b : Gv} (h : a.r = b.r) (h2 : a.n.map Nv.m = b.n.map Nv.m) : sameG a b = true := by
  unfold sameG
  rw [Bool.and_eq_true, sameR_iff, sameNs_iff]
  exact ⟨h, h2⟩
theorem str_ne {xs ys : List (BitVec 8)} (h : ¬ xs = ys) : ¬ (strB xs).toList = (strB ys).toList := fun e => h (strB_inj (listB_inj e))
theorem req_c (w : World) (a b : Gv) (ha : a.At w w.heap.size) (hb : b.At w w.heap.size) (hs : FewP a) : Calls Try.prog 17 #[a.v, b.v] w (RetP (.bool (sameG a b)) w) := by
  have HA := Lib.hid ha
  have HB := Lib.hid hb
  obtain ⟨R, hR⟩ : ∃ R, R = sameG a b := ⟨_, rfl⟩
  rw [← hR]
  have HR := Lib.hid hR
  have HP := Lib.hid hs.2.2.1
  have hsn := hs.1
  have hsr := hs.2.1
  obtain ⟨A, ca, A2, ca2, ns, rs⟩ := a
  obtain ⟨C, cc, C2, cc2, ms, us⟩ := b
  obtain ⟨N, hN⟩ : ∃ N, N = ns.length := ⟨_, rfl⟩
  obtain ⟨M, hM⟩ : ∃ M, M = rs.length := ⟨_, rfl⟩
  obtain ⟨N2, hN2⟩ : ∃ N2, N2 = ms.length := ⟨_, rfl⟩
  obtain ⟨M2, hM2⟩ : ∃ M2, M2 = us.length := ⟨_, rfl⟩
  have q0 : (N : Int) ≤ 60 := by rw [hN]; exact Int.ofNat_le.2 hsn
  have q1 : (M : Int) ≤ 80 := by rw [hM]; exact Int.ofNat_le.2 hsr
  have HN := Lib.hid (And.intro hN (And.intro hM (And.intro hN2 hM2)))
  unfold Gv.v Gv.vn Gv.vr
  simp only at HP ⊢
  rw [← hN, ← hM, ← hN2, ← hM2]
  clear ha hb hs hsn hsr hN hM hN2 hM2 hR
  go_enter Try.func17, Try.ntmps17
  by_cases hnn : N = N2
  · by_cases hmm : M = M2
    · subst hnn
      subst hmm
      go_wp2_with fail
      obtain ⟨W1, hW1⟩ : ∃ W1, W1 = (w.alloc (.cells #[.slice A N ca, .slice A2 M ca2] 32)).alloc (.cells #[.slice C N cc, .slice C2 M cc2] 32) := ⟨_, rfl⟩
      have HW1 := Lib.hid (show Bk W1 w.heap.size 32 #[.slice A N ca, .slice A2 M ca2] ∧ Bk W1 (w.heap.size + 1) 32 #[.slice C N cc, .slice C2 M cc2] ∧ Below w.heap.size w W1 from by
        rw [hW1]
        have k1 := Bk.new (w.alloc (.cells #[.slice A N ca, .slice A2 M ca2] 32)) 32 #[.slice C N cc, .slice C2 M cc2]
        simp only [World.size_alloc] at k1
        exact ⟨(Bk.new w _ _).alloc _, k1, (Gw.alloc w _).trans ((Gw.alloc _ _).mono (by simp))⟩)
      rw [← hW1]
      clear hW1
      go_loopw [5] (fun i W => ∃ k : Nat, i = .int .i64 k ∧ k ≤ N ∧ Hid ((ns.take k).map Nv.m = (ms.take k).map Nv.m) ∧ Below W1.heap.size W1 W) (fun i _ => N - (Go.RowKit.intOf i).toNat)
      case atStart => exact ⟨0, rfl, Nat.zero_le _, Lib.hid rfl, Below.refl _ _⟩
      case round =>
        obtain ⟨k, rfl, hk, ht, hB⟩ := hrel
        have HBk := Lib.hid hB
        have hb1 := HW1.out.1.below hB HW1.out.1.lt
        have hb2 := HW1.out.2.1.below hB HW1.out.2.1.lt
        have c0 := hb1.two.1
        have c1 := hb2.two.1
        have hl1 := hb1.lt
        have hl2 := hb2.lt
        have HBw := Lib.hid (show Below w.heap.size w wr from HW1.out.2.2.trans (hB.mono HW1.out.2.2.size))
        by_cases hlt : k < N
        · have hkn : k < ns.length := by rw [← HN.out.1]; exact hlt
          have hkm : k < ms.length := by rw [← HN.out.2.2.1]; exact hlt
          obtain ⟨x, hx⟩ : ∃ x, x = ns[k] := ⟨_, rfl⟩
          obtain ⟨y, hy⟩ : ∃ y, y = ms[k] := ⟨_, rfl⟩
          obtain ⟨ad, rfl, hc2, hc3, hxa⟩ : ∃ ad, A = some ad ∧ wr.cell? (ad.add (k * 2)) = some x.vp ∧ wr.cell? ⟨(ad.add (k * 2)).block, (ad.add (k * 2)).off + 1, none⟩ = some x.vd ∧ x.At wr wr.heap.size := by
            obtain ⟨ad, e, _, h1, h2, h3⟩ := (HA.out.n.below HBw.out) k hkn
            exact ⟨ad, e, by rw [hx]; exact h1, by rw [hx]; exact h2, by rw [hx]; exact h3.more HBw.out.size⟩
          obtain ⟨ae, rfl, hd2, hd3, hya⟩ : ∃ ad, C = some ad ∧ wr.cell? (ad.add (k * 2)) = some y.vp ∧ wr.cell? ⟨(ad.add (k * 2)).block, (ad.add (k * 2)).off + 1, none⟩ = some y.vd ∧ y.At wr wr.heap.size := by
            obtain ⟨ad, e, _, h1, h2, h3⟩ := (HB.out.n.below HBw.out) k hkm
            exact ⟨ad, e, by rw [hy]; exact h1, by rw [hy]; exact h2, by rw [hy]; exact h3.more HBw.out.size⟩
          have hsz := HP.out x (by rw [hx]; exact List.getElem_mem _)
          have HT := Lib.hid (show x.m = y.m → (ns.take (k + 1)).map Nv.m = (ms.take (k + 1)).map Nv.m from fun e => by
            rw [take_snoc ns k hkn, take_snoc ms k hkm, List.map_append, List.map_append, ht.out, ← hx, ← hy]; simp [e])
          have HF := Lib.hid (show ¬ x.m = y.m → R = false from fun e => by
            rw [HR.out]
            refine same_false fun h => e ?_
            have h2 := congrArg (fun l => l[k]?) h.2
            simp only [List.getElem?_map, List.getElem?_eq_getElem hkn, List.getElem?_eq_getElem hkm, Option.map_some, Option.some.injEq] at h2
            rw [hx, hy]; exact h2)
          have p1 : (0 : Int) ≤ (k : Int) := by omega
          have p2 : (k : Int) < (N : Int) := by omega
          clear hx hy hkn hkm hB ht hb1 hb2
          obtain ⟨xA, xc, xD, xd, xps, xbs⟩ := x
          obtain ⟨yA, yc, yD, yd, yps, ybs⟩ := y
          obtain ⟨xn, hxn⟩ : ∃ n, n = xps.length := ⟨_, rfl⟩
          obtain ⟨xm, hxm⟩ : ∃ n, n = xbs.length := ⟨_, rfl⟩
          obtain ⟨yn, hyn⟩ : ∃ n, n = yps.length := ⟨_, rfl⟩
          obtain ⟨ym, hym⟩ : ∃ n, n = ybs.length := ⟨_, rfl⟩
          unfold Nv.vp at hc2 hd2
          unfold Nv.vd at hc3 hd3
          unfold Nv.m at HT HF
          simp only at hc2 hc3 hd2 hd3 HT HF hsz
          rw [← hxn] at hc2 hsz
          rw [← hxm] at hc3
          rw [← hyn] at hd2
          rw [← hym] at hd3
          have hcl := cell_lt hc2
          have hcl' : (ad.add (k * 2)).block < wr.heap.size := hcl
          have hdl := cell_lt hd2
          have hdl' : (ae.add (k * 2)).block < wr.heap.size := hdl
          obtain ⟨W2, hW2⟩ : ∃ W2, W2 = (wr.alloc (.cells #[.slice xA xn xc, .slice xD xm xd] 60)).alloc (.cells #[.slice yA yn yc, .slice yD ym yd] 60) := ⟨_, rfl⟩
          have HW2 := Lib.hid (show Bk W2 wr.heap.size 60 #[.slice xA xn xc, .slice xD xm xd] ∧ Bk W2 (wr.heap.size + 1) 60 #[.slice yA yn yc, .slice yD ym yd] ∧ Below wr.heap.size wr W2 from by
            rw [hW2]
            have k1 := Bk.new (wr.alloc (.cells #[.slice xA xn xc, .slice xD xm xd] 60)) 60 #[.slice yA yn yc, .slice yD ym yd]
            simp only [World.size_alloc] at k1
            exact ⟨(Bk.new wr _ _).alloc _, k1, (Gw.alloc wr _).trans ((Gw.alloc _ _).mono (by simp))⟩)
          obtain ⟨s1, hs1⟩ : ∃ s, s = strB xbs := ⟨_, rfl⟩
          obtain ⟨s2, hs2⟩ : ∃ s, s = strB ybs := ⟨_, rfl⟩
          have k1 : (convert 51 9 (.slice xD xm xd)).run Try.prog ((wr.alloc (.cells #[.slice xA xn xc, .slice xD xm xd] 60)).alloc (.cells #[.slice yA yn yc, .slice yD ym yd] 60)) = .ok (.string s1) ((wr.alloc (.cells #[.slice xA xn xc, .slice xD xm xd] 60)).alloc (.cells #[.slice yA yn yc, .slice yD ym yd] 60)) := by
            rw [← hW2, hs1, hxm]; exact str_conv xbs xD xd _ W2 (hxa.up HW2.out.2.2).b
          have k2 : (convert 51 9 (.slice yD ym yd)).run Try.prog ((wr.alloc (.cells #[.slice xA xn xc, .slice xD xm xd] 60)).alloc (.cells #[.slice yA yn yc, .slice yD ym yd] 60)) = .ok (.string s2) ((wr.alloc (.cells #[.slice xA xn xc, .slice xD xm xd] 60)).alloc (.cells #[.slice yA yn yc, .slice yD ym yd] 60)) := by
            rw [← hW2, hs2, hym]; exact str_conv ybs yD yd _ W2 (hya.up HW2.out.2.2).b
          have HXY := Lib.hid (And.intro (hxa.up HW2.out.2.2) (hya.up HW2.out.2.2))
          have hW2' := Lib.hid hW2
          have HL := Lib.hid (And.intro hxn hyn)
          clear hxa hya hcl hdl hW2
          by_cases hn : xn = yn
          · by_cases hbb : xbs = ybs
            · have hss : s1 = s2 := by rw [hs1, hs2, hbb]
              subst hss
              subst hn
              clear hs1 hs2 hxm hym hxn hyn
              have hq1 : (xn : Int) ≤ 70 := by have := hsz.1; omega
              clear hsz
              go_wp2_with fail
              rw [← hW2'.out]
              clear hc2 hc3 hd2 hd3 k1 k2 hcl' hdl' c0 c1
              have HBo := Lib.hid (show Below W1.heap.size W1 W2 from HBk.out.trans (HW2.out.2.2.mono HBk.out.size))
              obtain ⟨bx, hbx⟩ : ∃ bx, bx = wr.heap.size := ⟨_, rfl⟩
              rw [← hbx] at HW2 ⊢
              clear hbx
              go_loopw [8] (fun i W => ∃ n : Nat, i = .int .i64 n ∧ n ≤ xn ∧ Hid (xps.take n = yps.take n) ∧ Below W2.heap.size W2 W) (fun i _ => xn - (Go.RowKit.intOf i).toNat)
              case atStart => exact ⟨0, rfl, Nat.zero_le _, Lib.hid rfl, Below.refl _ _⟩
              case round =>
                obtain ⟨n, rfl, hn, ht, hB⟩ := hrel
                have hb1 := HW2.out.1.below hB HW2.out.1.lt
                have hb2 := HW2.out.2.1.below hB HW2.out.2.1.lt
                have HBn := Lib.hid hB
                by_cases hln : n < xn
                · have h1 : n < xps.length := by rw [← HL.out.1]; exact hln
                  have h2 : n < yps.length := by rw [← HL.out.2]; exact hln
                  obtain ⟨x, hx⟩ : ∃ y, y = xps[n] := ⟨_, rfl⟩
                  obtain ⟨y, hy⟩ : ∃ y, y = yps[n] := ⟨_, rfl⟩
                  obtain ⟨aa, rfl, haa, hca⟩ := (HXY.out.1.p.below hB) n h1
                  obtain ⟨ab, rfl, hab, hcb⟩ := (HXY.out.2.p.below hB) n h2
                  rw [← hx] at hca
                  rw [← hy] at hcb
                  unfold iV at hca hcb
                  have HX := Lib.hid (fun (W : World) (b : Below wr.heap.size wr W) => show W.cell? ⟨bx, 0, none⟩ = some (.slice (some aa) xn xc) ∧ W.cell? (aa.add n) = some (.int .i64 x) from ⟨(hb1.below b hb1.lt).cell 0, (b.cell (cell_lt hca)).trans hca⟩)
                  have HY := Lib.hid (fun (W : World) (b : Below wr.heap.size wr W) => show W.cell? ⟨bx + 1, 0, none⟩ = some (.slice (some ab) xn yc) ∧ W.cell? (ab.add n) = some (.int .i64 y) from ⟨(hb2.below b hb2.lt).cell 0, (b.cell (cell_lt hcb)).trans hcb⟩)
                  have d0 := (HX.out wr (Below.refl _ _)).1
                  have p3 : (0 : Int) ≤ (n : Int) := by omega
                  have p4 : (n : Int) < (xn : Int) := by omega
                  by_cases hxy : x = y
                  · have hrf : (x != y) = false := by simp [hxy]
                    have HTn := Lib.hid (take_eq_succ h1 h2 ht.out (by rw [← hx, ← hy, hxy]))
                    clear hx hy haa hab hca hcb h1 h2 hxy ht hB hb1 hb2
                    go_wp2_with fail
                    refine req_r _ _ _ bx (bx + 1) aa ab xn xc yc n (.slice xD xm xd) (.slice yD ym yd) x y false HX HY hrf p3 p4 rfl rfl rfl rfl ?_
                    intro vals w4 hG h24
                    unfold IsV at h24
                    simp only [putD, Act.put, List.setIfInBounds_toArray, List.set_cons_zero, List.set_cons_succ, h24]
                    have HB4 := Lib.hid (HBn.out.trans (hG.mono HBn.out.size))
                    clear h24 hG HX HY hrf d0
                    go_wp2_with fail
                    go_roundw
                    case rel => exact ⟨n + 1, by go_num, by omega, HTn, HB4.out⟩
                    case measure => simp [Go.RowKit.intOf]; omega
                  · have hrf : (x != y) = true := by simp [hxy]
                    have HRf := Lib.hid (HF.out (fun e => hxy (by
                      have e1 : xps = yps := congrArg Prod.fst e
                      subst e1
                      rw [hx, hy])))
                    clear hx hy haa hab hca hcb h1 h2 hxy ht hB hb1 hb2
                    go_wp2_with fail
                    refine req_r _ _ _ bx (bx + 1) aa ab xn xc yc n (.slice xD xm xd) (.slice yD ym yd) x y true HX HY hrf p3 p4 rfl rfl rfl rfl ?_
                    intro vals w4 hG h24
                    unfold IsV at h24
                    simp only [putD, Act.put, List.setIfInBounds_toArray, List.set_cons_zero, List.set_cons_succ, h24]
                    have HB4 := Lib.hid (HBn.out.trans (hG.mono HBn.out.size))
                    clear h24 hG HX HY hrf d0
                    go_wp2_with fail
                    go_ret
                    rw [HRf.out]
                    have hz := HBo.out.trans (HB4.out.mono HBo.out.size)
                    exact ⟨rfl, HW1.out.2.2.trans (hz.mono HW1.out.2.2.size)⟩
                · have hnx : n = xn := by omega
                  have HTk := Lib.hid (HT.out (by
                    have := ht.out
                    rw [hnx, List.take_of_length_le (by rw [← HL.out.1]; exact Nat.le_refl _), List.take_of_length_le (by rw [← HL.out.2]; exact Nat.le_refl _)] at this
                    rw [this, hbb]))
                  have d0 := hb1.two.1
                  have HBz := Lib.hid (HBo.out.trans (hB.mono HBo.out.size))
                  clear hnx hb1 hb2 hB ht
                  go_wp2_with fail
                  go_roundw
                  case rel => exact ⟨k + 1, by go_num, by omega, HTk, HBz.out⟩
                  case measure => simp [Go.RowKit.intOf]; omega
            · have hss : ¬ s1.toList = s2.toList := by rw [hs1, hs2]; exact str_ne hbb
              have hss2 : (s1.toList == s2.toList) = false := by simpa using hss
              have HRf := Lib.hid (HF.out (fun e => hbb (congrArg Prod.snd e)))
              subst hn
              clear hs1 hs2 hxm hym hxn hyn hbb
              go_wp2_with fail
              go_ret
              rw [HRf.out]
              rw [← hW2'.out]
              have hz := HBk.out.trans (HW2.out.2.2.mono HBk.out.size)
              exact ⟨rfl, HW1.out.2.2.trans (hz.mono HW1.out.2.2.size)⟩
          · have t1 : ¬ (xn : Int) = (yn : Int) := by omega
            have HRf := Lib.hid (HF.out (fun e => hn (by
              have e1 : xps = yps := congrArg Prod.fst e
              rw [hxn, hyn, e1])))
            clear hs1 hs2 hxm hym hxn hyn hn
            go_wp2_with fail
            go_ret
            rw [HRf.out]
            rw [← hW2'.out]
            have hz := HBk.out.trans (HW2.out.2.2.mono HBk.out.size)
            exact ⟨rfl, HW1.out.2.2.trans (hz.mono HW1.out.2.2.size)⟩
        · have hkN : k = N := by omega
          have HTn := Lib.hid (show ns.map Nv.m = ms.map Nv.m from by
            have := ht.out
            rwa [hkN, List.take_of_length_le (by rw [← HN.out.1]; exact Nat.le_refl _), List.take_of_length_le (by rw [← HN.out.2.2.1]; exact Nat.le_refl _)] at this)
          clear hkN ht hb1 hb2
          go_wp2_with fail
          clear hl1 hl2 c0 c1 hlt
          obtain ⟨W0, hW0⟩ : ∃ W0, W0 = wr := ⟨_, rfl⟩
          rw [← hW0] at hB ⊢
          clear hW0
          go_loopw [9] (fun i W => ∃ k : Nat, i = .int .i64 k ∧ k ≤ M ∧ Hid (rs.take k = us.take k) ∧ Below W1.heap.size W1 W) (fun i _ => M - (Go.RowKit.intOf i).toNat)
          case atStart => exact ⟨0, rfl, Nat.zero_le _, Lib.hid rfl, hB⟩
          case round =>
            obtain ⟨k, rfl, hk, ht, hB⟩ := hrel
            have HBk := Lib.hid hB
            have hb1 := HW1.out.1.below hB HW1.out.1.lt
            have hb2 := HW1.out.2.1.below hB HW1.out.2.1.lt
            have c0 := hb1.two.2
            have hl1 := hb1.lt
            have HBw := Lib.hid (show Below w.heap.size w wr from HW1.out.2.2.trans (hB.mono HW1.out.2.2.size))
            by_cases hlt : k < M
            · have h1 : k < rs.length := by rw [← HN.out.2.1]; exact hlt
              have h2 : k < us.length := by rw [← HN.out.2.2.2]; exact hlt
              obtain ⟨x, hx⟩ : ∃ x, x = rs[k] := ⟨_, rfl⟩
              obtain ⟨y, hy⟩ : ∃ x, x = us[k] := ⟨_, rfl⟩
              obtain ⟨ad, rfl, hc2, hc3⟩ : ∃ ad, A2 = some ad ∧ wr.cell? (ad.add (k * 2)) = some (.string x.s) ∧ wr.cell? ⟨(ad.add (k * 2)).block, (ad.add (k * 2)).off + 1, none⟩ = some (.int .i64 x.t) := by
                obtain ⟨ad, e, _, h1, h2⟩ := (HA.out.r.below HBw.out) k h1
                exact ⟨ad, e, by rw [hx]; exact h1, by rw [hx]; exact h2⟩
              obtain ⟨ae, rfl, hd2, hd3⟩ : ∃ ad, C2 = some ad ∧ wr.cell? (ad.add (k * 2)) = some (.string y.s) ∧ wr.cell? ⟨(ad.add (k * 2)).block, (ad.add (k * 2)).off + 1, none⟩ = some (.int .i64 y.t) := by
                obtain ⟨ad, e, _, h1, h2⟩ := (HB.out.r.below HBw.out) k h2
                exact ⟨ad, e, by rw [hy]; exact h1, by rw [hy]; exact h2⟩
              have HF := Lib.hid (show ¬ x = y → R = false from fun e => by
                rw [HR.out]
                refine same_false fun h => e ?_
                have h3 : rs = us := h.1
                subst h3
                rw [hx, hy])
              have HTk := Lib.hid (show x = y → rs.take (k + 1) = us.take (k + 1) from fun e => take_eq_succ h1 h2 ht.out (by rw [← hx, ← hy, e]))
              have p3 : (0 : Int) ≤ (k : Int) := by omega
              have p4 : (k : Int) < (M : Int) := by omega
              by_cases hs : x.s = y.s
              · rw [← hs] at hd2
                have HX := Lib.hid (fun (W : World) (b : Below wr.heap.size wr W) => show W.cell? ⟨w.heap.size, 1, none⟩ = some (.slice (some ad) M ca2) ∧ W.cell? (ad.add (k * 2)) = some (.string x.s) ∧ W.cell? ⟨(ad.add (k * 2)).block, (ad.add (k * 2)).off + 1, none⟩ = some (.int .i64 x.t) from ⟨(hb1.below b hb1.lt).cell 1, (b.cell (cell_lt hc2)).trans hc2, (b.cell (cell_lt hc3)).trans hc3⟩)
                have HY := Lib.hid (fun (W : World) (b : Below wr.heap.size wr W) => show W.cell? ⟨w.heap.size + 1, 1, none⟩ = some (.slice (some ae) M cc2) ∧ W.cell? (ae.add (k * 2)) = some (.string x.s) ∧ W.cell? ⟨(ae.add (k * 2)).block, (ae.add (k * 2)).off + 1, none⟩ = some (.int .i64 y.t) from ⟨(hb2.below b hb2.lt).cell 1, (b.cell (cell_lt hd2)).trans hd2, (b.cell (cell_lt hd3)).trans hd3⟩)
                by_cases hxy : x.t = y.t
                · have hrf : (x.t != y.t) = false := by simp [hxy]
                  have HTq := Lib.hid (HTk.out (by cases x; cases y; simp at hs hxy; rw [hs, hxy]))
                  clear hx hy hc2 hc3 hd2 hd3 h1 h2 ht hB hb1 hb2 hxy hs
                  go_wp2_with fail
                  refine reqb_r _ _ _ w.heap.size (w.heap.size + 1) ad ae M ca2 cc2 k x.s x.t y.t false HX HY hrf p3 p4 rfl rfl rfl rfl ?_
                  intro vals w4 hG h24
                  unfold IsV at h24
                  simp only [putD, Act.put, List.setIfInBounds_toArray, List.set_cons_zero, List.set_cons_succ, h24]
                  have HB4 := Lib.hid (HBk.out.trans (hG.mono HBk.out.size))
                  clear h24 hG HX HY hrf
                  go_wp2_with fail
                  go_roundw
                  case rel => exact ⟨k + 1, by go_num, by omega, HTq, HB4.out⟩
                  case measure => simp [Go.RowKit.intOf]; omega
                · have hrf : (x.t != y.t) = true := by simp [hxy]
                  have HRf := Lib.hid (HF.out (fun e => hxy (by rw [e])))
                  clear hx hy hc2 hc3 hd2 hd3 h1 h2 ht hB hb1 hb2 hxy hs
                  go_wp2_with fail
                  refine reqb_r _ _ _ w.heap.size (w.heap.size + 1) ad ae M ca2 cc2 k x.s x.t y.t true HX HY hrf p3 p4 rfl rfl rfl rfl ?_
                  intro vals w4 hG h24
                  unfold IsV at h24
                  simp only [putD, Act.put, List.setIfInBounds_toArray, List.set_cons_zero, List.set_cons_succ, h24]
                  have HB4 := Lib.hid (HBw.out.trans (hG.mono HBw.out.size))
                  clear h24 hG HX HY hrf
                  go_wp2_with fail
                  go_ret
                  rw [HRf.out]
                  exact ⟨rfl, HB4.out⟩
              · have HX := Lib.hid (fun (W : World) (b : Below wr.heap.size wr W) => show W.cell? ⟨w.heap.size, 1, none⟩ = some (.slice (some ad) M ca2) ∧ W.cell? (ad.add (k * 2)) = some (.string x.s) from ⟨(hb1.below b hb1.lt).cell 1, (b.cell (cell_lt hc2)).trans hc2⟩)
                have HY := Lib.hid (fun (W : World) (b : Below wr.heap.size wr W) => show W.cell? ⟨w.heap.size + 1, 1, none⟩ = some (.slice (some ae) M cc2) ∧ W.cell? (ae.add (k * 2)) = some (.string y.s) from ⟨(hb2.below b hb2.lt).cell 1, (b.cell (cell_lt hd2)).trans hd2⟩)
                have HRf := Lib.hid (HF.out (fun e => hs (by rw [e])))
                have hrf : ¬ x.s.toList = y.s.toList := fun e => hs (listB_inj e)
                clear hx hy hc2 hc3 hd2 hd3 h1 h2 ht hB hb1 hb2 hs
                go_wp2_with fail
                refine reqa_r _ _ _ w.heap.size (w.heap.size + 1) ad ae M ca2 cc2 k x.s y.s HX HY hrf p3 p4 rfl rfl rfl rfl ?_
                intro vals w4 hG h24
                unfold IsV at h24
                simp only [putD, Act.put, List.setIfInBounds_toArray, List.set_cons_zero, List.set_cons_succ, h24]
                have HB4 := Lib.hid (HBw.out.trans (hG.mono HBw.out.size))
                clear h24 hG HX HY hrf
                go_wp2_with fail
                go_ret
                rw [HRf.out]
                exact ⟨rfl, HB4.out⟩
            · have hkM : k = M := by omega
              have HRt := Lib.hid (show R = true from by
                have := ht.out
                rw [hkM, List.take_of_length_le (by rw [← HN.out.2.1]; exact Nat.le_refl _), List.take_of_length_le (by rw [← HN.out.2.2.2]; exact Nat.le_refl _)] at this
                rw [HR.out]
                exact same_true this HTn.out)
              clear hkM ht hB hb1 hb2
              go_wp2_with fail
              go_ret
              rw [HRt.out]
              exact ⟨rfl, HBw.out⟩
    · have HRf := Lib.hid (show R = false from by
        rw [HR.out]
        refine same_false fun h => hmm ?_
        have h3 : rs = us := h.1
        rw [HN.out.2.1, HN.out.2.2.2, h3])
      have t1 : ¬ (M : Int) = (M2 : Int) := by omega
      subst hnn
      go_wp2_with fail
      go_ret
      rw [HRf.out]
      exact ⟨rfl, (by repeat (first | with_reducible assumption | with_reducible exact Below.refl _ _ | with_reducible apply bdN | with_reducible apply Below.drew | with_reducible refine Below.alloc ?_ (by simp) _ | with_reducible refine Below.setCell ?_ (by simp) _))⟩
  · have HRf := Lib.hid (show R = false from by
      rw [HR.out]
      refine same_false fun h => hnn ?_
      have h3 := congrArg List.length h.2
      rw [List.length_map, List.length_map] at h3
      rw [HN.out.1, HN.out.2.2.1]
      exact h3)
    have t1 : ¬ (N : Int) = (N2 : Int) := by omega
    go_wp2_with fail
    go_ret
    rw [HRf.out]
    exact ⟨rfl, (by repeat (first | with_reducible assumption | with_reducible exact Below.refl _ _ | with_reducible apply bdN | with_reducible apply Below.drew | with_reducible refine Below.alloc ?_ (by simp) _ | with_reducible refine Below.setCell ?_ (by simp) _))⟩
end Go.Proofs.Ytidaimcndbhefaa
/- Stores into the rows of nodes of one's own. No conditions. -/
namespace Go.Proofs.Ytidaimcndbhefaa
set_option linter.unusedVariables false
set_option linter.unusedSimpArgs false
open Go.RowKit Go.Maps
def Nv.bl (x : Nv) : List Nat := x.vp.ownBlock.toList ++ x.vd.ownBlock.toList
theorem blksN_cons (x : Nv) (xs : List Nv) : blksN (x :: xs) = x.bl ++ blksN xs := rfl
theorem bl_mem {xs : List Nv} {i : Nat} {x : Nv} (h : xs[i]? = some x) {c : Nat} (hc : c ∈ x.bl) : c ∈ blksN xs := by
  obtain ⟨hi, rfl⟩ := List.getElem?_eq_some_iff.1 h
  exact List.mem_flatMap.2 ⟨_, List.getElem_mem _, hc⟩
theorem bl_ne : ∀ {xs : List Nv} {i j : Nat} {x y : Nv} {c : Nat}, (blksN xs).Nodup → xs[i]? = some x → xs[j]? = some y → i ≠ j → c ∈ x.bl → c ∉ y.bl
  | [], i, j, x, y, c, _, h, _, _, _ => by simp at h
  | a :: l, 0, 0, x, y, c, _, _, _, hn, _ => absurd rfl hn
  | a :: l, 0, j + 1, x, y, c, hd, hx, hy, _, hc => fun hc2 => by
    rw [blksN_cons, List.nodup_append] at hd
    obtain rfl : a = x := by simpa using hx
    exact hd.2.2 c hc c (bl_mem (by simpa using hy) hc2) rfl
  | a :: l, i + 1, 0, x, y, c, hd, hx, hy, _, hc => fun hc2 => by
    rw [blksN_cons, List.nodup_append] at hd
    obtain rfl : a = y := by simpa using hy
    exact hd.2.2 c hc2 c (bl_mem (by simpa using hx) hc) rfl
  | a :: l, i + 1, j + 1, x, y, c, hd, hx, hy, hn, hc => by
    rw [blksN_cons, List.nodup_append] at hd
    exact bl_ne hd.2.1 (by simpa using hx) (by simpa using hy) (by omega) hc
theorem set_flat {β : Type} (f : Nv → List β) : ∀ (xs : List Nv) (i : Nat) (x y : Nv), xs[i]? = some x → f y = f x → (xs.set i y).flatMap f = xs.flatMap f
  | [], i, x, y, h, _ => by simp at h
  | a :: l, 0, x, y, h, e => by
    obtain rfl : a = x := by simpa using h
    simp [e]
  | a :: l, i + 1, x, y, h, e => by
    rw [List.set_cons_succ, List.flatMap_cons, List.flatMap_cons, set_flat f l i x y (by simpa using h) e]
section
variable {W W' : World} {base : Nat} {v : Value} {xs : List Nv} {i : Nat} {x y : Nv} {q : Nat}
/-- One of a node's two rows turns in place: its block is no other row's. -/
theorem NOwn.turn (h : NOwn W base v xs) (hx : xs[i]? = some x) (hp : y.vp = x.vp) (hd : y.vd = x.vd) (hq : q ∈ x.bl) (hg : W.grownBy W' (some q))
    (he : Ow iV 3 W' base y.vp y.ps ∧ Ow b8 5 W' base y.vd y.bs) : NOwn W' base v (xs.set i y) := by
  have hnd := List.nodup_append.1 h.dist
  have hqv : ∀ c, v.ownBlock = some c → c ≠ q := fun c e e2 => hnd.2.2 c (by simp [e]) q (bl_mem hx hq) e2
  have key : ∀ u : Value, (∀ c, u.ownBlock = some c → c ≠ q) → u.ownBlock = none ∨ u.ownBlock ≠ some q := fun u hu => by
    cases e : u.ownBlock with
    | none => exact .inl rfl
    | some k => exact .inr (fun e2 => hu k e (by injection e2))
  refine ⟨?_, fun z hz => ?_, ?_⟩
  · rw [List.length_set, set_flat Nv.cs xs i x y hx (by unfold Nv.cs; rw [hp, hd])]
    exact World.ownsRow.kept h.row hg (key _ hqv)
  · obtain ⟨j, hj, rfl⟩ := List.mem_iff_getElem.1 hz
    rw [List.length_set] at hj
    by_cases e : i = j
    · subst e
      rw [List.getElem_set_self]
      exact he
    · rw [List.getElem_set_ne e]
      obtain ⟨g1, g2⟩ := h.each _ (List.getElem_mem hj)
      have hno := fun c (hc : c ∈ (xs[j]).bl) => bl_ne hnd.2.1 (List.getElem?_eq_getElem hj) hx (fun e2 => e e2.symm) hc
      refine ⟨g1.kept hg (key _ fun c hc e2 => hno c (by unfold Nv.bl; simp [hc]) (by rw [e2]; exact hq)), g2.kept hg (key _ fun c hc e2 => hno c (by unfold Nv.bl; simp [hc]) (by rw [e2]; exact hq))⟩
  · have : blksN (xs.set i y) = blksN xs := set_flat _ xs i x y hx (by rw [hp, hd])
    rw [this]; exact h.dist
/-- Where a row's element lies that is one's own. -/
theorem ow_spot {α : Type} {f : α → Value} {E : TypeId} {A : Option Addr} {n c j : Nat} {l : List α} (h : Ow f E W base (.slice A n c) l) (hj : j < l.length) : ∃ q, A = some ⟨q, 0, none⟩ ∧ W.cell? ⟨q, j, none⟩ = some (f l[j]) ∧ W.frozen? ⟨q, j, none⟩ = false ∧ base ≤ q ∧ q < W.heap.size := by
  rcases h.2 with ⟨e, hn⟩ | ⟨g, cap, cur, e, hb, hh, _⟩
  · have : l = [] := by simpa using hn
    subst this
    exact absurd hj (by simp)
  · injection e with e1 e2 e3
    subst e1
    exact ⟨g, rfl, h.cell hj, h.free j, hb, (Array.getElem?_eq_some_iff.1 hh).1⟩
theorem NOwn.setB (h : NOwn W base v xs) (hx : xs[i]? = some x) {j : Nat} (hj : j < x.bs.length) (hA : x.D = some ⟨q, 0, none⟩) (z : BitVec 8) : NOwn (W.setCell ⟨q, j, none⟩ (b8 z)) base v (xs.set i { x with bs := x.bs.set j z }) := by
  obtain ⟨hi, rfl⟩ := List.getElem?_eq_some_iff.1 hx
  obtain ⟨g1, g2⟩ := h.each _ (List.getElem_mem hi)
  have hnd := List.nodup_append.1 h.dist
  have hqd : (xs[i]).vd.ownBlock = some q := by unfold Nv.vd; rw [hA]; rfl
  have hqp : ∀ c, (xs[i]).vp.ownBlock = some c → c ≠ q := fun c e e2 => by
    obtain ⟨a, b, ha⟩ : ∃ a b, xs = a ++ xs[i] :: b := ⟨xs.take i, xs.drop (i + 1), by rw [List.getElem_cons_drop, List.take_append_drop]⟩
    have h2 := hnd.2.1
    rw [ha, blks_app, blksN_cons] at h2
    have h3 := (List.nodup_append.1 (List.nodup_append.1 (List.nodup_append.1 h2).2.1).1).2.2
    exact h3 c (by simp [e]) q (by simp [hqd]) e2
  have e1 : (xs[i]).vd = .slice (some ⟨q, 0, none⟩) (xs[i]).bs.length (xs[i]).d := by unfold Nv.vd; rw [hA]
  refine h.turn hx rfl (by unfold Nv.vd; simp) (q := q) (by unfold Nv.bl; simp [hqd]) (grown_set W ⟨q, j, none⟩ _) ⟨?_, ?_⟩
  · refine g1.kept (grown_set W ⟨q, j, none⟩ _) ?_
    cases e : (xs[i]).vp.ownBlock with
    | none => exact .inl rfl
    | some c => exact .inr (fun e2 => hqp c e (by injection e2))
  · rw [e1] at g2
    have := g2.set hj z
    unfold Nv.vd
    simp only [List.length_set]
    rw [hA]
    exact this
theorem NOwn.setP (h : NOwn W base v xs) (hx : xs[i]? = some x) {j : Nat} (hj : j < x.ps.length) (hA : x.A = some ⟨q, 0, none⟩) (z : Int) : NOwn (W.setCell ⟨q, j, none⟩ (iV z)) base v (xs.set i { x with ps := x.ps.set j z }) := by
  obtain ⟨hi, rfl⟩ := List.getElem?_eq_some_iff.1 hx
  obtain ⟨g1, g2⟩ := h.each _ (List.getElem_mem hi)
  have hnd := List.nodup_append.1 h.dist
  have hqp : (xs[i]).vp.ownBlock = some q := by unfold Nv.vp; rw [hA]; rfl
  have hqd : ∀ c, (xs[i]).vd.ownBlock = some c → c ≠ q := fun c e e2 => by
    obtain ⟨a, b, ha⟩ : ∃ a b, xs = a ++ xs[i] :: b := ⟨xs.take i, xs.drop (i + 1), by rw [List.getElem_cons_drop, List.take_append_drop]⟩
    have h2 := hnd.2.1
    rw [ha, blks_app, blksN_cons] at h2
    have h3 := (List.nodup_append.1 (List.nodup_append.1 (List.nodup_append.1 h2).2.1).1).2.2
    exact h3 q (by simp [hqp]) c (by simp [e]) e2.symm
  have e1 : (xs[i]).vp = .slice (some ⟨q, 0, none⟩) (xs[i]).ps.length (xs[i]).c := by unfold Nv.vp; rw [hA]
  refine h.turn hx (by unfold Nv.vp; simp) rfl (q := q) (by unfold Nv.bl; simp [hqp]) (grown_set W ⟨q, j, none⟩ _) ⟨?_, ?_⟩
  · rw [e1] at g1
    have := g1.set hj z
    unfold Nv.vp
    simp only [List.length_set]
    rw [hA]
    exact this
  · refine g2.kept (grown_set W ⟨q, j, none⟩ _) ?_
    cases e : (xs[i]).vd.ownBlock with
    | none => exact .inl rfl
    | some c => exact .inr (fun e2 => hqd c e (by injection e2))
end
theorem u8_succ (y : BitVec 8) : IntKind.u8.wrap (U8 y + 1) = U8 (y + 1#8) := by
  revert y; decide +kernel
end Go.Proofs.Ytidaimcndbhefaa
/- The graph of loamlaw17.known: three nodes, one that nobody reaches. No conditions. -/
namespace Go.Proofs.Ytidaimcndbhefaa
set_option linter.unusedVariables false
set_option linter.unusedSimpArgs false
open Go.RowKit Go.Maps
def kN (s : Nat) : List Nv := [⟨some ⟨s, 0, none⟩, 1, none, 0, [2], []⟩, ⟨none, 0, some ⟨s + 1, 0, none⟩, 1, [], [120#8]⟩, ⟨none, 0, none, 0, [], []⟩]
def kR : List Rv := [⟨⟨#[97]⟩, 1⟩]
def kG (s : Nat) : Gv := ⟨some ⟨s + 1 + 1, 0, none⟩, 3, some ⟨s + 1 + 1 + 1, 0, none⟩, 1, kN s, kR⟩
/-- Behind the literal. -/
def kW (w : World) : World := (((((w.alloc (.cells #[.int .i64 2] 3)).alloc (.cells #[.int .u8 120] 5 (1, 2))).alloc
              (.cells #[.slice (some ⟨w.heap.size, 0, none⟩) 1 1, .slice none 0 0, .slice none 0 0, .slice (some ⟨w.heap.size + 1, 0, none⟩) 1 1, .slice none 0 0, .slice none 0 0] 53)).alloc
          (.cells #[.string ⟨#[97]⟩, .int .i64 1] 58)).alloc
      (.cells #[.slice (some ⟨w.heap.size + 1 + 1, 0, none⟩) 3 3, .slice (some ⟨w.heap.size + 1 + 1 + 1, 0, none⟩) 1 1] 25))
theorem at_new (w : World) (o : Obj) (k : Nat) (h : k = w.heap.size) : (w.alloc o).heap[k]? = some o := by subst h; exact heap_alloc_new w o
theorem at_old {w : World} {o x : Obj} {k : Nat} (h : w.heap[k]? = some x) : (w.alloc o).heap[k]? = some x := by
  have hl := (Array.getElem?_eq_some_iff.1 h).1
  exact (Below.heap_alloc w o k hl).trans h
theorem kW_blocks (w : World) : (kW w).heap[w.heap.size]? = some (.cells #[.int .i64 2] 3) ∧ (kW w).heap[w.heap.size + 1]? = some (.cells #[.int .u8 120] 5 (1, 2)) ∧
    (kW w).heap[w.heap.size + 1 + 1]? = some (.cells #[.slice (some ⟨w.heap.size, 0, none⟩) 1 1, .slice none 0 0, .slice none 0 0, .slice (some ⟨w.heap.size + 1, 0, none⟩) 1 1, .slice none 0 0, .slice none 0 0] 53) ∧
    (kW w).heap[w.heap.size + 1 + 1 + 1]? = some (.cells #[.string ⟨#[97]⟩, .int .i64 1] 58) ∧
    Bk (kW w) (w.heap.size + 1 + 1 + 1 + 1) 25 #[.slice (some ⟨w.heap.size + 1 + 1, 0, none⟩) 3 3, .slice (some ⟨w.heap.size + 1 + 1 + 1, 0, none⟩) 1 1] ∧ (kW w).heap.size = w.heap.size + 5 ∧ Below w.heap.size w (kW w) := by
  unfold kW
  refine ⟨at_old (at_old (at_old (at_old (at_new _ _ _ rfl)))), at_old (at_old (at_old (at_new _ _ _ (by simp)))), at_old (at_old (at_new _ _ _ (by simp))), at_old (at_new _ _ _ (by simp)), at_new _ _ _ (by simp), by simp, ((((Below.refl _ w |>.alloc (Nat.le_refl _) _).alloc (by simp) _).alloc (by simp; omega) _).alloc (by simp; omega) _).alloc (by simp; omega) _⟩
theorem kG_at (w : World) : (kG w.heap.size).At (kW w) (kW w).heap.size := by
  obtain ⟨b1, b2, b3, b4, b5, hz, _⟩ := kW_blocks w
  refine ⟨fun i hi => ?_, fun i hi => ?_, by show 3 ≤ 3; omega, by show 1 ≤ 1; omega⟩
  · have hi3 : i < 3 := hi
    rcases (show i = 0 ∨ i = 1 ∨ i = 2 by omega) with rfl | rfl | rfl
    · refine ⟨⟨w.heap.size + 1 + 1, 0, none⟩, rfl, by rw [hz]; show w.heap.size + 1 + 1 < _; omega, ?_, ?_, ⟨fun j hj => ?_, Rd.nil, by show 1 ≤ 1; omega, by show 0 ≤ 0; omega⟩⟩
      · rw [addr_at, cell_of_row _ _ _ _ _ _ b3]; rfl
      · rw [addr_at]; show (kW w).cell? ⟨_, 1, none⟩ = _; rw [cell_of_row _ _ _ _ _ _ b3]; rfl
      · have : j = 0 := by have h : j < 1 := hj; omega
        subst this
        exact ⟨⟨w.heap.size, 0, none⟩, rfl, by rw [hz]; show w.heap.size < _; omega, by rw [addr_at, cell_of_row _ _ _ _ _ _ b1]; rfl⟩
    · refine ⟨⟨w.heap.size + 1 + 1, 0, none⟩, rfl, by rw [hz]; show w.heap.size + 1 + 1 < _; omega, ?_, ?_, ⟨Rd.nil, fun j hj => ?_, by show 0 ≤ 0; omega, by show 1 ≤ 1; omega⟩⟩
      · rw [addr_at, cell_of_row _ _ _ _ _ _ b3]; rfl
      · rw [addr_at]; show (kW w).cell? ⟨_, 3, none⟩ = _; rw [cell_of_row _ _ _ _ _ _ b3]; rfl
      · have : j = 0 := by have h : j < 1 := hj; omega
        subst this
        exact ⟨⟨w.heap.size + 1, 0, none⟩, rfl, by rw [hz]; show w.heap.size + 1 < _; omega, by rw [addr_at, cell_of_row _ _ _ _ _ _ b2]; rfl⟩
    · refine ⟨⟨w.heap.size + 1 + 1, 0, none⟩, rfl, by rw [hz]; show w.heap.size + 1 + 1 < _; omega, ?_, ?_, ⟨Rd.nil, Rd.nil, by show 0 ≤ 0; omega, by show 0 ≤ 0; omega⟩⟩
      · rw [addr_at, cell_of_row _ _ _ _ _ _ b3]; rfl
      · rw [addr_at]; show (kW w).cell? ⟨_, 5, none⟩ = _; rw [cell_of_row _ _ _ _ _ _ b3]; rfl
  · have hi1 : i = 0 := by have h : i < 1 := hi; omega
    subst hi1
    refine ⟨⟨w.heap.size + 1 + 1 + 1, 0, none⟩, rfl, by rw [hz]; show w.heap.size + 1 + 1 + 1 < _; omega, ?_, ?_⟩
    · rw [addr_at, cell_of_row _ _ _ _ _ _ b4]; rfl
    · rw [addr_at]; show (kW w).cell? ⟨_, 1, none⟩ = _; rw [cell_of_row _ _ _ _ _ _ b4]; rfl
theorem kG_small (s : Nat) : (kG s).Small := by
  refine ⟨by show 3 ≤ _; omega, by show 1 ≤ _; omega, fun x hx => ?_⟩
  have hx : x ∈ kN s := hx
  unfold kN at hx
  simp only [List.mem_cons, List.not_mem_nil, or_false] at hx
  rcases hx with rfl | rfl | rfl <;> simp
theorem kG_ck (s : Nat) : ckG (kG s) = 0 := by
  have h1 : ckNodes 3 (kN s) = 0 := by simp [kN, ckNodes, ckNode, okP, hasG]
  have h2 : ckRoots 3 emptyS kR = 0 := by decide +kernel
  unfold ckG
  have e1 : ckNodes (kG s).n.length (kG s).n = 0 := h1
  have e2 : ckRoots (kG s).n.length emptyS (kG s).r = 0 := h2
  have e3 : ¬ 64 < (kG s).r.length := by show ¬ 64 < 1; omega
  rw [if_pos e1, if_neg e3, e2]
theorem kG_words (s : Nat) : wordsL (kN s) = 5 := by simp [kN, wordsL, szN, sizeH, rightH]
theorem kP (s : Nat) : ptrsG (kN s) 1 = [2] ∧ ptrsG (kN s) 2 = [] := ⟨rfl, rfl⟩
theorem kRch (s : Nat) (fr : List Int) (hf : fr = [1]) (p : Int) : Rch (kN s) fr p ↔ (p = 1 ∨ p = 2) := by
  subst hf
  constructor
  · intro h
    induction h with
    | base p h1 h2 => left; simpa using h1
    | step p q h1 h2 h3 ih =>
      rcases ih with rfl | rfl
      · rw [(kP s).1] at h2; right; simpa using h2
      · rw [(kP s).2] at h2; cases h2
  · rintro (rfl | rfl)
    · exact .base 1 (by simp) rfl
    · exact .step 1 2 (.base 1 (by simp) rfl) (by rw [(kP s).1]; simp) rfl
theorem kRch2 (s : Nat) (p : Int) : Rch (kN s) [2] p ↔ p = 2 := by
  constructor
  · intro h
    induction h with
    | base p h1 h2 => simpa using h1
    | step p q h1 h2 h3 ih => subst ih; rw [(kP s).2] at h2; cases h2
  · rintro rfl
    exact .base 2 (by simp) rfl
theorem seen3 {L : List Bool} (hl : L.length = 3) {P : Int → Prop} {a b c : Bool} (h : ∀ p, hasG 3 p = true → (seenG L p = true ↔ P p)) (h1 : a = true ↔ P 1) (h2 : b = true ↔ P 2) (h3 : c = true ↔ P 3) : L = [a, b, c] := by
  match L, hl with
  | [x, y, z], _ =>
    have e1 := (h 1 (by decide)).trans h1.symm
    have e2 := (h 2 (by decide)).trans h2.symm
    have e3 := (h 3 (by decide)).trans h3.symm
    have f1 : seenG [x, y, z] 1 = x := rfl
    have f2 : seenG [x, y, z] 2 = y := rfl
    have f3 : seenG [x, y, z] 3 = z := rfl
    rw [f1] at e1
    rw [f2] at e2
    rw [f3] at e3
    rw [Bool.eq_iff_iff.2 e1, Bool.eq_iff_iff.2 e2, Bool.eq_iff_iff.2 e3]
end Go.Proofs.Ytidaimcndbhefaa
/- What loamlaw17.known answers. No conditions. -/
namespace Go.Proofs.Ytidaimcndbhefaa
set_option linter.unusedVariables false
set_option linter.unusedSimpArgs false
open Go.RowKit Go.Maps
set_option maxHeartbeats 4000000
set_option maxRecDepth 100000
theorem k17_trim (w : World) : Calls Try.prog 15 #[.agg #[.slice (some ⟨w.heap.size + 1 + 1, 0, none⟩) 3 3, .slice (some ⟨w.heap.size + 1 + 1 + 1, 0, none⟩) 1 1], .slice none 0 0] (kW w) fun e w' => ∃ (g' : Gv) (q : Nat), e = .returned (.tuple #[.agg #[.slice g'.A 2 g'.c, .slice g'.A2 g'.r.length g'.c2], .slice (some ⟨q, 0, none⟩) 3 3]) ∧ g'.n.length = 2 ∧ g'.At w' w'.heap.size ∧ g'.Small ∧ Ow iV 3 w' (kW w).heap.size (.slice (some ⟨q, 0, none⟩) 3 3) [1, 2, 0] ∧ Below (kW w).heap.size (kW w) w' := by
  have h := trim_g (kW w) (kG w.heap.size) (kG_at w) (kG_small _) (by show 1 ≤ _; omega) (fun x hx p hp => by
    have hx : x ∈ kN w.heap.size := hx
    unfold kN at hx
    simp only [List.mem_cons, List.not_mem_nil, or_false] at hx
    rcases hx with rfl | rfl | rfl
    · simp only [List.mem_cons, List.not_mem_nil, or_false] at hp; subst hp; rfl
    · cases hp
    · cases hp) (fun r hr => by
    have hr : r ∈ kR := hr
    unfold kR at hr
    simp only [List.mem_cons, List.not_mem_nil, or_false] at hr
    subst hr; rfl) none 0 [] Rd.nil (by simp)
  refine h.mono ?_
  rintro e w' ⟨L, g', q, rfl, h1, h2, h3, h4, h5, h6, h7, h8⟩
  have hL : L = [true, true, false] := seen3 h6 h7 (by show _ ↔ Rch (kN w.heap.size) [1] _; rw [kRch _ _ rfl]; simp) (by show _ ↔ Rch (kN w.heap.size) [1] _; rw [kRch _ _ rfl]; simp) (by show _ ↔ Rch (kN w.heap.size) [1] _; rw [kRch _ _ rfl]; simp)
  subst hL
  have hm : g'.n.map Nv.m = [([2], []), ([], [120#8])] := h4
  have hl : g'.n.length = 2 := by
    have := congrArg List.length hm
    rw [List.length_map] at this
    exact this
  have hr1 : g'.r.length = 1 := by rw [h5]; rfl
  have r1 := NOwn.rows h1
  have r2 := ROwn.rows h2
  refine ⟨g', q, ?_, hl, ⟨r1.1, r2.1, r1.2.2, r2.2.2⟩, ⟨by omega, by omega, fun x hx => ?_⟩, h3, h8⟩
  · show Ending.returned (.tuple #[.agg #[.slice g'.A g'.n.length g'.c, .slice g'.A2 g'.r.length g'.c2], _]) = _
    rw [hl]; rfl
  · have : x.m ∈ g'.n.map Nv.m := List.mem_map.2 ⟨x, hx, rfl⟩
    rw [hm] at this
    simp only [List.mem_cons, List.not_mem_nil, or_false] at this
    rcases this with e | e
    · unfold Nv.m at e; injection e with e1 e2; rw [e1, e2]; simp
    · unfold Nv.m at e; injection e with e1 e2; rw [e1, e2]; simp
/-- What known holds, behind Trim and Reach. -/
structure KS (w W : World) (b2 q qr : Nat) (t : Gv) (M : Nat) : Prop where
  ga : (kG w.heap.size).At W W.heap.size
  ta : t.At W W.heap.size
  bx : Bk W (w.heap.size + 1 + 1 + 1 + 1) 25 #[.slice (some ⟨w.heap.size + 1 + 1, 0, none⟩) 3 3, .slice (some ⟨w.heap.size + 1 + 1 + 1, 0, none⟩) 1 1]
  by_ : Bk W b2 25 #[.slice t.A 2 t.c, .slice t.A2 M t.c2]
  to : Ow iV 3 W 0 (.slice (some ⟨q, 0, none⟩) 3 3) [1, 2, 0]
  re : Ow tV 4 W 0 (.slice (some ⟨qr, 0, none⟩) 3 3) [false, true, false]
  bl : Below w.heap.size w W
theorem KS.below {w W W' : World} {b2 q qr : Nat} {t : Gv} {M : Nat} (h : KS w W b2 q qr t M) (hb : Below W.heap.size W W') : KS w W' b2 q qr t M :=
  ⟨h.ga.up hb, h.ta.up hb, h.bx.below hb h.bx.lt, h.by_.below hb h.by_.lt, h.to.below hb, h.re.below hb, h.bl.trans (hb.mono h.bl.size)⟩
theorem KS.cells {w W : World} {b2 q qr : Nat} {t : Gv} {M : Nat} (h : KS w W b2 q qr t M) : W.cell? ⟨w.heap.size + 1 + 1 + 1 + 1, 0, none⟩ = some (.slice (some ⟨w.heap.size + 1 + 1, 0, none⟩) 3 3) ∧ W.cell? ⟨w.heap.size + 1 + 1 + 1 + 1, 1, none⟩ = some (.slice (some ⟨w.heap.size + 1 + 1 + 1, 0, none⟩) 1 1) ∧
    W.cell? ⟨b2, 0, none⟩ = some (.slice t.A 2 t.c) ∧ W.cell? ⟨b2, 1, none⟩ = some (.slice t.A2 M t.c2) ∧ W.cell? ⟨q, 1, none⟩ = some (.int .i64 2) ∧ W.cell? ⟨q, 2, none⟩ = some (.int .i64 0) ∧ W.cell? ⟨qr, 0, none⟩ = some (.bool false) ∧ W.cell? ⟨qr, 1, none⟩ = some (.bool true) :=
  ⟨h.bx.two.1, h.bx.two.2, h.by_.two.1, h.by_.two.2, h.to.cell (j := 1) (by decide), h.to.cell (j := 2) (by decide), h.re.cell (j := 0) (by decide), h.re.cell (j := 1) (by decide)⟩
theorem k17_reach (w W : World) (h : (kG w.heap.size).At W W.heap.size) (b : Nat) (hb : Bk W b 3 #[.int .i64 2]) : Calls Try.prog 13 #[.agg #[.slice (some ⟨w.heap.size + 1 + 1, 0, none⟩) 3 3, .slice (some ⟨w.heap.size + 1 + 1 + 1, 0, none⟩) 1 1], .slice (some ⟨b, 0, none⟩) 1 1] W fun e w' => ∃ q, e = .returned (.slice (some ⟨q, 0, none⟩) 3 3) ∧ Ow tV 4 w' 0 (.slice (some ⟨q, 0, none⟩) 3 3) [false, true, false] ∧ Below W.heap.size W w' := by
  refine (reach_c W (kG w.heap.size) h (kG_small _) (some ⟨b, 0, none⟩) 1 [2] (hb.rd (f := iV) rfl hb.lt) (by simp)).mono ?_
  rintro e w' ⟨q, L, rfl, h1, h2, h3, h4⟩
  have hL : L = [false, true, false] := seen3 h2 h3 (by show _ ↔ Rch (kN w.heap.size) [2] _; rw [kRch2]; simp) (by show _ ↔ Rch (kN w.heap.size) [2] _; rw [kRch2]; simp) (by show _ ↔ Rch (kN w.heap.size) [2] _; rw [kRch2]; simp)
  subst hL
  exact ⟨q, rfl, h1.mono (Nat.zero_le _), h4⟩
theorem k17_twin (w W : World) (h : (kG w.heap.size).At W W.heap.size) : Calls Try.prog 23 #[.agg #[.slice (some ⟨w.heap.size + 1 + 1, 0, none⟩) 3 3, .slice (some ⟨w.heap.size + 1 + 1 + 1, 0, none⟩) 1 1]] W fun e w' => ∃ g' : Gv, e = .returned g'.v ∧ g'.At w' w'.heap.size ∧ g'.Small ∧ sameG g' (kG w.heap.size) = true ∧ Below W.heap.size W w' := by
  refine (twin_g W (kG w.heap.size) h (kG_small _)).mono ?_
  rintro e w' ⟨g', rfl, h1, h2, h3, h4, h5⟩
  have r1 := NOwn.rows h1
  have r2 := ROwn.rows h2
  have hl : g'.n.length = 3 := by
    have := congrArg List.length h3
    rw [List.length_map, List.length_map] at this
    exact this
  have hr1 : g'.r.length = 1 := by rw [h4]; rfl
  refine ⟨g', rfl, ⟨r1.1, r2.1, r1.2.2, r2.2.2⟩, ⟨by omega, by omega, fun x hx => ?_⟩, ?_, h5⟩
  · have : x.m ∈ g'.n.map Nv.m := List.mem_map.2 ⟨x, hx, rfl⟩
    rw [h3] at this
    obtain ⟨y, hy, e⟩ := List.mem_map.1 this
    have := (kG_small w.heap.size).2.2 y hy
    unfold Nv.m at e
    injection e with e1 e2
    rw [← e1, ← e2]
    exact this
  · unfold sameG
    rw [sameR_iff.2 h4, sameNs_iff.2 h3]; rfl
theorem of_retK {P : Program} {f : FuncId} {args : Array Value} {v : Value} {w : World} (h : Calls P f args w (RetP v w)) : Calls P f args w fun e w2 => ∃ u, e = .returned u ∧ Below w.heap.size w w2 ∧ IsV v u w2 :=
  h.mono fun _ _ h => ⟨_, h.1, h.2, rfl⟩
def kA (w : World) : Value := .agg #[.slice (some ⟨w.heap.size + 1 + 1, 0, none⟩) 3 3, .slice (some ⟨w.heap.size + 1 + 1 + 1, 0, none⟩) 1 1]
def LenV (n : Nat) (v : Value) (_ : World) : Prop := ∃ A c, v = .slice A n c
theorem LenV.mono {n : Nat} {v : Value} {a b : World} (h : LenV n v a) (_ : Below a.heap.size a b) : LenV n v b := h
def TwV (w : World) (v : Value) (W : World) : Prop := ∃ g : Gv, v = .agg #[g.vn, g.vr] ∧ g.At W W.heap.size ∧ g.Small ∧ sameG g (kG w.heap.size) = true
theorem TwV.mono {w : World} {v : Value} {a b : World} (h : TwV w v a) (hb : Below a.heap.size a b) : TwV w v b := by
  obtain ⟨g, e, h1, h2⟩ := h
  exact ⟨g, e, h1.up hb, h2⟩
theorem k17_ck (w W : World) (h : (kG w.heap.size).At W W.heap.size) : Calls Try.prog 11 #[kA w] W (RetP (.int .i64 0) W) := by
  have k := check_c W (kG w.heap.size) h (kG_small _)
  rw [kG_ck] at k
  exact k
theorem k17_wo (w W : World) (h : (kG w.heap.size).At W W.heap.size) : Calls Try.prog 19 #[kA w] W (RetP (.int .i64 5) W) := by
  have k := words_c W (kG w.heap.size) h (kG_small _)
  rw [show wordsL (kG w.heap.size).n = 5 from kG_words _] at k
  exact k
theorem k17_na (w W : World) (h : (kG w.heap.size).At W W.heap.size) : Calls Try.prog 21 #[kA w] W fun e w2 => ∃ u, e = .returned u ∧ Below W.heap.size W w2 ∧ LenV 1 u w2 := by
  refine (named_g W (kG w.heap.size) h (kG_small _)).mono ?_
  rintro e w' ⟨v, rfl, ho, hb⟩
  obtain ⟨A, c, rfl, _⟩ := ho.form
  exact ⟨_, rfl, hb, A, c, rfl⟩
theorem k17_tw (w W : World) (h : (kG w.heap.size).At W W.heap.size) : Calls Try.prog 23 #[kA w] W fun e w2 => ∃ u, e = .returned u ∧ Below W.heap.size W w2 ∧ TwV w u w2 := by
  refine (k17_twin w W h).mono ?_
  rintro e w' ⟨g, rfl, h1, h2, h3, hb⟩
  exact ⟨_, rfl, hb, g, rfl, h1, h2, h3⟩
theorem k17_e1 (w W : World) (h : (kG w.heap.size).At W W.heap.size) {v : Value} (hv : TwV w v W) : Calls Try.prog 24 #[v, kA w] W (RetP (.bool true) W) := by
  obtain ⟨g, rfl, h1, h2, h3⟩ := hv
  have k := equalG_c W g (kG w.heap.size) h1 h h2
  rw [h3] at k
  exact k
theorem k17_e2 (w W : World) {b2 q qr : Nat} {t : Gv} {M : Nat} (h : KS w W b2 q qr t M) (hs : t.Small) (hl : t.n.length = 2) (hM : M = t.r.length) : Calls Try.prog 24 #[.agg #[.slice t.A 2 t.c, .slice t.A2 M t.c2], kA w] W (RetP (.bool false) W) := by
  have k := equalG_c W t (kG w.heap.size) h.ta h.ga hs
  have e : sameG t (kG w.heap.size) = false := by
    unfold sameG
    have : sameNs t.n (kN w.heap.size) = false := by
      rw [sameNs_no]
      intro e
      have := congrArg List.length e
      rw [List.length_map, List.length_map, hl] at this
      cases this
    show (_ && sameNs t.n (kN w.heap.size)) = false
    rw [this, Bool.and_false]
  rw [e] at k
  unfold Gv.v Gv.vn Gv.vr at k
  rw [hl, ← hM] at k
  exact k
theorem k17_r (Q : Exit → Act → World → Prop) (a0 : Act) (w : World) (w0 : World) (b2 q qr M : Nat) (t : Gv) (hs : Hid (KS w0 w b2 q qr t M)) (ht : Hid (t.Small ∧ t.n.length = 2 ∧ M = t.r.length)) (hsz : a0.tmps.size = 88) (sl1 : a0.tmps.getD 1 undef = .pointer (some ⟨w0.heap.size + 1 + 1 + 1 + 1, 0, none⟩)) (sl2 : a0.tmps.getD 2 undef = .pointer (some ⟨b2, 0, none⟩)) (sl3 : a0.tmps.getD 3 undef = .slice (some ⟨q, 0, none⟩) 3 3) (sl4 : a0.tmps.getD 4 undef = .slice (some ⟨qr, 0, none⟩) 3 3)
    (fin : ∀ (vals : Nat → Value) (w1 : World), Below w.heap.size w w1 → (IsV (.bool true)) (vals 65) w1 → Q .normal (putD vals [23, 24, 25, 26, 27, 28, 29, 30, 31, 32, 33, 34, 35, 36, 37, 38, 39, 40, 41, 42, 43, 44, 45, 46, 47, 48, 49, 50, 51, 52, 53, 54, 55, 56, 57, 58, 59, 60, 61, 62, 63, 64, 65, 66, 67, 68, 69, 70, 71, 72, 73, 74, 75, 76, 77, 78, 79, 80, 81, 82, 83, 84, 85, 86, 87, 0] 0 a0) w1) :
    (Code.region 4 (regIn Try.f8 4) true).wp Try.prog Q a0 w := by
  refine region_by (G := fun w w1 => Below w.heap.size w w1) [IsV (kA w0),
    IsV (.int .i64 0),
    IsV (.bool true),
    IsV (.bool true),
    IsV (kA w0),
    IsV (.int .i64 5),
    IsV (.bool true),
    IsV (.bool true),
    IsV (.bool true),
    IsV (.pointer (some ⟨b2, 0, none⟩)),
    IsV (.slice t.A 2 t.c),
    IsV (.int .i64 2),
    IsV (.bool true),
    IsV (.bool true),
    IsV (.bool true),
    IsV (.slice (some ⟨q, 0, none⟩) 3 3),
    IsV (.int .i64 3),
    IsV (.bool true),
    IsV (.bool true),
    IsV (.bool true),
    IsV (.slice (some ⟨q, 0, none⟩) 3 3),
    IsV (.pointer (some ⟨q, 2, none⟩)),
    IsV (.int .i64 0),
    IsV (.bool true),
    IsV (.bool true),
    IsV (.bool true),
    IsV (.slice (some ⟨q, 0, none⟩) 3 3),
    IsV (.pointer (some ⟨q, 1, none⟩)),
    IsV (.int .i64 2),
    IsV (.bool true),
    IsV (.bool true),
    IsV (.bool true),
    IsV (.slice (some ⟨qr, 0, none⟩) 3 3),
    IsV (.int .i64 3),
    IsV (.bool true),
    IsV (.bool true),
    IsV (.bool true),
    IsV (.slice (some ⟨qr, 0, none⟩) 3 3),
    IsV (.pointer (some ⟨qr, 1, none⟩)),
    IsV (.bool true),
    IsV (.bool true),
    IsV (.bool true),
    IsV (.slice (some ⟨qr, 0, none⟩) 3 3),
    IsV (.pointer (some ⟨qr, 0, none⟩)),
    IsV (.bool false),
    IsV (.bool true),
    IsV (.bool true),
    IsV (.bool true),
    IsV (kA w0),
    LenV 1,
    IsV (.int .i64 1),
    IsV (.bool true),
    IsV (.bool true),
    IsV (.bool true),
    IsV (kA w0),
    TwV w0,
    IsV (kA w0),
    IsV (.bool true),
    IsV (.bool true),
    IsV (.bool true),
    IsV (.agg #[.slice t.A 2 t.c, .slice t.A2 M t.c2]),
    IsV (kA w0),
    IsV (.bool false),
    IsV (.bool true),
    IsV (.bool true),
    IsV (.bool true)]
    [23, 24, 25, 26, 27, 28, 29, 30, 31, 32, 33, 34, 35, 36, 37, 38, 39, 40, 41, 42, 43, 44, 45, 46, 47, 48, 49, 50, 51, 52, 53, 54, 55, 56, 57, 58, 59, 60, 61, 62, 63, 64, 65, 66, 67, 68, 69, 70, 71, 72, 73, 74, 75, 76, 77, 78, 79, 80, 81, 82, 83, 84, 85, 86, 87, 0] (by kernel_rfl) (Gw.drew _) Gw.trans (by rw [hsz]; kernel_rfl) (by kernel_rfl) ?_ ?_ ?_
  · intro f hf
    simp only [List.mem_cons, List.not_mem_nil, or_false] at hf
    rcases hf with rfl | rfl | rfl | rfl | rfl | rfl | rfl | rfl | rfl | rfl | rfl | rfl | rfl | rfl | rfl | rfl | rfl | rfl | rfl | rfl | rfl | rfl | rfl | rfl | rfl | rfl | rfl | rfl | rfl | rfl | rfl | rfl | rfl | rfl | rfl | rfl | rfl | rfl | rfl | rfl | rfl | rfl | rfl | rfl | rfl | rfl | rfl | rfl | rfl | rfl | rfl | rfl | rfl | rfl | rfl | rfl | rfl | rfl | rfl | rfl | rfl | rfl | rfl | rfl | rfl | rfl <;> intro v a b h g <;> first | exact IsV.mono h | exact LenV.mono h g | exact TwV.mono h g
  · refine ⟨?_, ?_, ?_, ?_, ?_, ?_, ?_, ?_, ?_, ?_, ?_, ?_, ?_, ?_, ?_, ?_, ?_, ?_, ?_, ?_, ?_, ?_, ?_, ?_, ?_, ?_, ?_, ?_, ?_, ?_, ?_, ?_, ?_, ?_, ?_, ?_, ?_, ?_, ?_, ?_, ?_, ?_, ?_, ?_, ?_, ?_, ?_, ?_, ?_, ?_, ?_, ?_, ?_, ?_, ?_, ?_, ?_, ?_, ?_, ?_, ?_, ?_, ?_, ?_, ?_, ?_, trivial⟩
    · refine owes_v (Go.Op.load 25 (Go.Operand.tmp 1)) 25 [] (by kernel_rfl) (by kernel_rfl) (by kernel_rfl) rfl fun vals w1 ρ hG hF hρ hcst hfun => ?_
      have e1 : ρ (.tmp 1) = .pointer (some ⟨w0.heap.size + 1 + 1 + 1 + 1, 0, none⟩) := ((hρ 1).trans (slotO [] (by kernel_rfl))).trans sl1
      obtain ⟨d0, d1, d2, d3, d4, d5, d6, d7⟩ := (hs.out.below hG).cells
      unfold kA
      clear hρ hF hcst hfun sl1 sl2 sl3 sl4 fin
      exact opv_val (by go_simp <;> rfl) ⟨gw_self _, rfl⟩
    · refine owes_v (Go.Op.call { callee := Go.Callee.value (Go.Operand.func 11), args := #[Go.Operand.tmp 23], argTypes := #[25] }) 34 [0] (by kernel_rfl) (by kernel_rfl) (by kernel_rfl) rfl fun vals w1 ρ hG hF hρ hcst hfun => ?_
      have e23 : ρ (.tmp 23) = kA w0 := ((hρ 23).trans (slotJ [0] (by rw [hsz]; decide) (by kernel_rfl))).trans (hF 0 (by decide))
      clear hρ hF hcst sl1 sl2 sl3 sl4 fin
      exact opv_enter (by go_simp <;> rfl) (of_retK (k17_ck w0 w1 (hs.out.below hG).ga))
    · refine owes_v (Go.Op.binOp Go.BinOp.eql 3 (Go.Operand.tmp 24) (Go.Operand.const (Go.Value.int Go.IntKind.i64 0)) 3) 4 [1] (by kernel_rfl) (by kernel_rfl) (by kernel_rfl) rfl fun vals w1 ρ hG hF hρ hcst hfun => ?_
      have e24 : ρ (.tmp 24) = .int .i64 0 := ((hρ 24).trans (slotJ [1] (by rw [hsz]; decide) (by kernel_rfl))).trans (hF 1 (by decide))
      clear hρ hF hfun sl1 sl2 sl3 sl4 fin
      exact opv_val (by go_simp <;> rfl) ⟨gw_self _, rfl⟩
    · exact owes_mvj 2 25 (by kernel_rfl) (by kernel_rfl) (by kernel_rfl) (by kernel_rfl) (by rw [hsz]; decide) (fun v w h => h)
    · refine owes_vt 3 true (Go.Op.load 25 (Go.Operand.tmp 1)) 25 [] (by kernel_rfl) (by kernel_rfl) (by kernel_rfl) (fun _ _ h => h) (by rw [hsz]; kernel_rfl) (by kernel_rfl) rfl fun vals w1 ρ hG hF hρ hcst hfun => ?_
      have e1 : ρ (.tmp 1) = .pointer (some ⟨w0.heap.size + 1 + 1 + 1 + 1, 0, none⟩) := ((hρ 1).trans (slotO [] (by kernel_rfl))).trans sl1
      obtain ⟨d0, d1, d2, d3, d4, d5, d6, d7⟩ := (hs.out.below hG).cells
      unfold kA
      clear hρ hF hcst hfun sl1 sl2 sl3 sl4 fin
      exact opv_val (by go_simp <;> rfl) ⟨gw_self _, rfl⟩
    · refine owes_vt 3 true (Go.Op.call { callee := Go.Callee.value (Go.Operand.func 19), args := #[Go.Operand.tmp 27], argTypes := #[25] }) 3 [4] (by kernel_rfl) (by kernel_rfl) (by kernel_rfl) (fun _ _ h => h) (by rw [hsz]; kernel_rfl) (by kernel_rfl) rfl fun vals w1 ρ hG hF hρ hcst hfun => ?_
      have e27 : ρ (.tmp 27) = kA w0 := ((hρ 27).trans (slotJ [4] (by rw [hsz]; decide) (by kernel_rfl))).trans (hF 4 (by decide))
      clear hρ hF hcst sl1 sl2 sl3 sl4 fin
      exact opv_enter (by go_simp <;> rfl) (of_retK (k17_wo w0 w1 (hs.out.below hG).ga))
    · refine owes_vt 3 true (Go.Op.binOp Go.BinOp.eql 3 (Go.Operand.tmp 28) (Go.Operand.const (Go.Value.int Go.IntKind.i64 5)) 3) 4 [5] (by kernel_rfl) (by kernel_rfl) (by kernel_rfl) (fun _ _ h => h) (by rw [hsz]; kernel_rfl) (by kernel_rfl) rfl fun vals w1 ρ hG hF hρ hcst hfun => ?_
      have e28 : ρ (.tmp 28) = .int .i64 5 := ((hρ 28).trans (slotJ [5] (by rw [hsz]; decide) (by kernel_rfl))).trans (hF 5 (by decide))
      clear hρ hF hfun sl1 sl2 sl3 sl4 fin
      exact opv_val (by go_simp <;> rfl) ⟨gw_self _, rfl⟩
    · refine owes_v (Go.Op.pick (Go.Operand.tmp 26) (Go.Operand.tmp 29) (Go.Operand.const (Go.Value.bool false))) 4 [3, 6] (by kernel_rfl) (by kernel_rfl) (by kernel_rfl) rfl fun vals w1 ρ hG hF hρ hcst hfun => ?_
      have e26 : ρ (.tmp 26) = .bool true := ((hρ 26).trans (slotJ [3, 6] (by rw [hsz]; decide) (by kernel_rfl))).trans (hF 3 (by decide))
      have e29 : ρ (.tmp 29) = .bool true := ((hρ 29).trans (slotJ [3, 6] (by rw [hsz]; decide) (by kernel_rfl))).trans (hF 6 (by decide))
      clear hρ hF hfun sl1 sl2 sl3 sl4 fin
      exact opv_val (by go_simp <;> rfl) ⟨gw_self _, rfl⟩
    · exact owes_mvj 7 30 (by kernel_rfl) (by kernel_rfl) (by kernel_rfl) (by kernel_rfl) (by rw [hsz]; decide) (fun v w h => h)
    · refine owes_vt 8 true (Go.Op.fieldAddr 25 (Go.Operand.tmp 2) 0) 0 [] (by kernel_rfl) (by kernel_rfl) (by kernel_rfl) (fun _ _ h => h) (by rw [hsz]; kernel_rfl) (by kernel_rfl) rfl fun vals w1 ρ hG hF hρ hcst hfun => ?_
      have e2 : ρ (.tmp 2) = .pointer (some ⟨b2, 0, none⟩) := ((hρ 2).trans (slotO [] (by kernel_rfl))).trans sl2
      clear hρ hF hcst hfun sl1 sl2 sl3 sl4 fin
      exact opv_val (by go_simp <;> rfl) ⟨gw_self _, rfl⟩
    · refine owes_vt 8 true (Go.Op.load 22 (Go.Operand.tmp 32)) 22 [9] (by kernel_rfl) (by kernel_rfl) (by kernel_rfl) (fun _ _ h => h) (by rw [hsz]; kernel_rfl) (by kernel_rfl) rfl fun vals w1 ρ hG hF hρ hcst hfun => ?_
      have e32 : ρ (.tmp 32) = .pointer (some ⟨b2, 0, none⟩) := ((hρ 32).trans (slotJ [9] (by rw [hsz]; decide) (by kernel_rfl))).trans (hF 9 (by decide))
      obtain ⟨d0, d1, d2, d3, d4, d5, d6, d7⟩ := (hs.out.below hG).cells
      clear hρ hF hcst hfun sl1 sl2 sl3 sl4 fin
      exact opv_val (by go_simp <;> rfl) ⟨gw_self _, rfl⟩
    · refine owes_vt 8 true (Go.Op.call { callee := Go.Callee.builtin Go.Builtin.len, args := #[Go.Operand.tmp 33], argTypes := #[22] }) 3 [10] (by kernel_rfl) (by kernel_rfl) (by kernel_rfl) (fun _ _ h => h) (by rw [hsz]; kernel_rfl) (by kernel_rfl) rfl fun vals w1 ρ hG hF hρ hcst hfun => ?_
      have e33 : ρ (.tmp 33) = .slice t.A 2 t.c := ((hρ 33).trans (slotJ [10] (by rw [hsz]; decide) (by kernel_rfl))).trans (hF 10 (by decide))
      clear hρ hF hcst hfun sl1 sl2 sl3 sl4 fin
      exact opv_val (by go_simp <;> rfl) ⟨gw_self _, rfl⟩
    · refine owes_vt 8 true (Go.Op.binOp Go.BinOp.eql 3 (Go.Operand.tmp 34) (Go.Operand.const (Go.Value.int Go.IntKind.i64 2)) 3) 4 [11] (by kernel_rfl) (by kernel_rfl) (by kernel_rfl) (fun _ _ h => h) (by rw [hsz]; kernel_rfl) (by kernel_rfl) rfl fun vals w1 ρ hG hF hρ hcst hfun => ?_
      have e34 : ρ (.tmp 34) = .int .i64 2 := ((hρ 34).trans (slotJ [11] (by rw [hsz]; decide) (by kernel_rfl))).trans (hF 11 (by decide))
      clear hρ hF hfun sl1 sl2 sl3 sl4 fin
      exact opv_val (by go_simp <;> rfl) ⟨gw_self _, rfl⟩
    · refine owes_v (Go.Op.pick (Go.Operand.tmp 31) (Go.Operand.tmp 35) (Go.Operand.const (Go.Value.bool false))) 4 [8, 12] (by kernel_rfl) (by kernel_rfl) (by kernel_rfl) rfl fun vals w1 ρ hG hF hρ hcst hfun => ?_
      have e31 : ρ (.tmp 31) = .bool true := ((hρ 31).trans (slotJ [8, 12] (by rw [hsz]; decide) (by kernel_rfl))).trans (hF 8 (by decide))
      have e35 : ρ (.tmp 35) = .bool true := ((hρ 35).trans (slotJ [8, 12] (by rw [hsz]; decide) (by kernel_rfl))).trans (hF 12 (by decide))
      clear hρ hF hfun sl1 sl2 sl3 sl4 fin
      exact opv_val (by go_simp <;> rfl) ⟨gw_self _, rfl⟩
    · exact owes_mvj 13 36 (by kernel_rfl) (by kernel_rfl) (by kernel_rfl) (by kernel_rfl) (by rw [hsz]; decide) (fun v w h => h)
    · refine owes_vt 14 true (Go.Op.move (Go.Operand.tmp 3)) 26 [] (by kernel_rfl) (by kernel_rfl) (by kernel_rfl) (fun _ _ h => h) (by rw [hsz]; kernel_rfl) (by kernel_rfl) rfl fun vals w1 ρ hG hF hρ hcst hfun => ?_
      have e3 : ρ (.tmp 3) = .slice (some ⟨q, 0, none⟩) 3 3 := ((hρ 3).trans (slotO [] (by kernel_rfl))).trans sl3
      clear hρ hF hcst hfun sl1 sl2 sl3 sl4 fin
      exact opv_val (by go_simp <;> rfl) ⟨gw_self _, rfl⟩
    · refine owes_vt 14 true (Go.Op.call { callee := Go.Callee.builtin Go.Builtin.len, args := #[Go.Operand.tmp 38], argTypes := #[26] }) 3 [15] (by kernel_rfl) (by kernel_rfl) (by kernel_rfl) (fun _ _ h => h) (by rw [hsz]; kernel_rfl) (by kernel_rfl) rfl fun vals w1 ρ hG hF hρ hcst hfun => ?_
      have e38 : ρ (.tmp 38) = .slice (some ⟨q, 0, none⟩) 3 3 := ((hρ 38).trans (slotJ [15] (by rw [hsz]; decide) (by kernel_rfl))).trans (hF 15 (by decide))
      clear hρ hF hcst hfun sl1 sl2 sl3 sl4 fin
      exact opv_val (by go_simp <;> rfl) ⟨gw_self _, rfl⟩
    · refine owes_vt 14 true (Go.Op.binOp Go.BinOp.eql 3 (Go.Operand.tmp 39) (Go.Operand.const (Go.Value.int Go.IntKind.i64 3)) 3) 4 [16] (by kernel_rfl) (by kernel_rfl) (by kernel_rfl) (fun _ _ h => h) (by rw [hsz]; kernel_rfl) (by kernel_rfl) rfl fun vals w1 ρ hG hF hρ hcst hfun => ?_
      have e39 : ρ (.tmp 39) = .int .i64 3 := ((hρ 39).trans (slotJ [16] (by rw [hsz]; decide) (by kernel_rfl))).trans (hF 16 (by decide))
      clear hρ hF hfun sl1 sl2 sl3 sl4 fin
      exact opv_val (by go_simp <;> rfl) ⟨gw_self _, rfl⟩
    · refine owes_v (Go.Op.pick (Go.Operand.tmp 37) (Go.Operand.tmp 40) (Go.Operand.const (Go.Value.bool false))) 4 [14, 17] (by kernel_rfl) (by kernel_rfl) (by kernel_rfl) rfl fun vals w1 ρ hG hF hρ hcst hfun => ?_
      have e37 : ρ (.tmp 37) = .bool true := ((hρ 37).trans (slotJ [14, 17] (by rw [hsz]; decide) (by kernel_rfl))).trans (hF 14 (by decide))
      have e40 : ρ (.tmp 40) = .bool true := ((hρ 40).trans (slotJ [14, 17] (by rw [hsz]; decide) (by kernel_rfl))).trans (hF 17 (by decide))
      clear hρ hF hfun sl1 sl2 sl3 sl4 fin
      exact opv_val (by go_simp <;> rfl) ⟨gw_self _, rfl⟩
    · exact owes_mvj 18 41 (by kernel_rfl) (by kernel_rfl) (by kernel_rfl) (by kernel_rfl) (by rw [hsz]; decide) (fun v w h => h)
    · refine owes_vt 19 true (Go.Op.move (Go.Operand.tmp 3)) 26 [] (by kernel_rfl) (by kernel_rfl) (by kernel_rfl) (fun _ _ h => h) (by rw [hsz]; kernel_rfl) (by kernel_rfl) rfl fun vals w1 ρ hG hF hρ hcst hfun => ?_
      have e3 : ρ (.tmp 3) = .slice (some ⟨q, 0, none⟩) 3 3 := ((hρ 3).trans (slotO [] (by kernel_rfl))).trans sl3
      clear hρ hF hcst hfun sl1 sl2 sl3 sl4 fin
      exact opv_val (by go_simp <;> rfl) ⟨gw_self _, rfl⟩
    · refine owes_vt 19 true (Go.Op.indexAddr 26 (Go.Operand.tmp 43) (Go.Operand.const (Go.Value.int Go.IntKind.i64 2))) 0 [20] (by kernel_rfl) (by kernel_rfl) (by kernel_rfl) (fun _ _ h => h) (by rw [hsz]; kernel_rfl) (by kernel_rfl) rfl fun vals w1 ρ hG hF hρ hcst hfun => ?_
      have e43 : ρ (.tmp 43) = .slice (some ⟨q, 0, none⟩) 3 3 := ((hρ 43).trans (slotJ [20] (by rw [hsz]; decide) (by kernel_rfl))).trans (hF 20 (by decide))
      clear hρ hF hfun sl1 sl2 sl3 sl4 fin
      exact opv_val (by go_simp <;> rfl) ⟨gw_self _, rfl⟩
    · refine owes_vt 19 true (Go.Op.load 3 (Go.Operand.tmp 44)) 3 [21] (by kernel_rfl) (by kernel_rfl) (by kernel_rfl) (fun _ _ h => h) (by rw [hsz]; kernel_rfl) (by kernel_rfl) rfl fun vals w1 ρ hG hF hρ hcst hfun => ?_
      have e44 : ρ (.tmp 44) = .pointer (some ⟨q, 2, none⟩) := ((hρ 44).trans (slotJ [21] (by rw [hsz]; decide) (by kernel_rfl))).trans (hF 21 (by decide))
      obtain ⟨d0, d1, d2, d3, d4, d5, d6, d7⟩ := (hs.out.below hG).cells
      clear hρ hF hcst hfun sl1 sl2 sl3 sl4 fin
      exact opv_val (by go_simp <;> rfl) ⟨gw_self _, rfl⟩
    · refine owes_vt 19 true (Go.Op.binOp Go.BinOp.eql 3 (Go.Operand.tmp 45) (Go.Operand.const (Go.Value.int Go.IntKind.i64 0)) 3) 4 [22] (by kernel_rfl) (by kernel_rfl) (by kernel_rfl) (fun _ _ h => h) (by rw [hsz]; kernel_rfl) (by kernel_rfl) rfl fun vals w1 ρ hG hF hρ hcst hfun => ?_
      have e45 : ρ (.tmp 45) = .int .i64 0 := ((hρ 45).trans (slotJ [22] (by rw [hsz]; decide) (by kernel_rfl))).trans (hF 22 (by decide))
      clear hρ hF hfun sl1 sl2 sl3 sl4 fin
      exact opv_val (by go_simp <;> rfl) ⟨gw_self _, rfl⟩
    · refine owes_v (Go.Op.pick (Go.Operand.tmp 42) (Go.Operand.tmp 46) (Go.Operand.const (Go.Value.bool false))) 4 [19, 23] (by kernel_rfl) (by kernel_rfl) (by kernel_rfl) rfl fun vals w1 ρ hG hF hρ hcst hfun => ?_
      have e42 : ρ (.tmp 42) = .bool true := ((hρ 42).trans (slotJ [19, 23] (by rw [hsz]; decide) (by kernel_rfl))).trans (hF 19 (by decide))
      have e46 : ρ (.tmp 46) = .bool true := ((hρ 46).trans (slotJ [19, 23] (by rw [hsz]; decide) (by kernel_rfl))).trans (hF 23 (by decide))
      clear hρ hF hfun sl1 sl2 sl3 sl4 fin
      exact opv_val (by go_simp <;> rfl) ⟨gw_self _, rfl⟩
    · exact owes_mvj 24 47 (by kernel_rfl) (by kernel_rfl) (by kernel_rfl) (by kernel_rfl) (by rw [hsz]; decide) (fun v w h => h)
    · refine owes_vt 25 true (Go.Op.move (Go.Operand.tmp 3)) 26 [] (by kernel_rfl) (by kernel_rfl) (by kernel_rfl) (fun _ _ h => h) (by rw [hsz]; kernel_rfl) (by kernel_rfl) rfl fun vals w1 ρ hG hF hρ hcst hfun => ?_
      have e3 : ρ (.tmp 3) = .slice (some ⟨q, 0, none⟩) 3 3 := ((hρ 3).trans (slotO [] (by kernel_rfl))).trans sl3
      clear hρ hF hcst hfun sl1 sl2 sl3 sl4 fin
      exact opv_val (by go_simp <;> rfl) ⟨gw_self _, rfl⟩
    · refine owes_vt 25 true (Go.Op.indexAddr 26 (Go.Operand.tmp 49) (Go.Operand.const (Go.Value.int Go.IntKind.i64 1))) 0 [26] (by kernel_rfl) (by kernel_rfl) (by kernel_rfl) (fun _ _ h => h) (by rw [hsz]; kernel_rfl) (by kernel_rfl) rfl fun vals w1 ρ hG hF hρ hcst hfun => ?_
      have e49 : ρ (.tmp 49) = .slice (some ⟨q, 0, none⟩) 3 3 := ((hρ 49).trans (slotJ [26] (by rw [hsz]; decide) (by kernel_rfl))).trans (hF 26 (by decide))
      clear hρ hF hfun sl1 sl2 sl3 sl4 fin
      exact opv_val (by go_simp <;> rfl) ⟨gw_self _, rfl⟩
    · refine owes_vt 25 true (Go.Op.load 3 (Go.Operand.tmp 50)) 3 [27] (by kernel_rfl) (by kernel_rfl) (by kernel_rfl) (fun _ _ h => h) (by rw [hsz]; kernel_rfl) (by kernel_rfl) rfl fun vals w1 ρ hG hF hρ hcst hfun => ?_
      have e50 : ρ (.tmp 50) = .pointer (some ⟨q, 1, none⟩) := ((hρ 50).trans (slotJ [27] (by rw [hsz]; decide) (by kernel_rfl))).trans (hF 27 (by decide))
      obtain ⟨d0, d1, d2, d3, d4, d5, d6, d7⟩ := (hs.out.below hG).cells
      clear hρ hF hcst hfun sl1 sl2 sl3 sl4 fin
      exact opv_val (by go_simp <;> rfl) ⟨gw_self _, rfl⟩
    · refine owes_vt 25 true (Go.Op.binOp Go.BinOp.eql 3 (Go.Operand.tmp 51) (Go.Operand.const (Go.Value.int Go.IntKind.i64 2)) 3) 4 [28] (by kernel_rfl) (by kernel_rfl) (by kernel_rfl) (fun _ _ h => h) (by rw [hsz]; kernel_rfl) (by kernel_rfl) rfl fun vals w1 ρ hG hF hρ hcst hfun => ?_
      have e51 : ρ (.tmp 51) = .int .i64 2 := ((hρ 51).trans (slotJ [28] (by rw [hsz]; decide) (by kernel_rfl))).trans (hF 28 (by decide))
      clear hρ hF hfun sl1 sl2 sl3 sl4 fin
      exact opv_val (by go_simp <;> rfl) ⟨gw_self _, rfl⟩
    · refine owes_v (Go.Op.pick (Go.Operand.tmp 48) (Go.Operand.tmp 52) (Go.Operand.const (Go.Value.bool false))) 4 [25, 29] (by kernel_rfl) (by kernel_rfl) (by kernel_rfl) rfl fun vals w1 ρ hG hF hρ hcst hfun => ?_
      have e48 : ρ (.tmp 48) = .bool true := ((hρ 48).trans (slotJ [25, 29] (by rw [hsz]; decide) (by kernel_rfl))).trans (hF 25 (by decide))
      have e52 : ρ (.tmp 52) = .bool true := ((hρ 52).trans (slotJ [25, 29] (by rw [hsz]; decide) (by kernel_rfl))).trans (hF 29 (by decide))
      clear hρ hF hfun sl1 sl2 sl3 sl4 fin
      exact opv_val (by go_simp <;> rfl) ⟨gw_self _, rfl⟩
    · exact owes_mvj 30 53 (by kernel_rfl) (by kernel_rfl) (by kernel_rfl) (by kernel_rfl) (by rw [hsz]; decide) (fun v w h => h)
    · refine owes_vt 31 true (Go.Op.move (Go.Operand.tmp 4)) 37 [] (by kernel_rfl) (by kernel_rfl) (by kernel_rfl) (fun _ _ h => h) (by rw [hsz]; kernel_rfl) (by kernel_rfl) rfl fun vals w1 ρ hG hF hρ hcst hfun => ?_
      have e4 : ρ (.tmp 4) = .slice (some ⟨qr, 0, none⟩) 3 3 := ((hρ 4).trans (slotO [] (by kernel_rfl))).trans sl4
      clear hρ hF hcst hfun sl1 sl2 sl3 sl4 fin
      exact opv_val (by go_simp <;> rfl) ⟨gw_self _, rfl⟩
    · refine owes_vt 31 true (Go.Op.call { callee := Go.Callee.builtin Go.Builtin.len, args := #[Go.Operand.tmp 55], argTypes := #[37] }) 3 [32] (by kernel_rfl) (by kernel_rfl) (by kernel_rfl) (fun _ _ h => h) (by rw [hsz]; kernel_rfl) (by kernel_rfl) rfl fun vals w1 ρ hG hF hρ hcst hfun => ?_
      have e55 : ρ (.tmp 55) = .slice (some ⟨qr, 0, none⟩) 3 3 := ((hρ 55).trans (slotJ [32] (by rw [hsz]; decide) (by kernel_rfl))).trans (hF 32 (by decide))
      clear hρ hF hcst hfun sl1 sl2 sl3 sl4 fin
      exact opv_val (by go_simp <;> rfl) ⟨gw_self _, rfl⟩
    · refine owes_vt 31 true (Go.Op.binOp Go.BinOp.eql 3 (Go.Operand.tmp 56) (Go.Operand.const (Go.Value.int Go.IntKind.i64 3)) 3) 4 [33] (by kernel_rfl) (by kernel_rfl) (by kernel_rfl) (fun _ _ h => h) (by rw [hsz]; kernel_rfl) (by kernel_rfl) rfl fun vals w1 ρ hG hF hρ hcst hfun => ?_
      have e56 : ρ (.tmp 56) = .int .i64 3 := ((hρ 56).trans (slotJ [33] (by rw [hsz]; decide) (by kernel_rfl))).trans (hF 33 (by decide))
      clear hρ hF hfun sl1 sl2 sl3 sl4 fin
      exact opv_val (by go_simp <;> rfl) ⟨gw_self _, rfl⟩
    · refine owes_v (Go.Op.pick (Go.Operand.tmp 54) (Go.Operand.tmp 57) (Go.Operand.const (Go.Value.bool false))) 4 [31, 34] (by kernel_rfl) (by kernel_rfl) (by kernel_rfl) rfl fun vals w1 ρ hG hF hρ hcst hfun => ?_
      have e54 : ρ (.tmp 54) = .bool true := ((hρ 54).trans (slotJ [31, 34] (by rw [hsz]; decide) (by kernel_rfl))).trans (hF 31 (by decide))
      have e57 : ρ (.tmp 57) = .bool true := ((hρ 57).trans (slotJ [31, 34] (by rw [hsz]; decide) (by kernel_rfl))).trans (hF 34 (by decide))
      clear hρ hF hfun sl1 sl2 sl3 sl4 fin
      exact opv_val (by go_simp <;> rfl) ⟨gw_self _, rfl⟩
    · exact owes_mvj 35 58 (by kernel_rfl) (by kernel_rfl) (by kernel_rfl) (by kernel_rfl) (by rw [hsz]; decide) (fun v w h => h)
    · refine owes_vt 36 true (Go.Op.move (Go.Operand.tmp 4)) 37 [] (by kernel_rfl) (by kernel_rfl) (by kernel_rfl) (fun _ _ h => h) (by rw [hsz]; kernel_rfl) (by kernel_rfl) rfl fun vals w1 ρ hG hF hρ hcst hfun => ?_
      have e4 : ρ (.tmp 4) = .slice (some ⟨qr, 0, none⟩) 3 3 := ((hρ 4).trans (slotO [] (by kernel_rfl))).trans sl4
      clear hρ hF hcst hfun sl1 sl2 sl3 sl4 fin
      exact opv_val (by go_simp <;> rfl) ⟨gw_self _, rfl⟩
    · refine owes_vt 36 true (Go.Op.indexAddr 37 (Go.Operand.tmp 60) (Go.Operand.const (Go.Value.int Go.IntKind.i64 1))) 0 [37] (by kernel_rfl) (by kernel_rfl) (by kernel_rfl) (fun _ _ h => h) (by rw [hsz]; kernel_rfl) (by kernel_rfl) rfl fun vals w1 ρ hG hF hρ hcst hfun => ?_
      have e60 : ρ (.tmp 60) = .slice (some ⟨qr, 0, none⟩) 3 3 := ((hρ 60).trans (slotJ [37] (by rw [hsz]; decide) (by kernel_rfl))).trans (hF 37 (by decide))
      clear hρ hF hfun sl1 sl2 sl3 sl4 fin
      exact opv_val (by go_simp <;> rfl) ⟨gw_self _, rfl⟩
    · refine owes_vt 36 true (Go.Op.load 4 (Go.Operand.tmp 61)) 4 [38] (by kernel_rfl) (by kernel_rfl) (by kernel_rfl) (fun _ _ h => h) (by rw [hsz]; kernel_rfl) (by kernel_rfl) rfl fun vals w1 ρ hG hF hρ hcst hfun => ?_
      have e61 : ρ (.tmp 61) = .pointer (some ⟨qr, 1, none⟩) := ((hρ 61).trans (slotJ [38] (by rw [hsz]; decide) (by kernel_rfl))).trans (hF 38 (by decide))
      obtain ⟨d0, d1, d2, d3, d4, d5, d6, d7⟩ := (hs.out.below hG).cells
      clear hρ hF hcst hfun sl1 sl2 sl3 sl4 fin
      exact opv_val (by go_simp <;> rfl) ⟨gw_self _, rfl⟩
    · refine owes_v (Go.Op.pick (Go.Operand.tmp 59) (Go.Operand.tmp 62) (Go.Operand.const (Go.Value.bool false))) 4 [36, 39] (by kernel_rfl) (by kernel_rfl) (by kernel_rfl) rfl fun vals w1 ρ hG hF hρ hcst hfun => ?_
      have e59 : ρ (.tmp 59) = .bool true := ((hρ 59).trans (slotJ [36, 39] (by rw [hsz]; decide) (by kernel_rfl))).trans (hF 36 (by decide))
      have e62 : ρ (.tmp 62) = .bool true := ((hρ 62).trans (slotJ [36, 39] (by rw [hsz]; decide) (by kernel_rfl))).trans (hF 39 (by decide))
      clear hρ hF hfun sl1 sl2 sl3 sl4 fin
      exact opv_val (by go_simp <;> rfl) ⟨gw_self _, rfl⟩
    · exact owes_mvj 40 63 (by kernel_rfl) (by kernel_rfl) (by kernel_rfl) (by kernel_rfl) (by rw [hsz]; decide) (fun v w h => h)
    · refine owes_vt 41 true (Go.Op.move (Go.Operand.tmp 4)) 37 [] (by kernel_rfl) (by kernel_rfl) (by kernel_rfl) (fun _ _ h => h) (by rw [hsz]; kernel_rfl) (by kernel_rfl) rfl fun vals w1 ρ hG hF hρ hcst hfun => ?_
      have e4 : ρ (.tmp 4) = .slice (some ⟨qr, 0, none⟩) 3 3 := ((hρ 4).trans (slotO [] (by kernel_rfl))).trans sl4
      clear hρ hF hcst hfun sl1 sl2 sl3 sl4 fin
      exact opv_val (by go_simp <;> rfl) ⟨gw_self _, rfl⟩
    · refine owes_vt 41 true (Go.Op.indexAddr 37 (Go.Operand.tmp 65) (Go.Operand.const (Go.Value.int Go.IntKind.i64 0))) 0 [42] (by kernel_rfl) (by kernel_rfl) (by kernel_rfl) (fun _ _ h => h) (by rw [hsz]; kernel_rfl) (by kernel_rfl) rfl fun vals w1 ρ hG hF hρ hcst hfun => ?_
      have e65 : ρ (.tmp 65) = .slice (some ⟨qr, 0, none⟩) 3 3 := ((hρ 65).trans (slotJ [42] (by rw [hsz]; decide) (by kernel_rfl))).trans (hF 42 (by decide))
      clear hρ hF hfun sl1 sl2 sl3 sl4 fin
      exact opv_val (by go_simp <;> rfl) ⟨gw_self _, rfl⟩
    · refine owes_vt 41 true (Go.Op.load 4 (Go.Operand.tmp 66)) 4 [43] (by kernel_rfl) (by kernel_rfl) (by kernel_rfl) (fun _ _ h => h) (by rw [hsz]; kernel_rfl) (by kernel_rfl) rfl fun vals w1 ρ hG hF hρ hcst hfun => ?_
      have e66 : ρ (.tmp 66) = .pointer (some ⟨qr, 0, none⟩) := ((hρ 66).trans (slotJ [43] (by rw [hsz]; decide) (by kernel_rfl))).trans (hF 43 (by decide))
      obtain ⟨d0, d1, d2, d3, d4, d5, d6, d7⟩ := (hs.out.below hG).cells
      clear hρ hF hcst hfun sl1 sl2 sl3 sl4 fin
      exact opv_val (by go_simp <;> rfl) ⟨gw_self _, rfl⟩
    · refine owes_vt 41 true (Go.Op.unOp Go.UnOp.not 4 (Go.Operand.tmp 67)) 4 [44] (by kernel_rfl) (by kernel_rfl) (by kernel_rfl) (fun _ _ h => h) (by rw [hsz]; kernel_rfl) (by kernel_rfl) rfl fun vals w1 ρ hG hF hρ hcst hfun => ?_
      have e67 : ρ (.tmp 67) = .bool false := ((hρ 67).trans (slotJ [44] (by rw [hsz]; decide) (by kernel_rfl))).trans (hF 44 (by decide))
      clear hρ hF hcst hfun sl1 sl2 sl3 sl4 fin
      exact opv_val (by go_simp <;> rfl) ⟨gw_self _, rfl⟩
    · refine owes_v (Go.Op.pick (Go.Operand.tmp 64) (Go.Operand.tmp 68) (Go.Operand.const (Go.Value.bool false))) 4 [41, 45] (by kernel_rfl) (by kernel_rfl) (by kernel_rfl) rfl fun vals w1 ρ hG hF hρ hcst hfun => ?_
      have e64 : ρ (.tmp 64) = .bool true := ((hρ 64).trans (slotJ [41, 45] (by rw [hsz]; decide) (by kernel_rfl))).trans (hF 41 (by decide))
      have e68 : ρ (.tmp 68) = .bool true := ((hρ 68).trans (slotJ [41, 45] (by rw [hsz]; decide) (by kernel_rfl))).trans (hF 45 (by decide))
      clear hρ hF hfun sl1 sl2 sl3 sl4 fin
      exact opv_val (by go_simp <;> rfl) ⟨gw_self _, rfl⟩
    · exact owes_mvj 46 69 (by kernel_rfl) (by kernel_rfl) (by kernel_rfl) (by kernel_rfl) (by rw [hsz]; decide) (fun v w h => h)
    · refine owes_vt 47 true (Go.Op.load 25 (Go.Operand.tmp 1)) 25 [] (by kernel_rfl) (by kernel_rfl) (by kernel_rfl) (fun _ _ h => h) (by rw [hsz]; kernel_rfl) (by kernel_rfl) rfl fun vals w1 ρ hG hF hρ hcst hfun => ?_
      have e1 : ρ (.tmp 1) = .pointer (some ⟨w0.heap.size + 1 + 1 + 1 + 1, 0, none⟩) := ((hρ 1).trans (slotO [] (by kernel_rfl))).trans sl1
      obtain ⟨d0, d1, d2, d3, d4, d5, d6, d7⟩ := (hs.out.below hG).cells
      unfold kA
      clear hρ hF hcst hfun sl1 sl2 sl3 sl4 fin
      exact opv_val (by go_simp <;> rfl) ⟨gw_self _, rfl⟩
    · refine owes_vt 47 true (Go.Op.call { callee := Go.Callee.value (Go.Operand.func 21), args := #[Go.Operand.tmp 71], argTypes := #[25] }) 26 [48] (by kernel_rfl) (by kernel_rfl) (by kernel_rfl) (fun _ _ h => h) (by rw [hsz]; kernel_rfl) (by kernel_rfl) rfl fun vals w1 ρ hG hF hρ hcst hfun => ?_
      have e71 : ρ (.tmp 71) = kA w0 := ((hρ 71).trans (slotJ [48] (by rw [hsz]; decide) (by kernel_rfl))).trans (hF 48 (by decide))
      clear hρ hF hcst sl1 sl2 sl3 sl4 fin
      exact opv_enter (by go_simp <;> rfl) (k17_na w0 w1 (hs.out.below hG).ga)
    · refine owes_vt 47 true (Go.Op.call { callee := Go.Callee.builtin Go.Builtin.len, args := #[Go.Operand.tmp 72], argTypes := #[26] }) 3 [49] (by kernel_rfl) (by kernel_rfl) (by kernel_rfl) (fun _ _ h => h) (by rw [hsz]; kernel_rfl) (by kernel_rfl) rfl fun vals w1 ρ hG hF hρ hcst hfun => ?_
      have f72 : (LenV 1) (vals 49) w1 := hF 49 (by decide)
      have e72 : ρ (.tmp 72) = vals 49 := (hρ 72).trans (slotJ [49] (by rw [hsz]; decide) (by kernel_rfl))
      obtain ⟨XA, xc, hx72⟩ := f72
      rw [hx72] at e72
      clear hρ hF hcst hfun sl1 sl2 sl3 sl4 fin
      exact opv_val (by go_simp <;> rfl) ⟨gw_self _, rfl⟩
    · refine owes_vt 47 true (Go.Op.binOp Go.BinOp.eql 3 (Go.Operand.tmp 73) (Go.Operand.const (Go.Value.int Go.IntKind.i64 1)) 3) 4 [50] (by kernel_rfl) (by kernel_rfl) (by kernel_rfl) (fun _ _ h => h) (by rw [hsz]; kernel_rfl) (by kernel_rfl) rfl fun vals w1 ρ hG hF hρ hcst hfun => ?_
      have e73 : ρ (.tmp 73) = .int .i64 1 := ((hρ 73).trans (slotJ [50] (by rw [hsz]; decide) (by kernel_rfl))).trans (hF 50 (by decide))
      clear hρ hF hfun sl1 sl2 sl3 sl4 fin
      exact opv_val (by go_simp <;> rfl) ⟨gw_self _, rfl⟩
    · refine owes_v (Go.Op.pick (Go.Operand.tmp 70) (Go.Operand.tmp 74) (Go.Operand.const (Go.Value.bool false))) 4 [47, 51] (by kernel_rfl) (by kernel_rfl) (by kernel_rfl) rfl fun vals w1 ρ hG hF hρ hcst hfun => ?_
      have e70 : ρ (.tmp 70) = .bool true := ((hρ 70).trans (slotJ [47, 51] (by rw [hsz]; decide) (by kernel_rfl))).trans (hF 47 (by decide))
      have e74 : ρ (.tmp 74) = .bool true := ((hρ 74).trans (slotJ [47, 51] (by rw [hsz]; decide) (by kernel_rfl))).trans (hF 51 (by decide))
      clear hρ hF hfun sl1 sl2 sl3 sl4 fin
      exact opv_val (by go_simp <;> rfl) ⟨gw_self _, rfl⟩
    · exact owes_mvj 52 75 (by kernel_rfl) (by kernel_rfl) (by kernel_rfl) (by kernel_rfl) (by rw [hsz]; decide) (fun v w h => h)
    · refine owes_vt 53 true (Go.Op.load 25 (Go.Operand.tmp 1)) 25 [] (by kernel_rfl) (by kernel_rfl) (by kernel_rfl) (fun _ _ h => h) (by rw [hsz]; kernel_rfl) (by kernel_rfl) rfl fun vals w1 ρ hG hF hρ hcst hfun => ?_
      have e1 : ρ (.tmp 1) = .pointer (some ⟨w0.heap.size + 1 + 1 + 1 + 1, 0, none⟩) := ((hρ 1).trans (slotO [] (by kernel_rfl))).trans sl1
      obtain ⟨d0, d1, d2, d3, d4, d5, d6, d7⟩ := (hs.out.below hG).cells
      unfold kA
      clear hρ hF hcst hfun sl1 sl2 sl3 sl4 fin
      exact opv_val (by go_simp <;> rfl) ⟨gw_self _, rfl⟩
    · refine owes_vt 53 true (Go.Op.call { callee := Go.Callee.value (Go.Operand.func 23), args := #[Go.Operand.tmp 77], argTypes := #[25] }) 25 [54] (by kernel_rfl) (by kernel_rfl) (by kernel_rfl) (fun _ _ h => h) (by rw [hsz]; kernel_rfl) (by kernel_rfl) rfl fun vals w1 ρ hG hF hρ hcst hfun => ?_
      have e77 : ρ (.tmp 77) = kA w0 := ((hρ 77).trans (slotJ [54] (by rw [hsz]; decide) (by kernel_rfl))).trans (hF 54 (by decide))
      clear hρ hF hcst sl1 sl2 sl3 sl4 fin
      exact opv_enter (by go_simp <;> rfl) (k17_tw w0 w1 (hs.out.below hG).ga)
    · refine owes_vt 53 true (Go.Op.load 25 (Go.Operand.tmp 1)) 25 [] (by kernel_rfl) (by kernel_rfl) (by kernel_rfl) (fun _ _ h => h) (by rw [hsz]; kernel_rfl) (by kernel_rfl) rfl fun vals w1 ρ hG hF hρ hcst hfun => ?_
      have e1 : ρ (.tmp 1) = .pointer (some ⟨w0.heap.size + 1 + 1 + 1 + 1, 0, none⟩) := ((hρ 1).trans (slotO [] (by kernel_rfl))).trans sl1
      obtain ⟨d0, d1, d2, d3, d4, d5, d6, d7⟩ := (hs.out.below hG).cells
      unfold kA
      clear hρ hF hcst hfun sl1 sl2 sl3 sl4 fin
      exact opv_val (by go_simp <;> rfl) ⟨gw_self _, rfl⟩
    · refine owes_vt 53 true (Go.Op.call { callee := Go.Callee.value (Go.Operand.func 24), args := #[Go.Operand.tmp 78, Go.Operand.tmp 79], argTypes := #[25, 25] }) 4 [55, 56] (by kernel_rfl) (by kernel_rfl) (by kernel_rfl) (fun _ _ h => h) (by rw [hsz]; kernel_rfl) (by kernel_rfl) rfl fun vals w1 ρ hG hF hρ hcst hfun => ?_
      have f78 : (TwV w0) (vals 55) w1 := hF 55 (by decide)
      have e78 : ρ (.tmp 78) = vals 55 := (hρ 78).trans (slotJ [55, 56] (by rw [hsz]; decide) (by kernel_rfl))
      have e79 : ρ (.tmp 79) = kA w0 := ((hρ 79).trans (slotJ [55, 56] (by rw [hsz]; decide) (by kernel_rfl))).trans (hF 56 (by decide))
      clear hρ hF hcst sl1 sl2 sl3 sl4 fin
      exact opv_enter (by go_simp <;> rfl) (of_retK (k17_e1 w0 w1 (hs.out.below hG).ga f78))
    · refine owes_v (Go.Op.pick (Go.Operand.tmp 76) (Go.Operand.tmp 80) (Go.Operand.const (Go.Value.bool false))) 4 [53, 57] (by kernel_rfl) (by kernel_rfl) (by kernel_rfl) rfl fun vals w1 ρ hG hF hρ hcst hfun => ?_
      have e76 : ρ (.tmp 76) = .bool true := ((hρ 76).trans (slotJ [53, 57] (by rw [hsz]; decide) (by kernel_rfl))).trans (hF 53 (by decide))
      have e80 : ρ (.tmp 80) = .bool true := ((hρ 80).trans (slotJ [53, 57] (by rw [hsz]; decide) (by kernel_rfl))).trans (hF 57 (by decide))
      clear hρ hF hfun sl1 sl2 sl3 sl4 fin
      exact opv_val (by go_simp <;> rfl) ⟨gw_self _, rfl⟩
    · exact owes_mvj 58 81 (by kernel_rfl) (by kernel_rfl) (by kernel_rfl) (by kernel_rfl) (by rw [hsz]; decide) (fun v w h => h)
    · refine owes_vt 59 true (Go.Op.load 25 (Go.Operand.tmp 2)) 25 [] (by kernel_rfl) (by kernel_rfl) (by kernel_rfl) (fun _ _ h => h) (by rw [hsz]; kernel_rfl) (by kernel_rfl) rfl fun vals w1 ρ hG hF hρ hcst hfun => ?_
      have e2 : ρ (.tmp 2) = .pointer (some ⟨b2, 0, none⟩) := ((hρ 2).trans (slotO [] (by kernel_rfl))).trans sl2
      obtain ⟨d0, d1, d2, d3, d4, d5, d6, d7⟩ := (hs.out.below hG).cells
      clear hρ hF hcst hfun sl1 sl2 sl3 sl4 fin
      exact opv_val (by go_simp <;> rfl) ⟨gw_self _, rfl⟩
    · refine owes_vt 59 true (Go.Op.load 25 (Go.Operand.tmp 1)) 25 [] (by kernel_rfl) (by kernel_rfl) (by kernel_rfl) (fun _ _ h => h) (by rw [hsz]; kernel_rfl) (by kernel_rfl) rfl fun vals w1 ρ hG hF hρ hcst hfun => ?_
      have e1 : ρ (.tmp 1) = .pointer (some ⟨w0.heap.size + 1 + 1 + 1 + 1, 0, none⟩) := ((hρ 1).trans (slotO [] (by kernel_rfl))).trans sl1
      obtain ⟨d0, d1, d2, d3, d4, d5, d6, d7⟩ := (hs.out.below hG).cells
      unfold kA
      clear hρ hF hcst hfun sl1 sl2 sl3 sl4 fin
      exact opv_val (by go_simp <;> rfl) ⟨gw_self _, rfl⟩
    · refine owes_vt 59 true (Go.Op.call { callee := Go.Callee.value (Go.Operand.func 24), args := #[Go.Operand.tmp 83, Go.Operand.tmp 84], argTypes := #[25, 25] }) 4 [60, 61] (by kernel_rfl) (by kernel_rfl) (by kernel_rfl) (fun _ _ h => h) (by rw [hsz]; kernel_rfl) (by kernel_rfl) rfl fun vals w1 ρ hG hF hρ hcst hfun => ?_
      have e83 : ρ (.tmp 83) = .agg #[.slice t.A 2 t.c, .slice t.A2 M t.c2] := ((hρ 83).trans (slotJ [60, 61] (by rw [hsz]; decide) (by kernel_rfl))).trans (hF 60 (by decide))
      have e84 : ρ (.tmp 84) = kA w0 := ((hρ 84).trans (slotJ [60, 61] (by rw [hsz]; decide) (by kernel_rfl))).trans (hF 61 (by decide))
      clear hρ hF hcst sl1 sl2 sl3 sl4 fin
      exact opv_enter (by go_simp <;> rfl) (of_retK (k17_e2 w0 w1 (hs.out.below hG) ht.out.1 ht.out.2.1 ht.out.2.2))
    · refine owes_vt 59 true (Go.Op.unOp Go.UnOp.not 4 (Go.Operand.tmp 85)) 4 [62] (by kernel_rfl) (by kernel_rfl) (by kernel_rfl) (fun _ _ h => h) (by rw [hsz]; kernel_rfl) (by kernel_rfl) rfl fun vals w1 ρ hG hF hρ hcst hfun => ?_
      have e85 : ρ (.tmp 85) = .bool false := ((hρ 85).trans (slotJ [62] (by rw [hsz]; decide) (by kernel_rfl))).trans (hF 62 (by decide))
      clear hρ hF hcst hfun sl1 sl2 sl3 sl4 fin
      exact opv_val (by go_simp <;> rfl) ⟨gw_self _, rfl⟩
    · refine owes_v (Go.Op.pick (Go.Operand.tmp 82) (Go.Operand.tmp 86) (Go.Operand.const (Go.Value.bool false))) 4 [59, 63] (by kernel_rfl) (by kernel_rfl) (by kernel_rfl) rfl fun vals w1 ρ hG hF hρ hcst hfun => ?_
      have e82 : ρ (.tmp 82) = .bool true := ((hρ 82).trans (slotJ [59, 63] (by rw [hsz]; decide) (by kernel_rfl))).trans (hF 59 (by decide))
      have e86 : ρ (.tmp 86) = .bool true := ((hρ 86).trans (slotJ [59, 63] (by rw [hsz]; decide) (by kernel_rfl))).trans (hF 63 (by decide))
      clear hρ hF hfun sl1 sl2 sl3 sl4 fin
      exact opv_val (by go_simp <;> rfl) ⟨gw_self _, rfl⟩
    · exact owes_mvj 64 87 (by kernel_rfl) (by kernel_rfl) (by kernel_rfl) (by kernel_rfl) (by rw [hsz]; decide) (fun v w h => h)
  · intro vals w1 hG hF
    exact fin vals w1 hG (hF 65 (by decide +kernel))
theorem known17_c (w : World) : Calls Try.prog 8 #[] w (RetP (.bool true) w) := by
  have kc := Joins.run_convert_bytes_const_at (P := Try.prog) (w.alloc (.cells #[.int .i64 2] 3)) 51 5 #[.int .u8 120] 1 1 (w.heap.size + 1) (by simp) Try.underlying51 Try.underlying5
  have HT := Lib.hid (k17_trim w)
  have HB := Lib.hid (kW_blocks w)
  have HGA := Lib.hid (kG_at w)
  go_enter Try.func8, Try.ntmps8
  go_wp2_with fail
  refine Calls.mono HT.out ?_
  clear kc
  have hbox := HB.out.2.2.2.2.1
  have hsz := HB.out.2.2.2.2.2.1
  obtain ⟨KW, hKW⟩ : ∃ K, K = kW w := ⟨_, rfl⟩
  rw [← hKW] at HB HGA hbox hsz ⊢
  have HKb := Lib.hid HB.out.2.2.2.2.2.2
  clear hKW HT HB
  rintro e V1 ⟨g', q, rfl, hl2, hga, hgs, hto, b1⟩
  obtain ⟨GA, gc, GA2, gc2, gn, gr⟩ := g'
  obtain ⟨M, hM⟩ : ∃ M, M = gr.length := ⟨_, rfl⟩
  simp only at hl2
  rw [← hM]
  have hboxV := hbox.below b1 hbox.lt
  have HV := Lib.hid (And.intro hga (And.intro hgs (And.intro hto (And.intro b1 (And.intro hl2 (And.intro hM hboxV))))))
  have c0 := hboxV.two.1
  have c1 := hboxV.two.2
  have hlt := hboxV.lt
  clear hga hgs hto b1 hl2 hM hboxV hbox
  go_wp2_with fail
  have b2 : Below V1.heap.size V1 ((V1.alloc (.cells #[.slice GA 2 gc, .slice GA2 M gc2] 25)).alloc (.cells #[.int .i64 2] 3)) := (Gw.alloc _ _).trans ((Gw.alloc _ _).mono (by simp))
  have k2 := Bk.new V1 25 #[.slice GA 2 gc, .slice GA2 M gc2]
  have k3 : Bk ((V1.alloc (.cells #[.slice GA 2 gc, .slice GA2 M gc2] 25)).alloc (.cells #[.int .i64 2] 3)) (V1.heap.size + 1) 3 #[.int .i64 2] := by
    have := Bk.new (V1.alloc (.cells #[.slice GA 2 gc, .slice GA2 M gc2] 25)) 3 #[.int .i64 2]
    simpa using this
  refine Calls.mono (k17_reach w _ ((HGA.out.up HV.out.2.2.2.1).up b2) _ k3) ?_
  rintro e V3 ⟨qr, rfl, hre, b3⟩
  have b13 : Below V1.heap.size V1 V3 := b2.trans (b3.mono b2.size)
  have hKS : KS w V3 V1.heap.size q qr ⟨GA, gc, GA2, gc2, gn, gr⟩ M := by
    obtain ⟨o1, o2, o3, o4, o5, o6, o7⟩ := HV.out
    exact ⟨(HGA.out.up o4).up b13, o1.up b13, o7.below b13 o7.lt, (k2.alloc _).below b3 (by simp; omega), (o3.below b13).mono (Nat.zero_le _), hre, HKb.out.trans ((o4.trans (b13.mono o4.size)).mono (by have := HKb.out.size; omega))⟩
  have HS := Lib.hid hKS
  obtain ⟨d0, d1, d2, d3, d4, d5, d6, d7⟩ := hKS.cells
  simp only at d2 d3
  have HG2 := Lib.hid (And.intro HV.out.2.1 (And.intro HV.out.2.2.2.2.1 HV.out.2.2.2.2.2.1))
  clear b2 k2 k3 hre b3 b13 hKS c0 c1 HV HGA hlt
  clear d0 d1 d2 d3 d4 d5 d6 d7 hsz
  go_wp2_with fail
  refine k17_r _ _ _ w V1.heap.size q qr M ⟨GA, gc, GA2, gc2, gn, gr⟩ HS (Lib.hid HG2.out) rfl rfl rfl rfl rfl ?_
  intro vals w9 hG h0
  unfold IsV at h0
  simp only [putD, Act.put, List.setIfInBounds_toArray, List.set_cons_zero, List.set_cons_succ, h0]
  have HB9 := Lib.hid (HS.out.below hG).bl
  clear hG h0 HS
  go_wp2_with fail
  go_ret
  exact ⟨rfl, HB9.out⟩
end Go.Proofs.Ytidaimcndbhefaa
/- How an argument that is a row of structs is opened. No conditions. -/
namespace Go.Proofs.Ytidaimcndbhefaa
set_option linter.unusedVariables false
set_option linter.unusedSimpArgs false
open Go.ChangeShapes Go.WideShapes Go.ChangeAt Go.RowKit
section
variable {H : Type} {enc : TypeId × Value → H} {P : Program} {w : World} {base : Nat} {spare : Nat → Bool} {held : Bool} {r : Reach} {b0 : Nat}
theorem cell_int {k : IntKind} {n : Nat} {t : TypeId} {u : Value} {y : DataW H × List MemPlace} (ht : P.underlying t = some (.int k)) (h : DataW.trod enc P w base spare held n t [u] = some y) : ∃ a, u = .int k a ∧ (Lit.int k a).wf = true := by
  obtain ⟨a, h, _, hw⟩ := DataW.trod_int ht h
  exact ⟨a, by simpa using h, hw⟩
/-- A cell that is a slice of numbers. -/
theorem cell_nums {α : Type} (f : α → Value) {k : IntKind} {n : Nat} {t e : TypeId} {u : Value} {y : DataW H × List MemPlace} (hf : ∀ z : Int, (Lit.int k z).wf = true → ∃ a, f a = .int k z) (ht : P.underlying t = some (.slice e)) (he : P.underlying e = some (.int k)) (hc : P.cellsOf e = 1) (h : DataW.trod enc P w base spare held n t [u] = some y) :
    ∃ (A : Option Addr) (bs : List α) (c : Nat), u = .slice A bs.length c ∧ bs.length ≤ c ∧ c ≤ maxLen ∧ Rd f w w.heap.size A bs := by
  rcases open_ints ht he hc h with ⟨hcs, _⟩ | ⟨x, l, c, zs, hcs, _, hl, hm, hz, _, hcell, hwz⟩
  · have hu : u = .slice none 0 0 := by simpa using hcs
    exact ⟨none, [], 0, hu, Nat.le_refl _, by simp [maxLen], Rd.nil⟩
  · have hu : u = .slice (some x) l c := by simpa using hcs
    have hlen : l ≤ zs.length := by rw [hz]; split <;> omega
    have : ∃ bs : List α, bs.length = l ∧ ∀ j (h : j < bs.length), f bs[j] = .int k (zs.getD j 0) := by
      have hk : ∀ m, m ≤ l → ∃ bs : List α, bs.length = m ∧ ∀ j (h : j < bs.length), f bs[j] = .int k (zs.getD j 0) := by
        intro m
        induction m with
        | zero => intro _; exact ⟨[], rfl, fun j h => absurd h (by simp)⟩
        | succ m ih =>
          intro hm
          obtain ⟨bs, hb, hp⟩ := ih (by omega)
          obtain ⟨a, ha⟩ := hf (zs.getD m 0) (hwz _ (by rw [List.getD_eq_getElem?_getD, List.getElem?_eq_getElem (by omega)]; exact List.getElem_mem _))
          refine ⟨bs ++ [a], by simp [hb], fun j hj => ?_⟩
          rw [List.getElem_append]
          split
          · exact hp j _
          · have : j = m := by simp at hj; omega
            subst this
            simpa using ha
      exact hk l (Nat.le_refl _)
    obtain ⟨bs, hb, hp⟩ := this
    refine ⟨some x, bs, c, by rw [hb]; exact hu, by omega, hm, fun j hj => ?_⟩
    have hc1 := hcell j (by omega)
    have hbk := cell_lt hc1
    rw [add_block] at hbk
    exact ⟨x, rfl, hbk, by rw [hc1, hp j hj]⟩
theorem rows_at {t e : TypeId} {fs : Array Field} {K : Nat} {v : Value} {d : DataW H} {p : List MemPlace} (ht : P.underlying t = some (.slice e)) (he : P.underlying e = some (.struct fs)) (hone : Go.Deep.oneCellFields P fs = true) (hC : P.cellsOf e = K) (hK : fs.size = K)
    (hv : Value.okWide P w r b0 t v) (h : DataW.Trod enc P w base spare held t v d p) :
    ∃ (A : Option Addr) (n c : Nat), v = .slice A n c ∧ n ≤ c ∧ c ≤ maxLen ∧ ∀ i, i < n → ∃ ad m, A = some ad ∧ ∀ j f, fs[j]? = some f → ∃ u y, w.cell? (ad.add (i * K + j)) = some u ∧ DataW.trod enc P w base spare held m f.type [u] = some y := by
  obtain ⟨a0, len, cap, rfl⟩ := okWide_slice ht hv
  obtain ⟨fuel, hf⟩ := h
  rcases Go.Deep.open_slice ht hf with ⟨hcs, _⟩ | ⟨a, len', cap', m, n', D, Pl, hcs, hb, hl, hm, hmm, hx, hrow⟩
  · simp [Value.cells] at hcs
    obtain ⟨rfl, rfl, rfl⟩ := hcs
    exact ⟨none, 0, 0, rfl, Nat.le_refl _, by simp [maxLen], fun i hi => absurd hi (by omega)⟩
  · simp [Value.cells] at hcs
    obtain ⟨rfl, rfl, rfl⟩ := hcs
    refine ⟨some a, len, cap, rfl, hl, hm, fun i hi => ?_⟩
    obtain ⟨cs', h1, h2⟩ := hrow i (by rw [hmm]; split <;> omega)
    obtain ⟨_, hlen, hcell⟩ := World.cells?_some h1
    obtain ⟨xs, n2, _, _, hl2, hlen2, hfs⟩ := DataW.trod_struct he h2
    refine ⟨a, n2, rfl, fun j f hj => ?_⟩
    obtain ⟨ho, h1c⟩ := Go.Deep.hone_of hone j f hj
    have hjk : j < fs.size := (Array.getElem?_eq_some_iff.1 hj).1
    have hjl : j < cs'.length := by omega
    have hfj := hfs j f hj
    have e1 : (cs'.drop f.offset).take (P.cellsOf f.type) = [cs'[j]] := by
      rw [ho, h1c, List.drop_eq_getElem_cons hjl]
      rfl
    rw [e1, List.getElem?_eq_getElem (by omega)] at hfj
    refine ⟨cs'[j], _, ?_, hfj⟩
    have := hcell j (by omega)
    rw [List.getElem?_eq_getElem hjl, add_add', hC] at this
    exact this
end
theorem choose_lst {α : Type} {p : Nat → α → Prop} : ∀ n : Nat, (∀ r, r < n → ∃ x, p r x) → ∃ l : List α, l.length = n ∧ ∀ r (h : r < l.length), p r l[r]
  | 0, _ => ⟨[], rfl, fun r h => absurd h (by simp)⟩
  | n + 1, h => by
    obtain ⟨l, hl, hp⟩ := choose_lst n fun r hr => h r (by omega)
    obtain ⟨x, hx⟩ := h n (by omega)
    refine ⟨l ++ [x], by simp [hl], fun r hr => ?_⟩
    rw [List.getElem_append]
    split
    · exact hp r _
    · have : r = n := by simp at hr; omega
      subst this
      simpa using hx
theorem num64 : ∀ z : Int, (Lit.int .u64 z).wf = true → ∃ a : BitVec 64, (Value.int .u64 (U64 a)) = .int .u64 z := fun z h => ⟨_, by rw [← wfu64 h]⟩
theorem num8 : ∀ z : Int, (Lit.int .u8 z).wf = true → ∃ a : BitVec 8, b8 a = .int .u8 z := fun z h => ⟨_, by unfold b8; rw [← wfu8 h]⟩
set_option maxRecDepth 100000
theorem add_far (a : Addr) (m j : Nat) : a.add (m + (j + 1)) = ⟨(a.add m).block, (a.add m).off + (j + 1), none⟩ := by
  rw [← add_add']
  rfl
/-- One of CodeBack's items. -/
structure Itm where
  op : Int
  u : BitVec 64
  i : BitVec 64
  ba : Option Addr
  bb : List (BitVec 8)
  bc : Nat
  wa : Option Addr
  ww : List (BitVec 64)
  wc : Nat
structure ItmAt (W : World) (B : Nat) (ad : Addr) (k : Nat) (x : Itm) : Prop where
  blk : ad.block < B
  op : W.cell? (ad.add (k * 5)) = some (.int .i64 x.op)
  u : W.cell? ⟨(ad.add (k * 5)).block, (ad.add (k * 5)).off + 1, none⟩ = some (.int .u64 (U64 x.u))
  i : W.cell? ⟨(ad.add (k * 5)).block, (ad.add (k * 5)).off + 2, none⟩ = some (.int .i64 (I64 x.i))
  b : W.cell? ⟨(ad.add (k * 5)).block, (ad.add (k * 5)).off + 3, none⟩ = some (.slice x.ba x.bb.length x.bc)
  w : W.cell? ⟨(ad.add (k * 5)).block, (ad.add (k * 5)).off + 4, none⟩ = some (.slice x.wa x.ww.length x.wc)
  bbc : x.bb.length ≤ x.bc
  wwc : x.ww.length ≤ x.wc
  br : Rd b8 W B x.ba x.bb
  wr : Rd (fun a => Value.int .u64 (U64 a)) W B x.wa x.ww
def Its (W : World) (B : Nat) (A : Option Addr) (l : List Itm) : Prop := ∀ k (h : k < l.length), ∃ ad, A = some ad ∧ ItmAt W B ad k l[k]
/-- One of MemPlays' acts. -/
structure Ac where
  op : Int
  at_ : Int
  fr : Int
  n : Int
  u : BitVec 64
  ba : Option Addr
  bb : List (BitVec 8)
  bc : Nat
structure AcAt (W : World) (B : Nat) (ad : Addr) (k : Nat) (x : Ac) : Prop where
  blk : ad.block < B
  op : W.cell? (ad.add (k * 6)) = some (.int .i64 x.op)
  at_ : W.cell? ⟨(ad.add (k * 6)).block, (ad.add (k * 6)).off + 1, none⟩ = some (.int .i64 x.at_)
  fr : W.cell? ⟨(ad.add (k * 6)).block, (ad.add (k * 6)).off + 2, none⟩ = some (.int .i64 x.fr)
  n : W.cell? ⟨(ad.add (k * 6)).block, (ad.add (k * 6)).off + 3, none⟩ = some (.int .i64 x.n)
  u : W.cell? ⟨(ad.add (k * 6)).block, (ad.add (k * 6)).off + 4, none⟩ = some (.int .u64 (U64 x.u))
  b : W.cell? ⟨(ad.add (k * 6)).block, (ad.add (k * 6)).off + 5, none⟩ = some (.slice x.ba x.bb.length x.bc)
  w0 : (Lit.int .i64 x.op).wf = true
  w1 : (Lit.int .i64 x.at_).wf = true
  w2 : (Lit.int .i64 x.fr).wf = true
  w3 : (Lit.int .i64 x.n).wf = true
  bbc : x.bb.length ≤ x.bc
  bcm : x.bc ≤ maxLen
  br : Rd b8 W B x.ba x.bb
def Acs (W : World) (B : Nat) (A : Option Addr) (l : List Ac) : Prop := ∀ k (h : k < l.length), ∃ ad, A = some ad ∧ AcAt W B ad k l[k]
theorem Acs.below {W W' : World} {B : Nat} {A : Option Addr} {l : List Ac} (h : Acs W B A l) (hb : Below B W W') : Acs W' B A l := fun k hk => by
  obtain ⟨ad, e, m⟩ := h k hk
  have hbk : (ad.add (k * 6)).block < B := by rw [add_block]; exact m.blk
  have c : ∀ j, W'.cell? ⟨(ad.add (k * 6)).block, (ad.add (k * 6)).off + j, none⟩ = W.cell? ⟨(ad.add (k * 6)).block, (ad.add (k * 6)).off + j, none⟩ := fun j => hb.cell (p := ⟨(ad.add (k * 6)).block, (ad.add (k * 6)).off + j, none⟩) hbk
  exact ⟨ad, e, m.blk, (hb.cell hbk).trans m.op, (c _).trans m.at_, (c _).trans m.fr, (c _).trans m.n, (c _).trans m.u, (c _).trans m.b, m.w0, m.w1, m.w2, m.w3, m.bbc, m.bcm, m.br.below hb⟩
end Go.Proofs.Ytidaimcndbhefaa
/- How an argument that is a graph is opened. No conditions. -/
namespace Go.Proofs.Ytidaimcndbhefaa
set_option linter.unusedVariables false
set_option linter.unusedSimpArgs false
open Go.ChangeShapes Go.WideShapes Go.ChangeAt Go.RowKit
set_option maxRecDepth 100000
section
variable {H : Type} {enc : TypeId × Value → H} {P : Program} {w : World} {base : Nat} {spare : Nat → Bool} {held : Bool}
/-- A cell that is a slice of structs of one-cell fields. -/
theorem cell_rows {t e : TypeId} {fs : Array Field} {K n0 : Nat} {u : Value} {y : DataW H × List MemPlace} (ht : P.underlying t = some (.slice e)) (he : P.underlying e = some (.struct fs)) (hone : Go.Deep.oneCellFields P fs = true) (hC : P.cellsOf e = K) (hK : fs.size = K)
    (hf : DataW.trod enc P w base spare held n0 t [u] = some y) :
    ∃ (A : Option Addr) (n c : Nat), u = .slice A n c ∧ n ≤ c ∧ c ≤ maxLen ∧ ∀ i, i < n → ∃ ad m, A = some ad ∧ ∀ j f, fs[j]? = some f → ∃ u y, w.cell? (ad.add (i * K + j)) = some u ∧ DataW.trod enc P w base spare held m f.type [u] = some y := by
  rcases Go.Deep.open_slice ht hf with ⟨hcs, _⟩ | ⟨a, len', cap', m, n', D, Pl, hcs, hb, hl, hm, hmm, hx, hrow⟩
  · have hu : u = .slice none 0 0 := by simpa using hcs
    exact ⟨none, 0, 0, hu, Nat.le_refl _, by simp [maxLen], fun i hi => absurd hi (by omega)⟩
  · have hu : u = .slice (some a) len' cap' := by simpa using hcs
    refine ⟨some a, len', cap', hu, hl, hm, fun i hi => ?_⟩
    obtain ⟨cs', h1, h2⟩ := hrow i (by rw [hmm]; split <;> omega)
    obtain ⟨_, hlen, hcell⟩ := World.cells?_some h1
    obtain ⟨xs, n2, _, _, hl2, hlen2, hfs⟩ := DataW.trod_struct he h2
    refine ⟨a, n2, rfl, fun j f hj => ?_⟩
    obtain ⟨ho, h1c⟩ := Go.Deep.hone_of hone j f hj
    have hjk : j < fs.size := (Array.getElem?_eq_some_iff.1 hj).1
    have hjl : j < cs'.length := by omega
    have hfj := hfs j f hj
    have e1 : (cs'.drop f.offset).take (P.cellsOf f.type) = [cs'[j]] := by
      rw [ho, h1c, List.drop_eq_getElem_cons hjl]
      rfl
    rw [e1, List.getElem?_eq_getElem (by omega)] at hfj
    refine ⟨cs'[j], _, ?_, hfj⟩
    have := hcell j (by omega)
    rw [List.getElem?_eq_getElem hjl, add_add', hC] at this
    exact this
theorem cell_str {n : Nat} {t : TypeId} {u : Value} {y : DataW H × List MemPlace} (ht : P.underlying t = some .string) (h : DataW.trod enc P w base spare held n t [u] = some y) : ∃ s : ByteArray, u = .string s ∧ s.size ≤ maxLen := by
  obtain ⟨s, h, _, hw⟩ := DataW.trod_string ht h
  exact ⟨s, by simpa using h, hw⟩
end
theorem numI : ∀ z : Int, (Lit.int .i64 z).wf = true → ∃ a : Int, iV a = .int .i64 z := fun z _ => ⟨z, rfl⟩
/-- A graph that came in. -/
structure GvOk (W : World) (g : Gv) : Prop where
  at_ : g.At W W.heap.size
  cn : g.c ≤ maxLen
  cr : g.c2 ≤ maxLen
  nd : ∀ x ∈ g.n, x.c ≤ maxLen ∧ x.d ≤ maxLen
  st : ∀ r ∈ g.r, r.s.size ≤ maxLen ∧ (Lit.int .i64 r.t).wf = true
theorem GvOk.up {W W' : World} {g : Gv} (h : GvOk W g) (hb : Below W.heap.size W W') : GvOk W' g := ⟨h.at_.up hb, h.cn, h.cr, h.nd, h.st⟩
section
variable {H : Type} {enc : TypeId × Value → H} {W : World} {base : Nat} {sp : Nat → Bool} {hd : Bool}
theorem cell_nodes {n0 : Nat} {u : Value} {y : DataW H × List MemPlace} (h : DataW.trod enc Try.prog W base sp hd n0 22 [u] = some y) : ∃ (A : Option Addr) (xs : List Nv) (c : Nat), u = .slice A xs.length c ∧ xs.length ≤ c ∧ c ≤ maxLen ∧ NRow W W.heap.size A xs ∧ ∀ x ∈ xs, x.c ≤ maxLen ∧ x.d ≤ maxLen := by
  have he := Try.underlying53
  obtain ⟨A, n, c, rfl, hn, hm, hrow⟩ := cell_rows (K := 2) Try.underlying22 he (by kernel_rfl) (by kernel_rfl) rfl h
  obtain ⟨l, hl, hp⟩ := choose_lst (α := Nv) (p := fun i x => ∃ ad, A = some ad ∧ ad.block < W.heap.size ∧ W.cell? (ad.add (i * 2)) = some x.vp ∧ W.cell? ⟨(ad.add (i * 2)).block, (ad.add (i * 2)).off + 1, none⟩ = some x.vd ∧ x.At W W.heap.size ∧ x.c ≤ maxLen ∧ x.d ≤ maxLen) n (fun k hk => by
    obtain ⟨ad, m, e, hf⟩ := hrow k hk
    obtain ⟨u0, y0, c0, t0⟩ := hf 0 _ rfl
    obtain ⟨u1, y1, c1, t1⟩ := hf 1 _ rfl
    obtain ⟨A0, b0, n0, rfl, h0, hm0, r0⟩ := cell_nums iV (k := .i64) (e := 3) numI (by kernel_rfl) (by kernel_rfl) (by kernel_rfl) t0
    obtain ⟨A1, b1, n1, rfl, h1, hm1, r1⟩ := cell_nums b8 (k := .u8) (e := 5) num8 (by kernel_rfl) (by kernel_rfl) (by kernel_rfl) t1
    have hb := cell_lt c0
    rw [add_block] at hb
    exact ⟨⟨A0, n0, A1, n1, b0, b1⟩, ad, e, hb, c0, (congrArg W.cell? (add_far ad (k * 2) 0)).symm.trans c1, ⟨r0, r1, h0, h1⟩, hm0, hm1⟩)
  subst hl
  refine ⟨A, l, c, rfl, hn, hm, fun i hi => ?_, fun x hx => ?_⟩
  · obtain ⟨ad, h1, h2, h3, h4, h5, _⟩ := hp i hi
    exact ⟨ad, h1, h2, h3, h4, h5⟩
  · obtain ⟨i, hi, rfl⟩ := List.mem_iff_getElem.1 hx
    obtain ⟨ad, h1, h2, h3, h4, h5, h6⟩ := hp i hi
    exact h6
theorem cell_roots {n0 : Nat} {u : Value} {y : DataW H × List MemPlace} (h : DataW.trod enc Try.prog W base sp hd n0 23 [u] = some y) : ∃ (A : Option Addr) (xs : List Rv) (c : Nat), u = .slice A xs.length c ∧ xs.length ≤ c ∧ c ≤ maxLen ∧ RoRow W W.heap.size A xs ∧ ∀ x ∈ xs, x.s.size ≤ maxLen ∧ (Lit.int .i64 x.t).wf = true := by
  have he := Try.underlying58
  obtain ⟨A, n, c, rfl, hn, hm, hrow⟩ := cell_rows (K := 2) Try.underlying23 he (by kernel_rfl) (by kernel_rfl) rfl h
  obtain ⟨l, hl, hp⟩ := choose_lst (α := Rv) (p := fun i x => ∃ ad, A = some ad ∧ ad.block < W.heap.size ∧ W.cell? (ad.add (i * 2)) = some (.string x.s) ∧ W.cell? ⟨(ad.add (i * 2)).block, (ad.add (i * 2)).off + 1, none⟩ = some (.int .i64 x.t) ∧ x.s.size ≤ maxLen ∧ (Lit.int .i64 x.t).wf = true) n (fun k hk => by
    obtain ⟨ad, m, e, hf⟩ := hrow k hk
    obtain ⟨u0, y0, c0, t0⟩ := hf 0 _ rfl
    obtain ⟨u1, y1, c1, t1⟩ := hf 1 _ rfl
    obtain ⟨s, rfl, hs⟩ := cell_str (by kernel_rfl) t0
    obtain ⟨z, rfl, hz⟩ := cell_int (k := .i64) (by kernel_rfl) t1
    have hb := cell_lt c0
    rw [add_block] at hb
    exact ⟨⟨s, z⟩, ad, e, hb, c0, (congrArg W.cell? (add_far ad (k * 2) 0)).symm.trans c1, hs, hz⟩)
  subst hl
  refine ⟨A, l, c, rfl, hn, hm, fun i hi => ?_, fun x hx => ?_⟩
  · obtain ⟨ad, h1, h2, h3, h4, _⟩ := hp i hi
    exact ⟨ad, h1, h2, h3, h4⟩
  · obtain ⟨i, hi, rfl⟩ := List.mem_iff_getElem.1 hx
    obtain ⟨ad, h1, h2, h3, h4, h6⟩ := hp i hi
    exact h6
theorem open_str_Graph {r : Reach} {b0 : Nat} {v : Value} {d : DataW H} {p : List MemPlace}
    (hv : Value.okWide Try.prog W r b0 25 v) (h : DataW.Trod enc Try.prog W base sp hd 25 v d p) : ∃ g : Gv, v = g.v ∧ GvOk W g := by
  obtain ⟨cs, rfl, hsz⟩ := okWide_struct Try.underlying25 hv
  obtain ⟨l⟩ := cs
  obtain ⟨fuel, hf⟩ := h
  have k2 : Try.prog.cellsOf 25 = 2 := by kernel_rfl
  have kN : Try.prog.cellsOf 22 = 1 := by kernel_rfl
  have kR : Try.prog.cellsOf 23 = 1 := by kernel_rfl
  obtain ⟨xs, m, _, hx, hl, hlen, hg⟩ := DataW.trod_struct Try.underlying25 hf
  have hl2 : l.length = 2 := by
    have := hl.trans k2
    simpa [Value.cells] using this
  match l, hl2 with
  | [c0, c1], _ =>
    match xs, hlen with
    | [y0, y1], _ =>
      have g0 := hg 0 _ rfl
      have g1 := hg 1 _ rfl
      simp only [Value.cells, kN, kR, List.drop_zero, List.drop_succ_cons, List.take_succ_cons, List.take_zero, List.getElem?_cons_zero, List.getElem?_cons_succ] at g0 g1
      obtain ⟨A0, x0, n0, rfl, h0, hm0, r0, w0⟩ := cell_nodes g0
      obtain ⟨A1, x1, n1, rfl, h1, hm1, r1, w1⟩ := cell_roots g1
      exact ⟨⟨A0, n0, A1, n1, x0, x1⟩, rfl, ⟨⟨r0, r1, h0, h1⟩, hm0, hm1, w0, w1⟩⟩
end
end Go.Proofs.Ytidaimcndbhefaa
/- GraphTwo: its regions, and what it works on. No conditions. -/
namespace Go.Proofs.Ytidaimcndbhefaa
set_option linter.unusedVariables false
set_option linter.unusedSimpArgs false
open Go.RowKit Go.Maps
theorem type_ne2 {W : World} {q k E F : Nat} {cs ds : Array Value} {m n : Nat × Nat} (h : W.heap[q]? = some (.cells cs E m)) (h2 : W.heap[k]? = some (.cells ds F n)) (hne : E ≠ F) : q ≠ k := fun e => by
  subst e
  rw [h] at h2
  injection h2 with h2
  injection h2 with _ h3
  exact hne h3
theorem ow_blk2 {α : Type} {f : α → Value} {E : TypeId} {W : World} {base q n c : Nat} {xs : List α} (h : Ow f E W base (.slice (some ⟨q, 0, none⟩) n c) xs) : ∃ cs m, W.heap[q]? = some (.cells cs E m) := by
  rcases h.2 with ⟨e, _⟩ | ⟨g, cap, cur, e, _, hh, _⟩
  · cases e
  · injection e with e
    injection e with e
    injection e with e
    subst e
    exact ⟨_, _, hh⟩
theorem FewP.same {a c : Gv} (h : FewP a) (h1 : c.n.map Nv.m = a.n.map Nv.m) (h2 : c.r = a.r) : FewP c := by
  refine ⟨?_, by rw [h2]; exact h.2.1, fun x hx => ?_, by rw [h2]; exact h.2.2.2⟩
  · have := congrArg List.length h1
    rw [List.length_map, List.length_map] at this
    rw [this]; exact h.1
  · have hm : x.m ∈ c.n.map Nv.m := List.mem_map.2 ⟨x, hx, rfl⟩
    rw [h1] at hm
    obtain ⟨y, hy, e⟩ := List.mem_map.1 hm
    have := h.2.2.1 y hy
    unfold Nv.m at e
    injection e with e1 e2
    rw [← e1, ← e2]
    exact this
theorem same_sym (a b : Gv) : sameG b a = sameG a b := by
  by_cases h : a.r = b.r ∧ a.n.map Nv.m = b.n.map Nv.m
  · rw [same_true h.1 h.2, same_true h.1.symm h.2.symm]
  · rw [same_false h, same_false (fun e => h ⟨e.1.symm, e.2.symm⟩)]
theorem same_n {a b c d : Gv} (h1 : a.n = c.n) (h2 : a.r = c.r) (h3 : b.n = d.n) (h4 : b.r = d.r) : sameG a b = sameG c d := by unfold sameG; rw [h1, h2, h3, h4]
def OfV (g : Gv) (v : Value) (W : World) : Prop := ∃ g' : Gv, v = g'.v ∧ g'.At W W.heap.size ∧ g'.n = g.n ∧ g'.r = g.r
theorem OfV.mono {g : Gv} {v : Value} {a b : World} (h : OfV g v a) (hb : Below a.heap.size a b) : OfV g v b := by
  obtain ⟨g', e, h1, h2⟩ := h
  exact ⟨g', e, h1.up hb, h2⟩
theorem of_k {W : World} {g : Gv} {v : Value} (hv : g.v = v) (hf : FewP g) (h : g.At W W.heap.size) : Calls Try.prog 10 #[v] W fun e w2 => ∃ u, e = .returned u ∧ Below W.heap.size W w2 ∧ OfV g u w2 := by
  rw [← hv]
  refine (of_c W g h hf).mono ?_
  rintro e w' ⟨g', rfl, h1, h2, h3, hb⟩
  exact ⟨_, rfl, hb, g', rfl, h1, h2, h3⟩
theorem req_k {W : World} {a b : Gv} {u v : Value} {p : Bool} (hf : FewP a) (hp : sameG a b = p) (ha : OfV a u W) (hb : OfV b v W) : Calls Try.prog 17 #[u, v] W (RetP (.bool p) W) := by
  obtain ⟨g1, rfl, h1, n1, r1⟩ := ha
  obtain ⟨g2, rfl, h2, n2, r2⟩ := hb
  have k := req_c W g1 g2 h1 h2 (hf.same (by rw [n1]) r1)
  rw [same_n n1 r1 n2 r2, hp] at k
  exact k
theorem eq_k {W : World} {a b : Gv} {u v : Value} {p : Bool} (ea : a.v = u) (eb : b.v = v) (hf : FewP a) (hp : sameG a b = p) (ha : a.At W W.heap.size) (hb : b.At W W.heap.size) : Calls Try.prog 24 #[u, v] W (RetP (.bool p) W) := by
  have k := equalG_c W a b ha hb hf.small
  rw [hp, ea, eb] at k
  exact k
/-- A graph in a box. -/
def GBx (w : World) (s : Nat) (g : Gv) (v0 v1 : Value) : Prop := ∀ W, Below w.heap.size w W → W.cell? ⟨s, 0, none⟩ = some v0 ∧ W.cell? ⟨s, 1, none⟩ = some v1 ∧ g.At W W.heap.size
theorem GBx.of {w : World} {s : Nat} {g : Gv} {v0 v1 : Value} (h : Bk w s 25 #[v0, v1]) (hg : g.At w w.heap.size) : GBx w s g v0 v1 := fun W b => ⟨(h.below b h.lt).cell 0, (h.below b h.lt).cell 1, hg.up b⟩
theorem GBx.up {w w' : World} {s : Nat} {g : Gv} {v0 v1 : Value} (h : GBx w s g v0 v1) (b : Below w.heap.size w w') : GBx w' s g v0 v1 := fun W b2 => h W (b.trans (b2.mono b.size))
set_option maxHeartbeats 4000000
set_option maxRecDepth 100000
theorem two6_r (Q : Exit → Act → World → Prop) (a0 : Act) (w : World) (sa sc : Nat) (ga gc : Gv) (A A2 C C2 : Option Addr) (N M K L a1 a2 c1 c2 : Nat) (hga : ga.v = .agg #[.slice A N a1, .slice A2 M a2]) (hgc : gc.v = .agg #[.slice C K c1, .slice C2 L c2]) (hfa : FewP ga) (hfc : FewP gc) (ha : Hid (GBx w sa ga (.slice A N a1) (.slice A2 M a2))) (hc : Hid (GBx w sc gc (.slice C K c1) (.slice C2 L c2))) (hsame : sameG ga gc = true) (hsz : a0.tmps.size = 116) (sl2 : a0.tmps.getD 2 undef = .pointer (some ⟨sa, 0, none⟩)) (sl5 : a0.tmps.getD 5 undef = .pointer (some ⟨sc, 0, none⟩))
    (fin : ∀ (vals : Nat → Value) (w1 : World), Below w.heap.size w w1 → (IsV (.bool true)) (vals 5) w1 → Q .normal (putD vals [23, 24, 25, 26, 27, 6] 0 a0) w1) :
    (Code.region 6 (regIn Try.f4 6) true).wp Try.prog Q a0 w := by
  refine region_by (G := fun w w1 => Below w.heap.size w w1) [IsV (.agg #[.slice A N a1, .slice A2 M a2]),
    OfV ga,
    IsV (.agg #[.slice C K c1, .slice C2 L c2]),
    OfV gc,
    IsV (.bool true),
    IsV (.bool true)]
    [23, 24, 25, 26, 27, 6] (by kernel_rfl) (Gw.drew _) Gw.trans (by rw [hsz]; kernel_rfl) (by kernel_rfl) ?_ ?_ ?_
  · intro f hf
    simp only [List.mem_cons, List.not_mem_nil, or_false] at hf
    rcases hf with rfl | rfl | rfl | rfl | rfl | rfl <;> intro v a b h g <;> first | exact IsV.mono h | exact OfV.mono h g
  · refine ⟨?_, ?_, ?_, ?_, ?_, ?_, trivial⟩
    · refine owes_v (Go.Op.load 25 (Go.Operand.tmp 2)) 25 [] (by kernel_rfl) (by kernel_rfl) (by kernel_rfl) rfl fun vals w1 ρ hG hF hρ hcst hfun => ?_
      have e2 : ρ (.tmp 2) = .pointer (some ⟨sa, 0, none⟩) := ((hρ 2).trans (slotO [] (by kernel_rfl))).trans sl2
      obtain ⟨d0, d1, _⟩ := ha.out w1 hG
      clear hρ hF hcst hfun sl2 sl5 fin
      exact opv_val (by go_simp <;> rfl) ⟨gw_self _, rfl⟩
    · refine owes_v (Go.Op.call { callee := Go.Callee.value (Go.Operand.func 10), args := #[Go.Operand.tmp 23], argTypes := #[25] }) 32 [0] (by kernel_rfl) (by kernel_rfl) (by kernel_rfl) rfl fun vals w1 ρ hG hF hρ hcst hfun => ?_
      have e23 : ρ (.tmp 23) = .agg #[.slice A N a1, .slice A2 M a2] := ((hρ 23).trans (slotJ [0] (by rw [hsz]; decide) (by kernel_rfl))).trans (hF 0 (by decide))
      clear hρ hF hcst sl2 sl5 fin
      exact opv_enter (by go_simp <;> rfl) (of_k hga hfa (ha.out w1 hG).2.2)
    · refine owes_v (Go.Op.load 25 (Go.Operand.tmp 5)) 25 [] (by kernel_rfl) (by kernel_rfl) (by kernel_rfl) rfl fun vals w1 ρ hG hF hρ hcst hfun => ?_
      have e5 : ρ (.tmp 5) = .pointer (some ⟨sc, 0, none⟩) := ((hρ 5).trans (slotO [] (by kernel_rfl))).trans sl5
      obtain ⟨d0, d1, _⟩ := hc.out w1 hG
      clear hρ hF hcst hfun sl2 sl5 fin
      exact opv_val (by go_simp <;> rfl) ⟨gw_self _, rfl⟩
    · refine owes_v (Go.Op.call { callee := Go.Callee.value (Go.Operand.func 10), args := #[Go.Operand.tmp 25], argTypes := #[25] }) 32 [2] (by kernel_rfl) (by kernel_rfl) (by kernel_rfl) rfl fun vals w1 ρ hG hF hρ hcst hfun => ?_
      have e25 : ρ (.tmp 25) = .agg #[.slice C K c1, .slice C2 L c2] := ((hρ 25).trans (slotJ [2] (by rw [hsz]; decide) (by kernel_rfl))).trans (hF 2 (by decide))
      clear hρ hF hcst sl2 sl5 fin
      exact opv_enter (by go_simp <;> rfl) (of_k hgc hfc (hc.out w1 hG).2.2)
    · refine owes_v (Go.Op.call { callee := Go.Callee.value (Go.Operand.func 17), args := #[Go.Operand.tmp 24, Go.Operand.tmp 26], argTypes := #[32, 32] }) 4 [1, 3] (by kernel_rfl) (by kernel_rfl) (by kernel_rfl) rfl fun vals w1 ρ hG hF hρ hcst hfun => ?_
      have f24 : (OfV ga) (vals 1) w1 := hF 1 (by decide)
      have e24 : ρ (.tmp 24) = vals 1 := (hρ 24).trans (slotJ [1, 3] (by rw [hsz]; decide) (by kernel_rfl))
      have f26 : (OfV gc) (vals 3) w1 := hF 3 (by decide)
      have e26 : ρ (.tmp 26) = vals 3 := (hρ 26).trans (slotJ [1, 3] (by rw [hsz]; decide) (by kernel_rfl))
      clear hρ hF hcst sl2 sl5 fin
      exact opv_enter (by go_simp <;> rfl) (of_retK (req_k hfa hsame f24 f26))
    · exact owes_mvj 4 27 (by kernel_rfl) (by kernel_rfl) (by kernel_rfl) (by kernel_rfl) (by rw [hsz]; decide) (fun v w h => h)
  · intro vals w1 hG hF
    exact fin vals w1 hG (hF 5 (by decide +kernel))
theorem two13_r (Q : Exit → Act → World → Prop) (a0 : Act) (w : World) (sc q k j K c1 n d : Nat) (ad : Addr) (y : BitVec 8) (hs : Hid (∀ W, Below w.heap.size w W → W.cell? ⟨sc, 0, none⟩ = some (.slice (some ad) K c1) ∧ W.cell? ⟨(ad.add (k * 2)).block, (ad.add (k * 2)).off + 1, none⟩ = some (.slice (some ⟨q, 0, none⟩) n d) ∧ W.cell? ⟨q, j, none⟩ = some (.int .u8 (U8 y)))) (p1 : (0 : Int) ≤ (k : Int)) (p2 : (k : Int) < (K : Int)) (p3 : (0 : Int) ≤ (j : Int)) (p4 : (j : Int) < (n : Int)) (hsz : a0.tmps.size = 116) (sl5 : a0.tmps.getD 5 undef = .pointer (some ⟨sc, 0, none⟩)) (sl7 : a0.tmps.getD 7 undef = .int .i64 k) (sl8 : a0.tmps.getD 8 undef = .int .i64 j)
    (fin : ∀ (vals : Nat → Value) (w1 : World), Below w.heap.size w w1 → (IsV (.int .u8 (U8 (y + 1#8)))) (vals 16) w1 → (IsV (.pointer (some ⟨q, j, none⟩))) (vals 17) w1 → wpList Try.prog #[{ dst := none, op := Go.Op.store 5 (Go.Operand.tmp 63) (Go.Operand.tmp 62), type := 0, pos := "", after := #[], guard := none }] Q [{ dst := none, op := Go.Op.store 5 (Go.Operand.tmp 63) (Go.Operand.tmp 62), type := 0, pos := "", after := #[], guard := none }] (putD vals [46, 47, 48, 49, 50, 51, 52, 53, 54, 55, 56, 57, 58, 59, 60, 61, 62, 63] 0 a0) w1) :
    (Code.region 13 (regIn Try.f4 13) true).wp Try.prog Q a0 w := by
  refine region_by_tail (m := 18) (G := fun w w1 => Below w.heap.size w w1) [IsV (.pointer (some ⟨sc, 0, none⟩)),
    IsV (.slice (some ad) K c1),
    IsV (.int .i64 k),
    IsV (.pointer (some (ad.add (k * 2)))),
    IsV (.pointer (some ⟨(ad.add (k * 2)).block, (ad.add (k * 2)).off + 1, none⟩)),
    IsV (.slice (some ⟨q, 0, none⟩) n d),
    IsV (.int .i64 j),
    IsV (.pointer (some ⟨sc, 0, none⟩)),
    IsV (.slice (some ad) K c1),
    IsV (.int .i64 k),
    IsV (.pointer (some (ad.add (k * 2)))),
    IsV (.pointer (some ⟨(ad.add (k * 2)).block, (ad.add (k * 2)).off + 1, none⟩)),
    IsV (.slice (some ⟨q, 0, none⟩) n d),
    IsV (.int .i64 j),
    IsV (.pointer (some ⟨q, j, none⟩)),
    IsV (.int .u8 (U8 y)),
    IsV (.int .u8 (U8 (y + 1#8))),
    IsV (.pointer (some ⟨q, j, none⟩))]
    [46, 47, 48, 49, 50, 51, 52, 53, 54, 55, 56, 57, 58, 59, 60, 61, 62, 63] (by kernel_rfl) (Gw.drew _) Gw.trans (by rw [hsz]; kernel_rfl) (by kernel_rfl) ?_ ?_ ?_
  · intro f hf
    simp only [List.mem_cons, List.not_mem_nil, or_false] at hf
    rcases hf with rfl | rfl | rfl | rfl | rfl | rfl | rfl | rfl | rfl | rfl | rfl | rfl | rfl | rfl | rfl | rfl | rfl | rfl <;> intro v a b h g <;> first | exact IsV.mono h
  · refine ⟨?_, ?_, ?_, ?_, ?_, ?_, ?_, ?_, ?_, ?_, ?_, ?_, ?_, ?_, ?_, ?_, ?_, ?_, trivial⟩
    · refine owes_v (Go.Op.fieldAddr 25 (Go.Operand.tmp 5) 0) 0 [] (by kernel_rfl) (by kernel_rfl) (by kernel_rfl) rfl fun vals w1 ρ hG hF hρ hcst hfun => ?_
      have e5 : ρ (.tmp 5) = .pointer (some ⟨sc, 0, none⟩) := ((hρ 5).trans (slotO [] (by kernel_rfl))).trans sl5
      clear hρ hF hcst hfun sl5 sl7 sl8 fin
      exact opv_val (by go_simp <;> rfl) ⟨gw_self _, rfl⟩
    · refine owes_v (Go.Op.load 22 (Go.Operand.tmp 46)) 22 [0] (by kernel_rfl) (by kernel_rfl) (by kernel_rfl) rfl fun vals w1 ρ hG hF hρ hcst hfun => ?_
      have e46 : ρ (.tmp 46) = .pointer (some ⟨sc, 0, none⟩) := ((hρ 46).trans (slotJ [0] (by rw [hsz]; decide) (by kernel_rfl))).trans (hF 0 (by decide))
      have d0 := (hs.out w1 hG).1
      clear hρ hF hcst hfun sl5 sl7 sl8 fin
      exact opv_val (by go_simp <;> rfl) ⟨gw_self _, rfl⟩
    · exact owes_mv 7 (by kernel_rfl) (by kernel_rfl) (by kernel_rfl) sl7 (fun _ => rfl)
    · refine owes_v (Go.Op.indexAddr 22 (Go.Operand.tmp 47) (Go.Operand.tmp 48)) 0 [1, 2] (by kernel_rfl) (by kernel_rfl) (by kernel_rfl) rfl fun vals w1 ρ hG hF hρ hcst hfun => ?_
      have e47 : ρ (.tmp 47) = .slice (some ad) K c1 := ((hρ 47).trans (slotJ [1, 2] (by rw [hsz]; decide) (by kernel_rfl))).trans (hF 1 (by decide))
      have e48 : ρ (.tmp 48) = .int .i64 k := ((hρ 48).trans (slotJ [1, 2] (by rw [hsz]; decide) (by kernel_rfl))).trans (hF 2 (by decide))
      clear hρ hF hcst hfun sl5 sl7 sl8 fin
      exact opv_val (by go_simp <;> rfl) ⟨gw_self _, rfl⟩
    · refine owes_v (Go.Op.fieldAddr 53 (Go.Operand.tmp 49) 1) 0 [3] (by kernel_rfl) (by kernel_rfl) (by kernel_rfl) rfl fun vals w1 ρ hG hF hρ hcst hfun => ?_
      have e49 : ρ (.tmp 49) = .pointer (some (ad.add (k * 2))) := ((hρ 49).trans (slotJ [3] (by rw [hsz]; decide) (by kernel_rfl))).trans (hF 3 (by decide))
      clear hρ hF hcst hfun sl5 sl7 sl8 fin
      exact opv_val (by go_simp <;> rfl) ⟨gw_self _, rfl⟩
    · refine owes_v (Go.Op.load 51 (Go.Operand.tmp 50)) 51 [4] (by kernel_rfl) (by kernel_rfl) (by kernel_rfl) rfl fun vals w1 ρ hG hF hρ hcst hfun => ?_
      have e50 : ρ (.tmp 50) = .pointer (some ⟨(ad.add (k * 2)).block, (ad.add (k * 2)).off + 1, none⟩) := ((hρ 50).trans (slotJ [4] (by rw [hsz]; decide) (by kernel_rfl))).trans (hF 4 (by decide))
      have d0 := (hs.out w1 hG).2.1
      clear hρ hF hcst hfun sl5 sl7 sl8 fin
      exact opv_val (by go_simp <;> rfl) ⟨gw_self _, rfl⟩
    · exact owes_mv 8 (by kernel_rfl) (by kernel_rfl) (by kernel_rfl) sl8 (fun _ => rfl)
    · refine owes_v (Go.Op.fieldAddr 25 (Go.Operand.tmp 5) 0) 0 [] (by kernel_rfl) (by kernel_rfl) (by kernel_rfl) rfl fun vals w1 ρ hG hF hρ hcst hfun => ?_
      have e5 : ρ (.tmp 5) = .pointer (some ⟨sc, 0, none⟩) := ((hρ 5).trans (slotO [] (by kernel_rfl))).trans sl5
      clear hρ hF hcst hfun sl5 sl7 sl8 fin
      exact opv_val (by go_simp <;> rfl) ⟨gw_self _, rfl⟩
    · refine owes_v (Go.Op.load 22 (Go.Operand.tmp 53)) 22 [7] (by kernel_rfl) (by kernel_rfl) (by kernel_rfl) rfl fun vals w1 ρ hG hF hρ hcst hfun => ?_
      have e53 : ρ (.tmp 53) = .pointer (some ⟨sc, 0, none⟩) := ((hρ 53).trans (slotJ [7] (by rw [hsz]; decide) (by kernel_rfl))).trans (hF 7 (by decide))
      have d0 := (hs.out w1 hG).1
      clear hρ hF hcst hfun sl5 sl7 sl8 fin
      exact opv_val (by go_simp <;> rfl) ⟨gw_self _, rfl⟩
    · exact owes_mv 7 (by kernel_rfl) (by kernel_rfl) (by kernel_rfl) sl7 (fun _ => rfl)
    · refine owes_v (Go.Op.indexAddr 22 (Go.Operand.tmp 54) (Go.Operand.tmp 55)) 0 [8, 9] (by kernel_rfl) (by kernel_rfl) (by kernel_rfl) rfl fun vals w1 ρ hG hF hρ hcst hfun => ?_
      have e54 : ρ (.tmp 54) = .slice (some ad) K c1 := ((hρ 54).trans (slotJ [8, 9] (by rw [hsz]; decide) (by kernel_rfl))).trans (hF 8 (by decide))
      have e55 : ρ (.tmp 55) = .int .i64 k := ((hρ 55).trans (slotJ [8, 9] (by rw [hsz]; decide) (by kernel_rfl))).trans (hF 9 (by decide))
      clear hρ hF hcst hfun sl5 sl7 sl8 fin
      exact opv_val (by go_simp <;> rfl) ⟨gw_self _, rfl⟩
    · refine owes_v (Go.Op.fieldAddr 53 (Go.Operand.tmp 56) 1) 0 [10] (by kernel_rfl) (by kernel_rfl) (by kernel_rfl) rfl fun vals w1 ρ hG hF hρ hcst hfun => ?_
      have e56 : ρ (.tmp 56) = .pointer (some (ad.add (k * 2))) := ((hρ 56).trans (slotJ [10] (by rw [hsz]; decide) (by kernel_rfl))).trans (hF 10 (by decide))
      clear hρ hF hcst hfun sl5 sl7 sl8 fin
      exact opv_val (by go_simp <;> rfl) ⟨gw_self _, rfl⟩
    · refine owes_v (Go.Op.load 51 (Go.Operand.tmp 57)) 51 [11] (by kernel_rfl) (by kernel_rfl) (by kernel_rfl) rfl fun vals w1 ρ hG hF hρ hcst hfun => ?_
      have e57 : ρ (.tmp 57) = .pointer (some ⟨(ad.add (k * 2)).block, (ad.add (k * 2)).off + 1, none⟩) := ((hρ 57).trans (slotJ [11] (by rw [hsz]; decide) (by kernel_rfl))).trans (hF 11 (by decide))
      have d0 := (hs.out w1 hG).2.1
      clear hρ hF hcst hfun sl5 sl7 sl8 fin
      exact opv_val (by go_simp <;> rfl) ⟨gw_self _, rfl⟩
    · exact owes_mv 8 (by kernel_rfl) (by kernel_rfl) (by kernel_rfl) sl8 (fun _ => rfl)
    · refine owes_v (Go.Op.indexAddr 51 (Go.Operand.tmp 58) (Go.Operand.tmp 59)) 0 [12, 13] (by kernel_rfl) (by kernel_rfl) (by kernel_rfl) rfl fun vals w1 ρ hG hF hρ hcst hfun => ?_
      have e58 : ρ (.tmp 58) = .slice (some ⟨q, 0, none⟩) n d := ((hρ 58).trans (slotJ [12, 13] (by rw [hsz]; decide) (by kernel_rfl))).trans (hF 12 (by decide))
      have e59 : ρ (.tmp 59) = .int .i64 j := ((hρ 59).trans (slotJ [12, 13] (by rw [hsz]; decide) (by kernel_rfl))).trans (hF 13 (by decide))
      clear hρ hF hcst hfun sl5 sl7 sl8 fin
      exact opv_val (by go_simp <;> rfl) ⟨gw_self _, rfl⟩
    · refine owes_v (Go.Op.load 5 (Go.Operand.tmp 60)) 5 [14] (by kernel_rfl) (by kernel_rfl) (by kernel_rfl) rfl fun vals w1 ρ hG hF hρ hcst hfun => ?_
      have e60 : ρ (.tmp 60) = .pointer (some ⟨q, j, none⟩) := ((hρ 60).trans (slotJ [14] (by rw [hsz]; decide) (by kernel_rfl))).trans (hF 14 (by decide))
      have d0 := (hs.out w1 hG).2.2
      clear hρ hF hcst hfun sl5 sl7 sl8 fin
      exact opv_val (by go_simp <;> rfl) ⟨gw_self _, rfl⟩
    · refine owes_v (Go.Op.binOp Go.BinOp.add 5 (Go.Operand.tmp 61) (Go.Operand.const (Go.Value.int Go.IntKind.u8 1)) 5) 5 [15] (by kernel_rfl) (by kernel_rfl) (by kernel_rfl) rfl fun vals w1 ρ hG hF hρ hcst hfun => ?_
      have e61 : ρ (.tmp 61) = .int .u8 (U8 y) := ((hρ 61).trans (slotJ [15] (by rw [hsz]; decide) (by kernel_rfl))).trans (hF 15 (by decide))
      have kk := u8_succ y
      clear hρ hF hfun sl5 sl7 sl8 fin
      exact opv_val (by go_simp <;> rfl) ⟨gw_self _, rfl⟩
    · refine owes_v (Go.Op.indexAddr 51 (Go.Operand.tmp 51) (Go.Operand.tmp 52)) 0 [5, 6] (by kernel_rfl) (by kernel_rfl) (by kernel_rfl) rfl fun vals w1 ρ hG hF hρ hcst hfun => ?_
      have e51 : ρ (.tmp 51) = .slice (some ⟨q, 0, none⟩) n d := ((hρ 51).trans (slotJ [5, 6] (by rw [hsz]; decide) (by kernel_rfl))).trans (hF 5 (by decide))
      have e52 : ρ (.tmp 52) = .int .i64 j := ((hρ 52).trans (slotJ [5, 6] (by rw [hsz]; decide) (by kernel_rfl))).trans (hF 6 (by decide))
      clear hρ hF hcst hfun sl5 sl7 sl8 fin
      exact opv_val (by go_simp <;> rfl) ⟨gw_self _, rfl⟩
  · intro vals w1 hG hF
    exact last_list (by kernel_rfl) (by kernel_rfl) (by kernel_rfl) (fin vals w1 hG (hF 16 (by decide +kernel)) (hF 17 (by decide +kernel)))
theorem two19_r (Q : Exit → Act → World → Prop) (a0 : Act) (w : World) (sa sb sd : Nat) (ga gb gd : Gv) (A A2 B B2 D D2 : Option Addr) (N M K L X Y a1 a2 b1 b2 d1 d2 : Nat) (p : Bool) (hga : ga.v = .agg #[.slice A N a1, .slice A2 M a2]) (hgb : gb.v = .agg #[.slice B K b1, .slice B2 L b2]) (hgd : gd.v = .agg #[.slice D X d1, .slice D2 Y d2]) (hfa : FewP ga) (hfb : FewP gb) (hfd : FewP gd) (ha : Hid (GBx w sa ga (.slice A N a1) (.slice A2 M a2))) (hb : Hid (GBx w sb gb (.slice B K b1) (.slice B2 L b2))) (hd : Hid (GBx w sd gd (.slice D X d1) (.slice D2 Y d2))) (hp1 : sameG ga gb = p) (hp2 : sameG gb ga = p) (hp3 : sameG gd ga = true) (hp4 : sameG ga ga = true) (hsz : a0.tmps.size = 116) (sl2 : a0.tmps.getD 2 undef = .pointer (some ⟨sa, 0, none⟩)) (sl3 : a0.tmps.getD 3 undef = .pointer (some ⟨sb, 0, none⟩)) (sl6 : a0.tmps.getD 6 undef = .bool true) (sl10 : a0.tmps.getD 10 undef = .pointer (some ⟨sd, 0, none⟩))
    (fin : ∀ (vals : Nat → Value) (w1 : World), Below w.heap.size w w1 → (IsV (.bool true)) (vals 31) w1 → Q .normal (putD vals [85, 86, 87, 88, 89, 90, 91, 92, 93, 94, 95, 96, 97, 98, 99, 100, 101, 102, 103, 104, 105, 106, 107, 108, 109, 110, 111, 112, 113, 114, 115, 4] 0 a0) w1) :
    (Code.region 19 (regIn Try.f4 19) true).wp Try.prog Q a0 w := by
  refine region_by (G := fun w w1 => Below w.heap.size w w1) [IsV (.bool true),
    IsV (.bool true),
    IsV (.agg #[.slice A N a1, .slice A2 M a2]),
    IsV (.agg #[.slice B K b1, .slice B2 L b2]),
    IsV (.bool p),
    IsV (.agg #[.slice A N a1, .slice A2 M a2]),
    OfV ga,
    IsV (.agg #[.slice B K b1, .slice B2 L b2]),
    OfV gb,
    IsV (.bool p),
    IsV (.bool true),
    IsV (.bool true),
    IsV (.bool true),
    IsV (.agg #[.slice B K b1, .slice B2 L b2]),
    IsV (.agg #[.slice A N a1, .slice A2 M a2]),
    IsV (.bool p),
    IsV (.agg #[.slice A N a1, .slice A2 M a2]),
    IsV (.agg #[.slice B K b1, .slice B2 L b2]),
    IsV (.bool p),
    IsV (.bool true),
    IsV (.bool true),
    IsV (.bool true),
    IsV (.agg #[.slice D X d1, .slice D2 Y d2]),
    IsV (.agg #[.slice A N a1, .slice A2 M a2]),
    IsV (.bool true),
    IsV (.bool true),
    IsV (.bool true),
    IsV (.agg #[.slice A N a1, .slice A2 M a2]),
    IsV (.agg #[.slice A N a1, .slice A2 M a2]),
    IsV (.bool true),
    IsV (.bool true),
    IsV (.bool true)]
    [85, 86, 87, 88, 89, 90, 91, 92, 93, 94, 95, 96, 97, 98, 99, 100, 101, 102, 103, 104, 105, 106, 107, 108, 109, 110, 111, 112, 113, 114, 115, 4] (by kernel_rfl) (Gw.drew _) Gw.trans (by rw [hsz]; kernel_rfl) (by kernel_rfl) ?_ ?_ ?_
  · intro f hf
    simp only [List.mem_cons, List.not_mem_nil, or_false] at hf
    rcases hf with rfl | rfl | rfl | rfl | rfl | rfl | rfl | rfl | rfl | rfl | rfl | rfl | rfl | rfl | rfl | rfl | rfl | rfl | rfl | rfl | rfl | rfl | rfl | rfl | rfl | rfl | rfl | rfl | rfl | rfl | rfl | rfl <;> intro v a b h g <;> first | exact IsV.mono h | exact OfV.mono h g
  · refine ⟨?_, ?_, ?_, ?_, ?_, ?_, ?_, ?_, ?_, ?_, ?_, ?_, ?_, ?_, ?_, ?_, ?_, ?_, ?_, ?_, ?_, ?_, ?_, ?_, ?_, ?_, ?_, ?_, ?_, ?_, ?_, ?_, trivial⟩
    · exact owes_mv 6 (by kernel_rfl) (by kernel_rfl) (by kernel_rfl) sl6 (fun _ => rfl)
    · exact owes_mvj 0 85 (by kernel_rfl) (by kernel_rfl) (by kernel_rfl) (by kernel_rfl) (by rw [hsz]; decide) (fun v w h => h)
    · refine owes_vt 1 true (Go.Op.load 25 (Go.Operand.tmp 2)) 25 [] (by kernel_rfl) (by kernel_rfl) (by kernel_rfl) (fun _ _ h => h) (by rw [hsz]; kernel_rfl) (by kernel_rfl) rfl fun vals w1 ρ hG hF hρ hcst hfun => ?_
      have e2 : ρ (.tmp 2) = .pointer (some ⟨sa, 0, none⟩) := ((hρ 2).trans (slotO [] (by kernel_rfl))).trans sl2
      obtain ⟨d0, d1, _⟩ := ha.out w1 hG
      clear hρ hF hcst hfun sl2 sl3 sl6 sl10 fin
      exact opv_val (by go_simp <;> rfl) ⟨gw_self _, rfl⟩
    · refine owes_vt 1 true (Go.Op.load 25 (Go.Operand.tmp 3)) 25 [] (by kernel_rfl) (by kernel_rfl) (by kernel_rfl) (fun _ _ h => h) (by rw [hsz]; kernel_rfl) (by kernel_rfl) rfl fun vals w1 ρ hG hF hρ hcst hfun => ?_
      have e3 : ρ (.tmp 3) = .pointer (some ⟨sb, 0, none⟩) := ((hρ 3).trans (slotO [] (by kernel_rfl))).trans sl3
      obtain ⟨d0, d1, _⟩ := hb.out w1 hG
      clear hρ hF hcst hfun sl2 sl3 sl6 sl10 fin
      exact opv_val (by go_simp <;> rfl) ⟨gw_self _, rfl⟩
    · refine owes_vt 1 true (Go.Op.call { callee := Go.Callee.value (Go.Operand.func 24), args := #[Go.Operand.tmp 87, Go.Operand.tmp 88], argTypes := #[25, 25] }) 4 [2, 3] (by kernel_rfl) (by kernel_rfl) (by kernel_rfl) (fun _ _ h => h) (by rw [hsz]; kernel_rfl) (by kernel_rfl) rfl fun vals w1 ρ hG hF hρ hcst hfun => ?_
      have e87 : ρ (.tmp 87) = .agg #[.slice A N a1, .slice A2 M a2] := ((hρ 87).trans (slotJ [2, 3] (by rw [hsz]; decide) (by kernel_rfl))).trans (hF 2 (by decide))
      have e88 : ρ (.tmp 88) = .agg #[.slice B K b1, .slice B2 L b2] := ((hρ 88).trans (slotJ [2, 3] (by rw [hsz]; decide) (by kernel_rfl))).trans (hF 3 (by decide))
      clear hρ hF hcst sl2 sl3 sl6 sl10 fin
      exact opv_enter (by go_simp <;> rfl) (of_retK (eq_k hga hgb hfa hp1 (ha.out w1 hG).2.2 (hb.out w1 hG).2.2))
    · refine owes_vt 1 true (Go.Op.load 25 (Go.Operand.tmp 2)) 25 [] (by kernel_rfl) (by kernel_rfl) (by kernel_rfl) (fun _ _ h => h) (by rw [hsz]; kernel_rfl) (by kernel_rfl) rfl fun vals w1 ρ hG hF hρ hcst hfun => ?_
      have e2 : ρ (.tmp 2) = .pointer (some ⟨sa, 0, none⟩) := ((hρ 2).trans (slotO [] (by kernel_rfl))).trans sl2
      obtain ⟨d0, d1, _⟩ := ha.out w1 hG
      clear hρ hF hcst hfun sl2 sl3 sl6 sl10 fin
      exact opv_val (by go_simp <;> rfl) ⟨gw_self _, rfl⟩
    · refine owes_vt 1 true (Go.Op.call { callee := Go.Callee.value (Go.Operand.func 10), args := #[Go.Operand.tmp 90], argTypes := #[25] }) 32 [5] (by kernel_rfl) (by kernel_rfl) (by kernel_rfl) (fun _ _ h => h) (by rw [hsz]; kernel_rfl) (by kernel_rfl) rfl fun vals w1 ρ hG hF hρ hcst hfun => ?_
      have e90 : ρ (.tmp 90) = .agg #[.slice A N a1, .slice A2 M a2] := ((hρ 90).trans (slotJ [5] (by rw [hsz]; decide) (by kernel_rfl))).trans (hF 5 (by decide))
      clear hρ hF hcst sl2 sl3 sl6 sl10 fin
      exact opv_enter (by go_simp <;> rfl) (of_k hga hfa (ha.out w1 hG).2.2)
    · refine owes_vt 1 true (Go.Op.load 25 (Go.Operand.tmp 3)) 25 [] (by kernel_rfl) (by kernel_rfl) (by kernel_rfl) (fun _ _ h => h) (by rw [hsz]; kernel_rfl) (by kernel_rfl) rfl fun vals w1 ρ hG hF hρ hcst hfun => ?_
      have e3 : ρ (.tmp 3) = .pointer (some ⟨sb, 0, none⟩) := ((hρ 3).trans (slotO [] (by kernel_rfl))).trans sl3
      obtain ⟨d0, d1, _⟩ := hb.out w1 hG
      clear hρ hF hcst hfun sl2 sl3 sl6 sl10 fin
      exact opv_val (by go_simp <;> rfl) ⟨gw_self _, rfl⟩
    · refine owes_vt 1 true (Go.Op.call { callee := Go.Callee.value (Go.Operand.func 10), args := #[Go.Operand.tmp 92], argTypes := #[25] }) 32 [7] (by kernel_rfl) (by kernel_rfl) (by kernel_rfl) (fun _ _ h => h) (by rw [hsz]; kernel_rfl) (by kernel_rfl) rfl fun vals w1 ρ hG hF hρ hcst hfun => ?_
      have e92 : ρ (.tmp 92) = .agg #[.slice B K b1, .slice B2 L b2] := ((hρ 92).trans (slotJ [7] (by rw [hsz]; decide) (by kernel_rfl))).trans (hF 7 (by decide))
      clear hρ hF hcst sl2 sl3 sl6 sl10 fin
      exact opv_enter (by go_simp <;> rfl) (of_k hgb hfb (hb.out w1 hG).2.2)
    · refine owes_vt 1 true (Go.Op.call { callee := Go.Callee.value (Go.Operand.func 17), args := #[Go.Operand.tmp 91, Go.Operand.tmp 93], argTypes := #[32, 32] }) 4 [6, 8] (by kernel_rfl) (by kernel_rfl) (by kernel_rfl) (fun _ _ h => h) (by rw [hsz]; kernel_rfl) (by kernel_rfl) rfl fun vals w1 ρ hG hF hρ hcst hfun => ?_
      have f91 : (OfV ga) (vals 6) w1 := hF 6 (by decide)
      have e91 : ρ (.tmp 91) = vals 6 := (hρ 91).trans (slotJ [6, 8] (by rw [hsz]; decide) (by kernel_rfl))
      have f93 : (OfV gb) (vals 8) w1 := hF 8 (by decide)
      have e93 : ρ (.tmp 93) = vals 8 := (hρ 93).trans (slotJ [6, 8] (by rw [hsz]; decide) (by kernel_rfl))
      clear hρ hF hcst sl2 sl3 sl6 sl10 fin
      exact opv_enter (by go_simp <;> rfl) (of_retK (req_k hfa hp1 f91 f93))
    · refine owes_vt 1 true (Go.Op.binOp Go.BinOp.eql 4 (Go.Operand.tmp 89) (Go.Operand.tmp 94) 4) 4 [4, 9] (by kernel_rfl) (by kernel_rfl) (by kernel_rfl) (fun _ _ h => h) (by rw [hsz]; kernel_rfl) (by kernel_rfl) rfl fun vals w1 ρ hG hF hρ hcst hfun => ?_
      have e89 : ρ (.tmp 89) = .bool p := ((hρ 89).trans (slotJ [4, 9] (by rw [hsz]; decide) (by kernel_rfl))).trans (hF 4 (by decide))
      have e94 : ρ (.tmp 94) = .bool p := ((hρ 94).trans (slotJ [4, 9] (by rw [hsz]; decide) (by kernel_rfl))).trans (hF 9 (by decide))
      clear hρ hF hcst hfun sl2 sl3 sl6 sl10 fin
      exact opv_val (by go_simp <;> rfl) ⟨gw_self _, rfl⟩
    · refine owes_v (Go.Op.pick (Go.Operand.tmp 86) (Go.Operand.tmp 95) (Go.Operand.const (Go.Value.bool false))) 4 [1, 10] (by kernel_rfl) (by kernel_rfl) (by kernel_rfl) rfl fun vals w1 ρ hG hF hρ hcst hfun => ?_
      have e86 : ρ (.tmp 86) = .bool true := ((hρ 86).trans (slotJ [1, 10] (by rw [hsz]; decide) (by kernel_rfl))).trans (hF 1 (by decide))
      have e95 : ρ (.tmp 95) = .bool true := ((hρ 95).trans (slotJ [1, 10] (by rw [hsz]; decide) (by kernel_rfl))).trans (hF 10 (by decide))
      clear hρ hF hfun sl2 sl3 sl6 sl10 fin
      exact opv_val (by go_simp <;> rfl) ⟨gw_self _, rfl⟩
    · exact owes_mvj 11 96 (by kernel_rfl) (by kernel_rfl) (by kernel_rfl) (by kernel_rfl) (by rw [hsz]; decide) (fun v w h => h)
    · refine owes_vt 12 true (Go.Op.load 25 (Go.Operand.tmp 3)) 25 [] (by kernel_rfl) (by kernel_rfl) (by kernel_rfl) (fun _ _ h => h) (by rw [hsz]; kernel_rfl) (by kernel_rfl) rfl fun vals w1 ρ hG hF hρ hcst hfun => ?_
      have e3 : ρ (.tmp 3) = .pointer (some ⟨sb, 0, none⟩) := ((hρ 3).trans (slotO [] (by kernel_rfl))).trans sl3
      obtain ⟨d0, d1, _⟩ := hb.out w1 hG
      clear hρ hF hcst hfun sl2 sl3 sl6 sl10 fin
      exact opv_val (by go_simp <;> rfl) ⟨gw_self _, rfl⟩
    · refine owes_vt 12 true (Go.Op.load 25 (Go.Operand.tmp 2)) 25 [] (by kernel_rfl) (by kernel_rfl) (by kernel_rfl) (fun _ _ h => h) (by rw [hsz]; kernel_rfl) (by kernel_rfl) rfl fun vals w1 ρ hG hF hρ hcst hfun => ?_
      have e2 : ρ (.tmp 2) = .pointer (some ⟨sa, 0, none⟩) := ((hρ 2).trans (slotO [] (by kernel_rfl))).trans sl2
      obtain ⟨d0, d1, _⟩ := ha.out w1 hG
      clear hρ hF hcst hfun sl2 sl3 sl6 sl10 fin
      exact opv_val (by go_simp <;> rfl) ⟨gw_self _, rfl⟩
    · refine owes_vt 12 true (Go.Op.call { callee := Go.Callee.value (Go.Operand.func 24), args := #[Go.Operand.tmp 98, Go.Operand.tmp 99], argTypes := #[25, 25] }) 4 [13, 14] (by kernel_rfl) (by kernel_rfl) (by kernel_rfl) (fun _ _ h => h) (by rw [hsz]; kernel_rfl) (by kernel_rfl) rfl fun vals w1 ρ hG hF hρ hcst hfun => ?_
      have e98 : ρ (.tmp 98) = .agg #[.slice B K b1, .slice B2 L b2] := ((hρ 98).trans (slotJ [13, 14] (by rw [hsz]; decide) (by kernel_rfl))).trans (hF 13 (by decide))
      have e99 : ρ (.tmp 99) = .agg #[.slice A N a1, .slice A2 M a2] := ((hρ 99).trans (slotJ [13, 14] (by rw [hsz]; decide) (by kernel_rfl))).trans (hF 14 (by decide))
      clear hρ hF hcst sl2 sl3 sl6 sl10 fin
      exact opv_enter (by go_simp <;> rfl) (of_retK (eq_k hgb hga hfb hp2 (hb.out w1 hG).2.2 (ha.out w1 hG).2.2))
    · refine owes_vt 12 true (Go.Op.load 25 (Go.Operand.tmp 2)) 25 [] (by kernel_rfl) (by kernel_rfl) (by kernel_rfl) (fun _ _ h => h) (by rw [hsz]; kernel_rfl) (by kernel_rfl) rfl fun vals w1 ρ hG hF hρ hcst hfun => ?_
      have e2 : ρ (.tmp 2) = .pointer (some ⟨sa, 0, none⟩) := ((hρ 2).trans (slotO [] (by kernel_rfl))).trans sl2
      obtain ⟨d0, d1, _⟩ := ha.out w1 hG
      clear hρ hF hcst hfun sl2 sl3 sl6 sl10 fin
      exact opv_val (by go_simp <;> rfl) ⟨gw_self _, rfl⟩
    · refine owes_vt 12 true (Go.Op.load 25 (Go.Operand.tmp 3)) 25 [] (by kernel_rfl) (by kernel_rfl) (by kernel_rfl) (fun _ _ h => h) (by rw [hsz]; kernel_rfl) (by kernel_rfl) rfl fun vals w1 ρ hG hF hρ hcst hfun => ?_
      have e3 : ρ (.tmp 3) = .pointer (some ⟨sb, 0, none⟩) := ((hρ 3).trans (slotO [] (by kernel_rfl))).trans sl3
      obtain ⟨d0, d1, _⟩ := hb.out w1 hG
      clear hρ hF hcst hfun sl2 sl3 sl6 sl10 fin
      exact opv_val (by go_simp <;> rfl) ⟨gw_self _, rfl⟩
    · refine owes_vt 12 true (Go.Op.call { callee := Go.Callee.value (Go.Operand.func 24), args := #[Go.Operand.tmp 101, Go.Operand.tmp 102], argTypes := #[25, 25] }) 4 [16, 17] (by kernel_rfl) (by kernel_rfl) (by kernel_rfl) (fun _ _ h => h) (by rw [hsz]; kernel_rfl) (by kernel_rfl) rfl fun vals w1 ρ hG hF hρ hcst hfun => ?_
      have e101 : ρ (.tmp 101) = .agg #[.slice A N a1, .slice A2 M a2] := ((hρ 101).trans (slotJ [16, 17] (by rw [hsz]; decide) (by kernel_rfl))).trans (hF 16 (by decide))
      have e102 : ρ (.tmp 102) = .agg #[.slice B K b1, .slice B2 L b2] := ((hρ 102).trans (slotJ [16, 17] (by rw [hsz]; decide) (by kernel_rfl))).trans (hF 17 (by decide))
      clear hρ hF hcst sl2 sl3 sl6 sl10 fin
      exact opv_enter (by go_simp <;> rfl) (of_retK (eq_k hga hgb hfa hp1 (ha.out w1 hG).2.2 (hb.out w1 hG).2.2))
    · refine owes_vt 12 true (Go.Op.binOp Go.BinOp.eql 4 (Go.Operand.tmp 100) (Go.Operand.tmp 103) 4) 4 [15, 18] (by kernel_rfl) (by kernel_rfl) (by kernel_rfl) (fun _ _ h => h) (by rw [hsz]; kernel_rfl) (by kernel_rfl) rfl fun vals w1 ρ hG hF hρ hcst hfun => ?_
      have e100 : ρ (.tmp 100) = .bool p := ((hρ 100).trans (slotJ [15, 18] (by rw [hsz]; decide) (by kernel_rfl))).trans (hF 15 (by decide))
      have e103 : ρ (.tmp 103) = .bool p := ((hρ 103).trans (slotJ [15, 18] (by rw [hsz]; decide) (by kernel_rfl))).trans (hF 18 (by decide))
      clear hρ hF hcst hfun sl2 sl3 sl6 sl10 fin
      exact opv_val (by go_simp <;> rfl) ⟨gw_self _, rfl⟩
    · refine owes_v (Go.Op.pick (Go.Operand.tmp 97) (Go.Operand.tmp 104) (Go.Operand.const (Go.Value.bool false))) 4 [12, 19] (by kernel_rfl) (by kernel_rfl) (by kernel_rfl) rfl fun vals w1 ρ hG hF hρ hcst hfun => ?_
      have e97 : ρ (.tmp 97) = .bool true := ((hρ 97).trans (slotJ [12, 19] (by rw [hsz]; decide) (by kernel_rfl))).trans (hF 12 (by decide))
      have e104 : ρ (.tmp 104) = .bool true := ((hρ 104).trans (slotJ [12, 19] (by rw [hsz]; decide) (by kernel_rfl))).trans (hF 19 (by decide))
      clear hρ hF hfun sl2 sl3 sl6 sl10 fin
      exact opv_val (by go_simp <;> rfl) ⟨gw_self _, rfl⟩
    · exact owes_mvj 20 105 (by kernel_rfl) (by kernel_rfl) (by kernel_rfl) (by kernel_rfl) (by rw [hsz]; decide) (fun v w h => h)
    · refine owes_vt 21 true (Go.Op.load 25 (Go.Operand.tmp 10)) 25 [] (by kernel_rfl) (by kernel_rfl) (by kernel_rfl) (fun _ _ h => h) (by rw [hsz]; kernel_rfl) (by kernel_rfl) rfl fun vals w1 ρ hG hF hρ hcst hfun => ?_
      have e10 : ρ (.tmp 10) = .pointer (some ⟨sd, 0, none⟩) := ((hρ 10).trans (slotO [] (by kernel_rfl))).trans sl10
      obtain ⟨d0, d1, _⟩ := hd.out w1 hG
      clear hρ hF hcst hfun sl2 sl3 sl6 sl10 fin
      exact opv_val (by go_simp <;> rfl) ⟨gw_self _, rfl⟩
    · refine owes_vt 21 true (Go.Op.load 25 (Go.Operand.tmp 2)) 25 [] (by kernel_rfl) (by kernel_rfl) (by kernel_rfl) (fun _ _ h => h) (by rw [hsz]; kernel_rfl) (by kernel_rfl) rfl fun vals w1 ρ hG hF hρ hcst hfun => ?_
      have e2 : ρ (.tmp 2) = .pointer (some ⟨sa, 0, none⟩) := ((hρ 2).trans (slotO [] (by kernel_rfl))).trans sl2
      obtain ⟨d0, d1, _⟩ := ha.out w1 hG
      clear hρ hF hcst hfun sl2 sl3 sl6 sl10 fin
      exact opv_val (by go_simp <;> rfl) ⟨gw_self _, rfl⟩
    · refine owes_vt 21 true (Go.Op.call { callee := Go.Callee.value (Go.Operand.func 24), args := #[Go.Operand.tmp 107, Go.Operand.tmp 108], argTypes := #[25, 25] }) 4 [22, 23] (by kernel_rfl) (by kernel_rfl) (by kernel_rfl) (fun _ _ h => h) (by rw [hsz]; kernel_rfl) (by kernel_rfl) rfl fun vals w1 ρ hG hF hρ hcst hfun => ?_
      have e107 : ρ (.tmp 107) = .agg #[.slice D X d1, .slice D2 Y d2] := ((hρ 107).trans (slotJ [22, 23] (by rw [hsz]; decide) (by kernel_rfl))).trans (hF 22 (by decide))
      have e108 : ρ (.tmp 108) = .agg #[.slice A N a1, .slice A2 M a2] := ((hρ 108).trans (slotJ [22, 23] (by rw [hsz]; decide) (by kernel_rfl))).trans (hF 23 (by decide))
      clear hρ hF hcst sl2 sl3 sl6 sl10 fin
      exact opv_enter (by go_simp <;> rfl) (of_retK (eq_k hgd hga hfd hp3 (hd.out w1 hG).2.2 (ha.out w1 hG).2.2))
    · refine owes_v (Go.Op.pick (Go.Operand.tmp 106) (Go.Operand.tmp 109) (Go.Operand.const (Go.Value.bool false))) 4 [21, 24] (by kernel_rfl) (by kernel_rfl) (by kernel_rfl) rfl fun vals w1 ρ hG hF hρ hcst hfun => ?_
      have e106 : ρ (.tmp 106) = .bool true := ((hρ 106).trans (slotJ [21, 24] (by rw [hsz]; decide) (by kernel_rfl))).trans (hF 21 (by decide))
      have e109 : ρ (.tmp 109) = .bool true := ((hρ 109).trans (slotJ [21, 24] (by rw [hsz]; decide) (by kernel_rfl))).trans (hF 24 (by decide))
      clear hρ hF hfun sl2 sl3 sl6 sl10 fin
      exact opv_val (by go_simp <;> rfl) ⟨gw_self _, rfl⟩
    · exact owes_mvj 25 110 (by kernel_rfl) (by kernel_rfl) (by kernel_rfl) (by kernel_rfl) (by rw [hsz]; decide) (fun v w h => h)
    · refine owes_vt 26 true (Go.Op.load 25 (Go.Operand.tmp 2)) 25 [] (by kernel_rfl) (by kernel_rfl) (by kernel_rfl) (fun _ _ h => h) (by rw [hsz]; kernel_rfl) (by kernel_rfl) rfl fun vals w1 ρ hG hF hρ hcst hfun => ?_
      have e2 : ρ (.tmp 2) = .pointer (some ⟨sa, 0, none⟩) := ((hρ 2).trans (slotO [] (by kernel_rfl))).trans sl2
      obtain ⟨d0, d1, _⟩ := ha.out w1 hG
      clear hρ hF hcst hfun sl2 sl3 sl6 sl10 fin
      exact opv_val (by go_simp <;> rfl) ⟨gw_self _, rfl⟩
    · refine owes_vt 26 true (Go.Op.load 25 (Go.Operand.tmp 2)) 25 [] (by kernel_rfl) (by kernel_rfl) (by kernel_rfl) (fun _ _ h => h) (by rw [hsz]; kernel_rfl) (by kernel_rfl) rfl fun vals w1 ρ hG hF hρ hcst hfun => ?_
      have e2 : ρ (.tmp 2) = .pointer (some ⟨sa, 0, none⟩) := ((hρ 2).trans (slotO [] (by kernel_rfl))).trans sl2
      obtain ⟨d0, d1, _⟩ := ha.out w1 hG
      clear hρ hF hcst hfun sl2 sl3 sl6 sl10 fin
      exact opv_val (by go_simp <;> rfl) ⟨gw_self _, rfl⟩
    · refine owes_vt 26 true (Go.Op.call { callee := Go.Callee.value (Go.Operand.func 24), args := #[Go.Operand.tmp 112, Go.Operand.tmp 113], argTypes := #[25, 25] }) 4 [27, 28] (by kernel_rfl) (by kernel_rfl) (by kernel_rfl) (fun _ _ h => h) (by rw [hsz]; kernel_rfl) (by kernel_rfl) rfl fun vals w1 ρ hG hF hρ hcst hfun => ?_
      have e112 : ρ (.tmp 112) = .agg #[.slice A N a1, .slice A2 M a2] := ((hρ 112).trans (slotJ [27, 28] (by rw [hsz]; decide) (by kernel_rfl))).trans (hF 27 (by decide))
      have e113 : ρ (.tmp 113) = .agg #[.slice A N a1, .slice A2 M a2] := ((hρ 113).trans (slotJ [27, 28] (by rw [hsz]; decide) (by kernel_rfl))).trans (hF 28 (by decide))
      clear hρ hF hcst sl2 sl3 sl6 sl10 fin
      exact opv_enter (by go_simp <;> rfl) (of_retK (eq_k hga hga hfa hp4 (ha.out w1 hG).2.2 (ha.out w1 hG).2.2))
    · refine owes_v (Go.Op.pick (Go.Operand.tmp 111) (Go.Operand.tmp 114) (Go.Operand.const (Go.Value.bool false))) 4 [26, 29] (by kernel_rfl) (by kernel_rfl) (by kernel_rfl) rfl fun vals w1 ρ hG hF hρ hcst hfun => ?_
      have e111 : ρ (.tmp 111) = .bool true := ((hρ 111).trans (slotJ [26, 29] (by rw [hsz]; decide) (by kernel_rfl))).trans (hF 26 (by decide))
      have e114 : ρ (.tmp 114) = .bool true := ((hρ 114).trans (slotJ [26, 29] (by rw [hsz]; decide) (by kernel_rfl))).trans (hF 29 (by decide))
      clear hρ hF hfun sl2 sl3 sl6 sl10 fin
      exact opv_val (by go_simp <;> rfl) ⟨gw_self _, rfl⟩
    · exact owes_mvj 30 115 (by kernel_rfl) (by kernel_rfl) (by kernel_rfl) (by kernel_rfl) (by rw [hsz]; decide) (fun v w h => h)
  · intro vals w1 hG hF
    exact fin vals w1 hG (hF 31 (by decide +kernel))
/-- The twin that is written to. -/
structure TwoS (B sc : Nat) (w3 W : World) (C : Option Addr) (K c1 : Nat) (vr : Value) (xs : List Nv) : Prop where
  own : NOwn W B (.slice C K c1) xs
  len : xs.length = K
  sm : ∀ x ∈ xs, x.ps.length ≤ 70 ∧ x.bs.length ≤ 1100
  bk : Bk W sc 25 #[.slice C K c1, vr]
  bl : Below B w3 W
section
variable {B sc : Nat} {w3 W : World} {C : Option Addr} {K c1 : Nat} {vr : Value} {xs : List Nv} {i : Nat} {x : Nv} {q : Nat}
theorem TwoS.below {W' : World} (h : TwoS B sc w3 W C K c1 vr xs) (hB : B ≤ W.heap.size) (hb : Below W.heap.size W W') : TwoS B sc w3 W' C K c1 vr xs :=
  ⟨h.own.below hb, h.len, h.sm, h.bk.below hb h.bk.lt, h.bl.trans (hb.mono hB)⟩
theorem TwoS.setB (h : TwoS B sc w3 W C K c1 vr xs) (hx : xs[i]? = some x) {j : Nat} (hj : j < x.bs.length) (hA : x.D = some ⟨q, 0, none⟩) (z : BitVec 8) : TwoS B sc w3 (W.setCell ⟨q, j, none⟩ (b8 z)) C K c1 vr (xs.set i { x with bs := x.bs.set j z }) := by
  obtain ⟨hi, e⟩ := List.getElem?_eq_some_iff.1 hx
  have ho := (h.own.each x (by rw [← e]; exact List.getElem_mem hi)).2
  have hox := ho
  unfold Nv.vd at ho
  rw [hA] at ho
  obtain ⟨cs, m, hq⟩ := ow_blk2 ho
  have hne : q ≠ sc := type_ne2 hq h.bk (by decide)
  refine ⟨h.own.setB hx hj hA z, by rw [List.length_set]; exact h.len, fun y hy => ?_, h.bk.far (p := ⟨q, j, none⟩) (fun e2 => hne e2.symm) _, h.bl.setCell (p := ⟨q, j, none⟩) (ho.lt q rfl).1 _⟩
  rcases List.mem_or_eq_of_mem_set hy with hy | rfl
  · exact h.sm y hy
  · have := h.sm x (by rw [← e]; exact List.getElem_mem hi)
    simp only [List.length_set]
    exact this
theorem TwoS.setP (h : TwoS B sc w3 W C K c1 vr xs) (hx : xs[i]? = some x) {j : Nat} (hj : j < x.ps.length) (hA : x.A = some ⟨q, 0, none⟩) (z : Int) : TwoS B sc w3 (W.setCell ⟨q, j, none⟩ (iV z)) C K c1 vr (xs.set i { x with ps := x.ps.set j z }) := by
  obtain ⟨hi, e⟩ := List.getElem?_eq_some_iff.1 hx
  have ho := (h.own.each x (by rw [← e]; exact List.getElem_mem hi)).1
  unfold Nv.vp at ho
  rw [hA] at ho
  obtain ⟨cs, m, hq⟩ := ow_blk2 ho
  have hne : q ≠ sc := type_ne2 hq h.bk (by decide)
  refine ⟨h.own.setP hx hj hA z, by rw [List.length_set]; exact h.len, fun y hy => ?_, h.bk.far (p := ⟨q, j, none⟩) (fun e2 => hne e2.symm) _, h.bl.setCell (p := ⟨q, j, none⟩) (ho.lt q rfl).1 _⟩
  rcases List.mem_or_eq_of_mem_set hy with hy | rfl
  · exact h.sm y hy
  · have := h.sm x (by rw [← e]; exact List.getElem_mem hi)
    simp only [List.length_set]
    exact this
/-- A node of it, as it is read. -/
theorem TwoS.spot (h : TwoS B sc w3 W C K c1 vr xs) (hx : xs[i]? = some x) : ∃ ad, C = some ad ∧ (ad.add (i * 2)).block < W.heap.size ∧ W.cell? ⟨sc, 0, none⟩ = some (.slice C K c1) ∧ W.cell? (ad.add (i * 2)) = some x.vp ∧ W.cell? ⟨(ad.add (i * 2)).block, (ad.add (i * 2)).off + 1, none⟩ = some x.vd := by
  obtain ⟨hi, rfl⟩ := List.getElem?_eq_some_iff.1 hx
  obtain ⟨ad, e, h1, h2, h3, _⟩ := h.own.rows.1 i hi
  exact ⟨ad, e, cell_lt h2, h.bk.cell 0, h2, h3⟩
end
end Go.Proofs.Ytidaimcndbhefaa
