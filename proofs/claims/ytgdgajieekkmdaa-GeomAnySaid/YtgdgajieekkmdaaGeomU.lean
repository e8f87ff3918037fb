/- The last region of GeomAny. Conditions: the geometry may be. -/
import Derived.Test.YtgdgajieekkmdaaKnown4
import Derived.Test.YtgdgajieekkmdaaGeomT
namespace Go.Proofs.Ytgdgajieekkmdaa
set_option linter.unusedVariables false
set_option linter.unusedSimpArgs false
open Go.RowKit
set_option maxHeartbeats 400000
set_option maxRecDepth 100000
theorem any4_r (Q : Exit → Act → World → Prop) (a0 : Act) (w : World) (g h q : Nat) (s l n i x a b : Int) (hg : Bk w g 36 #[.int .i64 s, .int .i64 l, .int .i64 n]) (hx : Bk w h 37 #[.int .i64 s, .int .i64 l, .int .i64 n]) (hs : Bk w q 47 #[.int .i64 0, .int .i64 1, .int .i64 1, .int .i64 1]) (og : OkG s l n) (hsz : a0.tmps.size = 135) (sl1 : a0.tmps.getD 1 undef = .int .i64 i) (sl3 : a0.tmps.getD 3 undef = .int .i64 x) (sl4 : a0.tmps.getD 4 undef = .pointer (some ⟨g, 0, none⟩)) (sl9 : a0.tmps.getD 9 undef = .pointer (some ⟨h, 0, none⟩)) (sl11 : a0.tmps.getD 11 undef = .int .i64 a) (sl12 : a0.tmps.getD 12 undef = .int .i64 b) (sl13 : a0.tmps.getD 13 undef = .int .i64 a) (sl14 : a0.tmps.getD 14 undef = .int .i64 b) (sl15 : a0.tmps.getD 15 undef = .pointer (some ⟨q, 0, none⟩))
    (fin : ∀ (vals : Nat → Value) (w1 : World), Below w.heap.size w w1 → (IsV (.bool true)) (vals 64) w1 → Q .normal (putD vals [71, 72, 73, 74, 75, 76, 77, 78, 79, 80, 81, 82, 83, 84, 85, 86, 87, 88, 89, 90, 91, 92, 93, 94, 95, 96, 97, 98, 99, 100, 101, 102, 103, 104, 105, 106, 107, 108, 109, 110, 111, 112, 113, 114, 115, 116, 117, 118, 119, 120, 121, 122, 123, 124, 125, 126, 127, 128, 129, 130, 131, 132, 133, 134, 8] 0 a0) w1) :
    (Code.region 17 (regIn Try.f6 17) true).wp Try.prog Q a0 w := by
  refine region_by (G := fun w w1 => Below w.heap.size w w1) [IsV (gV s l n),
    IsV (.int .i64 (totG s l n)),
    IsV (gV s l n),
    IsV (.int .i64 (totG s l n)),
    IsV (.bool true),
    IsV (.bool true),
    IsV (gV s l n),
    IsV (plV (2, l)),
    IsV (gV s l n),
    IsV (plV (2, l)),
    IsV (.bool true),
    IsV (.bool true),
    IsV (.bool true),
    IsV (gV s l n),
    IsV (.int .i64 i),
    IsV (plV (spcG s l n i)),
    IsV (gV s l n),
    IsV (.int .i64 i),
    IsV (plV (spcG s l n i)),
    IsV (.bool true),
    IsV (.bool true),
    IsV (.bool true),
    IsV (.int .i64 a),
    IsV (.int .i64 a),
    IsV (.bool true),
    IsV (.bool true),
    IsV (.bool true),
    IsV (.int .i64 b),
    IsV (.int .i64 b),
    IsV (.bool true),
    IsV (.bool true),
    IsV (.bool true),
    IsV (gV s l n),
    IsV (.int .i64 x),
    IsV (.string (ownS s l n x)),
    IsV (gV s l n),
    IsV (.int .i64 x),
    IsV (.string (ownS s l n x)),
    IsV (.bool true),
    IsV (.bool true),
    IsV (.bool true),
    IsV (.pointer (some ⟨q, 0, none⟩)),
    IsV (.pointer (some ⟨q, 0, none⟩)),
    IsV (.int .i64 0),
    IsV (.bool true),
    IsV (.bool true),
    IsV (.bool true),
    IsV (.pointer (some ⟨q, 2, none⟩)),
    IsV (.pointer (some ⟨q, 2, none⟩)),
    IsV (.int .i64 1),
    IsV (.bool true),
    IsV (.bool true),
    IsV (.bool true),
    IsV (.pointer (some ⟨q, 0, none⟩)),
    IsV (.pointer (some ⟨q, 1, none⟩)),
    IsV (.int .i64 1),
    IsV (.bool true),
    IsV (.bool true),
    IsV (.bool true),
    IsV (.pointer (some ⟨q, 2, none⟩)),
    IsV (.pointer (some ⟨q, 3, none⟩)),
    IsV (.int .i64 1),
    IsV (.bool true),
    IsV (.bool true),
    IsV (.bool true)]
    [71, 72, 73, 74, 75, 76, 77, 78, 79, 80, 81, 82, 83, 84, 85, 86, 87, 88, 89, 90, 91, 92, 93, 94, 95, 96, 97, 98, 99, 100, 101, 102, 103, 104, 105, 106, 107, 108, 109, 110, 111, 112, 113, 114, 115, 116, 117, 118, 119, 120, 121, 122, 123, 124, 125, 126, 127, 128, 129, 130, 131, 132, 133, 134, 8] (by kernel_rfl) (Gw.drew _) Gw.trans (by rw [hsz]; kernel_rfl) (by kernel_rfl) ?_ ?_ ?_
  · intro f hf
    simp only [List.mem_cons, List.not_mem_nil, or_false] at hf
    rcases hf with rfl | rfl | rfl | rfl | rfl | rfl | rfl | rfl | rfl | rfl | rfl | rfl | rfl | rfl | rfl | rfl | rfl | rfl | rfl | rfl | rfl | rfl | rfl | rfl | rfl | rfl | rfl | rfl | rfl | rfl | rfl | rfl | rfl | rfl | rfl | rfl | rfl | rfl | rfl | rfl | rfl | rfl | rfl | rfl | rfl | rfl | rfl | rfl | rfl | rfl | rfl | rfl | rfl | rfl | rfl | rfl | rfl | rfl | rfl | rfl | rfl | rfl | rfl | rfl | rfl <;> intro v a b h g <;> first | exact IsV.mono h
  · refine ⟨?_, ?_, ?_, ?_, ?_, ?_, ?_, ?_, ?_, ?_, ?_, ?_, ?_, ?_, ?_, ?_, ?_, ?_, ?_, ?_, ?_, ?_, ?_, ?_, ?_, ?_, ?_, ?_, ?_, ?_, ?_, ?_, ?_, ?_, ?_, ?_, ?_, ?_, ?_, ?_, ?_, ?_, ?_, ?_, ?_, ?_, ?_, ?_, ?_, ?_, ?_, ?_, ?_, ?_, ?_, ?_, ?_, ?_, ?_, ?_, ?_, ?_, ?_, ?_, ?_, trivial⟩
    · refine owes_v (Go.Op.load 36 (Go.Operand.tmp 4)) 36 [] (by kernel_rfl) (by kernel_rfl) (by kernel_rfl) rfl fun vals w1 ρ hG hF hρ hcst hfun => ?_
      have e4 : ρ (.tmp 4) = .pointer (some ⟨g, 0, none⟩) := ((hρ 4).trans (slotO [] (by kernel_rfl))).trans sl4
      obtain ⟨k1, k2, k3⟩ := (hg.below hG hg.lt).three
      clear hρ hF hcst hfun sl1 sl3 sl4 sl9 sl11 sl12 sl13 sl14 sl15 fin
      exact opv_val (by go_simp <;> rfl) ⟨gw_self _, rfl⟩
    · refine owes_v (Go.Op.call { callee := Go.Callee.value (Go.Operand.func 30), args := #[Go.Operand.tmp 71], argTypes := #[36] }) 3 [0] (by kernel_rfl) (by kernel_rfl) (by kernel_rfl) rfl fun vals w1 ρ hG hF hρ hcst hfun => ?_
      have e71 : ρ (.tmp 71) = gV s l n := ((hρ 71).trans (slotJ [0] (by rw [hsz]; decide) (by kernel_rfl))).trans (hF 0 (by decide))
      clear hρ hF hcst sl1 sl3 sl4 sl9 sl11 sl12 sl13 sl14 sl15 fin
      exact opv_enter (by go_simp <;> rfl) (of_ret (sectors_c s l n w1 og))
    · refine owes_v (Go.Op.load 37 (Go.Operand.tmp 9)) 37 [] (by kernel_rfl) (by kernel_rfl) (by kernel_rfl) rfl fun vals w1 ρ hG hF hρ hcst hfun => ?_
      have e9 : ρ (.tmp 9) = .pointer (some ⟨h, 0, none⟩) := ((hρ 9).trans (slotO [] (by kernel_rfl))).trans sl9
      obtain ⟨k1, k2, k3⟩ := (hx.below hG hx.lt).three
      clear hρ hF hcst hfun sl1 sl3 sl4 sl9 sl11 sl12 sl13 sl14 sl15 fin
      exact opv_val (by go_simp <;> rfl) ⟨gw_self _, rfl⟩
    · refine owes_v (Go.Op.call { callee := Go.Callee.value (Go.Operand.func 31), args := #[Go.Operand.tmp 73], argTypes := #[37] }) 3 [2] (by kernel_rfl) (by kernel_rfl) (by kernel_rfl) rfl fun vals w1 ρ hG hF hρ hcst hfun => ?_
      have e73 : ρ (.tmp 73) = gV s l n := ((hρ 73).trans (slotJ [2] (by rw [hsz]; decide) (by kernel_rfl))).trans (hF 2 (by decide))
      clear hρ hF hcst sl1 sl3 sl4 sl9 sl11 sl12 sl13 sl14 sl15 fin
      exact opv_enter (by go_simp <;> rfl) (of_ret (rsec_c s l n w1 og.inb))
    · refine owes_v (Go.Op.binOp Go.BinOp.eql 3 (Go.Operand.tmp 72) (Go.Operand.tmp 74) 3) 4 [1, 3] (by kernel_rfl) (by kernel_rfl) (by kernel_rfl) rfl fun vals w1 ρ hG hF hρ hcst hfun => ?_
      have e72 : ρ (.tmp 72) = .int .i64 (totG s l n) := ((hρ 72).trans (slotJ [1, 3] (by rw [hsz]; decide) (by kernel_rfl))).trans (hF 1 (by decide))
      have e74 : ρ (.tmp 74) = .int .i64 (totG s l n) := ((hρ 74).trans (slotJ [1, 3] (by rw [hsz]; decide) (by kernel_rfl))).trans (hF 3 (by decide))
      clear hρ hF hcst hfun sl1 sl3 sl4 sl9 sl11 sl12 sl13 sl14 sl15 fin
      exact opv_val (by go_simp <;> rfl) ⟨gw_self _, rfl⟩
    · exact owes_mvj 4 75 (by kernel_rfl) (by kernel_rfl) (by kernel_rfl) (by kernel_rfl) (by rw [hsz]; decide) (fun v w h => h)
    · refine owes_vt 5 true (Go.Op.load 36 (Go.Operand.tmp 4)) 36 [] (by kernel_rfl) (by kernel_rfl) (by kernel_rfl) (fun _ _ h => h) (by rw [hsz]; kernel_rfl) (by kernel_rfl) rfl fun vals w1 ρ hG hF hρ hcst hfun => ?_
      have e4 : ρ (.tmp 4) = .pointer (some ⟨g, 0, none⟩) := ((hρ 4).trans (slotO [] (by kernel_rfl))).trans sl4
      obtain ⟨k1, k2, k3⟩ := (hg.below hG hg.lt).three
      clear hρ hF hcst hfun sl1 sl3 sl4 sl9 sl11 sl12 sl13 sl14 sl15 fin
      exact opv_val (by go_simp <;> rfl) ⟨gw_self _, rfl⟩
    · refine owes_vt 5 true (Go.Op.call { callee := Go.Callee.value (Go.Operand.func 33), args := #[Go.Operand.tmp 77], argTypes := #[36] }) 46 [6] (by kernel_rfl) (by kernel_rfl) (by kernel_rfl) (fun _ _ h => h) (by rw [hsz]; kernel_rfl) (by kernel_rfl) rfl fun vals w1 ρ hG hF hρ hcst hfun => ?_
      have e77 : ρ (.tmp 77) = gV s l n := ((hρ 77).trans (slotJ [6] (by rw [hsz]; decide) (by kernel_rfl))).trans (hF 6 (by decide))
      clear hρ hF hcst sl1 sl3 sl4 sl9 sl11 sl12 sl13 sl14 sl15 fin
      exact opv_enter (by go_simp <;> rfl) (of_ret (log_c s l n w1 og))
    · refine owes_vt 5 true (Go.Op.load 37 (Go.Operand.tmp 9)) 37 [] (by kernel_rfl) (by kernel_rfl) (by kernel_rfl) (fun _ _ h => h) (by rw [hsz]; kernel_rfl) (by kernel_rfl) rfl fun vals w1 ρ hG hF hρ hcst hfun => ?_
      have e9 : ρ (.tmp 9) = .pointer (some ⟨h, 0, none⟩) := ((hρ 9).trans (slotO [] (by kernel_rfl))).trans sl9
      obtain ⟨k1, k2, k3⟩ := (hx.below hG hx.lt).three
      clear hρ hF hcst hfun sl1 sl3 sl4 sl9 sl11 sl12 sl13 sl14 sl15 fin
      exact opv_val (by go_simp <;> rfl) ⟨gw_self _, rfl⟩
    · refine owes_vt 5 true (Go.Op.call { callee := Go.Callee.value (Go.Operand.func 34), args := #[Go.Operand.tmp 79], argTypes := #[37] }) 52 [8] (by kernel_rfl) (by kernel_rfl) (by kernel_rfl) (fun _ _ h => h) (by rw [hsz]; kernel_rfl) (by kernel_rfl) rfl fun vals w1 ρ hG hF hρ hcst hfun => ?_
      have e79 : ρ (.tmp 79) = gV s l n := ((hρ 79).trans (slotJ [8] (by rw [hsz]; decide) (by kernel_rfl))).trans (hF 8 (by decide))
      clear hρ hF hcst sl1 sl3 sl4 sl9 sl11 sl12 sl13 sl14 sl15 fin
      exact opv_enter (by go_simp <;> rfl) (of_ret (rlog_c s l n w1))
    · refine owes_vt 5 true (Go.Op.call { callee := Go.Callee.value (Go.Operand.func 32), args := #[Go.Operand.tmp 78, Go.Operand.tmp 80], argTypes := #[46, 52] }) 4 [7, 9] (by kernel_rfl) (by kernel_rfl) (by kernel_rfl) (fun _ _ h => h) (by rw [hsz]; kernel_rfl) (by kernel_rfl) rfl fun vals w1 ρ hG hF hρ hcst hfun => ?_
      have e78 : ρ (.tmp 78) = plV (2, l) := ((hρ 78).trans (slotJ [7, 9] (by rw [hsz]; decide) (by kernel_rfl))).trans (hF 7 (by decide))
      have e80 : ρ (.tmp 80) = plV (2, l) := ((hρ 80).trans (slotJ [7, 9] (by rw [hsz]; decide) (by kernel_rfl))).trans (hF 9 (by decide))
      clear hρ hF hcst sl1 sl3 sl4 sl9 sl11 sl12 sl13 sl14 sl15 fin
      exact opv_enter (by go_simp <;> rfl) (of_ret (same_c (2, l) w1))
    · refine owes_v (Go.Op.pick (Go.Operand.tmp 76) (Go.Operand.tmp 81) (Go.Operand.const (Go.Value.bool false))) 4 [5, 10] (by kernel_rfl) (by kernel_rfl) (by kernel_rfl) rfl fun vals w1 ρ hG hF hρ hcst hfun => ?_
      have e76 : ρ (.tmp 76) = .bool true := ((hρ 76).trans (slotJ [5, 10] (by rw [hsz]; decide) (by kernel_rfl))).trans (hF 5 (by decide))
      have e81 : ρ (.tmp 81) = .bool true := ((hρ 81).trans (slotJ [5, 10] (by rw [hsz]; decide) (by kernel_rfl))).trans (hF 10 (by decide))
      clear hρ hF hfun sl1 sl3 sl4 sl9 sl11 sl12 sl13 sl14 sl15 fin
      exact opv_val (by go_simp <;> rfl) ⟨gw_self _, rfl⟩
    · exact owes_mvj 11 82 (by kernel_rfl) (by kernel_rfl) (by kernel_rfl) (by kernel_rfl) (by rw [hsz]; decide) (fun v w h => h)
    · refine owes_vt 12 true (Go.Op.load 36 (Go.Operand.tmp 4)) 36 [] (by kernel_rfl) (by kernel_rfl) (by kernel_rfl) (fun _ _ h => h) (by rw [hsz]; kernel_rfl) (by kernel_rfl) rfl fun vals w1 ρ hG hF hρ hcst hfun => ?_
      have e4 : ρ (.tmp 4) = .pointer (some ⟨g, 0, none⟩) := ((hρ 4).trans (slotO [] (by kernel_rfl))).trans sl4
      obtain ⟨k1, k2, k3⟩ := (hg.below hG hg.lt).three
      clear hρ hF hcst hfun sl1 sl3 sl4 sl9 sl11 sl12 sl13 sl14 sl15 fin
      exact opv_val (by go_simp <;> rfl) ⟨gw_self _, rfl⟩
    · refine owes_vt 12 true (Go.Op.move (Go.Operand.tmp 1)) 3 [] (by kernel_rfl) (by kernel_rfl) (by kernel_rfl) (fun _ _ h => h) (by rw [hsz]; kernel_rfl) (by kernel_rfl) rfl fun vals w1 ρ hG hF hρ hcst hfun => ?_
      have e1 : ρ (.tmp 1) = .int .i64 i := ((hρ 1).trans (slotO [] (by kernel_rfl))).trans sl1
      clear hρ hF hcst hfun sl1 sl3 sl4 sl9 sl11 sl12 sl13 sl14 sl15 fin
      exact opv_val (by go_simp <;> rfl) ⟨gw_self _, rfl⟩
    · refine owes_vt 12 true (Go.Op.call { callee := Go.Callee.value (Go.Operand.func 35), args := #[Go.Operand.tmp 84, Go.Operand.tmp 85], argTypes := #[36, 3] }) 46 [13, 14] (by kernel_rfl) (by kernel_rfl) (by kernel_rfl) (fun _ _ h => h) (by rw [hsz]; kernel_rfl) (by kernel_rfl) rfl fun vals w1 ρ hG hF hρ hcst hfun => ?_
      have e84 : ρ (.tmp 84) = gV s l n := ((hρ 84).trans (slotJ [13, 14] (by rw [hsz]; decide) (by kernel_rfl))).trans (hF 13 (by decide))
      have e85 : ρ (.tmp 85) = .int .i64 i := ((hρ 85).trans (slotJ [13, 14] (by rw [hsz]; decide) (by kernel_rfl))).trans (hF 14 (by decide))
      clear hρ hF hcst sl1 sl3 sl4 sl9 sl11 sl12 sl13 sl14 sl15 fin
      exact opv_enter (by go_simp <;> rfl) (of_ret (space_c s l n i w1 og))
    · refine owes_vt 12 true (Go.Op.load 37 (Go.Operand.tmp 9)) 37 [] (by kernel_rfl) (by kernel_rfl) (by kernel_rfl) (fun _ _ h => h) (by rw [hsz]; kernel_rfl) (by kernel_rfl) rfl fun vals w1 ρ hG hF hρ hcst hfun => ?_
      have e9 : ρ (.tmp 9) = .pointer (some ⟨h, 0, none⟩) := ((hρ 9).trans (slotO [] (by kernel_rfl))).trans sl9
      obtain ⟨k1, k2, k3⟩ := (hx.below hG hx.lt).three
      clear hρ hF hcst hfun sl1 sl3 sl4 sl9 sl11 sl12 sl13 sl14 sl15 fin
      exact opv_val (by go_simp <;> rfl) ⟨gw_self _, rfl⟩
    · refine owes_vt 12 true (Go.Op.move (Go.Operand.tmp 1)) 3 [] (by kernel_rfl) (by kernel_rfl) (by kernel_rfl) (fun _ _ h => h) (by rw [hsz]; kernel_rfl) (by kernel_rfl) rfl fun vals w1 ρ hG hF hρ hcst hfun => ?_
      have e1 : ρ (.tmp 1) = .int .i64 i := ((hρ 1).trans (slotO [] (by kernel_rfl))).trans sl1
      clear hρ hF hcst hfun sl1 sl3 sl4 sl9 sl11 sl12 sl13 sl14 sl15 fin
      exact opv_val (by go_simp <;> rfl) ⟨gw_self _, rfl⟩
    · refine owes_vt 12 true (Go.Op.call { callee := Go.Callee.value (Go.Operand.func 36), args := #[Go.Operand.tmp 87, Go.Operand.tmp 88], argTypes := #[37, 3] }) 52 [16, 17] (by kernel_rfl) (by kernel_rfl) (by kernel_rfl) (fun _ _ h => h) (by rw [hsz]; kernel_rfl) (by kernel_rfl) rfl fun vals w1 ρ hG hF hρ hcst hfun => ?_
      have e87 : ρ (.tmp 87) = gV s l n := ((hρ 87).trans (slotJ [16, 17] (by rw [hsz]; decide) (by kernel_rfl))).trans (hF 16 (by decide))
      have e88 : ρ (.tmp 88) = .int .i64 i := ((hρ 88).trans (slotJ [16, 17] (by rw [hsz]; decide) (by kernel_rfl))).trans (hF 17 (by decide))
      clear hρ hF hcst sl1 sl3 sl4 sl9 sl11 sl12 sl13 sl14 sl15 fin
      exact opv_enter (by go_simp <;> rfl) (of_ret (rspace_c s l n i w1 og))
    · refine owes_vt 12 true (Go.Op.call { callee := Go.Callee.value (Go.Operand.func 32), args := #[Go.Operand.tmp 86, Go.Operand.tmp 89], argTypes := #[46, 52] }) 4 [15, 18] (by kernel_rfl) (by kernel_rfl) (by kernel_rfl) (fun _ _ h => h) (by rw [hsz]; kernel_rfl) (by kernel_rfl) rfl fun vals w1 ρ hG hF hρ hcst hfun => ?_
      have e86 : ρ (.tmp 86) = plV (spcG s l n i) := ((hρ 86).trans (slotJ [15, 18] (by rw [hsz]; decide) (by kernel_rfl))).trans (hF 15 (by decide))
      have e89 : ρ (.tmp 89) = plV (spcG s l n i) := ((hρ 89).trans (slotJ [15, 18] (by rw [hsz]; decide) (by kernel_rfl))).trans (hF 18 (by decide))
      clear hρ hF hcst sl1 sl3 sl4 sl9 sl11 sl12 sl13 sl14 sl15 fin
      exact opv_enter (by go_simp <;> rfl) (of_ret (same_c (spcG s l n i) w1))
    · refine owes_v (Go.Op.pick (Go.Operand.tmp 83) (Go.Operand.tmp 90) (Go.Operand.const (Go.Value.bool false))) 4 [12, 19] (by kernel_rfl) (by kernel_rfl) (by kernel_rfl) rfl fun vals w1 ρ hG hF hρ hcst hfun => ?_
      have e83 : ρ (.tmp 83) = .bool true := ((hρ 83).trans (slotJ [12, 19] (by rw [hsz]; decide) (by kernel_rfl))).trans (hF 12 (by decide))
      have e90 : ρ (.tmp 90) = .bool true := ((hρ 90).trans (slotJ [12, 19] (by rw [hsz]; decide) (by kernel_rfl))).trans (hF 19 (by decide))
      clear hρ hF hfun sl1 sl3 sl4 sl9 sl11 sl12 sl13 sl14 sl15 fin
      exact opv_val (by go_simp <;> rfl) ⟨gw_self _, rfl⟩
    · exact owes_mvj 20 91 (by kernel_rfl) (by kernel_rfl) (by kernel_rfl) (by kernel_rfl) (by rw [hsz]; decide) (fun v w h => h)
    · refine owes_vt 21 true (Go.Op.move (Go.Operand.tmp 11)) 3 [] (by kernel_rfl) (by kernel_rfl) (by kernel_rfl) (fun _ _ h => h) (by rw [hsz]; kernel_rfl) (by kernel_rfl) rfl fun vals w1 ρ hG hF hρ hcst hfun => ?_
      have e11 : ρ (.tmp 11) = .int .i64 a := ((hρ 11).trans (slotO [] (by kernel_rfl))).trans sl11
      clear hρ hF hcst hfun sl1 sl3 sl4 sl9 sl11 sl12 sl13 sl14 sl15 fin
      exact opv_val (by go_simp <;> rfl) ⟨gw_self _, rfl⟩
    · refine owes_vt 21 true (Go.Op.move (Go.Operand.tmp 13)) 3 [] (by kernel_rfl) (by kernel_rfl) (by kernel_rfl) (fun _ _ h => h) (by rw [hsz]; kernel_rfl) (by kernel_rfl) rfl fun vals w1 ρ hG hF hρ hcst hfun => ?_
      have e13 : ρ (.tmp 13) = .int .i64 a := ((hρ 13).trans (slotO [] (by kernel_rfl))).trans sl13
      clear hρ hF hcst hfun sl1 sl3 sl4 sl9 sl11 sl12 sl13 sl14 sl15 fin
      exact opv_val (by go_simp <;> rfl) ⟨gw_self _, rfl⟩
    · refine owes_vt 21 true (Go.Op.binOp Go.BinOp.eql 3 (Go.Operand.tmp 93) (Go.Operand.tmp 94) 3) 4 [22, 23] (by kernel_rfl) (by kernel_rfl) (by kernel_rfl) (fun _ _ h => h) (by rw [hsz]; kernel_rfl) (by kernel_rfl) rfl fun vals w1 ρ hG hF hρ hcst hfun => ?_
      have e93 : ρ (.tmp 93) = .int .i64 a := ((hρ 93).trans (slotJ [22, 23] (by rw [hsz]; decide) (by kernel_rfl))).trans (hF 22 (by decide))
      have e94 : ρ (.tmp 94) = .int .i64 a := ((hρ 94).trans (slotJ [22, 23] (by rw [hsz]; decide) (by kernel_rfl))).trans (hF 23 (by decide))
      clear hρ hF hcst hfun sl1 sl3 sl4 sl9 sl11 sl12 sl13 sl14 sl15 fin
      exact opv_val (by go_simp <;> rfl) ⟨gw_self _, rfl⟩
    · refine owes_v (Go.Op.pick (Go.Operand.tmp 92) (Go.Operand.tmp 95) (Go.Operand.const (Go.Value.bool false))) 4 [21, 24] (by kernel_rfl) (by kernel_rfl) (by kernel_rfl) rfl fun vals w1 ρ hG hF hρ hcst hfun => ?_
      have e92 : ρ (.tmp 92) = .bool true := ((hρ 92).trans (slotJ [21, 24] (by rw [hsz]; decide) (by kernel_rfl))).trans (hF 21 (by decide))
      have e95 : ρ (.tmp 95) = .bool true := ((hρ 95).trans (slotJ [21, 24] (by rw [hsz]; decide) (by kernel_rfl))).trans (hF 24 (by decide))
      clear hρ hF hfun sl1 sl3 sl4 sl9 sl11 sl12 sl13 sl14 sl15 fin
      exact opv_val (by go_simp <;> rfl) ⟨gw_self _, rfl⟩
    · exact owes_mvj 25 96 (by kernel_rfl) (by kernel_rfl) (by kernel_rfl) (by kernel_rfl) (by rw [hsz]; decide) (fun v w h => h)
    · refine owes_vt 26 true (Go.Op.move (Go.Operand.tmp 12)) 3 [] (by kernel_rfl) (by kernel_rfl) (by kernel_rfl) (fun _ _ h => h) (by rw [hsz]; kernel_rfl) (by kernel_rfl) rfl fun vals w1 ρ hG hF hρ hcst hfun => ?_
      have e12 : ρ (.tmp 12) = .int .i64 b := ((hρ 12).trans (slotO [] (by kernel_rfl))).trans sl12
      clear hρ hF hcst hfun sl1 sl3 sl4 sl9 sl11 sl12 sl13 sl14 sl15 fin
      exact opv_val (by go_simp <;> rfl) ⟨gw_self _, rfl⟩
    · refine owes_vt 26 true (Go.Op.move (Go.Operand.tmp 14)) 3 [] (by kernel_rfl) (by kernel_rfl) (by kernel_rfl) (fun _ _ h => h) (by rw [hsz]; kernel_rfl) (by kernel_rfl) rfl fun vals w1 ρ hG hF hρ hcst hfun => ?_
      have e14 : ρ (.tmp 14) = .int .i64 b := ((hρ 14).trans (slotO [] (by kernel_rfl))).trans sl14
      clear hρ hF hcst hfun sl1 sl3 sl4 sl9 sl11 sl12 sl13 sl14 sl15 fin
      exact opv_val (by go_simp <;> rfl) ⟨gw_self _, rfl⟩
    · refine owes_vt 26 true (Go.Op.binOp Go.BinOp.eql 3 (Go.Operand.tmp 98) (Go.Operand.tmp 99) 3) 4 [27, 28] (by kernel_rfl) (by kernel_rfl) (by kernel_rfl) (fun _ _ h => h) (by rw [hsz]; kernel_rfl) (by kernel_rfl) rfl fun vals w1 ρ hG hF hρ hcst hfun => ?_
      have e98 : ρ (.tmp 98) = .int .i64 b := ((hρ 98).trans (slotJ [27, 28] (by rw [hsz]; decide) (by kernel_rfl))).trans (hF 27 (by decide))
      have e99 : ρ (.tmp 99) = .int .i64 b := ((hρ 99).trans (slotJ [27, 28] (by rw [hsz]; decide) (by kernel_rfl))).trans (hF 28 (by decide))
      clear hρ hF hcst hfun sl1 sl3 sl4 sl9 sl11 sl12 sl13 sl14 sl15 fin
      exact opv_val (by go_simp <;> rfl) ⟨gw_self _, rfl⟩
    · refine owes_v (Go.Op.pick (Go.Operand.tmp 97) (Go.Operand.tmp 100) (Go.Operand.const (Go.Value.bool false))) 4 [26, 29] (by kernel_rfl) (by kernel_rfl) (by kernel_rfl) rfl fun vals w1 ρ hG hF hρ hcst hfun => ?_
      have e97 : ρ (.tmp 97) = .bool true := ((hρ 97).trans (slotJ [26, 29] (by rw [hsz]; decide) (by kernel_rfl))).trans (hF 26 (by decide))
      have e100 : ρ (.tmp 100) = .bool true := ((hρ 100).trans (slotJ [26, 29] (by rw [hsz]; decide) (by kernel_rfl))).trans (hF 29 (by decide))
      clear hρ hF hfun sl1 sl3 sl4 sl9 sl11 sl12 sl13 sl14 sl15 fin
      exact opv_val (by go_simp <;> rfl) ⟨gw_self _, rfl⟩
    · exact owes_mvj 30 101 (by kernel_rfl) (by kernel_rfl) (by kernel_rfl) (by kernel_rfl) (by rw [hsz]; decide) (fun v w h => h)
    · refine owes_vt 31 true (Go.Op.load 36 (Go.Operand.tmp 4)) 36 [] (by kernel_rfl) (by kernel_rfl) (by kernel_rfl) (fun _ _ h => h) (by rw [hsz]; kernel_rfl) (by kernel_rfl) rfl fun vals w1 ρ hG hF hρ hcst hfun => ?_
      have e4 : ρ (.tmp 4) = .pointer (some ⟨g, 0, none⟩) := ((hρ 4).trans (slotO [] (by kernel_rfl))).trans sl4
      obtain ⟨k1, k2, k3⟩ := (hg.below hG hg.lt).three
      clear hρ hF hcst hfun sl1 sl3 sl4 sl9 sl11 sl12 sl13 sl14 sl15 fin
      exact opv_val (by go_simp <;> rfl) ⟨gw_self _, rfl⟩
    · refine owes_vt 31 true (Go.Op.move (Go.Operand.tmp 3)) 3 [] (by kernel_rfl) (by kernel_rfl) (by kernel_rfl) (fun _ _ h => h) (by rw [hsz]; kernel_rfl) (by kernel_rfl) rfl fun vals w1 ρ hG hF hρ hcst hfun => ?_
      have e3 : ρ (.tmp 3) = .int .i64 x := ((hρ 3).trans (slotO [] (by kernel_rfl))).trans sl3
      clear hρ hF hcst hfun sl1 sl3 sl4 sl9 sl11 sl12 sl13 sl14 sl15 fin
      exact opv_val (by go_simp <;> rfl) ⟨gw_self _, rfl⟩
    · refine owes_vt 31 true (Go.Op.call { callee := Go.Callee.value (Go.Operand.func 37), args := #[Go.Operand.tmp 103, Go.Operand.tmp 104], argTypes := #[36, 3] }) 9 [32, 33] (by kernel_rfl) (by kernel_rfl) (by kernel_rfl) (fun _ _ h => h) (by rw [hsz]; kernel_rfl) (by kernel_rfl) rfl fun vals w1 ρ hG hF hρ hcst hfun => ?_
      have e103 : ρ (.tmp 103) = gV s l n := ((hρ 103).trans (slotJ [32, 33] (by rw [hsz]; decide) (by kernel_rfl))).trans (hF 32 (by decide))
      have e104 : ρ (.tmp 104) = .int .i64 x := ((hρ 104).trans (slotJ [32, 33] (by rw [hsz]; decide) (by kernel_rfl))).trans (hF 33 (by decide))
      clear hρ hF hcst sl1 sl3 sl4 sl9 sl11 sl12 sl13 sl14 sl15 fin
      exact opv_enter (by go_simp <;> rfl) (of_ret (owner_c s l n x w1 og))
    · refine owes_vt 31 true (Go.Op.load 37 (Go.Operand.tmp 9)) 37 [] (by kernel_rfl) (by kernel_rfl) (by kernel_rfl) (fun _ _ h => h) (by rw [hsz]; kernel_rfl) (by kernel_rfl) rfl fun vals w1 ρ hG hF hρ hcst hfun => ?_
      have e9 : ρ (.tmp 9) = .pointer (some ⟨h, 0, none⟩) := ((hρ 9).trans (slotO [] (by kernel_rfl))).trans sl9
      obtain ⟨k1, k2, k3⟩ := (hx.below hG hx.lt).three
      clear hρ hF hcst hfun sl1 sl3 sl4 sl9 sl11 sl12 sl13 sl14 sl15 fin
      exact opv_val (by go_simp <;> rfl) ⟨gw_self _, rfl⟩
    · refine owes_vt 31 true (Go.Op.move (Go.Operand.tmp 3)) 3 [] (by kernel_rfl) (by kernel_rfl) (by kernel_rfl) (fun _ _ h => h) (by rw [hsz]; kernel_rfl) (by kernel_rfl) rfl fun vals w1 ρ hG hF hρ hcst hfun => ?_
      have e3 : ρ (.tmp 3) = .int .i64 x := ((hρ 3).trans (slotO [] (by kernel_rfl))).trans sl3
      clear hρ hF hcst hfun sl1 sl3 sl4 sl9 sl11 sl12 sl13 sl14 sl15 fin
      exact opv_val (by go_simp <;> rfl) ⟨gw_self _, rfl⟩
    · refine owes_vt 31 true (Go.Op.call { callee := Go.Callee.value (Go.Operand.func 38), args := #[Go.Operand.tmp 106, Go.Operand.tmp 107], argTypes := #[37, 3] }) 9 [35, 36] (by kernel_rfl) (by kernel_rfl) (by kernel_rfl) (fun _ _ h => h) (by rw [hsz]; kernel_rfl) (by kernel_rfl) rfl fun vals w1 ρ hG hF hρ hcst hfun => ?_
      have e106 : ρ (.tmp 106) = gV s l n := ((hρ 106).trans (slotJ [35, 36] (by rw [hsz]; decide) (by kernel_rfl))).trans (hF 35 (by decide))
      have e107 : ρ (.tmp 107) = .int .i64 x := ((hρ 107).trans (slotJ [35, 36] (by rw [hsz]; decide) (by kernel_rfl))).trans (hF 36 (by decide))
      clear hρ hF hcst sl1 sl3 sl4 sl9 sl11 sl12 sl13 sl14 sl15 fin
      exact opv_enter (by go_simp <;> rfl) (of_ret (rowner_c s l n x w1 og))
    · refine owes_vt 31 true (Go.Op.binOp Go.BinOp.eql 9 (Go.Operand.tmp 105) (Go.Operand.tmp 108) 9) 4 [34, 37] (by kernel_rfl) (by kernel_rfl) (by kernel_rfl) (fun _ _ h => h) (by rw [hsz]; kernel_rfl) (by kernel_rfl) rfl fun vals w1 ρ hG hF hρ hcst hfun => ?_
      have e105 : ρ (.tmp 105) = .string (ownS s l n x) := ((hρ 105).trans (slotJ [34, 37] (by rw [hsz]; decide) (by kernel_rfl))).trans (hF 34 (by decide))
      have e108 : ρ (.tmp 108) = .string (ownS s l n x) := ((hρ 108).trans (slotJ [34, 37] (by rw [hsz]; decide) (by kernel_rfl))).trans (hF 37 (by decide))
      clear hρ hF hcst hfun sl1 sl3 sl4 sl9 sl11 sl12 sl13 sl14 sl15 fin
      exact opv_val (by go_simp <;> rfl) ⟨gw_self _, rfl⟩
    · refine owes_v (Go.Op.pick (Go.Operand.tmp 102) (Go.Operand.tmp 109) (Go.Operand.const (Go.Value.bool false))) 4 [31, 38] (by kernel_rfl) (by kernel_rfl) (by kernel_rfl) rfl fun vals w1 ρ hG hF hρ hcst hfun => ?_
      have e102 : ρ (.tmp 102) = .bool true := ((hρ 102).trans (slotJ [31, 38] (by rw [hsz]; decide) (by kernel_rfl))).trans (hF 31 (by decide))
      have e109 : ρ (.tmp 109) = .bool true := ((hρ 109).trans (slotJ [31, 38] (by rw [hsz]; decide) (by kernel_rfl))).trans (hF 38 (by decide))
      clear hρ hF hfun sl1 sl3 sl4 sl9 sl11 sl12 sl13 sl14 sl15 fin
      exact opv_val (by go_simp <;> rfl) ⟨gw_self _, rfl⟩
    · exact owes_mvj 39 110 (by kernel_rfl) (by kernel_rfl) (by kernel_rfl) (by kernel_rfl) (by rw [hsz]; decide) (fun v w h => h)
    · refine owes_vt 40 true (Go.Op.indexAddr 47 (Go.Operand.tmp 15) (Go.Operand.const (Go.Value.int Go.IntKind.i64 0))) 0 [] (by kernel_rfl) (by kernel_rfl) (by kernel_rfl) (fun _ _ h => h) (by rw [hsz]; kernel_rfl) (by kernel_rfl) rfl fun vals w1 ρ hG hF hρ hcst hfun => ?_
      have e15 : ρ (.tmp 15) = .pointer (some ⟨q, 0, none⟩) := ((hρ 15).trans (slotO [] (by kernel_rfl))).trans sl15
      clear hρ hF hfun sl1 sl3 sl4 sl9 sl11 sl12 sl13 sl14 sl15 fin
      exact opv_val (by go_simp <;> rfl) ⟨gw_self _, rfl⟩
    · refine owes_vt 40 true (Go.Op.fieldAddr 46 (Go.Operand.tmp 112) 0) 0 [41] (by kernel_rfl) (by kernel_rfl) (by kernel_rfl) (fun _ _ h => h) (by rw [hsz]; kernel_rfl) (by kernel_rfl) rfl fun vals w1 ρ hG hF hρ hcst hfun => ?_
      have e112 : ρ (.tmp 112) = .pointer (some ⟨q, 0, none⟩) := ((hρ 112).trans (slotJ [41] (by rw [hsz]; decide) (by kernel_rfl))).trans (hF 41 (by decide))
      clear hρ hF hcst hfun sl1 sl3 sl4 sl9 sl11 sl12 sl13 sl14 sl15 fin
      exact opv_val (by go_simp <;> rfl) ⟨gw_self _, rfl⟩
    · refine owes_vt 40 true (Go.Op.load 3 (Go.Operand.tmp 113)) 3 [42] (by kernel_rfl) (by kernel_rfl) (by kernel_rfl) (fun _ _ h => h) (by rw [hsz]; kernel_rfl) (by kernel_rfl) rfl fun vals w1 ρ hG hF hρ hcst hfun => ?_
      have e113 : ρ (.tmp 113) = .pointer (some ⟨q, 0, none⟩) := ((hρ 113).trans (slotJ [42] (by rw [hsz]; decide) (by kernel_rfl))).trans (hF 42 (by decide))
      obtain ⟨k1, k2, k3, k4⟩ := (hs.below hG hs.lt).four
      clear hρ hF hcst hfun sl1 sl3 sl4 sl9 sl11 sl12 sl13 sl14 sl15 fin
      exact opv_val (by go_simp <;> rfl) ⟨gw_self _, rfl⟩
    · refine owes_vt 40 true (Go.Op.binOp Go.BinOp.eql 3 (Go.Operand.tmp 114) (Go.Operand.const (Go.Value.int Go.IntKind.i64 0)) 3) 4 [43] (by kernel_rfl) (by kernel_rfl) (by kernel_rfl) (fun _ _ h => h) (by rw [hsz]; kernel_rfl) (by kernel_rfl) rfl fun vals w1 ρ hG hF hρ hcst hfun => ?_
      have e114 : ρ (.tmp 114) = .int .i64 0 := ((hρ 114).trans (slotJ [43] (by rw [hsz]; decide) (by kernel_rfl))).trans (hF 43 (by decide))
      clear hρ hF hfun sl1 sl3 sl4 sl9 sl11 sl12 sl13 sl14 sl15 fin
      exact opv_val (by go_simp <;> rfl) ⟨gw_self _, rfl⟩
    · refine owes_v (Go.Op.pick (Go.Operand.tmp 111) (Go.Operand.tmp 115) (Go.Operand.const (Go.Value.bool false))) 4 [40, 44] (by kernel_rfl) (by kernel_rfl) (by kernel_rfl) rfl fun vals w1 ρ hG hF hρ hcst hfun => ?_
      have e111 : ρ (.tmp 111) = .bool true := ((hρ 111).trans (slotJ [40, 44] (by rw [hsz]; decide) (by kernel_rfl))).trans (hF 40 (by decide))
      have e115 : ρ (.tmp 115) = .bool true := ((hρ 115).trans (slotJ [40, 44] (by rw [hsz]; decide) (by kernel_rfl))).trans (hF 44 (by decide))
      clear hρ hF hfun sl1 sl3 sl4 sl9 sl11 sl12 sl13 sl14 sl15 fin
      exact opv_val (by go_simp <;> rfl) ⟨gw_self _, rfl⟩
    · exact owes_mvj 45 116 (by kernel_rfl) (by kernel_rfl) (by kernel_rfl) (by kernel_rfl) (by rw [hsz]; decide) (fun v w h => h)
    · refine owes_vt 46 true (Go.Op.indexAddr 47 (Go.Operand.tmp 15) (Go.Operand.const (Go.Value.int Go.IntKind.i64 1))) 0 [] (by kernel_rfl) (by kernel_rfl) (by kernel_rfl) (fun _ _ h => h) (by rw [hsz]; kernel_rfl) (by kernel_rfl) rfl fun vals w1 ρ hG hF hρ hcst hfun => ?_
      have e15 : ρ (.tmp 15) = .pointer (some ⟨q, 0, none⟩) := ((hρ 15).trans (slotO [] (by kernel_rfl))).trans sl15
      clear hρ hF hfun sl1 sl3 sl4 sl9 sl11 sl12 sl13 sl14 sl15 fin
      exact opv_val (by go_simp <;> rfl) ⟨gw_self _, rfl⟩
    · refine owes_vt 46 true (Go.Op.fieldAddr 46 (Go.Operand.tmp 118) 0) 0 [47] (by kernel_rfl) (by kernel_rfl) (by kernel_rfl) (fun _ _ h => h) (by rw [hsz]; kernel_rfl) (by kernel_rfl) rfl fun vals w1 ρ hG hF hρ hcst hfun => ?_
      have e118 : ρ (.tmp 118) = .pointer (some ⟨q, 2, none⟩) := ((hρ 118).trans (slotJ [47] (by rw [hsz]; decide) (by kernel_rfl))).trans (hF 47 (by decide))
      clear hρ hF hcst hfun sl1 sl3 sl4 sl9 sl11 sl12 sl13 sl14 sl15 fin
      exact opv_val (by go_simp <;> rfl) ⟨gw_self _, rfl⟩
    · refine owes_vt 46 true (Go.Op.load 3 (Go.Operand.tmp 119)) 3 [48] (by kernel_rfl) (by kernel_rfl) (by kernel_rfl) (fun _ _ h => h) (by rw [hsz]; kernel_rfl) (by kernel_rfl) rfl fun vals w1 ρ hG hF hρ hcst hfun => ?_
      have e119 : ρ (.tmp 119) = .pointer (some ⟨q, 2, none⟩) := ((hρ 119).trans (slotJ [48] (by rw [hsz]; decide) (by kernel_rfl))).trans (hF 48 (by decide))
      obtain ⟨k1, k2, k3, k4⟩ := (hs.below hG hs.lt).four
      clear hρ hF hcst hfun sl1 sl3 sl4 sl9 sl11 sl12 sl13 sl14 sl15 fin
      exact opv_val (by go_simp <;> rfl) ⟨gw_self _, rfl⟩
    · refine owes_vt 46 true (Go.Op.binOp Go.BinOp.eql 3 (Go.Operand.tmp 120) (Go.Operand.const (Go.Value.int Go.IntKind.i64 1)) 3) 4 [49] (by kernel_rfl) (by kernel_rfl) (by kernel_rfl) (fun _ _ h => h) (by rw [hsz]; kernel_rfl) (by kernel_rfl) rfl fun vals w1 ρ hG hF hρ hcst hfun => ?_
      have e120 : ρ (.tmp 120) = .int .i64 1 := ((hρ 120).trans (slotJ [49] (by rw [hsz]; decide) (by kernel_rfl))).trans (hF 49 (by decide))
      clear hρ hF hfun sl1 sl3 sl4 sl9 sl11 sl12 sl13 sl14 sl15 fin
      exact opv_val (by go_simp <;> rfl) ⟨gw_self _, rfl⟩
    · refine owes_v (Go.Op.pick (Go.Operand.tmp 117) (Go.Operand.tmp 121) (Go.Operand.const (Go.Value.bool false))) 4 [46, 50] (by kernel_rfl) (by kernel_rfl) (by kernel_rfl) rfl fun vals w1 ρ hG hF hρ hcst hfun => ?_
      have e117 : ρ (.tmp 117) = .bool true := ((hρ 117).trans (slotJ [46, 50] (by rw [hsz]; decide) (by kernel_rfl))).trans (hF 46 (by decide))
      have e121 : ρ (.tmp 121) = .bool true := ((hρ 121).trans (slotJ [46, 50] (by rw [hsz]; decide) (by kernel_rfl))).trans (hF 50 (by decide))
      clear hρ hF hfun sl1 sl3 sl4 sl9 sl11 sl12 sl13 sl14 sl15 fin
      exact opv_val (by go_simp <;> rfl) ⟨gw_self _, rfl⟩
    · exact owes_mvj 51 122 (by kernel_rfl) (by kernel_rfl) (by kernel_rfl) (by kernel_rfl) (by rw [hsz]; decide) (fun v w h => h)
    · refine owes_vt 52 true (Go.Op.indexAddr 47 (Go.Operand.tmp 15) (Go.Operand.const (Go.Value.int Go.IntKind.i64 0))) 0 [] (by kernel_rfl) (by kernel_rfl) (by kernel_rfl) (fun _ _ h => h) (by rw [hsz]; kernel_rfl) (by kernel_rfl) rfl fun vals w1 ρ hG hF hρ hcst hfun => ?_
      have e15 : ρ (.tmp 15) = .pointer (some ⟨q, 0, none⟩) := ((hρ 15).trans (slotO [] (by kernel_rfl))).trans sl15
      clear hρ hF hfun sl1 sl3 sl4 sl9 sl11 sl12 sl13 sl14 sl15 fin
      exact opv_val (by go_simp <;> rfl) ⟨gw_self _, rfl⟩
    · refine owes_vt 52 true (Go.Op.fieldAddr 46 (Go.Operand.tmp 124) 1) 0 [53] (by kernel_rfl) (by kernel_rfl) (by kernel_rfl) (fun _ _ h => h) (by rw [hsz]; kernel_rfl) (by kernel_rfl) rfl fun vals w1 ρ hG hF hρ hcst hfun => ?_
      have e124 : ρ (.tmp 124) = .pointer (some ⟨q, 0, none⟩) := ((hρ 124).trans (slotJ [53] (by rw [hsz]; decide) (by kernel_rfl))).trans (hF 53 (by decide))
      clear hρ hF hcst hfun sl1 sl3 sl4 sl9 sl11 sl12 sl13 sl14 sl15 fin
      exact opv_val (by go_simp <;> rfl) ⟨gw_self _, rfl⟩
    · refine owes_vt 52 true (Go.Op.load 3 (Go.Operand.tmp 125)) 3 [54] (by kernel_rfl) (by kernel_rfl) (by kernel_rfl) (fun _ _ h => h) (by rw [hsz]; kernel_rfl) (by kernel_rfl) rfl fun vals w1 ρ hG hF hρ hcst hfun => ?_
      have e125 : ρ (.tmp 125) = .pointer (some ⟨q, 1, none⟩) := ((hρ 125).trans (slotJ [54] (by rw [hsz]; decide) (by kernel_rfl))).trans (hF 54 (by decide))
      obtain ⟨k1, k2, k3, k4⟩ := (hs.below hG hs.lt).four
      clear hρ hF hcst hfun sl1 sl3 sl4 sl9 sl11 sl12 sl13 sl14 sl15 fin
      exact opv_val (by go_simp <;> rfl) ⟨gw_self _, rfl⟩
    · refine owes_vt 52 true (Go.Op.binOp Go.BinOp.eql 3 (Go.Operand.tmp 126) (Go.Operand.const (Go.Value.int Go.IntKind.i64 1)) 3) 4 [55] (by kernel_rfl) (by kernel_rfl) (by kernel_rfl) (fun _ _ h => h) (by rw [hsz]; kernel_rfl) (by kernel_rfl) rfl fun vals w1 ρ hG hF hρ hcst hfun => ?_
      have e126 : ρ (.tmp 126) = .int .i64 1 := ((hρ 126).trans (slotJ [55] (by rw [hsz]; decide) (by kernel_rfl))).trans (hF 55 (by decide))
      clear hρ hF hfun sl1 sl3 sl4 sl9 sl11 sl12 sl13 sl14 sl15 fin
      exact opv_val (by go_simp <;> rfl) ⟨gw_self _, rfl⟩
    · refine owes_v (Go.Op.pick (Go.Operand.tmp 123) (Go.Operand.tmp 127) (Go.Operand.const (Go.Value.bool false))) 4 [52, 56] (by kernel_rfl) (by kernel_rfl) (by kernel_rfl) rfl fun vals w1 ρ hG hF hρ hcst hfun => ?_
      have e123 : ρ (.tmp 123) = .bool true := ((hρ 123).trans (slotJ [52, 56] (by rw [hsz]; decide) (by kernel_rfl))).trans (hF 52 (by decide))
      have e127 : ρ (.tmp 127) = .bool true := ((hρ 127).trans (slotJ [52, 56] (by rw [hsz]; decide) (by kernel_rfl))).trans (hF 56 (by decide))
      clear hρ hF hfun sl1 sl3 sl4 sl9 sl11 sl12 sl13 sl14 sl15 fin
      exact opv_val (by go_simp <;> rfl) ⟨gw_self _, rfl⟩
    · exact owes_mvj 57 128 (by kernel_rfl) (by kernel_rfl) (by kernel_rfl) (by kernel_rfl) (by rw [hsz]; decide) (fun v w h => h)
    · refine owes_vt 58 true (Go.Op.indexAddr 47 (Go.Operand.tmp 15) (Go.Operand.const (Go.Value.int Go.IntKind.i64 1))) 0 [] (by kernel_rfl) (by kernel_rfl) (by kernel_rfl) (fun _ _ h => h) (by rw [hsz]; kernel_rfl) (by kernel_rfl) rfl fun vals w1 ρ hG hF hρ hcst hfun => ?_
      have e15 : ρ (.tmp 15) = .pointer (some ⟨q, 0, none⟩) := ((hρ 15).trans (slotO [] (by kernel_rfl))).trans sl15
      clear hρ hF hfun sl1 sl3 sl4 sl9 sl11 sl12 sl13 sl14 sl15 fin
      exact opv_val (by go_simp <;> rfl) ⟨gw_self _, rfl⟩
    · refine owes_vt 58 true (Go.Op.fieldAddr 46 (Go.Operand.tmp 130) 1) 0 [59] (by kernel_rfl) (by kernel_rfl) (by kernel_rfl) (fun _ _ h => h) (by rw [hsz]; kernel_rfl) (by kernel_rfl) rfl fun vals w1 ρ hG hF hρ hcst hfun => ?_
      have e130 : ρ (.tmp 130) = .pointer (some ⟨q, 2, none⟩) := ((hρ 130).trans (slotJ [59] (by rw [hsz]; decide) (by kernel_rfl))).trans (hF 59 (by decide))
      clear hρ hF hcst hfun sl1 sl3 sl4 sl9 sl11 sl12 sl13 sl14 sl15 fin
      exact opv_val (by go_simp <;> rfl) ⟨gw_self _, rfl⟩
    · refine owes_vt 58 true (Go.Op.load 3 (Go.Operand.tmp 131)) 3 [60] (by kernel_rfl) (by kernel_rfl) (by kernel_rfl) (fun _ _ h => h) (by rw [hsz]; kernel_rfl) (by kernel_rfl) rfl fun vals w1 ρ hG hF hρ hcst hfun => ?_
      have e131 : ρ (.tmp 131) = .pointer (some ⟨q, 3, none⟩) := ((hρ 131).trans (slotJ [60] (by rw [hsz]; decide) (by kernel_rfl))).trans (hF 60 (by decide))
      obtain ⟨k1, k2, k3, k4⟩ := (hs.below hG hs.lt).four
      clear hρ hF hcst hfun sl1 sl3 sl4 sl9 sl11 sl12 sl13 sl14 sl15 fin
      exact opv_val (by go_simp <;> rfl) ⟨gw_self _, rfl⟩
    · refine owes_vt 58 true (Go.Op.binOp Go.BinOp.eql 3 (Go.Operand.tmp 132) (Go.Operand.const (Go.Value.int Go.IntKind.i64 1)) 3) 4 [61] (by kernel_rfl) (by kernel_rfl) (by kernel_rfl) (fun _ _ h => h) (by rw [hsz]; kernel_rfl) (by kernel_rfl) rfl fun vals w1 ρ hG hF hρ hcst hfun => ?_
      have e132 : ρ (.tmp 132) = .int .i64 1 := ((hρ 132).trans (slotJ [61] (by rw [hsz]; decide) (by kernel_rfl))).trans (hF 61 (by decide))
      clear hρ hF hfun sl1 sl3 sl4 sl9 sl11 sl12 sl13 sl14 sl15 fin
      exact opv_val (by go_simp <;> rfl) ⟨gw_self _, rfl⟩
    · refine owes_v (Go.Op.pick (Go.Operand.tmp 129) (Go.Operand.tmp 133) (Go.Operand.const (Go.Value.bool false))) 4 [58, 62] (by kernel_rfl) (by kernel_rfl) (by kernel_rfl) rfl fun vals w1 ρ hG hF hρ hcst hfun => ?_
      have e129 : ρ (.tmp 129) = .bool true := ((hρ 129).trans (slotJ [58, 62] (by rw [hsz]; decide) (by kernel_rfl))).trans (hF 58 (by decide))
      have e133 : ρ (.tmp 133) = .bool true := ((hρ 133).trans (slotJ [58, 62] (by rw [hsz]; decide) (by kernel_rfl))).trans (hF 62 (by decide))
      clear hρ hF hfun sl1 sl3 sl4 sl9 sl11 sl12 sl13 sl14 sl15 fin
      exact opv_val (by go_simp <;> rfl) ⟨gw_self _, rfl⟩
    · exact owes_mvj 63 134 (by kernel_rfl) (by kernel_rfl) (by kernel_rfl) (by kernel_rfl) (by rw [hsz]; decide) (fun v w h => h)
  · intro vals w1 hG hF
    exact fin vals w1 hG (hF 64 (by decide +kernel))
end Go.Proofs.Ytgdgajieekkmdaa
