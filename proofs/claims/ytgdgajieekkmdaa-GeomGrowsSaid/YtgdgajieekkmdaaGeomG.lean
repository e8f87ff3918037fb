/- The last region of GeomGrows. Conditions: the geometries may be. -/
import Derived.Test.YtgdgajieekkmdaaKnown4
namespace Go.Proofs.Ytgdgajieekkmdaa
set_option linter.unusedVariables false
set_option linter.unusedSimpArgs false
open Go.RowKit
theorem fld1 (x y : Int) (w : World) : (Instr.field 46 (.agg #[.int .i64 x, .int .i64 y]) 1).run Try.prog w = .ok (.int .i64 y) w := by kernel_rfl
theorem one_mono (s n u : Int) (h : 64 ≤ s) (hu : 0 ≤ u) : oneG s n ≤ oneG s (n + u) := by
  have : (n * 8 + s - 1) / s ≤ ((n + u) * 8 + s - 1) / s := Int.ediv_le_ediv (by omega) (by omega)
  unfold oneG
  omega
theorem one_room (s n : Int) (h : 64 ≤ s) (h2 : s ≤ 1024) (h3 : 64 ≤ n) (h4 : n ≤ 8192) : 8 * n ≤ oneG s n * s ∧ oneG s n * s ≤ 10000000 := by
  obtain ⟨q1, q2⟩ := oneG_bd s n h h2 h3 h4
  constructor
  · have e := Int.mul_ediv_add_emod (n * 8 + s - 1) s
    have e2 := Int.emod_lt_of_pos (n * 8 + s - 1) (show 0 < s by omega)
    have e3 : (n * 8 + s - 1) / s ≤ oneG s n := by unfold oneG; omega
    have e4 := Int.mul_le_mul_of_nonneg_left e3 (show 0 ≤ s by omega)
    rw [Int.mul_comm (oneG s n)]
    omega
  · have := Int.mul_le_mul q2 h2 (by omega) (by omega)
    omega
set_option maxHeartbeats 400000
theorem grows_r (Q : Exit → Act → World → Prop) (a0 : Act) (w : World) (g h k : Nat) (s l n u v : Int) (hg : Bk w g 36 #[.int .i64 s, .int .i64 l, .int .i64 n]) (hh : Bk w h 36 #[.int .i64 s, .int .i64 l, .int .i64 (n + u)]) (hk : Bk w k 36 #[.int .i64 s, .int .i64 (l + v), .int .i64 n])
    (og : OkG s l n) (oh : OkG s l (n + u)) (ok : OkG s (l + v) n) (hu : 0 ≤ u) (hv : 0 ≤ v) (hv2 : v ≤ 255) (q1 : 64 ≤ s) (q2 : s ≤ 1024) (q3 : 64 ≤ n) (q4 : n ≤ 8192) (t0 : 0 ≤ totG s l n) (t1 : totG s l n ≤ 16384) (hsz : a0.tmps.size = 88) (sl2 : a0.tmps.getD 2 undef = .int .u8 v) (sl3 : a0.tmps.getD 3 undef = .pointer (some ⟨g, 0, none⟩)) (sl7 : a0.tmps.getD 7 undef = .pointer (some ⟨h, 0, none⟩)) (sl8 : a0.tmps.getD 8 undef = .pointer (some ⟨k, 0, none⟩))
    (fin : ∀ (vals : Nat → Value) (w1 : World), Below w.heap.size w w1 → (IsV (.bool true)) (vals 27) w1 → Q .normal (putD vals [61, 62, 63, 64, 65, 66, 67, 68, 69, 70, 71, 72, 73, 74, 75, 76, 77, 78, 79, 80, 81, 82, 83, 84, 85, 86, 87, 6] 0 a0) w1) :
    (Code.region 11 (regIn Try.f8 11) true).wp Try.prog Q a0 w := by
  refine region_by (G := fun w w1 => Below w.heap.size w w1) [IsV (gV s l (n + u)),
    IsV (.int .i64 (totG s l (n + u))),
    IsV (gV s l n),
    IsV (.int .i64 (totG s l n)),
    IsV (.bool true),
    IsV (.bool true),
    IsV (gV s (l + v) n),
    IsV (.int .i64 (totG s (l + v) n)),
    IsV (gV s l n),
    IsV (.int .i64 (totG s l n)),
    IsV (.int .u8 v),
    IsV (.int .i64 v),
    IsV (.int .i64 (totG s l n + v)),
    IsV (.bool true),
    IsV (.bool true),
    IsV (.bool true),
    IsV (.pointer (some ⟨g, 2, none⟩)),
    IsV (.int .i64 n),
    IsV (.int .i64 (8 * n)),
    IsV (gV s l n),
    IsV (.agg #[.int .i64 (2 + l), .int .i64 (oneG s n)]),
    IsV (.int .i64 (oneG s n)),
    IsV (.pointer (some ⟨g, 0, none⟩)),
    IsV (.int .i64 s),
    IsV (.int .i64 (oneG s n * s)),
    IsV (.bool true),
    IsV (.bool true),
    IsV (.bool true)]
    [61, 62, 63, 64, 65, 66, 67, 68, 69, 70, 71, 72, 73, 74, 75, 76, 77, 78, 79, 80, 81, 82, 83, 84, 85, 86, 87, 6] (by kernel_rfl) (Gw.drew _) Gw.trans (by rw [hsz]; kernel_rfl) (by kernel_rfl) ?_ ?_ ?_
  · intro f hf
    simp only [List.mem_cons, List.not_mem_nil, or_false] at hf
    rcases hf with rfl | rfl | rfl | rfl | rfl | rfl | rfl | rfl | rfl | rfl | rfl | rfl | rfl | rfl | rfl | rfl | rfl | rfl | rfl | rfl | rfl | rfl | rfl | rfl | rfl | rfl | rfl | rfl <;> intro v a b h g <;> first | exact IsV.mono h
  · refine ⟨?_, ?_, ?_, ?_, ?_, ?_, ?_, ?_, ?_, ?_, ?_, ?_, ?_, ?_, ?_, ?_, ?_, ?_, ?_, ?_, ?_, ?_, ?_, ?_, ?_, ?_, ?_, ?_, trivial⟩
    · refine owes_v (Go.Op.load 36 (Go.Operand.tmp 7)) 36 [] (by kernel_rfl) (by kernel_rfl) (by kernel_rfl) rfl fun vals w1 ρ hG hF hρ hcst hfun => ?_
      have e7 : ρ (.tmp 7) = .pointer (some ⟨h, 0, none⟩) := ((hρ 7).trans (slotO [] (by kernel_rfl))).trans sl7
      obtain ⟨k1, k2, k3⟩ := (hh.below hG hh.lt).three
      clear hρ hF hcst hfun sl2 sl3 sl7 sl8 fin
      exact opv_val (by go_simp <;> rfl) ⟨gw_self _, rfl⟩
    · refine owes_v (Go.Op.call { callee := Go.Callee.value (Go.Operand.func 30), args := #[Go.Operand.tmp 61], argTypes := #[36] }) 3 [0] (by kernel_rfl) (by kernel_rfl) (by kernel_rfl) rfl fun vals w1 ρ hG hF hρ hcst hfun => ?_
      have e61 : ρ (.tmp 61) = gV s l (n + u) := ((hρ 61).trans (slotJ [0] (by rw [hsz]; decide) (by kernel_rfl))).trans (hF 0 (by decide))
      clear hρ hF hcst sl2 sl3 sl7 sl8 fin
      exact opv_enter (by go_simp <;> rfl) (of_ret (sectors_c s l (n + u) w1 oh))
    · refine owes_v (Go.Op.load 36 (Go.Operand.tmp 3)) 36 [] (by kernel_rfl) (by kernel_rfl) (by kernel_rfl) rfl fun vals w1 ρ hG hF hρ hcst hfun => ?_
      have e3 : ρ (.tmp 3) = .pointer (some ⟨g, 0, none⟩) := ((hρ 3).trans (slotO [] (by kernel_rfl))).trans sl3
      obtain ⟨k1, k2, k3⟩ := (hg.below hG hg.lt).three
      clear hρ hF hcst hfun sl2 sl3 sl7 sl8 fin
      exact opv_val (by go_simp <;> rfl) ⟨gw_self _, rfl⟩
    · refine owes_v (Go.Op.call { callee := Go.Callee.value (Go.Operand.func 30), args := #[Go.Operand.tmp 63], argTypes := #[36] }) 3 [2] (by kernel_rfl) (by kernel_rfl) (by kernel_rfl) rfl fun vals w1 ρ hG hF hρ hcst hfun => ?_
      have e63 : ρ (.tmp 63) = gV s l n := ((hρ 63).trans (slotJ [2] (by rw [hsz]; decide) (by kernel_rfl))).trans (hF 2 (by decide))
      clear hρ hF hcst sl2 sl3 sl7 sl8 fin
      exact opv_enter (by go_simp <;> rfl) (of_ret (sectors_c s l n w1 og))
    · refine owes_v (Go.Op.binOp Go.BinOp.geq 3 (Go.Operand.tmp 62) (Go.Operand.tmp 64) 3) 4 [1, 3] (by kernel_rfl) (by kernel_rfl) (by kernel_rfl) rfl fun vals w1 ρ hG hF hρ hcst hfun => ?_
      have e62 : ρ (.tmp 62) = .int .i64 (totG s l (n + u)) := ((hρ 62).trans (slotJ [1, 3] (by rw [hsz]; decide) (by kernel_rfl))).trans (hF 1 (by decide))
      have e64 : ρ (.tmp 64) = .int .i64 (totG s l n) := ((hρ 64).trans (slotJ [1, 3] (by rw [hsz]; decide) (by kernel_rfl))).trans (hF 3 (by decide))
      have z : decide (totG s l n ≤ totG s l (n + u)) = true := by have := one_mono s n u q1 hu; unfold totG; simp; omega
      clear hρ hF hcst hfun sl2 sl3 sl7 sl8 fin
      exact opv_val (by go_simp <;> rfl) ⟨gw_self _, rfl⟩
    · exact owes_mvj 4 65 (by kernel_rfl) (by kernel_rfl) (by kernel_rfl) (by kernel_rfl) (by rw [hsz]; decide) (fun v w h => h)
    · refine owes_vt 5 true (Go.Op.load 36 (Go.Operand.tmp 8)) 36 [] (by kernel_rfl) (by kernel_rfl) (by kernel_rfl) (fun _ _ h => h) (by rw [hsz]; kernel_rfl) (by kernel_rfl) rfl fun vals w1 ρ hG hF hρ hcst hfun => ?_
      have e8 : ρ (.tmp 8) = .pointer (some ⟨k, 0, none⟩) := ((hρ 8).trans (slotO [] (by kernel_rfl))).trans sl8
      obtain ⟨k1, k2, k3⟩ := (hk.below hG hk.lt).three
      clear hρ hF hcst hfun sl2 sl3 sl7 sl8 fin
      exact opv_val (by go_simp <;> rfl) ⟨gw_self _, rfl⟩
    · refine owes_vt 5 true (Go.Op.call { callee := Go.Callee.value (Go.Operand.func 30), args := #[Go.Operand.tmp 67], argTypes := #[36] }) 3 [6] (by kernel_rfl) (by kernel_rfl) (by kernel_rfl) (fun _ _ h => h) (by rw [hsz]; kernel_rfl) (by kernel_rfl) rfl fun vals w1 ρ hG hF hρ hcst hfun => ?_
      have e67 : ρ (.tmp 67) = gV s (l + v) n := ((hρ 67).trans (slotJ [6] (by rw [hsz]; decide) (by kernel_rfl))).trans (hF 6 (by decide))
      clear hρ hF hcst sl2 sl3 sl7 sl8 fin
      exact opv_enter (by go_simp <;> rfl) (of_ret (sectors_c s (l + v) n w1 ok))
    · refine owes_vt 5 true (Go.Op.load 36 (Go.Operand.tmp 3)) 36 [] (by kernel_rfl) (by kernel_rfl) (by kernel_rfl) (fun _ _ h => h) (by rw [hsz]; kernel_rfl) (by kernel_rfl) rfl fun vals w1 ρ hG hF hρ hcst hfun => ?_
      have e3 : ρ (.tmp 3) = .pointer (some ⟨g, 0, none⟩) := ((hρ 3).trans (slotO [] (by kernel_rfl))).trans sl3
      obtain ⟨k1, k2, k3⟩ := (hg.below hG hg.lt).three
      clear hρ hF hcst hfun sl2 sl3 sl7 sl8 fin
      exact opv_val (by go_simp <;> rfl) ⟨gw_self _, rfl⟩
    · refine owes_vt 5 true (Go.Op.call { callee := Go.Callee.value (Go.Operand.func 30), args := #[Go.Operand.tmp 69], argTypes := #[36] }) 3 [8] (by kernel_rfl) (by kernel_rfl) (by kernel_rfl) (fun _ _ h => h) (by rw [hsz]; kernel_rfl) (by kernel_rfl) rfl fun vals w1 ρ hG hF hρ hcst hfun => ?_
      have e69 : ρ (.tmp 69) = gV s l n := ((hρ 69).trans (slotJ [8] (by rw [hsz]; decide) (by kernel_rfl))).trans (hF 8 (by decide))
      clear hρ hF hcst sl2 sl3 sl7 sl8 fin
      exact opv_enter (by go_simp <;> rfl) (of_ret (sectors_c s l n w1 og))
    · refine owes_vt 5 true (Go.Op.move (Go.Operand.tmp 2)) 5 [] (by kernel_rfl) (by kernel_rfl) (by kernel_rfl) (fun _ _ h => h) (by rw [hsz]; kernel_rfl) (by kernel_rfl) rfl fun vals w1 ρ hG hF hρ hcst hfun => ?_
      have e2 : ρ (.tmp 2) = .int .u8 v := ((hρ 2).trans (slotO [] (by kernel_rfl))).trans sl2
      clear hρ hF hcst hfun sl2 sl3 sl7 sl8 fin
      exact opv_val (by go_simp <;> rfl) ⟨gw_self _, rfl⟩
    · refine owes_vt 5 true (Go.Op.convert 5 3 (Go.Operand.tmp 71)) 3 [10] (by kernel_rfl) (by kernel_rfl) (by kernel_rfl) (fun _ _ h => h) (by rw [hsz]; kernel_rfl) (by kernel_rfl) rfl fun vals w1 ρ hG hF hρ hcst hfun => ?_
      have e71 : ρ (.tmp 71) = .int .u8 v := ((hρ 71).trans (slotJ [10] (by rw [hsz]; decide) (by kernel_rfl))).trans (hF 10 (by decide))
      have kw0 : IntKind.i64.wrap (v) = v := wrapIn (by omega) (by omega)
      clear hρ hF hcst hfun sl2 sl3 sl7 sl8 fin
      exact opv_val (by go_simp <;> rfl) ⟨gw_self _, rfl⟩
    · refine owes_vt 5 true (Go.Op.binOp Go.BinOp.add 3 (Go.Operand.tmp 70) (Go.Operand.tmp 72) 3) 3 [9, 11] (by kernel_rfl) (by kernel_rfl) (by kernel_rfl) (fun _ _ h => h) (by rw [hsz]; kernel_rfl) (by kernel_rfl) rfl fun vals w1 ρ hG hF hρ hcst hfun => ?_
      have e70 : ρ (.tmp 70) = .int .i64 (totG s l n) := ((hρ 70).trans (slotJ [9, 11] (by rw [hsz]; decide) (by kernel_rfl))).trans (hF 9 (by decide))
      have e72 : ρ (.tmp 72) = .int .i64 v := ((hρ 72).trans (slotJ [9, 11] (by rw [hsz]; decide) (by kernel_rfl))).trans (hF 11 (by decide))
      have kw0 : IntKind.i64.wrap (totG s l n + v) = totG s l n + v := wrapIn (by omega) (by omega)
      clear hρ hF hcst hfun sl2 sl3 sl7 sl8 fin
      exact opv_val (by go_simp <;> rfl) ⟨gw_self _, rfl⟩
    · refine owes_vt 5 true (Go.Op.binOp Go.BinOp.eql 3 (Go.Operand.tmp 68) (Go.Operand.tmp 73) 3) 4 [7, 12] (by kernel_rfl) (by kernel_rfl) (by kernel_rfl) (fun _ _ h => h) (by rw [hsz]; kernel_rfl) (by kernel_rfl) rfl fun vals w1 ρ hG hF hρ hcst hfun => ?_
      have e68 : ρ (.tmp 68) = .int .i64 (totG s (l + v) n) := ((hρ 68).trans (slotJ [7, 12] (by rw [hsz]; decide) (by kernel_rfl))).trans (hF 7 (by decide))
      have e73 : ρ (.tmp 73) = .int .i64 (totG s l n + v) := ((hρ 73).trans (slotJ [7, 12] (by rw [hsz]; decide) (by kernel_rfl))).trans (hF 12 (by decide))
      have z : (totG s (l + v) n == totG s l n + v) = true := by unfold totG; simp; omega
      clear hρ hF hcst hfun sl2 sl3 sl7 sl8 fin
      exact opv_val (by go_simp <;> rfl) ⟨gw_self _, rfl⟩
    · refine owes_v (Go.Op.pick (Go.Operand.tmp 66) (Go.Operand.tmp 74) (Go.Operand.const (Go.Value.bool false))) 4 [5, 13] (by kernel_rfl) (by kernel_rfl) (by kernel_rfl) rfl fun vals w1 ρ hG hF hρ hcst hfun => ?_
      have e66 : ρ (.tmp 66) = .bool true := ((hρ 66).trans (slotJ [5, 13] (by rw [hsz]; decide) (by kernel_rfl))).trans (hF 5 (by decide))
      have e74 : ρ (.tmp 74) = .bool true := ((hρ 74).trans (slotJ [5, 13] (by rw [hsz]; decide) (by kernel_rfl))).trans (hF 13 (by decide))
      clear hρ hF hfun sl2 sl3 sl7 sl8 fin
      exact opv_val (by go_simp <;> rfl) ⟨gw_self _, rfl⟩
    · exact owes_mvj 14 75 (by kernel_rfl) (by kernel_rfl) (by kernel_rfl) (by kernel_rfl) (by rw [hsz]; decide) (fun v w h => h)
    · refine owes_vt 15 true (Go.Op.fieldAddr 36 (Go.Operand.tmp 3) 2) 0 [] (by kernel_rfl) (by kernel_rfl) (by kernel_rfl) (fun _ _ h => h) (by rw [hsz]; kernel_rfl) (by kernel_rfl) rfl fun vals w1 ρ hG hF hρ hcst hfun => ?_
      have e3 : ρ (.tmp 3) = .pointer (some ⟨g, 0, none⟩) := ((hρ 3).trans (slotO [] (by kernel_rfl))).trans sl3
      clear hρ hF hcst hfun sl2 sl3 sl7 sl8 fin
      exact opv_val (by go_simp <;> rfl) ⟨gw_self _, rfl⟩
    · refine owes_vt 15 true (Go.Op.load 3 (Go.Operand.tmp 77)) 3 [16] (by kernel_rfl) (by kernel_rfl) (by kernel_rfl) (fun _ _ h => h) (by rw [hsz]; kernel_rfl) (by kernel_rfl) rfl fun vals w1 ρ hG hF hρ hcst hfun => ?_
      have e77 : ρ (.tmp 77) = .pointer (some ⟨g, 2, none⟩) := ((hρ 77).trans (slotJ [16] (by rw [hsz]; decide) (by kernel_rfl))).trans (hF 16 (by decide))
      obtain ⟨k1, k2, k3⟩ := (hg.below hG hg.lt).three
      clear hρ hF hcst hfun sl2 sl3 sl7 sl8 fin
      exact opv_val (by go_simp <;> rfl) ⟨gw_self _, rfl⟩
    · refine owes_vt 15 true (Go.Op.binOp Go.BinOp.mul 3 (Go.Operand.const (Go.Value.int Go.IntKind.i64 8)) (Go.Operand.tmp 78) 3) 3 [17] (by kernel_rfl) (by kernel_rfl) (by kernel_rfl) (fun _ _ h => h) (by rw [hsz]; kernel_rfl) (by kernel_rfl) rfl fun vals w1 ρ hG hF hρ hcst hfun => ?_
      have e78 : ρ (.tmp 78) = .int .i64 n := ((hρ 78).trans (slotJ [17] (by rw [hsz]; decide) (by kernel_rfl))).trans (hF 17 (by decide))
      have kw0 : IntKind.i64.wrap (8 * n) = 8 * n := wrapIn (by omega) (by omega)
      clear hρ hF hfun sl2 sl3 sl7 sl8 fin
      exact opv_val (by go_simp <;> rfl) ⟨gw_self _, rfl⟩
    · refine owes_vt 15 true (Go.Op.load 36 (Go.Operand.tmp 3)) 36 [] (by kernel_rfl) (by kernel_rfl) (by kernel_rfl) (fun _ _ h => h) (by rw [hsz]; kernel_rfl) (by kernel_rfl) rfl fun vals w1 ρ hG hF hρ hcst hfun => ?_
      have e3 : ρ (.tmp 3) = .pointer (some ⟨g, 0, none⟩) := ((hρ 3).trans (slotO [] (by kernel_rfl))).trans sl3
      obtain ⟨k1, k2, k3⟩ := (hg.below hG hg.lt).three
      clear hρ hF hcst hfun sl2 sl3 sl7 sl8 fin
      exact opv_val (by go_simp <;> rfl) ⟨gw_self _, rfl⟩
    · refine owes_vt 15 true (Go.Op.call { callee := Go.Callee.value (Go.Operand.func 35), args := #[Go.Operand.tmp 80, Go.Operand.const (Go.Value.int Go.IntKind.i64 0)], argTypes := #[36, 3] }) 46 [19] (by kernel_rfl) (by kernel_rfl) (by kernel_rfl) (fun _ _ h => h) (by rw [hsz]; kernel_rfl) (by kernel_rfl) rfl fun vals w1 ρ hG hF hρ hcst hfun => ?_
      have e80 : ρ (.tmp 80) = gV s l n := ((hρ 80).trans (slotJ [19] (by rw [hsz]; decide) (by kernel_rfl))).trans (hF 19 (by decide))
      clear hρ hF sl2 sl3 sl7 sl8 fin
      exact opv_enter (by go_simp <;> rfl) (of_ret (space_c s l n 0 w1 og))
    · refine owes_vt 15 true (Go.Op.field 46 (Go.Operand.tmp 81) 1) 3 [20] (by kernel_rfl) (by kernel_rfl) (by kernel_rfl) (fun _ _ h => h) (by rw [hsz]; kernel_rfl) (by kernel_rfl) rfl fun vals w1 ρ hG hF hρ hcst hfun => ?_
      have e81 : ρ (.tmp 81) = .agg #[.int .i64 (2 + l), .int .i64 (oneG s n)] := ((hρ 81).trans (slotJ [20] (by rw [hsz]; decide) (by kernel_rfl))).trans (hF 20 (by decide))
      have z := fld1 (2 + l) (oneG s n)
      clear hρ hF hcst hfun sl2 sl3 sl7 sl8 fin
      exact opv_val (by go_simp <;> rfl) ⟨gw_self _, rfl⟩
    · refine owes_vt 15 true (Go.Op.fieldAddr 36 (Go.Operand.tmp 3) 0) 0 [] (by kernel_rfl) (by kernel_rfl) (by kernel_rfl) (fun _ _ h => h) (by rw [hsz]; kernel_rfl) (by kernel_rfl) rfl fun vals w1 ρ hG hF hρ hcst hfun => ?_
      have e3 : ρ (.tmp 3) = .pointer (some ⟨g, 0, none⟩) := ((hρ 3).trans (slotO [] (by kernel_rfl))).trans sl3
      clear hρ hF hcst hfun sl2 sl3 sl7 sl8 fin
      exact opv_val (by go_simp <;> rfl) ⟨gw_self _, rfl⟩
    · refine owes_vt 15 true (Go.Op.load 3 (Go.Operand.tmp 83)) 3 [22] (by kernel_rfl) (by kernel_rfl) (by kernel_rfl) (fun _ _ h => h) (by rw [hsz]; kernel_rfl) (by kernel_rfl) rfl fun vals w1 ρ hG hF hρ hcst hfun => ?_
      have e83 : ρ (.tmp 83) = .pointer (some ⟨g, 0, none⟩) := ((hρ 83).trans (slotJ [22] (by rw [hsz]; decide) (by kernel_rfl))).trans (hF 22 (by decide))
      obtain ⟨k1, k2, k3⟩ := (hg.below hG hg.lt).three
      clear hρ hF hcst hfun sl2 sl3 sl7 sl8 fin
      exact opv_val (by go_simp <;> rfl) ⟨gw_self _, rfl⟩
    · refine owes_vt 15 true (Go.Op.binOp Go.BinOp.mul 3 (Go.Operand.tmp 82) (Go.Operand.tmp 84) 3) 3 [21, 23] (by kernel_rfl) (by kernel_rfl) (by kernel_rfl) (fun _ _ h => h) (by rw [hsz]; kernel_rfl) (by kernel_rfl) rfl fun vals w1 ρ hG hF hρ hcst hfun => ?_
      have e82 : ρ (.tmp 82) = .int .i64 (oneG s n) := ((hρ 82).trans (slotJ [21, 23] (by rw [hsz]; decide) (by kernel_rfl))).trans (hF 21 (by decide))
      have e84 : ρ (.tmp 84) = .int .i64 s := ((hρ 84).trans (slotJ [21, 23] (by rw [hsz]; decide) (by kernel_rfl))).trans (hF 23 (by decide))
      obtain ⟨z1, z2⟩ := one_room s n q1 q2 q3 q4
      have kw1 : IntKind.i64.wrap (oneG s n * s) = oneG s n * s := wrapIn (by omega) (by omega)
      clear hρ hF hcst hfun sl2 sl3 sl7 sl8 fin
      exact opv_val (by go_simp <;> rfl) ⟨gw_self _, rfl⟩
    · refine owes_vt 15 true (Go.Op.binOp Go.BinOp.leq 3 (Go.Operand.tmp 79) (Go.Operand.tmp 85) 3) 4 [18, 24] (by kernel_rfl) (by kernel_rfl) (by kernel_rfl) (fun _ _ h => h) (by rw [hsz]; kernel_rfl) (by kernel_rfl) rfl fun vals w1 ρ hG hF hρ hcst hfun => ?_
      have e79 : ρ (.tmp 79) = .int .i64 (8 * n) := ((hρ 79).trans (slotJ [18, 24] (by rw [hsz]; decide) (by kernel_rfl))).trans (hF 18 (by decide))
      have e85 : ρ (.tmp 85) = .int .i64 (oneG s n * s) := ((hρ 85).trans (slotJ [18, 24] (by rw [hsz]; decide) (by kernel_rfl))).trans (hF 24 (by decide))
      obtain ⟨z1, z2⟩ := one_room s n q1 q2 q3 q4
      have z : decide (8 * n ≤ oneG s n * s) = true := by simp; omega
      clear hρ hF hcst hfun sl2 sl3 sl7 sl8 fin
      exact opv_val (by go_simp <;> rfl) ⟨gw_self _, rfl⟩
    · refine owes_v (Go.Op.pick (Go.Operand.tmp 76) (Go.Operand.tmp 86) (Go.Operand.const (Go.Value.bool false))) 4 [15, 25] (by kernel_rfl) (by kernel_rfl) (by kernel_rfl) rfl fun vals w1 ρ hG hF hρ hcst hfun => ?_
      have e76 : ρ (.tmp 76) = .bool true := ((hρ 76).trans (slotJ [15, 25] (by rw [hsz]; decide) (by kernel_rfl))).trans (hF 15 (by decide))
      have e86 : ρ (.tmp 86) = .bool true := ((hρ 86).trans (slotJ [15, 25] (by rw [hsz]; decide) (by kernel_rfl))).trans (hF 25 (by decide))
      clear hρ hF hfun sl2 sl3 sl7 sl8 fin
      exact opv_val (by go_simp <;> rfl) ⟨gw_self _, rfl⟩
    · exact owes_mvj 26 87 (by kernel_rfl) (by kernel_rfl) (by kernel_rfl) (by kernel_rfl) (by rw [hsz]; decide) (fun v w h => h)
  · intro vals w1 hG hF
    exact fin vals w1 hG (hF 27 (by decide +kernel))
end Go.Proofs.Ytgdgajieekkmdaa
