/- The law ObjectPlays of layer 16 returns true for every argument. Conditions: the listed tables. -/
import Derived.Test.YtfodefgihicafaaDoorOd8
import Derived.Test.YtfodefgihicafaaDoorRegT
namespace Go.Proofs.YtfodefgihicafaaDoor
set_option linter.unusedVariables false
set_option linter.unusedSimpArgs false
open Go.RowKit Go.Maps
set_option maxHeartbeats 8000000
set_option maxRecDepth 100000
theorem bneS16 (s : ByteArray) : (s.toList != s.toList) = false := by simp
attribute [local go_sem] bneS16
def FiveC (H : Nat) (op at_ i n : Int) (ba : Option Addr) (nb bc : Nat) (W : World) : Prop := W.cell? ⟨H, 0, none⟩ = some (.int .i64 op) ∧ W.cell? ⟨H, 1, none⟩ = some (.int .i64 at_) ∧ W.cell? ⟨H, 2, none⟩ = some (.int .i64 i) ∧ W.cell? ⟨H, 3, none⟩ = some (.int .i64 n) ∧ W.cell? ⟨H, 4, none⟩ = some (.slice ba nb bc) ∧ H < W.heap.size
theorem of_reto {P : Program} {f : FuncId} {args : Array Value} {v : Value} {w : World} (h : Calls P f args w (RetP v w)) : Calls P f args w fun e w2 => ∃ u, e = .returned u ∧ Below w.heap.size w w2 ∧ IsV v u w2 :=
  h.mono fun _ _ h => ⟨_, h.1, h.2, rfl⟩
theorem o4_r32 (Q : Exit → Act → World → Prop) (a0 : Act) (w : World) (s R H : Nat) (a y : Int) (z : ByteArray) (hH : H < w.heap.size) (c1 : w.cell? ⟨H, 1, none⟩ = some (.int .i64 a)) (k1 : Hid (∀ W, Below w.heap.size w W → Calls Tryd.prog 17 #[.pointer (some ⟨s, 0, none⟩), .pointer (some ⟨R, 0, none⟩)] W (RetP (.bool true) W))) (k2 : Hid (∀ W, Below w.heap.size w W → Calls Tryd.prog 18 #[.pointer (some ⟨s, 0, none⟩)] W (RetP (.int .i64 y) W))) (k3 : Hid (∀ W, Below w.heap.size w W → Calls Tryd.prog 19 #[.pointer (some ⟨R, 0, none⟩)] W (RetP (.int .i64 y) W))) (k4 : Hid (∀ W, Below w.heap.size w W → Calls Tryd.prog 20 #[.pointer (some ⟨s, 0, none⟩), .int .i64 a] W (RetP (.string z) W))) (k5 : Hid (∀ W, Below w.heap.size w W → Calls Tryd.prog 21 #[.pointer (some ⟨R, 0, none⟩), .int .i64 a] W (RetP (.string z) W))) (hsz : a0.tmps.size = 190) (sl9 : a0.tmps.getD 9 undef = .pointer (some ⟨s, 0, none⟩)) (sl10 : a0.tmps.getD 10 undef = .pointer (some ⟨R, 0, none⟩)) (sl12 : a0.tmps.getD 12 undef = .pointer (some ⟨H, 0, none⟩))
    (fin : ∀ (vals : Nat → Value) (w1 : World), Below w.heap.size w w1 → (IsV (.bool false)) (vals 21) w1 → Q .normal (putD vals [168, 169, 170, 171, 172, 173, 174, 175, 176, 177, 178, 179, 180, 181, 182, 183, 184, 185, 186, 187, 188, 189] 0 a0) w1) :
    (Code.region 32 (regIn Tryd.f3 32) true).wp Tryd.prog Q a0 w := by
  refine region_by (G := fun w w1 => Below w.heap.size w w1) [IsV (.pointer (some ⟨s, 0, none⟩)),
    IsV (.pointer (some ⟨R, 0, none⟩)),
    IsV (.bool true),
    IsV (.bool false),
    IsV (.bool false),
    IsV (.pointer (some ⟨s, 0, none⟩)),
    IsV (.int .i64 y),
    IsV (.pointer (some ⟨R, 0, none⟩)),
    IsV (.int .i64 y),
    IsV (.bool false),
    IsV (.bool false),
    IsV (.bool false),
    IsV (.pointer (some ⟨s, 0, none⟩)),
    IsV (.pointer (some ⟨H, 1, none⟩)),
    IsV (.int .i64 a),
    IsV (.string z),
    IsV (.pointer (some ⟨R, 0, none⟩)),
    IsV (.pointer (some ⟨H, 1, none⟩)),
    IsV (.int .i64 a),
    IsV (.string z),
    IsV (.bool false),
    IsV (.bool false)]
    [168, 169, 170, 171, 172, 173, 174, 175, 176, 177, 178, 179, 180, 181, 182, 183, 184, 185, 186, 187, 188, 189] (by kernel_rfl) (Gw.drew _) Gw.trans (by rw [hsz]; kernel_rfl) (by kernel_rfl) ?_ ?_ ?_
  · intro f hf
    simp only [List.mem_cons, List.not_mem_nil, or_false] at hf
    rcases hf with rfl | rfl | rfl | rfl | rfl | rfl | rfl | rfl | rfl | rfl | rfl | rfl | rfl | rfl | rfl | rfl | rfl | rfl | rfl | rfl | rfl | rfl <;> intro v a b h g <;> first | exact IsV.mono h
  · refine ⟨?_, ?_, ?_, ?_, ?_, ?_, ?_, ?_, ?_, ?_, ?_, ?_, ?_, ?_, ?_, ?_, ?_, ?_, ?_, ?_, ?_, ?_, trivial⟩
    · exact owes_mv 9 (by kernel_rfl) (by kernel_rfl) (by kernel_rfl) sl9 (fun _ => rfl)
    · exact owes_mv 10 (by kernel_rfl) (by kernel_rfl) (by kernel_rfl) sl10 (fun _ => rfl)
    · refine owes_v (Go.Op.call { callee := Go.Callee.value (Go.Operand.func 17), args := #[Go.Operand.tmp 168, Go.Operand.tmp 169], argTypes := #[25, 27] }) 4 [0, 1] (by kernel_rfl) (by kernel_rfl) (by kernel_rfl) rfl fun vals w1 ρ hG hF hρ hcst hfun => ?_
      have e168 : ρ (.tmp 168) = .pointer (some ⟨s, 0, none⟩) := ((hρ 168).trans (slotJ [0, 1] (by rw [hsz]; decide) (by kernel_rfl))).trans (hF 0 (by decide))
      have e169 : ρ (.tmp 169) = .pointer (some ⟨R, 0, none⟩) := ((hρ 169).trans (slotJ [0, 1] (by rw [hsz]; decide) (by kernel_rfl))).trans (hF 1 (by decide))
      clear hρ hF hcst sl9 sl10 sl12 fin
      exact opv_enter (by go_simp <;> rfl) (of_reto (k1.out w1 hG))
    · refine owes_v (Go.Op.unOp Go.UnOp.not 4 (Go.Operand.tmp 170)) 4 [2] (by kernel_rfl) (by kernel_rfl) (by kernel_rfl) rfl fun vals w1 ρ hG hF hρ hcst hfun => ?_
      have e170 : ρ (.tmp 170) = .bool true := ((hρ 170).trans (slotJ [2] (by rw [hsz]; decide) (by kernel_rfl))).trans (hF 2 (by decide))
      clear hρ hF hcst hfun sl9 sl10 sl12 fin
      exact opv_val (by go_simp <;> rfl) ⟨gw_self _, rfl⟩
    · exact owes_mvj 3 171 (by kernel_rfl) (by kernel_rfl) (by kernel_rfl) (by kernel_rfl) (by rw [hsz]; decide) (fun v w h => h)
    · refine owes_vt 4 false (Go.Op.move (Go.Operand.tmp 9)) 25 [] (by kernel_rfl) (by kernel_rfl) (by kernel_rfl) (fun _ _ h => h) (by rw [hsz]; kernel_rfl) (by kernel_rfl) rfl fun vals w1 ρ hG hF hρ hcst hfun => ?_
      have e9 : ρ (.tmp 9) = .pointer (some ⟨s, 0, none⟩) := ((hρ 9).trans (slotO [] (by kernel_rfl))).trans sl9
      clear hρ hF hcst hfun sl9 sl10 sl12 fin
      exact opv_val (by go_simp <;> rfl) ⟨gw_self _, rfl⟩
    · refine owes_vt 4 false (Go.Op.call { callee := Go.Callee.value (Go.Operand.func 18), args := #[Go.Operand.tmp 173], argTypes := #[25] }) 33 [5] (by kernel_rfl) (by kernel_rfl) (by kernel_rfl) (fun _ _ h => h) (by rw [hsz]; kernel_rfl) (by kernel_rfl) rfl fun vals w1 ρ hG hF hρ hcst hfun => ?_
      have e173 : ρ (.tmp 173) = .pointer (some ⟨s, 0, none⟩) := ((hρ 173).trans (slotJ [5] (by rw [hsz]; decide) (by kernel_rfl))).trans (hF 5 (by decide))
      clear hρ hF hcst sl9 sl10 sl12 fin
      exact opv_enter (by go_simp <;> rfl) (of_reto (k2.out w1 hG))
    · refine owes_vt 4 false (Go.Op.move (Go.Operand.tmp 10)) 27 [] (by kernel_rfl) (by kernel_rfl) (by kernel_rfl) (fun _ _ h => h) (by rw [hsz]; kernel_rfl) (by kernel_rfl) rfl fun vals w1 ρ hG hF hρ hcst hfun => ?_
      have e10 : ρ (.tmp 10) = .pointer (some ⟨R, 0, none⟩) := ((hρ 10).trans (slotO [] (by kernel_rfl))).trans sl10
      clear hρ hF hcst hfun sl9 sl10 sl12 fin
      exact opv_val (by go_simp <;> rfl) ⟨gw_self _, rfl⟩
    · refine owes_vt 4 false (Go.Op.call { callee := Go.Callee.value (Go.Operand.func 19), args := #[Go.Operand.tmp 175], argTypes := #[27] }) 3 [7] (by kernel_rfl) (by kernel_rfl) (by kernel_rfl) (fun _ _ h => h) (by rw [hsz]; kernel_rfl) (by kernel_rfl) rfl fun vals w1 ρ hG hF hρ hcst hfun => ?_
      have e175 : ρ (.tmp 175) = .pointer (some ⟨R, 0, none⟩) := ((hρ 175).trans (slotJ [7] (by rw [hsz]; decide) (by kernel_rfl))).trans (hF 7 (by decide))
      clear hρ hF hcst sl9 sl10 sl12 fin
      exact opv_enter (by go_simp <;> rfl) (of_reto (k3.out w1 hG))
    · refine owes_vt 4 false (Go.Op.binOp Go.BinOp.neq 3 (Go.Operand.tmp 174) (Go.Operand.tmp 176) 3) 4 [6, 8] (by kernel_rfl) (by kernel_rfl) (by kernel_rfl) (fun _ _ h => h) (by rw [hsz]; kernel_rfl) (by kernel_rfl) rfl fun vals w1 ρ hG hF hρ hcst hfun => ?_
      have e174 : ρ (.tmp 174) = .int .i64 y := ((hρ 174).trans (slotJ [6, 8] (by rw [hsz]; decide) (by kernel_rfl))).trans (hF 6 (by decide))
      have e176 : ρ (.tmp 176) = .int .i64 y := ((hρ 176).trans (slotJ [6, 8] (by rw [hsz]; decide) (by kernel_rfl))).trans (hF 8 (by decide))
      clear hρ hF hcst hfun sl9 sl10 sl12 fin
      exact opv_val (by go_simp <;> rfl) ⟨gw_self _, rfl⟩
    · refine owes_v (Go.Op.pick (Go.Operand.tmp 172) (Go.Operand.const (Go.Value.bool true)) (Go.Operand.tmp 177)) 4 [4, 9] (by kernel_rfl) (by kernel_rfl) (by kernel_rfl) rfl fun vals w1 ρ hG hF hρ hcst hfun => ?_
      have e172 : ρ (.tmp 172) = .bool false := ((hρ 172).trans (slotJ [4, 9] (by rw [hsz]; decide) (by kernel_rfl))).trans (hF 4 (by decide))
      have e177 : ρ (.tmp 177) = .bool false := ((hρ 177).trans (slotJ [4, 9] (by rw [hsz]; decide) (by kernel_rfl))).trans (hF 9 (by decide))
      clear hρ hF hfun sl9 sl10 sl12 fin
      exact opv_val (by go_simp <;> rfl) ⟨gw_self _, rfl⟩
    · exact owes_mvj 10 178 (by kernel_rfl) (by kernel_rfl) (by kernel_rfl) (by kernel_rfl) (by rw [hsz]; decide) (fun v w h => h)
    · refine owes_vt 11 false (Go.Op.move (Go.Operand.tmp 9)) 25 [] (by kernel_rfl) (by kernel_rfl) (by kernel_rfl) (fun _ _ h => h) (by rw [hsz]; kernel_rfl) (by kernel_rfl) rfl fun vals w1 ρ hG hF hρ hcst hfun => ?_
      have e9 : ρ (.tmp 9) = .pointer (some ⟨s, 0, none⟩) := ((hρ 9).trans (slotO [] (by kernel_rfl))).trans sl9
      clear hρ hF hcst hfun sl9 sl10 sl12 fin
      exact opv_val (by go_simp <;> rfl) ⟨gw_self _, rfl⟩
    · refine owes_vt 11 false (Go.Op.fieldAddr 32 (Go.Operand.tmp 12) 1) 0 [] (by kernel_rfl) (by kernel_rfl) (by kernel_rfl) (fun _ _ h => h) (by rw [hsz]; kernel_rfl) (by kernel_rfl) rfl fun vals w1 ρ hG hF hρ hcst hfun => ?_
      have e12 : ρ (.tmp 12) = .pointer (some ⟨H, 0, none⟩) := ((hρ 12).trans (slotO [] (by kernel_rfl))).trans sl12
      clear hρ hF hcst hfun sl9 sl10 sl12 fin
      exact opv_val (by go_simp <;> rfl) ⟨gw_self _, rfl⟩
    · refine owes_vt 11 false (Go.Op.load 3 (Go.Operand.tmp 181)) 3 [13] (by kernel_rfl) (by kernel_rfl) (by kernel_rfl) (fun _ _ h => h) (by rw [hsz]; kernel_rfl) (by kernel_rfl) rfl fun vals w1 ρ hG hF hρ hcst hfun => ?_
      have e181 : ρ (.tmp 181) = .pointer (some ⟨H, 1, none⟩) := ((hρ 181).trans (slotJ [13] (by rw [hsz]; decide) (by kernel_rfl))).trans (hF 13 (by decide))
      have kk := (hG.cell (p := ⟨H, 1, none⟩) hH).trans c1
      clear hρ hF hcst hfun sl9 sl10 sl12 fin
      exact opv_val (by go_simp <;> rfl) ⟨gw_self _, rfl⟩
    · refine owes_vt 11 false (Go.Op.call { callee := Go.Callee.value (Go.Operand.func 20), args := #[Go.Operand.tmp 180, Go.Operand.tmp 182], argTypes := #[25, 3] }) 9 [12, 14] (by kernel_rfl) (by kernel_rfl) (by kernel_rfl) (fun _ _ h => h) (by rw [hsz]; kernel_rfl) (by kernel_rfl) rfl fun vals w1 ρ hG hF hρ hcst hfun => ?_
      have e180 : ρ (.tmp 180) = .pointer (some ⟨s, 0, none⟩) := ((hρ 180).trans (slotJ [12, 14] (by rw [hsz]; decide) (by kernel_rfl))).trans (hF 12 (by decide))
      have e182 : ρ (.tmp 182) = .int .i64 a := ((hρ 182).trans (slotJ [12, 14] (by rw [hsz]; decide) (by kernel_rfl))).trans (hF 14 (by decide))
      clear hρ hF hcst sl9 sl10 sl12 fin
      exact opv_enter (by go_simp <;> rfl) (of_reto (k4.out w1 hG))
    · refine owes_vt 11 false (Go.Op.move (Go.Operand.tmp 10)) 27 [] (by kernel_rfl) (by kernel_rfl) (by kernel_rfl) (fun _ _ h => h) (by rw [hsz]; kernel_rfl) (by kernel_rfl) rfl fun vals w1 ρ hG hF hρ hcst hfun => ?_
      have e10 : ρ (.tmp 10) = .pointer (some ⟨R, 0, none⟩) := ((hρ 10).trans (slotO [] (by kernel_rfl))).trans sl10
      clear hρ hF hcst hfun sl9 sl10 sl12 fin
      exact opv_val (by go_simp <;> rfl) ⟨gw_self _, rfl⟩
    · refine owes_vt 11 false (Go.Op.fieldAddr 32 (Go.Operand.tmp 12) 1) 0 [] (by kernel_rfl) (by kernel_rfl) (by kernel_rfl) (fun _ _ h => h) (by rw [hsz]; kernel_rfl) (by kernel_rfl) rfl fun vals w1 ρ hG hF hρ hcst hfun => ?_
      have e12 : ρ (.tmp 12) = .pointer (some ⟨H, 0, none⟩) := ((hρ 12).trans (slotO [] (by kernel_rfl))).trans sl12
      clear hρ hF hcst hfun sl9 sl10 sl12 fin
      exact opv_val (by go_simp <;> rfl) ⟨gw_self _, rfl⟩
    · refine owes_vt 11 false (Go.Op.load 3 (Go.Operand.tmp 185)) 3 [17] (by kernel_rfl) (by kernel_rfl) (by kernel_rfl) (fun _ _ h => h) (by rw [hsz]; kernel_rfl) (by kernel_rfl) rfl fun vals w1 ρ hG hF hρ hcst hfun => ?_
      have e185 : ρ (.tmp 185) = .pointer (some ⟨H, 1, none⟩) := ((hρ 185).trans (slotJ [17] (by rw [hsz]; decide) (by kernel_rfl))).trans (hF 17 (by decide))
      have kk := (hG.cell (p := ⟨H, 1, none⟩) hH).trans c1
      clear hρ hF hcst hfun sl9 sl10 sl12 fin
      exact opv_val (by go_simp <;> rfl) ⟨gw_self _, rfl⟩
    · refine owes_vt 11 false (Go.Op.call { callee := Go.Callee.value (Go.Operand.func 21), args := #[Go.Operand.tmp 184, Go.Operand.tmp 186], argTypes := #[27, 3] }) 9 [16, 18] (by kernel_rfl) (by kernel_rfl) (by kernel_rfl) (fun _ _ h => h) (by rw [hsz]; kernel_rfl) (by kernel_rfl) rfl fun vals w1 ρ hG hF hρ hcst hfun => ?_
      have e184 : ρ (.tmp 184) = .pointer (some ⟨R, 0, none⟩) := ((hρ 184).trans (slotJ [16, 18] (by rw [hsz]; decide) (by kernel_rfl))).trans (hF 16 (by decide))
      have e186 : ρ (.tmp 186) = .int .i64 a := ((hρ 186).trans (slotJ [16, 18] (by rw [hsz]; decide) (by kernel_rfl))).trans (hF 18 (by decide))
      clear hρ hF hcst sl9 sl10 sl12 fin
      exact opv_enter (by go_simp <;> rfl) (of_reto (k5.out w1 hG))
    · refine owes_vt 11 false (Go.Op.binOp Go.BinOp.neq 9 (Go.Operand.tmp 183) (Go.Operand.tmp 187) 9) 4 [15, 19] (by kernel_rfl) (by kernel_rfl) (by kernel_rfl) (fun _ _ h => h) (by rw [hsz]; kernel_rfl) (by kernel_rfl) rfl fun vals w1 ρ hG hF hρ hcst hfun => ?_
      have e183 : ρ (.tmp 183) = .string z := ((hρ 183).trans (slotJ [15, 19] (by rw [hsz]; decide) (by kernel_rfl))).trans (hF 15 (by decide))
      have e187 : ρ (.tmp 187) = .string z := ((hρ 187).trans (slotJ [15, 19] (by rw [hsz]; decide) (by kernel_rfl))).trans (hF 19 (by decide))
      clear hρ hF hcst hfun sl9 sl10 sl12 fin
      exact opv_val (by go_simp <;> rfl) ⟨gw_self _, rfl⟩
    · refine owes_v (Go.Op.pick (Go.Operand.tmp 179) (Go.Operand.const (Go.Value.bool true)) (Go.Operand.tmp 188)) 4 [11, 20] (by kernel_rfl) (by kernel_rfl) (by kernel_rfl) rfl fun vals w1 ρ hG hF hρ hcst hfun => ?_
      have e179 : ρ (.tmp 179) = .bool false := ((hρ 179).trans (slotJ [11, 20] (by rw [hsz]; decide) (by kernel_rfl))).trans (hF 11 (by decide))
      have e188 : ρ (.tmp 188) = .bool false := ((hρ 188).trans (slotJ [11, 20] (by rw [hsz]; decide) (by kernel_rfl))).trans (hF 20 (by decide))
      clear hρ hF hfun sl9 sl10 sl12 fin
      exact opv_val (by go_simp <;> rfl) ⟨gw_self _, rfl⟩
  · intro vals w1 hG hF
    exact fin vals w1 hG (hF 21 (by decide +kernel))
theorem oplays_far (w : World) (ht : w.cell? ⟨2, 15, none⟩ = some (.int .u8 4)) (A A2 : Option Addr) (n c n2 c2 : Nat) (b t : Int) (h : 300 < n ∨ (¬ 300 < n ∧ 60 < n2)) : Calls Tryd.prog 3 #[.slice A n c, .int .i64 b, .int .i64 t, .slice A2 n2 c2] w (RetP (.bool true) w) := by
  have HK := Lib.hid (known16_c w ht)
  clear ht
  rcases h with h | ⟨h, h2⟩
  all_goals
    go_enter Tryd.func3, Tryd.ntmps3
    go_wp2_with fail
    refine Calls.mono HK.out ?_
    rintro r w1 ⟨rfl, b1⟩
    have HB1 := Lib.hid b1
    clear b1
    go_wp2_with fail
    go_ret
    exact ⟨rfl, HB1.out⟩
theorem oplays_walk (w : World) (hh : w.cell? ⟨2, 15, none⟩ = some (.int .u8 4) ∧ Lib.TabIs Tryd.prog w "internal/strconv.uint64pow10" .u64 Lib.pow10Tab) (A : Option Addr) (ws : List (BitVec 64)) (c : Nat) (_g : ws.length ≤ c) (_m : c ≤ maxLen) (hr : Rd u64v w w.heap.size A ws) (b0 : Int) (_w1 : (Lit.int .i64 b0).wf = true) (t0 : Int) (_w2 : (Lit.int .i64 t0).wf = true) (A2 : Option Addr) (l : List Oc) (c2 : Nat) (_g2 : l.length ≤ c2) (_m2 : c2 ≤ maxLen) (hA : Ocs w w.heap.size A2 l) :
    Calls Tryd.prog 3 #[.slice A ws.length c, .int .i64 b0, .int .i64 t0, .slice A2 l.length c2] w (RetP (.bool true) w) := by
  by_cases hfar : 300 < ws.length ∨ (¬ 300 < ws.length ∧ 60 < l.length)
  · exact oplays_far w hh.1 A A2 ws.length c l.length c2 b0 t0 hfar
  have HK := Lib.hid (known16_c w hh.1)
  have HTW := Lib.hid hh
  have HR := Lib.hid hr
  have HA := Lib.hid hA
  have HTo := Lib.hid (fun W hr => to_c W A ws c hr (by omega) b0 t0 (ws.length : Int))
  obtain ⟨N, hN⟩ : ∃ N, N = ws.length := ⟨_, rfl⟩
  obtain ⟨M, hM⟩ : ∃ M, M = l.length := ⟨_, rfl⟩
  rw [← hN] at HTo hfar ⊢
  rw [← hM] at hfar ⊢
  have u1 : ¬ (300 : Int) < (N : Int) := by omega
  have u2 : ¬ (60 : Int) < (M : Int) := by omega
  have q1 : (N : Int) ≤ 300 := by omega
  have q2 : (M : Int) ≤ 60 := by omega
  have HN := Lib.hid hN
  have HM := Lib.hid hM
  clear hh hr hA hN hM hfar _g _m _g2 _m2
  go_enter Tryd.func3, Tryd.ntmps3
  go_wp2_with fail
  refine Calls.mono HK.out ?_
  rintro r w1 ⟨rfl, b1⟩
  have HB1 := Lib.hid b1
  clear b1
  go_wp2_with fail
  refine Calls.mono (HTo.out w1 ((HR.out.below HB1.out).more HB1.out.size)) ?_
  rintro r w2 hto
  have HR1 := Lib.hid ((HR.out.below HB1.out).more HB1.out.size)
  rcases hto with ⟨rfl, b2⟩ | ⟨b, t, E, s, g, v, lo, rfl, rfl, hE, hBT, hTE, hEl, hob, rfl, hsp, b2⟩
  · have HB2 := Lib.hid b2
    clear b2
    go_wp2_with (at_builtin; refine wp_app one64 u64v_one rfl (.tmp 37) (.tmp 38) rfl w2.heap.size _ [] rfl (ow_empty u64v 68 w2 w2.heap.size (Nat.le_refl _)) A N c ws rfl HN.out w2.heap.size (((HR1.out.below HB2.out).more HB2.out.size).alloc (Nat.le_refl _) _) (by have := HN.out; simp; omega) (by decide) (by simp) ?_; intro v4 w4 ho4 hb4 hg4 hv4; rw [List.nil_append] at ho4; obtain ⟨A4, c4, rfl, hc4⟩ := ho4.form; have HO4 := Lib.hid hb4; clear ho4 hb4 hg4 hv4 hc4; rw [← HN.out])
    go_ret
    have hb34 : Below w2.heap.size w2 w4 := (Gw.alloc w2 (.cells #[] 68)).trans HO4.out
    exact ⟨rfl, HB1.out.trans ((HB2.out.trans ((hb34.alloc hb34.size _).mono HB2.out.size)).mono HB1.out.size)⟩
  · obtain rfl : E = N := by omega
    have HB2 := Lib.hid b2
    have HS2 := Lib.hid hsp
    have HBE := Lib.hid (show t ≤ E ∧ E ≤ 300 from ⟨by omega, by omega⟩)
    clear b2 hsp hE hBT hTE hEl hob
    go_wp2_with (at_builtin; refine wp_app one64 u64v_one rfl (.tmp 37) (.tmp 38) rfl w2.heap.size _ [] rfl (ow_empty u64v 68 w2 w2.heap.size (Nat.le_refl _)) A E c ws rfl HN.out w2.heap.size (((HR1.out.below HB2.out).more HB2.out.size).alloc (Nat.le_refl _) _) (by have := HN.out; simp; omega) (by decide) (by simp) ?_; intro v4 w4 ho4 hb4 hg4 hv4; rw [List.nil_append] at ho4; obtain ⟨A4, c4, rfl, hc4⟩ := ho4.form; have HO4 := Lib.hid (And.intro ho4 hb4); clear ho4 hb4 hg4 hv4 hc4; rw [← HN.out])
    obtain ⟨ho4, hb4⟩ := HO4.out
    have hb34 : Below w2.heap.size w2 w4 := (Gw.alloc w2 (.cells #[] 68)).trans hb4
    have hG0 : SpG w1 (w4.alloc (.cells #[.slice A4 ws.length c4, .int .i64 b, .int .i64 t, .int .i64 E] 29)) s g w4.heap.size v A4 c4 ws ws b t t E := by
      have hal := Gw.alloc w4 (.cells #[.slice A4 ws.length c4, .int .i64 b, .int .i64 t, .int .i64 E] 29)
      have hsl := HS2.out.blk.lt
      have hgl := HS2.out.mem.blk.lt
      have hsz := hb34.size
      refine ⟨(HS2.out.below hb34).below hal, Bk.new w4 _ _, (ho4.below hal).mono HB2.out.size, by omega, by omega, fun e => by have := (HS2.out.mem.row.lt _ e).2; omega, Nat.le_trans HB2.out.size hsz, fun q hq => ?_, (HB2.out.trans (hb34.mono HB2.out.size)).trans (hal.mono (Nat.le_trans HB2.out.size hsz))⟩
      have hq1 := (ho4.lt q hq).1
      have hq2 := (ho4.lt q hq).2
      exact ⟨by omega, fun e => by have := (HS2.out.mem.row.lt _ e).2; omega, by omega⟩
    rw [← HN.out] at hG0
    obtain ⟨W5, hW5⟩ : ∃ W, W = w4.alloc (.cells #[.slice A4 E c4, .int .i64 b, .int .i64 t, .int .i64 E] 29) := ⟨_, rfl⟩
    obtain ⟨R, hR⟩ : ∃ R, R = w4.heap.size := ⟨_, rfl⟩
    rw [← hW5, ← hR] at hG0
    have HG0 := Lib.hid hG0
    clear ho4 hb4 HO4 hb34 hG0
    rw [← hW5, ← hR]
    clear hW5 hR
    have HTB := Lib.hid (show w1.cell? ⟨2, 15, none⟩ = some (.int .u8 4) ∧ Lib.TabIs Tryd.prog w1 "internal/strconv.uint64pow10" .u64 Lib.pow10Tab from ⟨(HB1.out.cell (p := ⟨2, 15, none⟩) (cell_lt HTW.out.1)).trans HTW.out.1, ten_below HTW.out.2 HB1.out⟩)
    obtain ⟨N, hNE⟩ : ∃ N, N = E := ⟨_, rfl⟩
    subst hNE
    go_wp2_with fail
    go_loopw [11] (fun i W => ∃ (k : Nat) (cur : List (BitVec 64)) (Ar : Option Addr) (cr : Nat), k ≤ M ∧ i = .int .i64 k ∧ Hid (cur.length = N) ∧ SpG w1 W s g R v Ar cr cur cur b t t N) (fun i _ => M - (Go.RowKit.intOf i).toNat)
    case atStart => exact ⟨0, ws, A4, c4, by omega, rfl, Lib.hid HN.out.symm, HG0.out⟩
    case round =>
      obtain ⟨k, cur, Ar, cr, hk, rfl, hcl, hG⟩ := hrel
      have HGw := Lib.hid hG
      clear hG
      by_cases hlt : k < M
      · have p1 : (0 : Int) ≤ (k : Int) := by omega
        have p2 : (k : Int) < (M : Int) := by omega
        have hlw : k < l.length := by rw [← HM.out]; exact hlt
        obtain ⟨ad, rfl, m⟩ := HA.out k hlw
        obtain ⟨x, hx⟩ : ∃ x, x = l[k] := ⟨_, rfl⟩
        rw [← hx] at m
        obtain ⟨op, at_, i, n, ba, bb, bc⟩ := x
        obtain ⟨m0, m1, m2, m3, m4, m5, z0, z1, z2, z3, m7, m8, m9⟩ := m.below (HB1.out.trans (HGw.out.old.mono HB1.out.size))
        dsimp only at m1 m2 m3 m4 m5
        have HRB := Lib.hid (show Rd b8 w1 w1.heap.size ba bb from (m.br.below HB1.out).more HB1.out.size)
        obtain ⟨nb, hnb⟩ : ∃ nb, nb = bb.length := ⟨_, rfl⟩
        rw [← hnb] at m5
        have HNB := Lib.hid hnb
        clear hx hlw z0 z1 z2 z3 m7 m8 m9 m0 m hnb
        by_cases hb3 : 300 < nb
        · go_wp2_with fail
          go_ret
          exact ⟨rfl, HB1.out.trans ((HGw.out.old.alloc HGw.out.old.size _).mono HB1.out.size)⟩
        have HG := Lib.hid (PlO.enter HGw.out #[.int .i64 op, .int .i64 at_, .int .i64 i, .int .i64 n, .slice ba nb bc])
        clear HGw
        rcases (show op = 1 ∨ op = 2 ∨ op = 3 ∨ op = 4 ∨ (¬ op = 1 ∧ ¬ op = 2 ∧ ¬ op = 3 ∧ ¬ op = 4) by omega) with rfl | rfl | rfl | rfl | ⟨n1, n2, n3, n4⟩
        · as_aux_lemma =>
          obtain ⟨x, f, K⟩ := pl_ptr w1 s g R wr.heap.size v cur b t N #[.int .i64 1, .int .i64 at_, .int .i64 i, .int .i64 n, .slice ba nb bc] HBE.out.1 (by rw [hcl.out]; exact Nat.le_refl _) (by rw [hcl.out]; have := HBE.out; omega) at_ i
          have K := Lib.hid K
          clear p1 p2
          go_wp2_with fail
          refine Calls.mono (K.out _ _ _ HG.out).1 ?_
          rintro r w3 ⟨rfl, hG⟩
          have HG := Lib.hid hG
          obtain ⟨d0, d1, d2, d3, d4, dl⟩ := hG.five
          clear hG
          go_wp2_with fail
          refine Calls.mono (K.out _ _ _ HG.out).2 ?_
          rintro r w4 ⟨rfl, hG⟩
          have HG := Lib.hid hG
          clear hG
          by_cases hf : f = 0
          · have qf : (f == 0) = true := by simpa using hf
            clear hf
            go_wp2_with fail
            have HLN := Lib.hid (show cur.length = N from hcl.out)
            have hlN : cur.length ≤ 8192 := by rw [HLN.out]; have := HBE.out; omega
            have htl : t ≤ cur.length := by rw [HLN.out]; exact HBE.out.1
            obtain ⟨_, d1, _, _, _, dl⟩ := HG.out.five
            have k1 := Lib.hid (fun W hb => same15_t W _ s g R cr b t N v cur Ar (HG.out.below hb).sp.sp (HG.out.below hb).sp.ref (by omega))
            have k2 := Lib.hid (fun W hb => well_c W _ s g v cur b t N (HG.out.below hb).sp.sp hlN)
            have k3 := Lib.hid (fun W hb => rwell_c W R Ar cr cur b t N (HG.out.below hb).sp.ref (HG.out.below hb).sp.sp.bt htl hlN)
            have k4 := Lib.hid (fun W hb => otext_any W _ s g v cur b t N (HG.out.below hb).sp.sp hlN at_ (((HG.out.below hb).sp.old.cell (p := ⟨2, 15, none⟩) (cell_lt HTB.out.1)).trans HTB.out.1) (ten_below HTB.out.2 (HG.out.below hb).sp.old))
            have k5 := Lib.hid (fun W hb => rtext_any W R cr Ar cur b t N (HG.out.below hb).sp.ref htl hlN at_)
            clear hlN htl
            refine o4_r32 _ _ _ s R wr.heap.size at_ _ _ dl d1 k1 k2 k3 k4 k5 rfl ?_ ?_ ?_ ?_
            · rfl
            · rfl
            · rfl
            intro vals w29 hG29 h189
            unfold IsV at h189
            simp only [putD, Act.put, List.setIfInBounds_toArray, List.set_cons_zero, List.set_cons_succ, h189]
            have GF := Lib.hid (HG.out.below hG29)
            clear hG29 h189 k1 k2 k3 k4 k5 d1 dl HG
            go_wp2_with fail
            go_roundw
            case rel => exact ⟨k + 1, cur, Ar, cr, by omega, by go_num, HLN, GF.out.sp⟩
            case measure => (first | (simp [Go.RowKit.intOf]; done) | (simp [Go.RowKit.intOf]; omega))
          · have qf : (f == 0) = false := by simpa using hf
            clear hf
            go_wp2_with fail
            have HLN := Lib.hid (show cur.length = N from hcl.out)
            have hlN : cur.length ≤ 8192 := by rw [HLN.out]; have := HBE.out; omega
            have htl : t ≤ cur.length := by rw [HLN.out]; exact HBE.out.1
            obtain ⟨_, d1, _, _, _, dl⟩ := HG.out.five
            have k1 := Lib.hid (fun W hb => same15_t W _ s g R cr b t N v cur Ar (HG.out.below hb).sp.sp (HG.out.below hb).sp.ref (by omega))
            have k2 := Lib.hid (fun W hb => well_c W _ s g v cur b t N (HG.out.below hb).sp.sp hlN)
            have k3 := Lib.hid (fun W hb => rwell_c W R Ar cr cur b t N (HG.out.below hb).sp.ref (HG.out.below hb).sp.sp.bt htl hlN)
            have k4 := Lib.hid (fun W hb => otext_any W _ s g v cur b t N (HG.out.below hb).sp.sp hlN at_ (((HG.out.below hb).sp.old.cell (p := ⟨2, 15, none⟩) (cell_lt HTB.out.1)).trans HTB.out.1) (ten_below HTB.out.2 (HG.out.below hb).sp.old))
            have k5 := Lib.hid (fun W hb => rtext_any W R cr Ar cur b t N (HG.out.below hb).sp.ref htl hlN at_)
            clear hlN htl
            refine o4_r32 _ _ _ s R wr.heap.size at_ _ _ dl d1 k1 k2 k3 k4 k5 rfl ?_ ?_ ?_ ?_
            · rfl
            · rfl
            · rfl
            intro vals w29 hG29 h189
            unfold IsV at h189
            simp only [putD, Act.put, List.setIfInBounds_toArray, List.set_cons_zero, List.set_cons_succ, h189]
            have GF := Lib.hid (HG.out.below hG29)
            clear hG29 h189 k1 k2 k3 k4 k5 d1 dl HG
            go_wp2_with fail
            go_roundw
            case rel => exact ⟨k + 1, cur, Ar, cr, by omega, by go_num, HLN, GF.out.sp⟩
            case measure => (first | (simp [Go.RowKit.intOf]; done) | (simp [Go.RowKit.intOf]; omega))
        · as_aux_lemma =>
          obtain ⟨f, cur2, hl2, K1, K2⟩ := pl_set w1 s g R wr.heap.size v cur b t N #[.int .i64 2, .int .i64 at_, .int .i64 i, .int .i64 n, .slice ba nb bc] HBE.out.1 (by rw [hcl.out]; exact Nat.le_refl _) (by rw [hcl.out]; have := HBE.out; omega) at_ i n
          have K1 := Lib.hid K1
          have K2 := Lib.hid K2
          have HL2 := Lib.hid (hl2.trans hcl.out)
          clear hl2 p1 p2
          go_wp2_with fail
          have HG := Lib.hid (HG.out.below (Gw.drew _))
          refine region_by_spine [7, 15, 16] [(0, 98, .pointer (some ⟨s, 0, none⟩)), (1, 99, .pointer (some ⟨wr.heap.size, 1, none⟩)), (2, 100, .int .i64 at_), (3, 101, .pointer (some ⟨wr.heap.size, 2, none⟩)), (4, 102, .int .i64 i), (5, 103, .pointer (some ⟨wr.heap.size, 3, none⟩)), (6, 104, .int .i64 n), (8, 106, .pointer (some ⟨R, 0, none⟩)), (9, 107, .pointer (some ⟨wr.heap.size, 1, none⟩)), (10, 108, .int .i64 at_), (11, 109, .pointer (some ⟨wr.heap.size, 2, none⟩)), (12, 110, .int .i64 i), (13, 111, .pointer (some ⟨wr.heap.size, 3, none⟩)), (14, 112, .int .i64 n)] (FiveC wr.heap.size 2 at_ i n ba nb bc) (by kernel_rfl) (by kernel_rfl) (by kernel_rfl) (by kernel_rfl) (by kernel_rfl) HG.out.five ?_ ?_
          · intro x hx W1 ρ hW1 hρ hcst
            obtain ⟨d0, d1, d2, d3, d4, dl⟩ := hW1
            have e9 : ρ (.tmp 9) = .pointer (some ⟨s, 0, none⟩) := (hρ 9).trans ((putA_old _ _ 9 rfl).trans rfl)
            have e10 : ρ (.tmp 10) = .pointer (some ⟨R, 0, none⟩) := (hρ 10).trans ((putA_old _ _ 10 rfl).trans rfl)
            have e12 : ρ (.tmp 12) = .pointer (some ⟨wr.heap.size, 0, none⟩) := (hρ 12).trans ((putA_old _ _ 12 rfl).trans rfl)
            have e99 : ρ (.tmp 99) = .pointer (some ⟨wr.heap.size, 1, none⟩) := (hρ 99).trans (putA_new _ [(0, 98, .pointer (some ⟨s, 0, none⟩))] [(2, 100, .int .i64 at_), (3, 101, .pointer (some ⟨wr.heap.size, 2, none⟩)), (4, 102, .int .i64 i), (5, 103, .pointer (some ⟨wr.heap.size, 3, none⟩)), (6, 104, .int .i64 n), (8, 106, .pointer (some ⟨R, 0, none⟩)), (9, 107, .pointer (some ⟨wr.heap.size, 1, none⟩)), (10, 108, .int .i64 at_), (11, 109, .pointer (some ⟨wr.heap.size, 2, none⟩)), (12, 110, .int .i64 i), (13, 111, .pointer (some ⟨wr.heap.size, 3, none⟩)), (14, 112, .int .i64 n)] _ 1 99 _ rfl rfl (of_decide_eq_true (by kernel_rfl)))
            have e101 : ρ (.tmp 101) = .pointer (some ⟨wr.heap.size, 2, none⟩) := (hρ 101).trans (putA_new _ [(0, 98, .pointer (some ⟨s, 0, none⟩)), (1, 99, .pointer (some ⟨wr.heap.size, 1, none⟩)), (2, 100, .int .i64 at_)] [(4, 102, .int .i64 i), (5, 103, .pointer (some ⟨wr.heap.size, 3, none⟩)), (6, 104, .int .i64 n), (8, 106, .pointer (some ⟨R, 0, none⟩)), (9, 107, .pointer (some ⟨wr.heap.size, 1, none⟩)), (10, 108, .int .i64 at_), (11, 109, .pointer (some ⟨wr.heap.size, 2, none⟩)), (12, 110, .int .i64 i), (13, 111, .pointer (some ⟨wr.heap.size, 3, none⟩)), (14, 112, .int .i64 n)] _ 3 101 _ rfl rfl (of_decide_eq_true (by kernel_rfl)))
            have e103 : ρ (.tmp 103) = .pointer (some ⟨wr.heap.size, 3, none⟩) := (hρ 103).trans (putA_new _ [(0, 98, .pointer (some ⟨s, 0, none⟩)), (1, 99, .pointer (some ⟨wr.heap.size, 1, none⟩)), (2, 100, .int .i64 at_), (3, 101, .pointer (some ⟨wr.heap.size, 2, none⟩)), (4, 102, .int .i64 i)] [(6, 104, .int .i64 n), (8, 106, .pointer (some ⟨R, 0, none⟩)), (9, 107, .pointer (some ⟨wr.heap.size, 1, none⟩)), (10, 108, .int .i64 at_), (11, 109, .pointer (some ⟨wr.heap.size, 2, none⟩)), (12, 110, .int .i64 i), (13, 111, .pointer (some ⟨wr.heap.size, 3, none⟩)), (14, 112, .int .i64 n)] _ 5 103 _ rfl rfl (of_decide_eq_true (by kernel_rfl)))
            have e107 : ρ (.tmp 107) = .pointer (some ⟨wr.heap.size, 1, none⟩) := (hρ 107).trans (putA_new _ [(0, 98, .pointer (some ⟨s, 0, none⟩)), (1, 99, .pointer (some ⟨wr.heap.size, 1, none⟩)), (2, 100, .int .i64 at_), (3, 101, .pointer (some ⟨wr.heap.size, 2, none⟩)), (4, 102, .int .i64 i), (5, 103, .pointer (some ⟨wr.heap.size, 3, none⟩)), (6, 104, .int .i64 n), (8, 106, .pointer (some ⟨R, 0, none⟩))] [(10, 108, .int .i64 at_), (11, 109, .pointer (some ⟨wr.heap.size, 2, none⟩)), (12, 110, .int .i64 i), (13, 111, .pointer (some ⟨wr.heap.size, 3, none⟩)), (14, 112, .int .i64 n)] _ 9 107 _ rfl rfl (of_decide_eq_true (by kernel_rfl)))
            have e109 : ρ (.tmp 109) = .pointer (some ⟨wr.heap.size, 2, none⟩) := (hρ 109).trans (putA_new _ [(0, 98, .pointer (some ⟨s, 0, none⟩)), (1, 99, .pointer (some ⟨wr.heap.size, 1, none⟩)), (2, 100, .int .i64 at_), (3, 101, .pointer (some ⟨wr.heap.size, 2, none⟩)), (4, 102, .int .i64 i), (5, 103, .pointer (some ⟨wr.heap.size, 3, none⟩)), (6, 104, .int .i64 n), (8, 106, .pointer (some ⟨R, 0, none⟩)), (9, 107, .pointer (some ⟨wr.heap.size, 1, none⟩)), (10, 108, .int .i64 at_)] [(12, 110, .int .i64 i), (13, 111, .pointer (some ⟨wr.heap.size, 3, none⟩)), (14, 112, .int .i64 n)] _ 11 109 _ rfl rfl (of_decide_eq_true (by kernel_rfl)))
            have e111 : ρ (.tmp 111) = .pointer (some ⟨wr.heap.size, 3, none⟩) := (hρ 111).trans (putA_new _ [(0, 98, .pointer (some ⟨s, 0, none⟩)), (1, 99, .pointer (some ⟨wr.heap.size, 1, none⟩)), (2, 100, .int .i64 at_), (3, 101, .pointer (some ⟨wr.heap.size, 2, none⟩)), (4, 102, .int .i64 i), (5, 103, .pointer (some ⟨wr.heap.size, 3, none⟩)), (6, 104, .int .i64 n), (8, 106, .pointer (some ⟨R, 0, none⟩)), (9, 107, .pointer (some ⟨wr.heap.size, 1, none⟩)), (10, 108, .int .i64 at_), (11, 109, .pointer (some ⟨wr.heap.size, 2, none⟩)), (12, 110, .int .i64 i)] [(14, 112, .int .i64 n)] _ 13 111 _ rfl rfl (of_decide_eq_true (by kernel_rfl)))
            clear hρ
            simp only [List.mem_cons, List.not_mem_nil, or_false] at hx
            rcases hx with rfl | rfl | rfl | rfl | rfl | rfl | rfl | rfl | rfl | rfl | rfl | rfl | rfl | rfl
            all_goals
              refine ⟨_, rfl, ?_⟩
              go_simp
              try rfl
          simp only [putA, putD, Act.put, List.setIfInBounds_toArray, List.set_cons_zero, List.set_cons_succ]
          refine spine_list rfl rfl rfl ?_
          go_wp2_with fail
          refine Calls.mono (K1.out _ _ _ HG.out) ?_
          rintro r w3 ⟨rfl, hG⟩
          have HG := Lib.hid hG
          clear hG
          go_wp2_with fail
          refine ⟨rfl, HG.out.five, ?_⟩
          refine spine_list rfl rfl rfl ?_
          go_wp2_with fail
          refine Calls.mono (K2.out _ _ _ HG.out) ?_
          rintro r w4 ⟨rfl, A4, c4, hG⟩
          have HG := Lib.hid hG
          clear hG
          go_wp2_with fail
          refine ⟨rfl, HG.out.five, ?_⟩
          refine spine_list rfl rfl rfl ?_
          go_wp2_with fail
          refine ⟨rfl, HG.out.five, ?_⟩
          unfold SpineW
          go_wp2_with fail

          have HLN := Lib.hid (show cur2.length = N from HL2.out)
          have hlN : cur2.length ≤ 8192 := by rw [HLN.out]; have := HBE.out; omega
          have htl : t ≤ cur2.length := by rw [HLN.out]; exact HBE.out.1
          obtain ⟨_, d1, _, _, _, dl⟩ := HG.out.five
          have k1 := Lib.hid (fun W hb => same15_t W _ s g R c4 b t N v cur2 A4 (HG.out.below hb).sp.sp (HG.out.below hb).sp.ref (by omega))
          have k2 := Lib.hid (fun W hb => well_c W _ s g v cur2 b t N (HG.out.below hb).sp.sp hlN)
          have k3 := Lib.hid (fun W hb => rwell_c W R A4 c4 cur2 b t N (HG.out.below hb).sp.ref (HG.out.below hb).sp.sp.bt htl hlN)
          have k4 := Lib.hid (fun W hb => otext_any W _ s g v cur2 b t N (HG.out.below hb).sp.sp hlN at_ (((HG.out.below hb).sp.old.cell (p := ⟨2, 15, none⟩) (cell_lt HTB.out.1)).trans HTB.out.1) (ten_below HTB.out.2 (HG.out.below hb).sp.old))
          have k5 := Lib.hid (fun W hb => rtext_any W R c4 A4 cur2 b t N (HG.out.below hb).sp.ref htl hlN at_)
          clear hlN htl
          refine o4_r32 _ _ _ s R wr.heap.size at_ _ _ dl d1 k1 k2 k3 k4 k5 rfl ?_ ?_ ?_ ?_
          · rfl
          · rfl
          · rfl
          intro vals w29 hG29 h189
          unfold IsV at h189
          simp only [putD, Act.put, List.setIfInBounds_toArray, List.set_cons_zero, List.set_cons_succ, h189]
          have GF := Lib.hid (HG.out.below hG29)
          clear hG29 h189 k1 k2 k3 k4 k5 d1 dl HG
          go_wp2_with fail
          go_roundw
          case rel => exact ⟨k + 1, cur2, A4, c4, by omega, by go_num, HLN, GF.out.sp⟩
          case measure => (first | (simp [Go.RowKit.intOf]; done) | (simp [Go.RowKit.intOf]; omega))
        · as_aux_lemma =>
          obtain ⟨f, xs, K⟩ := pl_read w1 s g R wr.heap.size v cur b t N #[.int .i64 3, .int .i64 at_, .int .i64 i, .int .i64 n, .slice ba nb bc] HBE.out.1 (by rw [hcl.out]; exact Nat.le_refl _) (by rw [hcl.out]; have := HBE.out; omega) at_ i n
          have K := Lib.hid K
          clear p1 p2
          go_wp2_with fail
          refine Calls.mono (K.out _ _ _ HG.out).1 ?_
          rintro r w3 ⟨A3, c3, rfl, h3, hG⟩
          have HG := Lib.hid hG
          have H3 := Lib.hid h3
          obtain ⟨d0, d1, d2, d3, d4, dl⟩ := hG.five
          clear hG h3
          go_wp2_with fail
          refine Calls.mono (K.out _ _ _ HG.out).2 ?_
          rintro r w4 ⟨A4, c4, rfl, h4, b4, hG⟩
          have HG := Lib.hid hG
          have e3 := str_conv xs A3 c3 _ w4 (H3.out.below b4)
          have e4 := str_conv xs A4 c4 _ w4 h4
          obtain ⟨X, hX⟩ : ∃ X, X = xs.length := ⟨_, rfl⟩
          rw [← hX] at e3 e4 ⊢
          clear hG h4 b4 hX
          go_wp2_with fail

          have HLN := Lib.hid (show cur.length = N from hcl.out)
          have hlN : cur.length ≤ 8192 := by rw [HLN.out]; have := HBE.out; omega
          have htl : t ≤ cur.length := by rw [HLN.out]; exact HBE.out.1
          obtain ⟨_, d1, _, _, _, dl⟩ := HG.out.five
          have k1 := Lib.hid (fun W hb => same15_t W _ s g R cr b t N v cur Ar (HG.out.below hb).sp.sp (HG.out.below hb).sp.ref (by omega))
          have k2 := Lib.hid (fun W hb => well_c W _ s g v cur b t N (HG.out.below hb).sp.sp hlN)
          have k3 := Lib.hid (fun W hb => rwell_c W R Ar cr cur b t N (HG.out.below hb).sp.ref (HG.out.below hb).sp.sp.bt htl hlN)
          have k4 := Lib.hid (fun W hb => otext_any W _ s g v cur b t N (HG.out.below hb).sp.sp hlN at_ (((HG.out.below hb).sp.old.cell (p := ⟨2, 15, none⟩) (cell_lt HTB.out.1)).trans HTB.out.1) (ten_below HTB.out.2 (HG.out.below hb).sp.old))
          have k5 := Lib.hid (fun W hb => rtext_any W R cr Ar cur b t N (HG.out.below hb).sp.ref htl hlN at_)
          clear hlN htl
          refine o4_r32 _ _ _ s R wr.heap.size at_ _ _ dl d1 k1 k2 k3 k4 k5 rfl ?_ ?_ ?_ ?_
          · rfl
          · rfl
          · rfl
          intro vals w29 hG29 h189
          unfold IsV at h189
          simp only [putD, Act.put, List.setIfInBounds_toArray, List.set_cons_zero, List.set_cons_succ, h189]
          have GF := Lib.hid (HG.out.below hG29)
          clear hG29 h189 k1 k2 k3 k4 k5 d1 dl HG
          go_wp2_with fail
          go_roundw
          case rel => exact ⟨k + 1, cur, Ar, cr, by omega, by go_num, HLN, GF.out.sp⟩
          case measure => (first | (simp [Go.RowKit.intOf]; done) | (simp [Go.RowKit.intOf]; omega))
        · as_aux_lemma =>
          obtain ⟨f, cur2, hl2, K1, K2⟩ := pl_write w1 s g R wr.heap.size v cur b t N #[.int .i64 4, .int .i64 at_, .int .i64 i, .int .i64 n, .slice ba nb bc] HBE.out.1 (by rw [hcl.out]; exact Nat.le_refl _) (by rw [hcl.out]; have := HBE.out; omega) at_ i ba bc bb HRB.out
          have K1 := Lib.hid K1
          have K2 := Lib.hid K2
          have HL2 := Lib.hid (hl2.trans hcl.out)
          clear hl2 p1 p2
          rw [← HNB.out] at K1 K2
          go_wp2_with fail
          have HG := Lib.hid (HG.out.below (Gw.drew _))
          refine region_by_spine [7, 15, 16] [(0, 151, .pointer (some ⟨s, 0, none⟩)), (1, 152, .pointer (some ⟨wr.heap.size, 1, none⟩)), (2, 153, .int .i64 at_), (3, 154, .pointer (some ⟨wr.heap.size, 2, none⟩)), (4, 155, .int .i64 i), (5, 156, .pointer (some ⟨wr.heap.size, 4, none⟩)), (6, 157, .slice ba nb bc), (8, 159, .pointer (some ⟨R, 0, none⟩)), (9, 160, .pointer (some ⟨wr.heap.size, 1, none⟩)), (10, 161, .int .i64 at_), (11, 162, .pointer (some ⟨wr.heap.size, 2, none⟩)), (12, 163, .int .i64 i), (13, 164, .pointer (some ⟨wr.heap.size, 4, none⟩)), (14, 165, .slice ba nb bc)] (FiveC wr.heap.size 4 at_ i n ba nb bc) (by kernel_rfl) (by kernel_rfl) (by kernel_rfl) (by kernel_rfl) (by kernel_rfl) HG.out.five ?_ ?_
          · intro x hx W1 ρ hW1 hρ hcst
            obtain ⟨d0, d1, d2, d3, d4, dl⟩ := hW1
            have e9 : ρ (.tmp 9) = .pointer (some ⟨s, 0, none⟩) := (hρ 9).trans ((putA_old _ _ 9 rfl).trans rfl)
            have e10 : ρ (.tmp 10) = .pointer (some ⟨R, 0, none⟩) := (hρ 10).trans ((putA_old _ _ 10 rfl).trans rfl)
            have e12 : ρ (.tmp 12) = .pointer (some ⟨wr.heap.size, 0, none⟩) := (hρ 12).trans ((putA_old _ _ 12 rfl).trans rfl)
            have e152 : ρ (.tmp 152) = .pointer (some ⟨wr.heap.size, 1, none⟩) := (hρ 152).trans (putA_new _ [(0, 151, .pointer (some ⟨s, 0, none⟩))] [(2, 153, .int .i64 at_), (3, 154, .pointer (some ⟨wr.heap.size, 2, none⟩)), (4, 155, .int .i64 i), (5, 156, .pointer (some ⟨wr.heap.size, 4, none⟩)), (6, 157, .slice ba nb bc), (8, 159, .pointer (some ⟨R, 0, none⟩)), (9, 160, .pointer (some ⟨wr.heap.size, 1, none⟩)), (10, 161, .int .i64 at_), (11, 162, .pointer (some ⟨wr.heap.size, 2, none⟩)), (12, 163, .int .i64 i), (13, 164, .pointer (some ⟨wr.heap.size, 4, none⟩)), (14, 165, .slice ba nb bc)] _ 1 152 _ rfl rfl (of_decide_eq_true (by kernel_rfl)))
            have e154 : ρ (.tmp 154) = .pointer (some ⟨wr.heap.size, 2, none⟩) := (hρ 154).trans (putA_new _ [(0, 151, .pointer (some ⟨s, 0, none⟩)), (1, 152, .pointer (some ⟨wr.heap.size, 1, none⟩)), (2, 153, .int .i64 at_)] [(4, 155, .int .i64 i), (5, 156, .pointer (some ⟨wr.heap.size, 4, none⟩)), (6, 157, .slice ba nb bc), (8, 159, .pointer (some ⟨R, 0, none⟩)), (9, 160, .pointer (some ⟨wr.heap.size, 1, none⟩)), (10, 161, .int .i64 at_), (11, 162, .pointer (some ⟨wr.heap.size, 2, none⟩)), (12, 163, .int .i64 i), (13, 164, .pointer (some ⟨wr.heap.size, 4, none⟩)), (14, 165, .slice ba nb bc)] _ 3 154 _ rfl rfl (of_decide_eq_true (by kernel_rfl)))
            have e156 : ρ (.tmp 156) = .pointer (some ⟨wr.heap.size, 4, none⟩) := (hρ 156).trans (putA_new _ [(0, 151, .pointer (some ⟨s, 0, none⟩)), (1, 152, .pointer (some ⟨wr.heap.size, 1, none⟩)), (2, 153, .int .i64 at_), (3, 154, .pointer (some ⟨wr.heap.size, 2, none⟩)), (4, 155, .int .i64 i)] [(6, 157, .slice ba nb bc), (8, 159, .pointer (some ⟨R, 0, none⟩)), (9, 160, .pointer (some ⟨wr.heap.size, 1, none⟩)), (10, 161, .int .i64 at_), (11, 162, .pointer (some ⟨wr.heap.size, 2, none⟩)), (12, 163, .int .i64 i), (13, 164, .pointer (some ⟨wr.heap.size, 4, none⟩)), (14, 165, .slice ba nb bc)] _ 5 156 _ rfl rfl (of_decide_eq_true (by kernel_rfl)))
            have e160 : ρ (.tmp 160) = .pointer (some ⟨wr.heap.size, 1, none⟩) := (hρ 160).trans (putA_new _ [(0, 151, .pointer (some ⟨s, 0, none⟩)), (1, 152, .pointer (some ⟨wr.heap.size, 1, none⟩)), (2, 153, .int .i64 at_), (3, 154, .pointer (some ⟨wr.heap.size, 2, none⟩)), (4, 155, .int .i64 i), (5, 156, .pointer (some ⟨wr.heap.size, 4, none⟩)), (6, 157, .slice ba nb bc), (8, 159, .pointer (some ⟨R, 0, none⟩))] [(10, 161, .int .i64 at_), (11, 162, .pointer (some ⟨wr.heap.size, 2, none⟩)), (12, 163, .int .i64 i), (13, 164, .pointer (some ⟨wr.heap.size, 4, none⟩)), (14, 165, .slice ba nb bc)] _ 9 160 _ rfl rfl (of_decide_eq_true (by kernel_rfl)))
            have e162 : ρ (.tmp 162) = .pointer (some ⟨wr.heap.size, 2, none⟩) := (hρ 162).trans (putA_new _ [(0, 151, .pointer (some ⟨s, 0, none⟩)), (1, 152, .pointer (some ⟨wr.heap.size, 1, none⟩)), (2, 153, .int .i64 at_), (3, 154, .pointer (some ⟨wr.heap.size, 2, none⟩)), (4, 155, .int .i64 i), (5, 156, .pointer (some ⟨wr.heap.size, 4, none⟩)), (6, 157, .slice ba nb bc), (8, 159, .pointer (some ⟨R, 0, none⟩)), (9, 160, .pointer (some ⟨wr.heap.size, 1, none⟩)), (10, 161, .int .i64 at_)] [(12, 163, .int .i64 i), (13, 164, .pointer (some ⟨wr.heap.size, 4, none⟩)), (14, 165, .slice ba nb bc)] _ 11 162 _ rfl rfl (of_decide_eq_true (by kernel_rfl)))
            have e164 : ρ (.tmp 164) = .pointer (some ⟨wr.heap.size, 4, none⟩) := (hρ 164).trans (putA_new _ [(0, 151, .pointer (some ⟨s, 0, none⟩)), (1, 152, .pointer (some ⟨wr.heap.size, 1, none⟩)), (2, 153, .int .i64 at_), (3, 154, .pointer (some ⟨wr.heap.size, 2, none⟩)), (4, 155, .int .i64 i), (5, 156, .pointer (some ⟨wr.heap.size, 4, none⟩)), (6, 157, .slice ba nb bc), (8, 159, .pointer (some ⟨R, 0, none⟩)), (9, 160, .pointer (some ⟨wr.heap.size, 1, none⟩)), (10, 161, .int .i64 at_), (11, 162, .pointer (some ⟨wr.heap.size, 2, none⟩)), (12, 163, .int .i64 i)] [(14, 165, .slice ba nb bc)] _ 13 164 _ rfl rfl (of_decide_eq_true (by kernel_rfl)))
            clear hρ
            simp only [List.mem_cons, List.not_mem_nil, or_false] at hx
            rcases hx with rfl | rfl | rfl | rfl | rfl | rfl | rfl | rfl | rfl | rfl | rfl | rfl | rfl | rfl
            all_goals
              refine ⟨_, rfl, ?_⟩
              go_simp
              try rfl
          simp only [putA, putD, Act.put, List.setIfInBounds_toArray, List.set_cons_zero, List.set_cons_succ]
          refine spine_list rfl rfl rfl ?_
          go_wp2_with fail
          refine Calls.mono (K1.out _ _ _ HG.out) ?_
          rintro r w3 ⟨rfl, hG⟩
          have HG := Lib.hid hG
          clear hG
          go_wp2_with fail
          refine ⟨rfl, HG.out.five, ?_⟩
          refine spine_list rfl rfl rfl ?_
          go_wp2_with fail
          refine Calls.mono (K2.out _ _ _ HG.out) ?_
          rintro r w4 ⟨rfl, A4, c4, hG⟩
          have HG := Lib.hid hG
          clear hG
          go_wp2_with fail
          refine ⟨rfl, HG.out.five, ?_⟩
          refine spine_list rfl rfl rfl ?_
          go_wp2_with fail
          refine ⟨rfl, HG.out.five, ?_⟩
          unfold SpineW
          go_wp2_with fail

          have HLN := Lib.hid (show cur2.length = N from HL2.out)
          have hlN : cur2.length ≤ 8192 := by rw [HLN.out]; have := HBE.out; omega
          have htl : t ≤ cur2.length := by rw [HLN.out]; exact HBE.out.1
          obtain ⟨_, d1, _, _, _, dl⟩ := HG.out.five
          have k1 := Lib.hid (fun W hb => same15_t W _ s g R c4 b t N v cur2 A4 (HG.out.below hb).sp.sp (HG.out.below hb).sp.ref (by omega))
          have k2 := Lib.hid (fun W hb => well_c W _ s g v cur2 b t N (HG.out.below hb).sp.sp hlN)
          have k3 := Lib.hid (fun W hb => rwell_c W R A4 c4 cur2 b t N (HG.out.below hb).sp.ref (HG.out.below hb).sp.sp.bt htl hlN)
          have k4 := Lib.hid (fun W hb => otext_any W _ s g v cur2 b t N (HG.out.below hb).sp.sp hlN at_ (((HG.out.below hb).sp.old.cell (p := ⟨2, 15, none⟩) (cell_lt HTB.out.1)).trans HTB.out.1) (ten_below HTB.out.2 (HG.out.below hb).sp.old))
          have k5 := Lib.hid (fun W hb => rtext_any W R c4 A4 cur2 b t N (HG.out.below hb).sp.ref htl hlN at_)
          clear hlN htl
          refine o4_r32 _ _ _ s R wr.heap.size at_ _ _ dl d1 k1 k2 k3 k4 k5 rfl ?_ ?_ ?_ ?_
          · rfl
          · rfl
          · rfl
          intro vals w29 hG29 h189
          unfold IsV at h189
          simp only [putD, Act.put, List.setIfInBounds_toArray, List.set_cons_zero, List.set_cons_succ, h189]
          have GF := Lib.hid (HG.out.below hG29)
          clear hG29 h189 k1 k2 k3 k4 k5 d1 dl HG
          go_wp2_with fail
          go_roundw
          case rel => exact ⟨k + 1, cur2, A4, c4, by omega, by go_num, HLN, GF.out.sp⟩
          case measure => (first | (simp [Go.RowKit.intOf]; done) | (simp [Go.RowKit.intOf]; omega))
        · as_aux_lemma =>
          clear p1 p2
          go_wp2_with fail

          have HLN := Lib.hid (show cur.length = N from hcl.out)
          have hlN : cur.length ≤ 8192 := by rw [HLN.out]; have := HBE.out; omega
          have htl : t ≤ cur.length := by rw [HLN.out]; exact HBE.out.1
          obtain ⟨_, d1, _, _, _, dl⟩ := HG.out.five
          have k1 := Lib.hid (fun W hb => same15_t W _ s g R cr b t N v cur Ar (HG.out.below hb).sp.sp (HG.out.below hb).sp.ref (by omega))
          have k2 := Lib.hid (fun W hb => well_c W _ s g v cur b t N (HG.out.below hb).sp.sp hlN)
          have k3 := Lib.hid (fun W hb => rwell_c W R Ar cr cur b t N (HG.out.below hb).sp.ref (HG.out.below hb).sp.sp.bt htl hlN)
          have k4 := Lib.hid (fun W hb => otext_any W _ s g v cur b t N (HG.out.below hb).sp.sp hlN at_ (((HG.out.below hb).sp.old.cell (p := ⟨2, 15, none⟩) (cell_lt HTB.out.1)).trans HTB.out.1) (ten_below HTB.out.2 (HG.out.below hb).sp.old))
          have k5 := Lib.hid (fun W hb => rtext_any W R cr Ar cur b t N (HG.out.below hb).sp.ref htl hlN at_)
          clear hlN htl
          refine o4_r32 _ _ _ s R wr.heap.size at_ _ _ dl d1 k1 k2 k3 k4 k5 rfl ?_ ?_ ?_ ?_
          · rfl
          · rfl
          · rfl
          intro vals w29 hG29 h189
          unfold IsV at h189
          simp only [putD, Act.put, List.setIfInBounds_toArray, List.set_cons_zero, List.set_cons_succ, h189]
          have GF := Lib.hid (HG.out.below hG29)
          clear hG29 h189 k1 k2 k3 k4 k5 d1 dl HG
          go_wp2_with fail
          go_roundw
          case rel => exact ⟨k + 1, cur, Ar, cr, by omega, by go_num, HLN, GF.out.sp⟩
          case measure => (first | (simp [Go.RowKit.intOf]; done) | (simp [Go.RowKit.intOf]; omega))
      · go_wp2_with fail
        go_ret
        exact ⟨rfl, HB1.out.trans (HGw.out.old.mono HB1.out.size)⟩
end Go.Proofs.YtfodefgihicafaaDoor
namespace Go.Proofs.YtfodefgihicafaaDoor.objectPlays
open Go.ChangeShapes Go.WideShapes Go.ChangeAt Go.RowKit
open Go.ChangeMaps (open_string shut_string)
set_option linter.unusedVariables false
set_option maxRecDepth 100000 in
theorem lifted (os : Os) (started : os.Started) (H : Type) (enc : TypeId × Value → H) :
    ReturnsInHanded {} Tryd.checked os 3 .any (fun w args => (Rows.objectPlaysSpec.pre enc Tryd.prog Tryd.f3 [] false w args ∧ laidMetH Tryd.prog laidO4 w) ∧ sizedMet enc Tryd.prog Tryd.f3 (OpenSpec.ofChange Rows.objectPlaysSpec) false w args) (Rows.objectPlaysSpec.post enc Tryd.prog Tryd.f3 false true false false) := by
  refine returnsInHanded_of_change_and (C := Tryd.checked) (X := fun w _ => laidMetH Tryd.prog laidO4 w) (fun _ _ _ hh h => h.of_heap hh) own started (by kernel_rfl) Tryd.func3
    (ChangeSpec.witness_shaped (enc := enc) (C := Tryd.checked) (os := os) (X := fun w _ => laidMetH Tryd.prog laidO4 w) false (World.doorLaid Tryd.prog 24 os) #[.slice none 0 0, .int .i64 0, .int .i64 0, .slice none 0 0] 8 rfl (World.shaped_of_RefB (by kernel_rfl) (by kernel_rfl)) (by kernel_rfl) (by kernel_rfl) (by kernel_rfl) (door_met os _)) ?_
  intro W base args ds gs before hval0 hW _ _ hL _
  have hLd := of_laid hL
  have hval : ∀ (j : Nat) t v, Tryd.f3.params[j]? = some t → args[j]? = some v → Value.okWide Tryd.prog W .any base t v := hval0
  have hW' := hW
  obtain ⟨p, q, hA0, hV, rfl, hfz, hnd⟩ := hW
  have hA : DataW.TrodAll enc Tryd.prog W 0 (fun _ => true) true Tryd.f3.params.toList args.toList ds p := hA0
  rw [Tryd.params3] at hA hval
  obtain ⟨v0, vs0, d0, ds0, p0, q0, hargs, rfl, rfl, h0, r0⟩ := trodAll_cons hA
  obtain ⟨v1, vs1, d1, ds1, p1, q1, rfl, rfl, rfl, h1, r1⟩ := trodAll_cons r0
  obtain ⟨v2, vs2, d2, ds2, p2, q2, rfl, rfl, rfl, h2, r2⟩ := trodAll_cons r1
  obtain ⟨v3, vs3, d3, ds3, p3, q3, rfl, rfl, rfl, h3, r3⟩ := trodAll_cons r2
  obtain ⟨rfl, rfl, rfl⟩ := trodAll_nil r3
  obtain rfl : args = #[v0, v1, v2, v3] := by cases args; simp_all
  obtain ⟨rfl, rfl⟩ := trodVars_none hV
  have k0 := h0
  have lt0 : ∀ x ∈ p0, x.block < W.heap.size := by obtain ⟨m, hm⟩ := k0; exact DataW.trod_lt m _ _ _ hm
  obtain ⟨A0, a0, c0, e0v, g0, m0, w0⟩ := open_words Tryd.underlying22 Tryd.underlying68 (by kernel_rfl) (hval 0 22 v0 rfl rfl) h0; subst e0v
  have k1 := h1
  have lt1 : ∀ x ∈ p1, x.block < W.heap.size := by obtain ⟨m, hm⟩ := k1; exact DataW.trod_lt m _ _ _ hm
  obtain ⟨a1, e1v, _, _, w1⟩ := open_int Tryd.underlying3 (hval 1 3 v1 rfl rfl) h1; subst e1v
  have k2 := h2
  have lt2 : ∀ x ∈ p2, x.block < W.heap.size := by obtain ⟨m, hm⟩ := k2; exact DataW.trod_lt m _ _ _ hm
  obtain ⟨a2, e2v, _, _, w2⟩ := open_int Tryd.underlying3 (hval 2 3 v2 rfl rfl) h2; subst e2v
  have k3 := h3
  have lt3 : ∀ x ∈ p3, x.block < W.heap.size := by obtain ⟨m, hm⟩ := k3; exact DataW.trod_lt m _ _ _ hm
  obtain ⟨A3, a3, c3, e3v, g3, m3, w3⟩ := open_rows_Act (hval 3 23 v3 rfl rfl) h3; subst e3v
  clear hA0 hval0
  refine (oplays_walk W hLd A0 a0 c0 g0 m0 w0 a1 w1 a2 w2 A3 a3 c3 g3 m3 w3).mono fun e W' ⟨he, bel⟩ => ?_
  subst he
  exact ⟨_, rfl, _, _, _, [], _, [], hW', trodAll_mk1 (shut_bool Tryd.underlying4 _), (trodAll_cons_mk (Below.trod laidOut (by kernel_rfl) (of_decide_eq_true (by kernel_rfl)) k0 bel lt0) (trodAll_cons_mk (Below.trod laidOut (by kernel_rfl) (of_decide_eq_true (by kernel_rfl)) k1 bel lt1) (trodAll_cons_mk (Below.trod laidOut (by kernel_rfl) (of_decide_eq_true (by kernel_rfl)) k2 bel lt2) (trodAll_cons_mk (Below.trod laidOut (by kernel_rfl) (of_decide_eq_true (by kernel_rfl)) k3 bel lt3) trodAll_mk0)))), rfl, bel.frame _, fun h => by cases h⟩
theorem over : Rows.objectPlaysRow.holds Tryd.pinned (OpenSpec.ofChange Rows.objectPlaysSpec) :=
  OpenClaim.holds_of_wide 3 Tryd.f3 rfl rfl rfl rfl rfl rfl rfl ⟨rfl, rfl, rfl, rfl, rfl⟩ rfl rfl rfl rfl rfl (by kernel_rfl) Tryd.func3 (by kernel_rfl)
    (of_decide_eq_true (by kernel_rfl)) (by unfold Func.isWrapper; first | (rw [if_pos (by decide +kernel)]; kernel_rfl) | (rw [if_neg (by decide +kernel)]; exact ⟨rfl, rfl⟩))
    (fun os started H enc _ => lifted os started H enc)
theorem proved : Rows.ObjectPlaysCardSaid :=
  Claim7.holds_tied_plain_at .later [] [.data, .data, .data] true (true, "c9447320ff57cce1bb3f3cabae1e8816a2dfa12256a7c525c45f8a6aebb30cda") false over (fun _ h => by cases h) (by kernel_rfl) (fun _ h => by cases h) objectPlays_row_tie rfl ⟨rfl, rfl⟩ (by kernel_rfl) rfl
    (fun f fn hf hfn => by
      obtain rfl : f = 3 := Option.some.inj ((show Tryd.prog.funcNamed Rows.objectPlaysRow.func = some 3 by kernel_rfl).symm.trans hf) |>.symm
      obtain rfl : fn = Tryd.f3 := (Option.some.inj (Tryd.func3.symm.trans hfn)).symm
      exact ⟨by kernel_rfl, fun j t ht => by
        rw [Tryd.params3] at ht
        have hm : t ∈ [22, 3, 3, 23] := by simpa using Array.mem_of_getElem? ht
        have hall : ([22, 3, 3, 23].all fun u => !Tryd.prog.wantsStandIn u) = true := by kernel_rfl
        exact (show Tryd.prog.wantsStandIn t = false by simpa using List.all_eq_true.1 hall t hm)⟩)
    (by kernel_rfl)
end Go.Proofs.YtfodefgihicafaaDoor.objectPlays
