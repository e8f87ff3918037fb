/- The law MemFields of layer 13 returns true for every argument. No conditions. -/
import Derived.Test.YtobcpcobgdmleaaMmL
import Derived.Test.YtobcpcobgdmleaaOpenW
namespace Go.Proofs.Ytobcpcobgdmleaa
set_option linter.unusedVariables false
set_option linter.unusedSimpArgs false
open Go.RowKit
theorem of_ans {P : Program} {f : FuncId} {args : Array Value} {v : Value} {w : World} (h : Ans P f args w v) : Calls P f args w fun e w2 => ∃ u, e = .returned u ∧ Below w.heap.size w w2 ∧ IsV v u w2 :=
  h.mono fun _ _ h => ⟨_, h.1, h.2.below _, rfl⟩
theorem byte_field (y : BitVec 64) (s : Nat) (hs : s ≤ 56) : (((y >>> s).setWidth 8).setWidth 64) = fieldB y (s : Int) 8 := by
  have hw : wB (s : Int) 8 = true := by unfold wB; simp; omega
  unfold fieldB
  rw [if_pos hw]
  apply BitVec.eq_of_getLsbD_eq
  intro i hi
  rw [BitVec.getLsbD_and, lowB_bit 8 (by decide) (by decide), BitVec.getLsbD_setWidth, BitVec.getLsbD_setWidth]
  by_cases h8 : i < 8 <;> simp [h8, hi]
attribute [local go_sem] u8_u64 wrapU64
set_option maxHeartbeats 400000
set_option maxRecDepth 100000
theorem mf_reg (Q : Exit → Act → World → Prop) (a0 : Act) (w : World) (ad : Addr) (q N c c2 a j b s : Nat) (x : BitVec 8) (y : BitVec 64) (hx : Hid (x.setWidth 64 = fieldB y (s : Int) 8)) (ha : ad.block < w.heap.size) (hq : q < w.heap.size) (h1 : w.cell? (ad.add j) = some (.int .u64 (U64 y))) (h2 : w.cell? ⟨q, 0, none⟩ = some (.int .u8 (U8 x))) (p1 : (0 : Int) ≤ (j : Int)) (p2 : (j : Int) < (N : Int)) (p3 : (N : Int) ≤ 100) (d3 : (a : Int).tdiv 8 = (j : Int)) (d4 : (a : Int).tmod 8 = (b : Int)) (d5 : (8 : Int) * (b : Int) = (s : Int)) (d6 : (0 : Int) ≤ (s : Int)) (d7 : (s : Int) ≤ 56) (hsz : a0.tmps.size = 64) (sl0 : a0.tmps.getD 0 undef = .slice (some ad) N c) (sl1 : a0.tmps.getD 1 undef = .int .i64 a) (sl7 : a0.tmps.getD 7 undef = .slice (some ⟨q, 0, none⟩) 1 c2) (sl8 : a0.tmps.getD 8 undef = .int .i64 0)
    (fin : ∀ (vals : Nat → Value) (w1 : World), Below w.heap.size w w1 → (IsV (.bool true)) (vals 23) w1 → Q .normal (putD vals [41, 42, 43, 44, 45, 46, 47, 48, 49, 50, 51, 52, 53, 54, 55, 56, 57, 58, 59, 60, 61, 62, 63, 4] 0 a0) w1) :
    (Code.region 9 (regIn Try.f7 9) true).wp Try.prog Q a0 w := by
  refine region_by (G := fun w w1 => Below w.heap.size w w1) [IsV (.int .i64 0),
    IsV (.bool true),
    IsV (.bool true),
    IsV (.slice (some ⟨q, 0, none⟩) 1 c2),
    IsV (.int .i64 1),
    IsV (.bool true),
    IsV (.bool true),
    IsV (.bool true),
    IsV (.slice (some ⟨q, 0, none⟩) 1 c2),
    IsV (.pointer (some ⟨q, 0, none⟩)),
    IsV (.int .u8 (U8 x)),
    IsV (.int .u64 (U64 (fieldB y (s : Int) 8))),
    IsV (.slice (some ad) N c),
    IsV (.int .i64 a),
    IsV (.int .i64 j),
    IsV (.pointer (some (ad.add j))),
    IsV (.int .u64 (U64 y)),
    IsV (.int .i64 a),
    IsV (.int .i64 b),
    IsV (.int .i64 s),
    IsV (.int .u64 (U64 (fieldB y (s : Int) 8))),
    IsV (.bool true),
    IsV (.bool true),
    IsV (.bool true)]
    [41, 42, 43, 44, 45, 46, 47, 48, 49, 50, 51, 52, 53, 54, 55, 56, 57, 58, 59, 60, 61, 62, 63, 4] (by kernel_rfl) (Gw.drew _) Gw.trans (by rw [hsz]; kernel_rfl) (by kernel_rfl) ?_ ?_ ?_
  · intro f hf
    simp only [List.mem_cons, List.not_mem_nil, or_false] at hf
    rcases hf with rfl | rfl | rfl | rfl | rfl | rfl | rfl | rfl | rfl | rfl | rfl | rfl | rfl | rfl | rfl | rfl | rfl | rfl | rfl | rfl | rfl | rfl | rfl | rfl <;> intro v a b h g <;> first | exact IsV.mono h
  · refine ⟨?_, ?_, ?_, ?_, ?_, ?_, ?_, ?_, ?_, ?_, ?_, ?_, ?_, ?_, ?_, ?_, ?_, ?_, ?_, ?_, ?_, ?_, ?_, ?_, trivial⟩
    · exact owes_mv 8 (by kernel_rfl) (by kernel_rfl) (by kernel_rfl) sl8 (fun _ => rfl)
    · refine owes_v (Go.Op.binOp Go.BinOp.eql 3 (Go.Operand.tmp 41) (Go.Operand.const (Go.Value.int Go.IntKind.i64 0)) 3) 4 [0] (by kernel_rfl) (by kernel_rfl) (by kernel_rfl) rfl fun vals w1 ρ hG hF hρ hcst hfun => ?_
      have e41 : ρ (.tmp 41) = .int .i64 0 := ((hρ 41).trans (slotJ [0] (by rw [hsz]; decide) (by kernel_rfl))).trans (hF 0 (by decide))
      clear hρ hF hfun sl0 sl1 sl7 sl8 fin
      exact opv_val (by go_simp <;> rfl) ⟨gw_self _, rfl⟩
    · exact owes_mvj 1 42 (by kernel_rfl) (by kernel_rfl) (by kernel_rfl) (by kernel_rfl) (by rw [hsz]; decide) (fun v w h => h)
    · refine owes_vt 2 true (Go.Op.move (Go.Operand.tmp 7)) 30 [] (by kernel_rfl) (by kernel_rfl) (by kernel_rfl) (fun _ _ h => h) (by rw [hsz]; kernel_rfl) (by kernel_rfl) rfl fun vals w1 ρ hG hF hρ hcst hfun => ?_
      have e7 : ρ (.tmp 7) = .slice (some ⟨q, 0, none⟩) 1 c2 := ((hρ 7).trans (slotO [] (by kernel_rfl))).trans sl7
      clear hρ hF hcst hfun sl0 sl1 sl7 sl8 fin
      exact opv_val (by go_simp <;> rfl) ⟨gw_self _, rfl⟩
    · refine owes_vt 2 true (Go.Op.call { callee := Go.Callee.builtin Go.Builtin.len, args := #[Go.Operand.tmp 44], argTypes := #[30] }) 3 [3] (by kernel_rfl) (by kernel_rfl) (by kernel_rfl) (fun _ _ h => h) (by rw [hsz]; kernel_rfl) (by kernel_rfl) rfl fun vals w1 ρ hG hF hρ hcst hfun => ?_
      have e44 : ρ (.tmp 44) = .slice (some ⟨q, 0, none⟩) 1 c2 := ((hρ 44).trans (slotJ [3] (by rw [hsz]; decide) (by kernel_rfl))).trans (hF 3 (by decide))
      clear hρ hF hcst hfun sl0 sl1 sl7 sl8 fin
      exact opv_val (by go_simp <;> rfl) ⟨gw_self _, rfl⟩
    · refine owes_vt 2 true (Go.Op.binOp Go.BinOp.eql 3 (Go.Operand.tmp 45) (Go.Operand.const (Go.Value.int Go.IntKind.i64 1)) 3) 4 [4] (by kernel_rfl) (by kernel_rfl) (by kernel_rfl) (fun _ _ h => h) (by rw [hsz]; kernel_rfl) (by kernel_rfl) rfl fun vals w1 ρ hG hF hρ hcst hfun => ?_
      have e45 : ρ (.tmp 45) = .int .i64 1 := ((hρ 45).trans (slotJ [4] (by rw [hsz]; decide) (by kernel_rfl))).trans (hF 4 (by decide))
      clear hρ hF hfun sl0 sl1 sl7 sl8 fin
      exact opv_val (by go_simp <;> rfl) ⟨gw_self _, rfl⟩
    · refine owes_v (Go.Op.pick (Go.Operand.tmp 43) (Go.Operand.tmp 46) (Go.Operand.const (Go.Value.bool false))) 4 [2, 5] (by kernel_rfl) (by kernel_rfl) (by kernel_rfl) rfl fun vals w1 ρ hG hF hρ hcst hfun => ?_
      have e43 : ρ (.tmp 43) = .bool true := ((hρ 43).trans (slotJ [2, 5] (by rw [hsz]; decide) (by kernel_rfl))).trans (hF 2 (by decide))
      have e46 : ρ (.tmp 46) = .bool true := ((hρ 46).trans (slotJ [2, 5] (by rw [hsz]; decide) (by kernel_rfl))).trans (hF 5 (by decide))
      clear hρ hF hfun sl0 sl1 sl7 sl8 fin
      exact opv_val (by go_simp <;> rfl) ⟨gw_self _, rfl⟩
    · exact owes_mvj 6 47 (by kernel_rfl) (by kernel_rfl) (by kernel_rfl) (by kernel_rfl) (by rw [hsz]; decide) (fun v w h => h)
    · refine owes_vt 7 true (Go.Op.move (Go.Operand.tmp 7)) 30 [] (by kernel_rfl) (by kernel_rfl) (by kernel_rfl) (fun _ _ h => h) (by rw [hsz]; kernel_rfl) (by kernel_rfl) rfl fun vals w1 ρ hG hF hρ hcst hfun => ?_
      have e7 : ρ (.tmp 7) = .slice (some ⟨q, 0, none⟩) 1 c2 := ((hρ 7).trans (slotO [] (by kernel_rfl))).trans sl7
      clear hρ hF hcst hfun sl0 sl1 sl7 sl8 fin
      exact opv_val (by go_simp <;> rfl) ⟨gw_self _, rfl⟩
    · refine owes_vt 7 true (Go.Op.indexAddr 30 (Go.Operand.tmp 49) (Go.Operand.const (Go.Value.int Go.IntKind.i64 0))) 0 [8] (by kernel_rfl) (by kernel_rfl) (by kernel_rfl) (fun _ _ h => h) (by rw [hsz]; kernel_rfl) (by kernel_rfl) rfl fun vals w1 ρ hG hF hρ hcst hfun => ?_
      have e49 : ρ (.tmp 49) = .slice (some ⟨q, 0, none⟩) 1 c2 := ((hρ 49).trans (slotJ [8] (by rw [hsz]; decide) (by kernel_rfl))).trans (hF 8 (by decide))
      clear hρ hF hfun sl0 sl1 sl7 sl8 fin
      exact opv_val (by go_simp <;> rfl) ⟨gw_self _, rfl⟩
    · refine owes_vt 7 true (Go.Op.load 5 (Go.Operand.tmp 50)) 5 [9] (by kernel_rfl) (by kernel_rfl) (by kernel_rfl) (fun _ _ h => h) (by rw [hsz]; kernel_rfl) (by kernel_rfl) rfl fun vals w1 ρ hG hF hρ hcst hfun => ?_
      have e50 : ρ (.tmp 50) = .pointer (some ⟨q, 0, none⟩) := ((hρ 50).trans (slotJ [9] (by rw [hsz]; decide) (by kernel_rfl))).trans (hF 9 (by decide))
      have k := (hG.cell (p := ⟨q, 0, none⟩) hq).trans h2
      clear hρ hF hcst hfun sl0 sl1 sl7 sl8 fin
      exact opv_val (by go_simp <;> rfl) ⟨gw_self _, rfl⟩
    · refine owes_vt 7 true (Go.Op.convert 5 29 (Go.Operand.tmp 51)) 29 [10] (by kernel_rfl) (by kernel_rfl) (by kernel_rfl) (fun _ _ h => h) (by rw [hsz]; kernel_rfl) (by kernel_rfl) rfl fun vals w1 ρ hG hF hρ hcst hfun => ?_
      have e51 : ρ (.tmp 51) = .int .u8 (U8 x) := ((hρ 51).trans (slotJ [10] (by rw [hsz]; decide) (by kernel_rfl))).trans (hF 10 (by decide))
      clear hρ hF hcst hfun sl0 sl1 sl7 sl8 fin
      exact opv_val (by go_simp <;> rfl) ⟨gw_self _, congrArg (fun z => Value.int .u64 (U64 z)) hx.out⟩
    · refine owes_vt 7 true (Go.Op.move (Go.Operand.tmp 0)) 22 [] (by kernel_rfl) (by kernel_rfl) (by kernel_rfl) (fun _ _ h => h) (by rw [hsz]; kernel_rfl) (by kernel_rfl) rfl fun vals w1 ρ hG hF hρ hcst hfun => ?_
      have e0 : ρ (.tmp 0) = .slice (some ad) N c := ((hρ 0).trans (slotO [] (by kernel_rfl))).trans sl0
      clear hρ hF hcst hfun sl0 sl1 sl7 sl8 fin
      exact opv_val (by go_simp <;> rfl) ⟨gw_self _, rfl⟩
    · refine owes_vt 7 true (Go.Op.move (Go.Operand.tmp 1)) 3 [] (by kernel_rfl) (by kernel_rfl) (by kernel_rfl) (fun _ _ h => h) (by rw [hsz]; kernel_rfl) (by kernel_rfl) rfl fun vals w1 ρ hG hF hρ hcst hfun => ?_
      have e1 : ρ (.tmp 1) = .int .i64 a := ((hρ 1).trans (slotO [] (by kernel_rfl))).trans sl1
      clear hρ hF hcst hfun sl0 sl1 sl7 sl8 fin
      exact opv_val (by go_simp <;> rfl) ⟨gw_self _, rfl⟩
    · refine owes_vt 7 true (Go.Op.binOp Go.BinOp.quo 3 (Go.Operand.tmp 54) (Go.Operand.const (Go.Value.int Go.IntKind.i64 8)) 3) 3 [13] (by kernel_rfl) (by kernel_rfl) (by kernel_rfl) (fun _ _ h => h) (by rw [hsz]; kernel_rfl) (by kernel_rfl) rfl fun vals w1 ρ hG hF hρ hcst hfun => ?_
      have e54 : ρ (.tmp 54) = .int .i64 a := ((hρ 54).trans (slotJ [13] (by rw [hsz]; decide) (by kernel_rfl))).trans (hF 13 (by decide))
      have kw0 : IntKind.i64.wrap ((j : Int)) = (j : Int) := wrapIn (by omega) (by omega)
      clear hρ hF hfun sl0 sl1 sl7 sl8 fin
      exact opv_val (by go_simp <;> rfl) ⟨gw_self _, rfl⟩
    · refine owes_vt 7 true (Go.Op.indexAddr 22 (Go.Operand.tmp 53) (Go.Operand.tmp 55)) 0 [12, 14] (by kernel_rfl) (by kernel_rfl) (by kernel_rfl) (fun _ _ h => h) (by rw [hsz]; kernel_rfl) (by kernel_rfl) rfl fun vals w1 ρ hG hF hρ hcst hfun => ?_
      have e53 : ρ (.tmp 53) = .slice (some ad) N c := ((hρ 53).trans (slotJ [12, 14] (by rw [hsz]; decide) (by kernel_rfl))).trans (hF 12 (by decide))
      have e55 : ρ (.tmp 55) = .int .i64 j := ((hρ 55).trans (slotJ [12, 14] (by rw [hsz]; decide) (by kernel_rfl))).trans (hF 14 (by decide))
      clear hρ hF hcst hfun sl0 sl1 sl7 sl8 fin
      exact opv_val (by go_simp <;> rfl) ⟨gw_self _, rfl⟩
    · refine owes_vt 7 true (Go.Op.load 29 (Go.Operand.tmp 56)) 29 [15] (by kernel_rfl) (by kernel_rfl) (by kernel_rfl) (fun _ _ h => h) (by rw [hsz]; kernel_rfl) (by kernel_rfl) rfl fun vals w1 ρ hG hF hρ hcst hfun => ?_
      have e56 : ρ (.tmp 56) = .pointer (some (ad.add j)) := ((hρ 56).trans (slotJ [15] (by rw [hsz]; decide) (by kernel_rfl))).trans (hF 15 (by decide))
      have k := (hG.cell (p := ad.add j) (by rw [add_block]; exact ha)).trans h1
      clear hρ hF hcst hfun sl0 sl1 sl7 sl8 fin
      exact opv_val (by go_simp <;> rfl) ⟨gw_self _, rfl⟩
    · refine owes_vt 7 true (Go.Op.move (Go.Operand.tmp 1)) 3 [] (by kernel_rfl) (by kernel_rfl) (by kernel_rfl) (fun _ _ h => h) (by rw [hsz]; kernel_rfl) (by kernel_rfl) rfl fun vals w1 ρ hG hF hρ hcst hfun => ?_
      have e1 : ρ (.tmp 1) = .int .i64 a := ((hρ 1).trans (slotO [] (by kernel_rfl))).trans sl1
      clear hρ hF hcst hfun sl0 sl1 sl7 sl8 fin
      exact opv_val (by go_simp <;> rfl) ⟨gw_self _, rfl⟩
    · refine owes_vt 7 true (Go.Op.binOp Go.BinOp.rem 3 (Go.Operand.tmp 58) (Go.Operand.const (Go.Value.int Go.IntKind.i64 8)) 3) 3 [17] (by kernel_rfl) (by kernel_rfl) (by kernel_rfl) (fun _ _ h => h) (by rw [hsz]; kernel_rfl) (by kernel_rfl) rfl fun vals w1 ρ hG hF hρ hcst hfun => ?_
      have e58 : ρ (.tmp 58) = .int .i64 a := ((hρ 58).trans (slotJ [17] (by rw [hsz]; decide) (by kernel_rfl))).trans (hF 17 (by decide))
      clear hρ hF hfun sl0 sl1 sl7 sl8 fin
      exact opv_val (by go_simp <;> rfl) ⟨gw_self _, rfl⟩
    · refine owes_vt 7 true (Go.Op.binOp Go.BinOp.mul 3 (Go.Operand.const (Go.Value.int Go.IntKind.i64 8)) (Go.Operand.tmp 59) 3) 3 [18] (by kernel_rfl) (by kernel_rfl) (by kernel_rfl) (fun _ _ h => h) (by rw [hsz]; kernel_rfl) (by kernel_rfl) rfl fun vals w1 ρ hG hF hρ hcst hfun => ?_
      have e59 : ρ (.tmp 59) = .int .i64 b := ((hρ 59).trans (slotJ [18] (by rw [hsz]; decide) (by kernel_rfl))).trans (hF 18 (by decide))
      have kw0 : IntKind.i64.wrap ((s : Int)) = (s : Int) := wrapIn (by omega) (by omega)
      clear hρ hF hfun sl0 sl1 sl7 sl8 fin
      exact opv_val (by go_simp <;> rfl) ⟨gw_self _, rfl⟩
    · refine owes_vt 7 true (Go.Op.call { callee := Go.Callee.value (Go.Operand.func 24), args := #[Go.Operand.tmp 57, Go.Operand.tmp 60, Go.Operand.const (Go.Value.int Go.IntKind.i64 8)], argTypes := #[29, 3, 3] }) 29 [16, 19] (by kernel_rfl) (by kernel_rfl) (by kernel_rfl) (fun _ _ h => h) (by rw [hsz]; kernel_rfl) (by kernel_rfl) rfl fun vals w1 ρ hG hF hρ hcst hfun => ?_
      have e57 : ρ (.tmp 57) = .int .u64 (U64 y) := ((hρ 57).trans (slotJ [16, 19] (by rw [hsz]; decide) (by kernel_rfl))).trans (hF 16 (by decide))
      have e60 : ρ (.tmp 60) = .int .i64 s := ((hρ 60).trans (slotJ [16, 19] (by rw [hsz]; decide) (by kernel_rfl))).trans (hF 19 (by decide))
      clear hρ hF sl0 sl1 sl7 sl8 fin
      exact opv_enter (by go_simp <;> rfl) (of_ans (field_c y (s : Int) 8 w1))
    · refine owes_vt 7 true (Go.Op.binOp Go.BinOp.eql 29 (Go.Operand.tmp 52) (Go.Operand.tmp 61) 29) 4 [11, 20] (by kernel_rfl) (by kernel_rfl) (by kernel_rfl) (fun _ _ h => h) (by rw [hsz]; kernel_rfl) (by kernel_rfl) rfl fun vals w1 ρ hG hF hρ hcst hfun => ?_
      have e52 : ρ (.tmp 52) = .int .u64 (U64 (fieldB y (s : Int) 8)) := ((hρ 52).trans (slotJ [11, 20] (by rw [hsz]; decide) (by kernel_rfl))).trans (hF 11 (by decide))
      have e61 : ρ (.tmp 61) = .int .u64 (U64 (fieldB y (s : Int) 8)) := ((hρ 61).trans (slotJ [11, 20] (by rw [hsz]; decide) (by kernel_rfl))).trans (hF 20 (by decide))
      clear hρ hF hcst hfun sl0 sl1 sl7 sl8 fin
      exact opv_val (by go_simp <;> rfl) ⟨gw_self _, rfl⟩
    · refine owes_v (Go.Op.pick (Go.Operand.tmp 48) (Go.Operand.tmp 62) (Go.Operand.const (Go.Value.bool false))) 4 [7, 21] (by kernel_rfl) (by kernel_rfl) (by kernel_rfl) rfl fun vals w1 ρ hG hF hρ hcst hfun => ?_
      have e48 : ρ (.tmp 48) = .bool true := ((hρ 48).trans (slotJ [7, 21] (by rw [hsz]; decide) (by kernel_rfl))).trans (hF 7 (by decide))
      have e62 : ρ (.tmp 62) = .bool true := ((hρ 62).trans (slotJ [7, 21] (by rw [hsz]; decide) (by kernel_rfl))).trans (hF 21 (by decide))
      clear hρ hF hfun sl0 sl1 sl7 sl8 fin
      exact opv_val (by go_simp <;> rfl) ⟨gw_self _, rfl⟩
    · exact owes_mvj 22 63 (by kernel_rfl) (by kernel_rfl) (by kernel_rfl) (by kernel_rfl) (by rw [hsz]; decide) (fun v w h => h)
  · intro vals w1 hG hF
    exact fin vals w1 hG (hF 23 (by decide +kernel))
theorem fields_far (w : World) (A : Option Addr) (n0 c : Nat) (h : 100 < n0) (a : Int) : Calls Try.prog 7 #[.slice A n0 c, .int .i64 a] w (TruP (.bool true) w) := by
  have t1 : decide ((100 : Int) < (n0 : Int)) = true := by simp; omega
  clear h
  go_enter Try.func7, Try.ntmps7
  go_wp2_with fail
  refine Calls.mono (known13_c _) ?_
  rintro e w1 ⟨rfl, b1⟩
  go_wp2_with fail
  go_ret
  exact ⟨rfl, b1⟩
theorem fields_out (w : World) (A : Option Addr) (ws : List (BitVec 64)) (c : Nat) (hr : Rd u64v w w.heap.size A ws) (hl : ws.length ≤ 100) (a : Int) (h1 : -9223372036854775808 ≤ a ∧ a ≤ 9223372036854775807) (ho : a < 0 ∨ (¬ a < 0 ∧ ((8 * ws.length : Nat) : Int) ≤ a)) : Calls Try.prog 7 #[.slice A ws.length c, .int .i64 a] w (TruP (.bool true) w) := by
  have t1 : decide ((100 : Int) < (ws.length : Int)) = false := by simp; omega
  have hin : inM ((8 * ws.length : Nat) : Int) a 1 = false := by
    unfold inM
    rw [Bool.eq_false_iff]
    intro h
    simp only [Bool.and_eq_true, decide_eq_true_eq] at h
    omega
  have HBy := Lib.hid (fun W B g v h => bytes_out W B g v ws a 1 hin (by omega) h1.1 h1.2 (by decide) (by decide) h)
  have HOf := Lib.hid (fun W hr => of_in W A c ws hr (by omega))
  have HR := Lib.hid hr
  obtain ⟨N, hN⟩ : ∃ N, N = ws.length := ⟨_, rfl⟩
  obtain ⟨M, hM⟩ : ∃ M, M = 8 * ws.length := ⟨_, rfl⟩
  rw [← hN] at HOf t1 ⊢
  rw [← hM] at ho
  have d1 : (8 : Int) * (N : Int) = (M : Int) := by omega
  have d2 : (M : Int) ≤ 800 := by omega
  clear hl hr hN hM hin h1
  rcases ho with ho | ⟨ho, ho2⟩
  all_goals
    go_enter Try.func7, Try.ntmps7
    go_wp2_with fail
    refine Calls.mono (known13_c _) ?_
    rintro e w1 ⟨rfl, b1⟩
    have HB1 := Lib.hid b1
    clear b1
    go_wp2_with fail
    refine Calls.mono (HOf.out w1 ((HR.out.below HB1.out).more HB1.out.size)) ?_
    rintro e w2 ⟨g, v, rfl, h2, b2⟩
    have HB2 := Lib.hid (HB1.out.trans (b2.mono HB1.out.size))
    have HM := Lib.hid h2
    clear h2 b2 HB1 HOf
    go_wp2_with fail
    refine Calls.mono (HBy.out w2 _ g v HM.out) ?_
    rintro e w3 ⟨rfl, rfl⟩
    clear HBy HM
    go_wp2_with fail
    go_ret
    exact ⟨rfl, HB2.out⟩
theorem fields_in (w : World) (A : Option Addr) (ws : List (BitVec 64)) (c : Nat) (hr : Rd u64v w w.heap.size A ws) (hl : ws.length ≤ 100) (a : Nat) (ha : a < 8 * ws.length) : Calls Try.prog 7 #[.slice A ws.length c, .int .i64 a] w (TruP (.bool true) w) := by
  have t1 : decide ((100 : Int) < (ws.length : Int)) = false := by simp; omega
  have HBy : Hid (∀ (W : World) (B g : Nat) (v : Value) (h : MemAt W B g v ws), Calls Try.prog 15 #[.pointer (some ⟨g, 0, none⟩), .int .i64 a, .int .i64 1] W fun e w' => ∃ q c, e = .returned (.tuple #[.slice (some ⟨q, 0, none⟩) 1 c, .int .i64 0]) ∧ w'.cell? ⟨q, 0, none⟩ = some (.int .u8 (U8 (byteAt ws a))) ∧ q < w'.heap.size ∧ Below W.heap.size W w') := Lib.hid (fun W B g v h => by
    refine (bytes_in W B g v ws a 1 (by omega) (by omega) h).mono ?_
    rintro e w' ⟨A', c', rfl, hc, ho, hb⟩
    obtain ⟨q, rfl⟩ : ∃ q, A' = some ⟨q, 0, none⟩ := by
      rcases ho.2 with ⟨e, hn⟩ | ⟨q, _, _, e, _⟩
      · cases hn
      · injection e with e
        exact ⟨q, e⟩
    exact ⟨q, c', rfl, ho.cell (j := 0) (by unfold bytesM; simp), ho.ge.2, hb⟩)
  have HOf := Lib.hid (fun W hr => of_in W A c ws hr (by omega))
  have HR := Lib.hid hr
  obtain ⟨x, hx⟩ : ∃ x, x = byteAt ws a := ⟨_, rfl⟩
  rw [← hx] at HBy
  obtain ⟨j, hj⟩ : ∃ j, j = a / 8 := ⟨_, rfl⟩
  obtain ⟨b, hb⟩ : ∃ b, b = a % 8 := ⟨_, rfl⟩
  obtain ⟨s, hs⟩ : ∃ s, s = 8 * b := ⟨_, rfl⟩
  have hjl : j < ws.length := by omega
  obtain ⟨y, hy⟩ : ∃ y, y = ws[j] := ⟨_, rfl⟩
  have HX : Hid (x.setWidth 64 = fieldB y (s : Int) 8) := Lib.hid (by
    rw [← byte_field y s (by omega), hx]
    unfold byteAt
    rw [← hj, ← hb, ← hs, List.getD_eq_getElem?_getD, List.getElem?_eq_getElem hjl, hy]
    rfl)
  obtain ⟨N, hN⟩ : ∃ N, N = ws.length := ⟨_, rfl⟩
  obtain ⟨M, hM⟩ : ∃ M, M = 8 * ws.length := ⟨_, rfl⟩
  rw [← hN] at HOf t1 ⊢
  have d1 : (8 : Int) * (N : Int) = (M : Int) := by omega
  have d2 : (M : Int) ≤ 800 := by omega
  have u1 : ¬ M ≤ a := by omega
  have HD := Lib.hid (show ((0 : Int) ≤ (j : Int) ∧ (j : Int) < (N : Int) ∧ (N : Int) ≤ 100) ∧ ((a : Int).tdiv 8 = (j : Int) ∧ (a : Int).tmod 8 = (b : Int)) ∧ ((8 : Int) * (b : Int) = (s : Int) ∧ (0 : Int) ≤ (s : Int) ∧ (s : Int) ≤ 56) from by
    refine ⟨⟨by omega, by omega, by omega⟩, ⟨?_, ?_⟩, by omega, by omega, by omega⟩
    · rw [Int.tdiv_eq_ediv_of_nonneg (by omega)]; omega
    · rw [Int.tmod_eq_emod_of_nonneg (by omega)]; omega)
  have HJ : Hid (∃ h : j < ws.length, y = ws[j]) := Lib.hid ⟨hjl, hy⟩
  clear hl hr hN hM ha hx hj hb hs hjl hy
  go_enter Try.func7, Try.ntmps7
  go_wp2_with fail
  refine Calls.mono (known13_c _) ?_
  rintro e w1 ⟨rfl, b1⟩
  have HB1 := Lib.hid b1
  clear b1
  go_wp2_with fail
  refine Calls.mono (HOf.out w1 ((HR.out.below HB1.out).more HB1.out.size)) ?_
  rintro e w2 ⟨g, v, rfl, h2, b2⟩
  have HB2 := Lib.hid (HB1.out.trans (b2.mono HB1.out.size))
  have HM := Lib.hid h2
  clear h2 b2 HB1 HOf
  go_wp2_with fail
  refine Calls.mono (HBy.out w2 _ g v HM.out) ?_
  rintro e w3 ⟨q, c3, rfl, h3, hq3, b3⟩
  have HB3 := Lib.hid (HB2.out.trans (b3.mono HB2.out.size))
  have HC := Lib.hid (And.intro h3 hq3)
  clear HBy HM h3 hq3 b3
  go_wp2_with fail
  obtain ⟨hjl, hy⟩ := HJ.out
  obtain ⟨ad, rfl, hadb, hcl⟩ := (HR.out.below HB3.out) _ hjl
  rw [← hy] at hcl
  clear hy hjl HJ
  obtain ⟨⟨x1, x2, x3⟩, ⟨x4, x5⟩, x6, x7, x8⟩ := HD.out
  refine mf_reg _ _ _ ad q N c c3 a j b s x y HX (Nat.lt_of_lt_of_le hadb HB3.out.size) HC.out.2 hcl HC.out.1 x1 x2 x3 x4 x5 x6 x7 x8 rfl rfl rfl rfl rfl ?_
  clear x1 x2 x3 x4 x5 x6 x7 x8
  intro vals w4 hG h63
  unfold IsV at h63
  simp only [putD, Act.put, List.setIfInBounds_toArray, List.set_cons_zero, List.set_cons_succ, h63]
  have HB4 := Lib.hid (HB3.out.trans (hG.mono HB3.out.size))
  clear h63 hG hcl hadb
  go_wp2_with fail
  go_ret
  exact ⟨rfl, HB4.out⟩
theorem fields_walk (w : World) (A : Option Addr) (ws : List (BitVec 64)) (c : Nat) (_g : ws.length ≤ c) (_m : c ≤ maxLen) (hr : Rd u64v w w.heap.size A ws) (a : Int) (w1 : (Lit.int .i64 a).wf = true) : Calls Try.prog 7 #[.slice A ws.length c, .int .i64 a] w (TruP (.bool true) w) := by
  by_cases hl : 100 < ws.length
  · exact fields_far w A ws.length c hl a
  · have hb1 := wf64 w1
    by_cases ho : a < 0 ∨ (¬ a < 0 ∧ ((8 * ws.length : Nat) : Int) ≤ a)
    · exact fields_out w A ws c hr (by omega) a hb1 ho
    · obtain ⟨k, rfl⟩ : ∃ k : Nat, a = (k : Int) := ⟨a.toNat, by omega⟩
      exact fields_in w A ws c hr (by omega) k (by omega)
end Go.Proofs.Ytobcpcobgdmleaa
namespace Go.Proofs.Ytobcpcobgdmleaa.memFields
open Go.ChangeShapes Go.WideShapes Go.ChangeAt Go.RowKit
open Go.ChangeMaps (open_string shut_string)
set_option linter.unusedVariables false
set_option maxRecDepth 100000 in
theorem lifted (os : Os) (started : os.Started) (H : Type) (enc : TypeId × Value → H) :
    ReturnsInHanded {} Try.checked os 7 .any (Rows.memFieldsSpec.pre6 enc Try.prog Try.f7 Rows.memFieldsRow.domain false) (Rows.memFieldsSpec.post enc Try.prog Try.f7 false true false false) := by
  refine returnsInHanded_of_change (C := Try.checked) own started (by kernel_rfl) Try.func7
    (ChangeSpec.witness6 (enc := enc) (C := Try.checked) false ⟨#[], #[.slice none 0 0, .int .i64 0], []⟩ 8 (by kernel_rfl) (by kernel_rfl) (by kernel_rfl) (by kernel_rfl)) ?_
  intro W base args ds gs before hval0 hW hcnd _
  have hval : ∀ (j : Nat) t v, Try.f7.params[j]? = some t → args[j]? = some v → Value.okWide Try.prog W .any base t v := hval0
  have hW' := hW
  obtain ⟨p, q, hA0, hV, rfl, hfz, hnd⟩ := hW
  have hA : DataW.TrodAll enc Try.prog W 0 (fun _ => true) true Try.f7.params.toList args.toList ds p := hA0
  rw [Try.params7] at hA hval
  obtain ⟨v0, vs0, d0, ds0, p0, q0, hargs, rfl, rfl, h0, r0⟩ := trodAll_cons hA
  obtain ⟨v1, vs1, d1, ds1, p1, q1, rfl, rfl, rfl, h1, r1⟩ := trodAll_cons r0
  obtain ⟨rfl, rfl, rfl⟩ := trodAll_nil r1
  obtain rfl : args = #[v0, v1] := by cases args; simp_all
  obtain ⟨rfl, rfl⟩ := trodVars_none hV
  have k0 := h0
  have lt0 : ∀ x ∈ p0, x.block < W.heap.size := by obtain ⟨m, hm⟩ := k0; exact DataW.trod_lt m _ _ _ hm
  obtain ⟨A0, a0, c0, e0v, g0, m0, w0⟩ := open_words Try.underlying22 Try.underlying29 (by kernel_rfl) (hval 0 22 v0 rfl rfl) h0; subst e0v
  have k1 := h1
  have lt1 : ∀ x ∈ p1, x.block < W.heap.size := by obtain ⟨m, hm⟩ := k1; exact DataW.trod_lt m _ _ _ hm
  obtain ⟨a1, e1v, _, _, w1⟩ := open_int Try.underlying3 (hval 1 3 v1 rfl rfl) h1; subst e1v
  clear hA0 hval0
  refine (fields_walk W A0 a0 c0 g0 m0 w0 a1 w1).mono fun e W' ⟨he, bel⟩ => ?_
  subst he
  exact ⟨_, rfl, _, _, _, [], _, [], hW', trodAll_mk1 (shut_bool Try.underlying4 _), (trodAll_cons_mk (Below.trod laidOut (by kernel_rfl) (of_decide_eq_true (by kernel_rfl)) k0 bel lt0) (trodAll_cons_mk (Below.trod laidOut (by kernel_rfl) (of_decide_eq_true (by kernel_rfl)) k1 bel lt1) trodAll_mk0)), rfl, bel.frame _, fun h => by cases h⟩
theorem over : Rows.memFieldsRow.holds Try.pinned (OpenSpec.ofChange Rows.memFieldsSpec) :=
  OpenClaim.holds_of_wide 7 Try.f7 rfl rfl rfl rfl rfl rfl rfl ⟨rfl, rfl, rfl, rfl, rfl⟩ rfl rfl rfl rfl rfl (by kernel_rfl) Try.func7 (by kernel_rfl)
    (of_decide_eq_true (by kernel_rfl)) (by unfold Func.isWrapper; first | (rw [if_pos (by decide +kernel)]; kernel_rfl) | (rw [if_neg (by decide +kernel)]; exact ⟨rfl, rfl⟩))
    (fun os started H enc _ => lifted os started H enc)
theorem proved : Rows.MemFieldsSaid := over
end Go.Proofs.Ytobcpcobgdmleaa.memFields
