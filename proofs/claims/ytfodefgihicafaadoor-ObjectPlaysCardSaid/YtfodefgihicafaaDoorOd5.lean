/- Texts joined: MmI MmK MmL MmW RoF TxE ItB OtA. -/
import Derived.Test.YtfodefgihicafaaDoorOd4
import Derived.Test.YtfodefgihicafaaDoorStr
import Derived.Test.YtfodefgihicafaaDoorRegT
import Derived.Test.YtfodefgihicafaaDoorMem
/- mem: Move. Conditions: lengths. -/
namespace Go.Proofs.YtfodefgihicafaaDoor
set_option linter.unusedVariables false
set_option linter.unusedSimpArgs false
open Go.RowKit
def moveM {α : Type} (ws : List α) (tq fr n : Nat) : List α := ws.take tq ++ ((ws.drop fr).take n ++ ws.drop (tq + n))
section
variable {P : Program} {α : Type} {f : α → Value} {t e : TypeId} {w : World} {ops : Array Oper} {rest : List Oper} {o : Oper} {a : Act} {Q : Exit → Act → World → Prop}
end
attribute [local go_sem high] sliced_cut
set_option maxHeartbeats 400000
set_option maxRecDepth 100000
end Go.Proofs.YtfodefgihicafaaDoor
/- What loamlaw13.known answers: true. No conditions. -/
namespace Go.Proofs.YtfodefgihicafaaDoor
set_option linter.unusedVariables false
set_option linter.unusedSimpArgs false
open Go.RowKit
def kX : BitVec 64 := 578437695752307201#64
def kY : BitVec 64 := 578437695752307209#64
set_option maxHeartbeats 400000
set_option maxRecDepth 100000
end Go.Proofs.YtfodefgihicafaaDoor
/- What loamlaw13's in and same answer. Conditions: lengths. -/
namespace Go.Proofs.YtfodefgihicafaaDoor
set_option linter.unusedVariables false
set_option linter.unusedSimpArgs false
open Go.RowKit
set_option maxHeartbeats 400000
set_option maxRecDepth 100000
end Go.Proofs.YtfodefgihicafaaDoor
/- The reference SetBytes. Conditions: lengths. -/
namespace Go.Proofs.YtfodefgihicafaaDoor
set_option linter.unusedVariables false
set_option linter.unusedSimpArgs false
open Go.RowKit
theorem lowB8 : lowB 8 = 255#64 := by decide +kernel
theorem with_set (y : BitVec 64) (x : BitVec 8) (s : Nat) (hs : s ≤ 56) : withB y (s : Int) 8 (x.setWidth 64) = (y &&& ~~~(255#64 <<< s)) ||| ((x.setWidth 64) <<< s) := by
  have hw : wB (s : Int) 8 = true := by unfold wB; simp; omega
  have hx : x.setWidth 64 &&& 255#64 = x.setWidth 64 := by
    apply BitVec.eq_of_getLsbD_eq
    intro i hi
    rw [BitVec.getLsbD_and, ff_bit, BitVec.getLsbD_setWidth]
    by_cases h : i < 8
    · simp [h]
    · rw [BitVec.getLsbD_of_ge x i (by omega)]; simp
  unfold withB
  rw [if_pos hw, lowB8, hx]
  rfl
attribute [local go_sem] u8_u64 wrapU64
set_option maxHeartbeats 400000
set_option maxRecDepth 100000
theorem of_ansm {P : Program} {f : FuncId} {args : Array Value} {v : Value} {w : World} (h : Ans P f args w v) : Calls P f args w fun e w2 => ∃ u, e = .returned u ∧ Below w.heap.size w w2 ∧ IsV v u w2 :=
  h.mono fun _ _ h => ⟨_, h.1, h.2.below _, rfl⟩
theorem rsb_reg (Q : Exit → Act → World → Prop) (a0 : Act) (w : World) (q N c c2 a k n j b s t : Nat) (ad : Addr) (x : BitVec 8) (y : BitVec 64) (hq : q < w.heap.size) (hy : w.cell? ⟨q, j, none⟩ = some (.int .u64 (U64 y))) (ha : ad.block < w.heap.size) (hx : w.cell? (ad.add k) = some (.int .u8 (U8 x))) (d0 : (a : Int) + (k : Int) = (s : Int)) (d1 : (s : Int) ≤ 800000) (d2 : (0 : Int) ≤ (s : Int)) (d3 : (s : Int).tdiv 8 = (j : Int)) (d4 : (s : Int).tmod 8 = (b : Int)) (d9 : (8 : Int) * (b : Int) = (t : Int)) (p1 : (0 : Int) ≤ (j : Int)) (p2 : (j : Int) < (N : Int)) (p3 : (j : Int) ≤ 1000000) (p4 : (0 : Int) ≤ (t : Int)) (p5 : (t : Int) ≤ 56) (p6 : (0 : Int) ≤ (k : Int)) (p7 : (k : Int) < (n : Int)) (hsz : a0.tmps.size = 43) (sl1 : a0.tmps.getD 1 undef = .int .i64 a) (sl2 : a0.tmps.getD 2 undef = .slice (some ad) n c2) (sl7 : a0.tmps.getD 7 undef = .slice (some ⟨q, 0, none⟩) N c) (sl8 : a0.tmps.getD 8 undef = .int .i64 k)
    (fin : ∀ (vals : Nat → Value) (w1 : World), Below w.heap.size w w1 → (IsV (.int .u64 (U64 (withB y (t : Int) 8 (x.setWidth 64))))) (vals 22) w1 → (IsV (.pointer (some ⟨q, j, none⟩))) (vals 23) w1 → wpList Tryd.prog #[{ dst := none, op := Go.Op.store 68 (Go.Operand.tmp 41) (Go.Operand.tmp 40), type := 0, pos := "", after := #[], guard := none }] Q [{ dst := none, op := Go.Op.store 68 (Go.Operand.tmp 41) (Go.Operand.tmp 40), type := 0, pos := "", after := #[], guard := none }] (putD vals [18, 19, 20, 21, 22, 23, 24, 25, 26, 27, 28, 29, 30, 31, 32, 33, 34, 35, 36, 37, 38, 39, 40, 41] 0 a0) w1) :
    (Code.region 5 (regIn Tryd.f38 5) true).wp Tryd.prog Q a0 w := by
  refine region_by_tail (m := 24) (G := fun w w1 => Below w.heap.size w w1) [IsV (.slice (some ⟨q, 0, none⟩) N c),
    IsV (.int .i64 a),
    IsV (.int .i64 k),
    IsV (.int .i64 s),
    IsV (.int .i64 j),
    IsV (.slice (some ⟨q, 0, none⟩) N c),
    IsV (.int .i64 a),
    IsV (.int .i64 k),
    IsV (.int .i64 s),
    IsV (.int .i64 j),
    IsV (.pointer (some ⟨q, j, none⟩)),
    IsV (.int .u64 (U64 y)),
    IsV (.int .i64 a),
    IsV (.int .i64 k),
    IsV (.int .i64 s),
    IsV (.int .i64 b),
    IsV (.int .i64 t),
    IsV (.slice (some ad) n c2),
    IsV (.int .i64 k),
    IsV (.pointer (some (ad.add k))),
    IsV (.int .u8 (U8 x)),
    IsV (.int .u64 (U64 (x.setWidth 64))),
    IsV (.int .u64 (U64 (withB y (t : Int) 8 (x.setWidth 64)))),
    IsV (.pointer (some ⟨q, j, none⟩))]
    [18, 19, 20, 21, 22, 23, 24, 25, 26, 27, 28, 29, 30, 31, 32, 33, 34, 35, 36, 37, 38, 39, 40, 41] (by kernel_rfl) (Gw.drew _) Gw.trans (by rw [hsz]; kernel_rfl) (by kernel_rfl) ?_ ?_ ?_
  · intro f hf
    simp only [List.mem_cons, List.not_mem_nil, or_false] at hf
    rcases hf with rfl | rfl | rfl | rfl | rfl | rfl | rfl | rfl | rfl | rfl | rfl | rfl | rfl | rfl | rfl | rfl | rfl | rfl | rfl | rfl | rfl | rfl | rfl | rfl <;> intro v a b h g <;> first | exact IsV.mono h
  · refine ⟨?_, ?_, ?_, ?_, ?_, ?_, ?_, ?_, ?_, ?_, ?_, ?_, ?_, ?_, ?_, ?_, ?_, ?_, ?_, ?_, ?_, ?_, ?_, ?_, trivial⟩
    · exact owes_mv 7 (by kernel_rfl) (by kernel_rfl) (by kernel_rfl) sl7 (fun _ => rfl)
    · exact owes_mv 1 (by kernel_rfl) (by kernel_rfl) (by kernel_rfl) sl1 (fun _ => rfl)
    · exact owes_mv 8 (by kernel_rfl) (by kernel_rfl) (by kernel_rfl) sl8 (fun _ => rfl)
    · refine owes_v (Go.Op.binOp Go.BinOp.add 3 (Go.Operand.tmp 19) (Go.Operand.tmp 20) 3) 3 [1, 2] (by kernel_rfl) (by kernel_rfl) (by kernel_rfl) rfl fun vals w1 ρ hG hF hρ hcst hfun => ?_
      have e19 : ρ (.tmp 19) = .int .i64 a := ((hρ 19).trans (slotJ [1, 2] (by rw [hsz]; decide) (by kernel_rfl))).trans (hF 1 (by decide))
      have e20 : ρ (.tmp 20) = .int .i64 k := ((hρ 20).trans (slotJ [1, 2] (by rw [hsz]; decide) (by kernel_rfl))).trans (hF 2 (by decide))
      have kw0 : IntKind.i64.wrap ((s : Int)) = (s : Int) := wrapIn (by omega) (by omega)
      clear hρ hF hcst hfun sl1 sl2 sl7 sl8 fin
      exact opv_val (by go_simp <;> rfl) ⟨gw_self _, rfl⟩
    · refine owes_v (Go.Op.binOp Go.BinOp.quo 3 (Go.Operand.tmp 21) (Go.Operand.const (Go.Value.int Go.IntKind.i64 8)) 3) 3 [3] (by kernel_rfl) (by kernel_rfl) (by kernel_rfl) rfl fun vals w1 ρ hG hF hρ hcst hfun => ?_
      have e21 : ρ (.tmp 21) = .int .i64 s := ((hρ 21).trans (slotJ [3] (by rw [hsz]; decide) (by kernel_rfl))).trans (hF 3 (by decide))
      have kw0 : IntKind.i64.wrap ((j : Int)) = (j : Int) := wrapIn (by omega) (by omega)
      clear hρ hF hfun sl1 sl2 sl7 sl8 fin
      exact opv_val (by go_simp <;> rfl) ⟨gw_self _, rfl⟩
    · exact owes_mv 7 (by kernel_rfl) (by kernel_rfl) (by kernel_rfl) sl7 (fun _ => rfl)
    · exact owes_mv 1 (by kernel_rfl) (by kernel_rfl) (by kernel_rfl) sl1 (fun _ => rfl)
    · exact owes_mv 8 (by kernel_rfl) (by kernel_rfl) (by kernel_rfl) sl8 (fun _ => rfl)
    · refine owes_v (Go.Op.binOp Go.BinOp.add 3 (Go.Operand.tmp 24) (Go.Operand.tmp 25) 3) 3 [6, 7] (by kernel_rfl) (by kernel_rfl) (by kernel_rfl) rfl fun vals w1 ρ hG hF hρ hcst hfun => ?_
      have e24 : ρ (.tmp 24) = .int .i64 a := ((hρ 24).trans (slotJ [6, 7] (by rw [hsz]; decide) (by kernel_rfl))).trans (hF 6 (by decide))
      have e25 : ρ (.tmp 25) = .int .i64 k := ((hρ 25).trans (slotJ [6, 7] (by rw [hsz]; decide) (by kernel_rfl))).trans (hF 7 (by decide))
      have kw0 : IntKind.i64.wrap ((s : Int)) = (s : Int) := wrapIn (by omega) (by omega)
      clear hρ hF hcst hfun sl1 sl2 sl7 sl8 fin
      exact opv_val (by go_simp <;> rfl) ⟨gw_self _, rfl⟩
    · refine owes_v (Go.Op.binOp Go.BinOp.quo 3 (Go.Operand.tmp 26) (Go.Operand.const (Go.Value.int Go.IntKind.i64 8)) 3) 3 [8] (by kernel_rfl) (by kernel_rfl) (by kernel_rfl) rfl fun vals w1 ρ hG hF hρ hcst hfun => ?_
      have e26 : ρ (.tmp 26) = .int .i64 s := ((hρ 26).trans (slotJ [8] (by rw [hsz]; decide) (by kernel_rfl))).trans (hF 8 (by decide))
      have kw0 : IntKind.i64.wrap ((j : Int)) = (j : Int) := wrapIn (by omega) (by omega)
      clear hρ hF hfun sl1 sl2 sl7 sl8 fin
      exact opv_val (by go_simp <;> rfl) ⟨gw_self _, rfl⟩
    · refine owes_v (Go.Op.indexAddr 22 (Go.Operand.tmp 23) (Go.Operand.tmp 27)) 0 [5, 9] (by kernel_rfl) (by kernel_rfl) (by kernel_rfl) rfl fun vals w1 ρ hG hF hρ hcst hfun => ?_
      have e23 : ρ (.tmp 23) = .slice (some ⟨q, 0, none⟩) N c := ((hρ 23).trans (slotJ [5, 9] (by rw [hsz]; decide) (by kernel_rfl))).trans (hF 5 (by decide))
      have e27 : ρ (.tmp 27) = .int .i64 j := ((hρ 27).trans (slotJ [5, 9] (by rw [hsz]; decide) (by kernel_rfl))).trans (hF 9 (by decide))
      clear hρ hF hcst hfun sl1 sl2 sl7 sl8 fin
      exact opv_val (by go_simp <;> rfl) ⟨gw_self _, rfl⟩
    · refine owes_v (Go.Op.load 68 (Go.Operand.tmp 28)) 68 [10] (by kernel_rfl) (by kernel_rfl) (by kernel_rfl) rfl fun vals w1 ρ hG hF hρ hcst hfun => ?_
      have e28 : ρ (.tmp 28) = .pointer (some ⟨q, j, none⟩) := ((hρ 28).trans (slotJ [10] (by rw [hsz]; decide) (by kernel_rfl))).trans (hF 10 (by decide))
      have c0 := (hG.cell (p := ⟨q, j, none⟩) hq).trans hy
      clear hρ hF hcst hfun sl1 sl2 sl7 sl8 fin
      exact opv_val (by go_simp <;> rfl) ⟨gw_self _, rfl⟩
    · exact owes_mv 1 (by kernel_rfl) (by kernel_rfl) (by kernel_rfl) sl1 (fun _ => rfl)
    · exact owes_mv 8 (by kernel_rfl) (by kernel_rfl) (by kernel_rfl) sl8 (fun _ => rfl)
    · refine owes_v (Go.Op.binOp Go.BinOp.add 3 (Go.Operand.tmp 30) (Go.Operand.tmp 31) 3) 3 [12, 13] (by kernel_rfl) (by kernel_rfl) (by kernel_rfl) rfl fun vals w1 ρ hG hF hρ hcst hfun => ?_
      have e30 : ρ (.tmp 30) = .int .i64 a := ((hρ 30).trans (slotJ [12, 13] (by rw [hsz]; decide) (by kernel_rfl))).trans (hF 12 (by decide))
      have e31 : ρ (.tmp 31) = .int .i64 k := ((hρ 31).trans (slotJ [12, 13] (by rw [hsz]; decide) (by kernel_rfl))).trans (hF 13 (by decide))
      have kw0 : IntKind.i64.wrap ((s : Int)) = (s : Int) := wrapIn (by omega) (by omega)
      clear hρ hF hcst hfun sl1 sl2 sl7 sl8 fin
      exact opv_val (by go_simp <;> rfl) ⟨gw_self _, rfl⟩
    · refine owes_v (Go.Op.binOp Go.BinOp.rem 3 (Go.Operand.tmp 32) (Go.Operand.const (Go.Value.int Go.IntKind.i64 8)) 3) 3 [14] (by kernel_rfl) (by kernel_rfl) (by kernel_rfl) rfl fun vals w1 ρ hG hF hρ hcst hfun => ?_
      have e32 : ρ (.tmp 32) = .int .i64 s := ((hρ 32).trans (slotJ [14] (by rw [hsz]; decide) (by kernel_rfl))).trans (hF 14 (by decide))
      clear hρ hF hfun sl1 sl2 sl7 sl8 fin
      exact opv_val (by go_simp <;> rfl) ⟨gw_self _, rfl⟩
    · refine owes_v (Go.Op.binOp Go.BinOp.mul 3 (Go.Operand.const (Go.Value.int Go.IntKind.i64 8)) (Go.Operand.tmp 33) 3) 3 [15] (by kernel_rfl) (by kernel_rfl) (by kernel_rfl) rfl fun vals w1 ρ hG hF hρ hcst hfun => ?_
      have e33 : ρ (.tmp 33) = .int .i64 b := ((hρ 33).trans (slotJ [15] (by rw [hsz]; decide) (by kernel_rfl))).trans (hF 15 (by decide))
      have kw0 : IntKind.i64.wrap ((t : Int)) = (t : Int) := wrapIn (by omega) (by omega)
      clear hρ hF hfun sl1 sl2 sl7 sl8 fin
      exact opv_val (by go_simp <;> rfl) ⟨gw_self _, rfl⟩
    · exact owes_mv 2 (by kernel_rfl) (by kernel_rfl) (by kernel_rfl) sl2 (fun _ => rfl)
    · exact owes_mv 8 (by kernel_rfl) (by kernel_rfl) (by kernel_rfl) sl8 (fun _ => rfl)
    · refine owes_v (Go.Op.indexAddr 30 (Go.Operand.tmp 35) (Go.Operand.tmp 36)) 0 [17, 18] (by kernel_rfl) (by kernel_rfl) (by kernel_rfl) rfl fun vals w1 ρ hG hF hρ hcst hfun => ?_
      have e35 : ρ (.tmp 35) = .slice (some ad) n c2 := ((hρ 35).trans (slotJ [17, 18] (by rw [hsz]; decide) (by kernel_rfl))).trans (hF 17 (by decide))
      have e36 : ρ (.tmp 36) = .int .i64 k := ((hρ 36).trans (slotJ [17, 18] (by rw [hsz]; decide) (by kernel_rfl))).trans (hF 18 (by decide))
      clear hρ hF hcst hfun sl1 sl2 sl7 sl8 fin
      exact opv_val (by go_simp <;> rfl) ⟨gw_self _, rfl⟩
    · refine owes_v (Go.Op.load 5 (Go.Operand.tmp 37)) 5 [19] (by kernel_rfl) (by kernel_rfl) (by kernel_rfl) rfl fun vals w1 ρ hG hF hρ hcst hfun => ?_
      have e37 : ρ (.tmp 37) = .pointer (some (ad.add k)) := ((hρ 37).trans (slotJ [19] (by rw [hsz]; decide) (by kernel_rfl))).trans (hF 19 (by decide))
      have c0 := (hG.cell (p := ad.add k) (by rw [add_block]; exact ha)).trans hx
      clear hρ hF hcst hfun sl1 sl2 sl7 sl8 fin
      exact opv_val (by go_simp <;> rfl) ⟨gw_self _, rfl⟩
    · refine owes_v (Go.Op.convert 5 68 (Go.Operand.tmp 38)) 68 [20] (by kernel_rfl) (by kernel_rfl) (by kernel_rfl) rfl fun vals w1 ρ hG hF hρ hcst hfun => ?_
      have e38 : ρ (.tmp 38) = .int .u8 (U8 x) := ((hρ 38).trans (slotJ [20] (by rw [hsz]; decide) (by kernel_rfl))).trans (hF 20 (by decide))
      clear hρ hF hcst hfun sl1 sl2 sl7 sl8 fin
      exact opv_val (by go_simp <;> rfl) ⟨gw_self _, rfl⟩
    · refine owes_v (Go.Op.call { callee := Go.Callee.value (Go.Operand.func 67), args := #[Go.Operand.tmp 29, Go.Operand.tmp 34, Go.Operand.const (Go.Value.int Go.IntKind.i64 8), Go.Operand.tmp 39], argTypes := #[68, 3, 3, 68] }) 68 [11, 16, 21] (by kernel_rfl) (by kernel_rfl) (by kernel_rfl) rfl fun vals w1 ρ hG hF hρ hcst hfun => ?_
      have e29 : ρ (.tmp 29) = .int .u64 (U64 y) := ((hρ 29).trans (slotJ [11, 16, 21] (by rw [hsz]; decide) (by kernel_rfl))).trans (hF 11 (by decide))
      have e34 : ρ (.tmp 34) = .int .i64 t := ((hρ 34).trans (slotJ [11, 16, 21] (by rw [hsz]; decide) (by kernel_rfl))).trans (hF 16 (by decide))
      have e39 : ρ (.tmp 39) = .int .u64 (U64 (x.setWidth 64)) := ((hρ 39).trans (slotJ [11, 16, 21] (by rw [hsz]; decide) (by kernel_rfl))).trans (hF 21 (by decide))
      clear hρ hF sl1 sl2 sl7 sl8 fin
      exact opv_enter (by go_simp <;> rfl) (of_ansm (rwith_c y (t : Int) 8 (x.setWidth 64) (by decide) (by decide) w1))
    · refine owes_v (Go.Op.indexAddr 22 (Go.Operand.tmp 18) (Go.Operand.tmp 22)) 0 [0, 4] (by kernel_rfl) (by kernel_rfl) (by kernel_rfl) rfl fun vals w1 ρ hG hF hρ hcst hfun => ?_
      have e18 : ρ (.tmp 18) = .slice (some ⟨q, 0, none⟩) N c := ((hρ 18).trans (slotJ [0, 4] (by rw [hsz]; decide) (by kernel_rfl))).trans (hF 0 (by decide))
      have e22 : ρ (.tmp 22) = .int .i64 j := ((hρ 22).trans (slotJ [0, 4] (by rw [hsz]; decide) (by kernel_rfl))).trans (hF 4 (by decide))
      clear hρ hF hcst hfun sl1 sl2 sl7 sl8 fin
      exact opv_val (by go_simp <;> rfl) ⟨gw_self _, rfl⟩
  · intro vals w1 hG hF
    exact last_list (by kernel_rfl) (by kernel_rfl) (by kernel_rfl) (fin vals w1 hG (hF 22 (by decide +kernel)) (hF 23 (by decide +kernel)))
theorem rsetb_c (w : World) (A A2 : Option Addr) (c c2 : Nat) (ws : List (BitVec 64)) (bs : List (BitVec 8)) (a : Nat) (hr : Rd u64v w w.heap.size A ws) (hr2 : Rd b8 w w.heap.size A2 bs) (ha : a + bs.length ≤ 8 * ws.length) (hl : ws.length ≤ 100000) :
    Calls Tryd.prog 38 #[.slice A ws.length c, .int .i64 a, .slice A2 bs.length c2] w (MkP u64v 68 (putK ws a bs bs.length) w) := by
  have HR := Lib.hid hr
  have HR2 := Lib.hid hr2
  have HA := Lib.hid ha
  have HL := Lib.hid hl
  obtain ⟨N, hN⟩ : ∃ N, N = ws.length := ⟨_, rfl⟩
  obtain ⟨n, hn⟩ : ∃ n, n = bs.length := ⟨_, rfl⟩
  rw [← hN, ← hn]
  have HN := Lib.hid hN
  have Hn := Lib.hid hn
  have q1 : (n : Int) ≤ 800000 := by omega
  clear hr hr2 ha hl hN hn
  go_enter Tryd.func38, Tryd.ntmps38
  go_wp2_with (at_builtin; refine wp_app one64 u64v_one rfl (.tmp 9) (.tmp 10) rfl w.heap.size _ [] rfl (ow_empty u64v 68 w w.heap.size (Nat.le_refl _)) A N c ws rfl HN.out w.heap.size (HR.out.alloc (Nat.le_refl _) _) (by have := HL.out; simp; omega) (by decide) (by simp) ?_; intro v4 w4 ho4 hb4 hg4 hv4)
  rw [List.nil_append] at ho4
  obtain ⟨A4, c4, rfl, hc4⟩ := ho4.form
  have hB4 : Below w.heap.size w w4 := (Gw.alloc w _).trans hb4
  have HO4 := Lib.hid ho4
  have HB4 := Lib.hid hB4
  rw [← HN.out] at HO4 ⊢
  clear ho4 hb4 hg4 hv4 hc4 hB4
  go_wp2_with fail
  go_loopw [8] (fun i wr => ∃ k : Nat, k ≤ n ∧ i = .int .i64 k ∧ Ow u64v 68 wr w.heap.size (.slice A4 N c4) (putK ws a bs k) ∧ Below w.heap.size w wr) (fun i _ => n - (Go.RowKit.intOf i).toNat)
  case atStart => exact ⟨0, by omega, rfl, HO4.out, HB4.out⟩
  case round =>
    obtain ⟨k, hk, rfl, ho, hB⟩ := hrel
    by_cases hlt : k < n
    · have hn0 := Hn.out
      have hN0 := HN.out
      have ha0 := HA.out
      have hl0 := HL.out
      obtain ⟨q, rfl⟩ : ∃ q, A4 = some ⟨q, 0, none⟩ := by
        rcases ho.2 with ⟨e, hn⟩ | ⟨q, _, _, e, _⟩
        · have hn' : (putK ws a bs k).length = 0 := hn
          rw [putK_len] at hn'
          omega
        · injection e with e
          exact ⟨q, e⟩
      obtain ⟨ad, rfl, hadb, hcl⟩ := (HR2.out.below hB) k (by omega)
      obtain ⟨x, hx⟩ : ∃ x, x = bs[k]'(by omega) := ⟨_, rfl⟩
      rw [← hx] at hcl
      unfold b8 at hcl
      obtain ⟨s, hs⟩ : ∃ s, s = a + k := ⟨_, rfl⟩
      obtain ⟨j, hj⟩ : ∃ j, j = s / 8 := ⟨_, rfl⟩
      obtain ⟨b, hb⟩ : ∃ b, b = s % 8 := ⟨_, rfl⟩
      obtain ⟨t, ht⟩ : ∃ t, t = 8 * b := ⟨_, rfl⟩
      have hjl : j < ws.length := by omega
      have hjp : j < (putK ws a bs k).length := by rw [putK_len]; exact hjl
      have hcell := ho.cell hjp
      obtain ⟨y, hy⟩ : ∃ y, y = (putK ws a bs k)[j] := ⟨_, rfl⟩
      rw [← hy] at hcell
      unfold u64v at hcell
      have hput : putK ws a bs (k + 1) = (putK ws a bs k).set j (withB y (t : Int) 8 (x.setWidth 64)) := by
        rw [with_set y x t (by omega)]
        show setB (putK ws a bs k) (a + k) (bs.getD k 0#8) = _
        unfold setB
        rw [← hs, ← hj, ← hb, ← ht, hy, hx, List.getD_eq_getElem?_getD, List.getElem?_eq_getElem hjp, List.getD_eq_getElem?_getD, List.getElem?_eq_getElem (by omega)]
        rfl
      have HS := Lib.hid (fun (W : World) (hW : Below wr.heap.size wr W) => show Ow u64v 68 (W.setCell ⟨q, j, none⟩ (.int .u64 (U64 (withB y (t : Int) 8 (x.setWidth 64))))) w.heap.size (.slice (some ⟨q, 0, none⟩) N c4) (putK ws a bs (k + 1)) ∧ Below w.heap.size w (W.setCell ⟨q, j, none⟩ (.int .u64 (U64 (withB y (t : Int) 8 (x.setWidth 64))))) from by
        rw [hput]
        exact ⟨(ho.below hW).set hjp _, (hB.trans (hW.mono hB.size)).setCell (p := ⟨q, j, none⟩) ho.ge.1 _⟩)
      have HFZ := Lib.hid (fun (W : World) (hW : Below wr.heap.size wr W) => (ho.below hW).free j)
      have HCL := Lib.hid (fun (W : World) (hW : Below wr.heap.size wr W) => show W.cell? ⟨q, j, none⟩ = some (.int .u64 (U64 y)) from by have h0 := (ho.below hW).cell hjp; rw [← hy] at h0; exact h0)
      have HX := Lib.hid (show ((a : Int) + (k : Int) = (s : Int) ∧ (s : Int) ≤ 800000 ∧ (0 : Int) ≤ (s : Int)) ∧ ((s : Int).tdiv 8 = (j : Int) ∧ (s : Int).tmod 8 = (b : Int) ∧ (8 : Int) * (b : Int) = (t : Int)) ∧ ((0 : Int) ≤ (j : Int) ∧ (j : Int) < (N : Int) ∧ (j : Int) ≤ 1000000) ∧ ((0 : Int) ≤ (t : Int) ∧ (t : Int) ≤ 56 ∧ (0 : Int) ≤ (k : Int) ∧ (k : Int) < (n : Int)) from by
        refine ⟨⟨by omega, by omega, by omega⟩, ⟨?_, ?_, by omega⟩, ⟨by omega, by omega, by omega⟩, by omega, by omega, by omega, by omega⟩
        · rw [Int.tdiv_eq_ediv_of_nonneg (by omega)]; omega
        · rw [Int.tmod_eq_emod_of_nonneg (by omega)]; omega)
      have HC := Lib.hid (And.intro ho.ge.2 (And.intro hcell (And.intro (show ad.block < wr.heap.size by have := hB.size; omega) hcl)))
      clear hx hs hj hb ht hjl hjp hcell hy hput ho hadb hcl hn0 hN0 ha0 hl0
      go_wp2_with fail
      obtain ⟨⟨x1, x2, x3⟩, ⟨x4, x5, x6⟩, ⟨x7, x8, x9⟩, x10, x11, x12, x13⟩ := HX.out
      refine rsb_reg _ _ _ q N c4 c2 a k n j b s t ad x y HC.out.1 HC.out.2.1 HC.out.2.2.1 HC.out.2.2.2 x1 x2 x3 x4 x5 x6 x7 x8 x9 x10 x11 x12 x13 rfl rfl rfl rfl rfl ?_
      intro vals w5 hG h40 h41
      unfold IsV at h40 h41
      simp only [putD, Act.put, List.setIfInBounds_toArray, List.set_cons_zero, List.set_cons_succ, h40, h41]
      have hS := HS.out w5 hG
      have hf := HFZ.out w5 hG
      have hc := HCL.out w5 hG
      have HS3 := Lib.hid hS
      clear hS h40 h41 HC HX HS HFZ HCL x1 x2 x3 x4 x5 x6 x7 x8 x9 x10 x11 x12 x13
      go_wp2_with fail
      go_roundw
      case rel => exact ⟨k + 1, by omega, by go_num, HS3.out.1, HS3.out.2⟩
      case measure => (first | (simp [Go.RowKit.intOf]; done) | (simp [Go.RowKit.intOf]; omega))
    · have hkk : k = n := by omega
      have hlen : N = (putK ws a bs k).length := by rw [putK_len]; exact HN.out
      have HF := Lib.hid (And.intro ho (And.intro hB (And.intro hkk hlen)))
      clear ho hB hkk hlen
      go_wp2_with fail
      go_ret
      obtain ⟨ho, hB, hkk, hlen⟩ := HF.out
      subst hkk
      exact MkP.of ho hB
end Go.Proofs.YtfodefgihicafaaDoor
/- The reference's Write where it writes. Conditions: lengths. -/
namespace Go.Proofs.YtfodefgihicafaaDoor
set_option linter.unusedVariables false
set_option linter.unusedSimpArgs false
open Go.RowKit
set_option maxHeartbeats 1000000
set_option maxRecDepth 100000
def MkW (xs : List (BitVec 64)) (B : Nat) (v : Value) (W : World) : Prop := ∃ A c, v = .slice A xs.length c ∧ Ow u64v 68 W B (.slice A xs.length c) xs
theorem MkW.mono {xs : List (BitVec 64)} {B : Nat} {v : Value} {a b : World} (h : MkW xs B v a) (g : Below a.heap.size a b) : MkW xs B v b := by
  obtain ⟨A, c, e, ho⟩ := h
  exact ⟨A, c, e, ho.below g⟩
theorem of_mkW {f : FuncId} {args : Array Value} {xs : List (BitVec 64)} {w : World} {B : Nat} (hB : B ≤ w.heap.size) (h : Calls Tryd.prog f args w (MkP u64v 68 xs w)) : Calls Tryd.prog f args w fun e w2 => ∃ u, e = .returned u ∧ Below w.heap.size w w2 ∧ MkW xs B u w2 :=
  h.mono fun e w2 h => by
    obtain ⟨A, c, rfl, hc, ho, hb⟩ := h
    exact ⟨_, rfl, hb, A, c, rfl, ho.mono hB⟩
theorem rwr_r (Q : Exit → Act → World → Prop) (a0 : Act) (w : World) (B hb s a P i N L c J c2 : Nat) (A A2 : Option Addr) (xs : List (BitVec 64)) (hsl : s < w.heap.size) (cs : w.cell? ⟨s, 0, none⟩ = some (.slice A L c)) (hh : hb < w.heap.size) (ch : w.cell? ⟨hb, 0, none⟩ = some (.int .i64 P)) (q1 : (0 : Int) ≤ (a : Int)) (q2 : (a : Int) ≤ 100000) (q3 : (0 : Int) ≤ (P : Int)) (q4 : (P : Int) ≤ 64) (q5 : (0 : Int) ≤ (i : Int)) (q6 : (i : Int) ≤ 1024) (hJ : 8 * ((a : Int) + 1 + (P : Int)) + (i : Int) = (J : Int)) (hp : Hid (∀ W, Below w.heap.size w W → Calls Tryd.prog 38 #[.slice A L c, .int .i64 (J : Int), .slice A2 N c2] W fun e w2 => ∃ u, e = .returned u ∧ Below W.heap.size W w2 ∧ MkW xs B u w2)) (hsz : a0.tmps.size = 54) (sl0 : a0.tmps.getD 0 undef = .pointer (some ⟨s, 0, none⟩)) (sl1 : a0.tmps.getD 1 undef = .int .i64 (a : Int)) (sl2 : a0.tmps.getD 2 undef = .int .i64 (i : Int)) (sl3 : a0.tmps.getD 3 undef = .slice A2 N c2) (sl9 : a0.tmps.getD 9 undef = .pointer (some ⟨hb, 0, none⟩))
    (fin : ∀ (vals : Nat → Value) (w1 : World), Below w.heap.size w w1 → (MkW xs B) (vals 14) w1 → (IsV (.pointer (some ⟨s, 0, none⟩))) (vals 16) w1 → wpList Tryd.prog #[{ dst := none, op := Go.Op.store 22 (Go.Operand.tmp 53) (Go.Operand.tmp 51), type := 0, pos := "", after := #[], guard := none }] Q [{ dst := none, op := Go.Op.store 22 (Go.Operand.tmp 53) (Go.Operand.tmp 51), type := 0, pos := "", after := #[], guard := none }] (putD vals [37, 38, 39, 40, 41, 42, 43, 44, 45, 46, 47, 48, 49, 50, 51, 52, 53] 0 a0) w1) :
    (Code.region 6 (regIn Tryd.f16 6) true).wp Tryd.prog Q a0 w := by
  refine region_by_tail (m := 17) (G := fun w w1 => Below w.heap.size w w1) [IsV (.pointer (some ⟨s, 0, none⟩)),
    IsV (.pointer (some ⟨s, 0, none⟩)),
    IsV (.pointer (some ⟨s, 0, none⟩)),
    IsV (.pointer (some ⟨s, 0, none⟩)),
    IsV (.slice A L c),
    IsV (.int .i64 (a : Int)),
    IsV (.int .i64 ((a : Int) + 1)),
    IsV (.pointer (some ⟨hb, 0, none⟩)),
    IsV (.int .i64 (P : Int)),
    IsV (.int .i64 ((a : Int) + 1 + (P : Int))),
    IsV (.int .i64 (8 * ((a : Int) + 1 + (P : Int)))),
    IsV (.int .i64 (i : Int)),
    IsV (.int .i64 (J : Int)),
    IsV (.slice A2 N c2),
    MkW xs B,
    IsV (.pointer (some ⟨s, 0, none⟩)),
    IsV (.pointer (some ⟨s, 0, none⟩))]
    [37, 38, 39, 40, 41, 42, 43, 44, 45, 46, 47, 48, 49, 50, 51, 52, 53] (by kernel_rfl) (Gw.drew _) Gw.trans (by rw [hsz]; kernel_rfl) (by kernel_rfl) ?_ ?_ ?_
  · intro f hf
    simp only [List.mem_cons, List.not_mem_nil, or_false] at hf
    rcases hf with rfl | rfl | rfl | rfl | rfl | rfl | rfl | rfl | rfl | rfl | rfl | rfl | rfl | rfl | rfl | rfl | rfl <;> intro v a b h g <;> first | exact IsV.mono h | exact MkW.mono h g
  · refine ⟨?_, ?_, ?_, ?_, ?_, ?_, ?_, ?_, ?_, ?_, ?_, ?_, ?_, ?_, ?_, ?_, ?_, trivial⟩
    · exact owes_mv 0 (by kernel_rfl) (by kernel_rfl) (by kernel_rfl) sl0 (fun _ => rfl)
    · exact owes_mv 0 (by kernel_rfl) (by kernel_rfl) (by kernel_rfl) sl0 (fun _ => rfl)
    · refine owes_v (Go.Op.nilCheck (Go.Operand.tmp 38)) 0 [1] (by kernel_rfl) (by kernel_rfl) (by kernel_rfl) rfl fun vals w1 ρ hG hF hρ hcst hfun => ?_
      have e38 : ρ (.tmp 38) = .pointer (some ⟨s, 0, none⟩) := ((hρ 38).trans (slotJ [1] (by rw [hsz]; decide) (by kernel_rfl))).trans (hF 1 (by decide))
      clear hρ hF hcst hfun sl0 sl1 sl2 sl3 sl9 fin
      exact opv_val (by go_simp <;> rfl) ⟨gw_self _, rfl⟩
    · refine owes_v (Go.Op.fieldAddr 29 (Go.Operand.tmp 39) 0) 0 [2] (by kernel_rfl) (by kernel_rfl) (by kernel_rfl) rfl fun vals w1 ρ hG hF hρ hcst hfun => ?_
      have e39 : ρ (.tmp 39) = .pointer (some ⟨s, 0, none⟩) := ((hρ 39).trans (slotJ [2] (by rw [hsz]; decide) (by kernel_rfl))).trans (hF 2 (by decide))
      clear hρ hF hcst hfun sl0 sl1 sl2 sl3 sl9 fin
      exact opv_val (by go_simp <;> rfl) ⟨gw_self _, rfl⟩
    · refine owes_v (Go.Op.load 22 (Go.Operand.tmp 40)) 22 [3] (by kernel_rfl) (by kernel_rfl) (by kernel_rfl) rfl fun vals w1 ρ hG hF hρ hcst hfun => ?_
      have e40 : ρ (.tmp 40) = .pointer (some ⟨s, 0, none⟩) := ((hρ 40).trans (slotJ [3] (by rw [hsz]; decide) (by kernel_rfl))).trans (hF 3 (by decide))
      have kk := (hG.cell (p := ⟨s, 0, none⟩) hsl).trans cs
      clear hρ hF hcst hfun sl0 sl1 sl2 sl3 sl9 fin
      exact opv_val (by go_simp <;> rfl) ⟨gw_self _, rfl⟩
    · exact owes_mv 1 (by kernel_rfl) (by kernel_rfl) (by kernel_rfl) sl1 (fun _ => rfl)
    · refine owes_v (Go.Op.binOp Go.BinOp.add 3 (Go.Operand.tmp 42) (Go.Operand.const (Go.Value.int Go.IntKind.i64 1)) 3) 3 [5] (by kernel_rfl) (by kernel_rfl) (by kernel_rfl) rfl fun vals w1 ρ hG hF hρ hcst hfun => ?_
      have e42 : ρ (.tmp 42) = .int .i64 (a : Int) := ((hρ 42).trans (slotJ [5] (by rw [hsz]; decide) (by kernel_rfl))).trans (hF 5 (by decide))
      have kw0 : IntKind.i64.wrap (((a : Int) + 1)) = ((a : Int) + 1) := wrapIn (by omega) (by omega)
      clear hρ hF hfun sl0 sl1 sl2 sl3 sl9 fin
      exact opv_val (by go_simp <;> rfl) ⟨gw_self _, rfl⟩
    · refine owes_v (Go.Op.fieldAddr 74 (Go.Operand.tmp 9) 0) 0 [] (by kernel_rfl) (by kernel_rfl) (by kernel_rfl) rfl fun vals w1 ρ hG hF hρ hcst hfun => ?_
      have e9 : ρ (.tmp 9) = .pointer (some ⟨hb, 0, none⟩) := ((hρ 9).trans (slotO [] (by kernel_rfl))).trans sl9
      clear hρ hF hcst hfun sl0 sl1 sl2 sl3 sl9 fin
      exact opv_val (by go_simp <;> rfl) ⟨gw_self _, rfl⟩
    · refine owes_v (Go.Op.load 3 (Go.Operand.tmp 44)) 3 [7] (by kernel_rfl) (by kernel_rfl) (by kernel_rfl) rfl fun vals w1 ρ hG hF hρ hcst hfun => ?_
      have e44 : ρ (.tmp 44) = .pointer (some ⟨hb, 0, none⟩) := ((hρ 44).trans (slotJ [7] (by rw [hsz]; decide) (by kernel_rfl))).trans (hF 7 (by decide))
      have kk := (hG.cell (p := ⟨hb, 0, none⟩) hh).trans ch
      clear hρ hF hcst hfun sl0 sl1 sl2 sl3 sl9 fin
      exact opv_val (by go_simp <;> rfl) ⟨gw_self _, rfl⟩
    · refine owes_v (Go.Op.binOp Go.BinOp.add 3 (Go.Operand.tmp 43) (Go.Operand.tmp 45) 3) 3 [6, 8] (by kernel_rfl) (by kernel_rfl) (by kernel_rfl) rfl fun vals w1 ρ hG hF hρ hcst hfun => ?_
      have e43 : ρ (.tmp 43) = .int .i64 ((a : Int) + 1) := ((hρ 43).trans (slotJ [6, 8] (by rw [hsz]; decide) (by kernel_rfl))).trans (hF 6 (by decide))
      have e45 : ρ (.tmp 45) = .int .i64 (P : Int) := ((hρ 45).trans (slotJ [6, 8] (by rw [hsz]; decide) (by kernel_rfl))).trans (hF 8 (by decide))
      have kw0 : IntKind.i64.wrap (((a : Int) + 1 + (P : Int))) = ((a : Int) + 1 + (P : Int)) := wrapIn (by omega) (by omega)
      clear hρ hF hcst hfun sl0 sl1 sl2 sl3 sl9 fin
      exact opv_val (by go_simp <;> rfl) ⟨gw_self _, rfl⟩
    · refine owes_v (Go.Op.binOp Go.BinOp.mul 3 (Go.Operand.const (Go.Value.int Go.IntKind.i64 8)) (Go.Operand.tmp 46) 3) 3 [9] (by kernel_rfl) (by kernel_rfl) (by kernel_rfl) rfl fun vals w1 ρ hG hF hρ hcst hfun => ?_
      have e46 : ρ (.tmp 46) = .int .i64 ((a : Int) + 1 + (P : Int)) := ((hρ 46).trans (slotJ [9] (by rw [hsz]; decide) (by kernel_rfl))).trans (hF 9 (by decide))
      have kw0 : IntKind.i64.wrap ((8 * ((a : Int) + 1 + (P : Int)))) = (8 * ((a : Int) + 1 + (P : Int))) := wrapIn (by omega) (by omega)
      clear hρ hF hfun sl0 sl1 sl2 sl3 sl9 fin
      exact opv_val (by go_simp <;> rfl) ⟨gw_self _, rfl⟩
    · exact owes_mv 2 (by kernel_rfl) (by kernel_rfl) (by kernel_rfl) sl2 (fun _ => rfl)
    · refine owes_v (Go.Op.binOp Go.BinOp.add 3 (Go.Operand.tmp 47) (Go.Operand.tmp 48) 3) 3 [10, 11] (by kernel_rfl) (by kernel_rfl) (by kernel_rfl) rfl fun vals w1 ρ hG hF hρ hcst hfun => ?_
      have e47 : ρ (.tmp 47) = .int .i64 (8 * ((a : Int) + 1 + (P : Int))) := ((hρ 47).trans (slotJ [10, 11] (by rw [hsz]; decide) (by kernel_rfl))).trans (hF 10 (by decide))
      have e48 : ρ (.tmp 48) = .int .i64 (i : Int) := ((hρ 48).trans (slotJ [10, 11] (by rw [hsz]; decide) (by kernel_rfl))).trans (hF 11 (by decide))
      have kw0 : IntKind.i64.wrap ((J : Int)) = (J : Int) := wrapIn (by omega) (by omega)
      clear hρ hF hcst hfun sl0 sl1 sl2 sl3 sl9 fin
      exact opv_val (by go_simp <;> rfl) ⟨gw_self _, rfl⟩
    · exact owes_mv 3 (by kernel_rfl) (by kernel_rfl) (by kernel_rfl) sl3 (fun _ => rfl)
    · refine owes_v (Go.Op.call { callee := Go.Callee.value (Go.Operand.func 38), args := #[Go.Operand.tmp 41, Go.Operand.tmp 49, Go.Operand.tmp 50], argTypes := #[22, 3, 30] }) 22 [4, 12, 13] (by kernel_rfl) (by kernel_rfl) (by kernel_rfl) rfl fun vals w1 ρ hG hF hρ hcst hfun => ?_
      have e41 : ρ (.tmp 41) = .slice A L c := ((hρ 41).trans (slotJ [4, 12, 13] (by rw [hsz]; decide) (by kernel_rfl))).trans (hF 4 (by decide))
      have e49 : ρ (.tmp 49) = .int .i64 (J : Int) := ((hρ 49).trans (slotJ [4, 12, 13] (by rw [hsz]; decide) (by kernel_rfl))).trans (hF 12 (by decide))
      have e50 : ρ (.tmp 50) = .slice A2 N c2 := ((hρ 50).trans (slotJ [4, 12, 13] (by rw [hsz]; decide) (by kernel_rfl))).trans (hF 13 (by decide))
      clear hρ hF hcst sl0 sl1 sl2 sl3 sl9 fin
      exact opv_enter (by go_simp <;> rfl) ((hp.out w1 hG))
    · refine owes_v (Go.Op.nilCheck (Go.Operand.tmp 37)) 0 [0] (by kernel_rfl) (by kernel_rfl) (by kernel_rfl) rfl fun vals w1 ρ hG hF hρ hcst hfun => ?_
      have e37 : ρ (.tmp 37) = .pointer (some ⟨s, 0, none⟩) := ((hρ 37).trans (slotJ [0] (by rw [hsz]; decide) (by kernel_rfl))).trans (hF 0 (by decide))
      clear hρ hF hcst hfun sl0 sl1 sl2 sl3 sl9 fin
      exact opv_val (by go_simp <;> rfl) ⟨gw_self _, rfl⟩
    · refine owes_v (Go.Op.fieldAddr 29 (Go.Operand.tmp 52) 0) 0 [15] (by kernel_rfl) (by kernel_rfl) (by kernel_rfl) rfl fun vals w1 ρ hG hF hρ hcst hfun => ?_
      have e52 : ρ (.tmp 52) = .pointer (some ⟨s, 0, none⟩) := ((hρ 52).trans (slotJ [15] (by rw [hsz]; decide) (by kernel_rfl))).trans (hF 15 (by decide))
      clear hρ hF hcst hfun sl0 sl1 sl2 sl3 sl9 fin
      exact opv_val (by go_simp <;> rfl) ⟨gw_self _, rfl⟩
  · intro vals w1 hG hF
    exact last_list (by kernel_rfl) (by kernel_rfl) (by kernel_rfl) (fin vals w1 hG (hF 14 (by decide +kernel)) (hF 16 (by decide +kernel)))
theorem rWrite_ok (w : World) (s c : Nat) (A : Option Addr) (ws : List (BitVec 64)) (b t e : Nat) (p : RefAt w s A c ws b t e) (hte : t ≤ ws.length) (hl : ws.length ≤ 8192) (a i : Nat) (A2 : Option Addr) (c2 : Nat) (bs : List (BitVec 8)) (h1 : b ≤ a) (h2 : a < t) (hg : goodX (ws.getD a 0#64) (t - a) = true) (hi : i + bs.length ≤ B0 (ws.getD a 0#64)) (hrb : Rd b8 w w.heap.size A2 bs) :
    Calls Tryd.prog 16 #[.pointer (some ⟨s, 0, none⟩), .int .i64 a, .int .i64 i, .slice A2 bs.length c2] w fun r w' => r = .returned (.int .i64 0) ∧ ∃ A' c', Bk w' s 29 #[.slice A' ws.length c', .int .i64 b, .int .i64 t, .int .i64 e] ∧ Ow u64v 68 w' w.heap.size (.slice A' ws.length c') (putK ws (8 * (a + 1 + P0 (ws.getD a 0#64)) + i) bs bs.length) ∧ w.grownBy w' (some s) := by
  have HL := Lib.hid (robj_ok w s c A ws b t e p hte (by omega) a h1 h2 hg)
  obtain ⟨_, hr⟩ := bytes_room hg h2 hte (Nat.le_refl _) hi
  obtain ⟨P, hP⟩ : ∃ P, P = P0 (ws.getD a 0#64) := ⟨_, rfl⟩
  obtain ⟨M, hM⟩ : ∃ P, P = B0 (ws.getD a 0#64) := ⟨_, rfl⟩
  have hb1 := (head_of hg).2.1
  have hb2 := (head_of hg).2.2.1
  rw [← hP, ← hM] at HL
  rw [← hP] at hr hb1 ⊢
  rw [← hM] at hi hb2
  obtain ⟨J, hJ⟩ : ∃ J, J = 8 * (a + 1 + P) + i := ⟨_, rfl⟩
  rw [← hJ] at hr ⊢
  have HR := Lib.hid (fun W (hb : Below w.heap.size w W) => rsetb_c W A A2 c c2 ws bs J (p.below hb).rd ((hrb.below hb).more hb.size) hr (by omega))
  obtain ⟨xs, hxs⟩ : ∃ xs, xs = putK ws J bs bs.length := ⟨_, rfl⟩
  have hxl : xs.length = ws.length := by rw [hxs]; exact putK_len _ _ _ _
  rw [← hxs] at HR ⊢
  obtain ⟨L, hL⟩ : ∃ L, L = ws.length := ⟨_, rfl⟩
  obtain ⟨n, hn⟩ : ∃ n, n = bs.length := ⟨_, rfl⟩
  rw [← hL, ← hn] at HR
  rw [← hn] at hi ⊢
  rw [← hL] at hxl ⊢
  have HP := Lib.hid (show ∀ W, Below w.heap.size w W → W.cell? ⟨s, 0, none⟩ = some (.slice A L c) ∧ Bk W s 29 #[.slice A L c, .int .i64 b, .int .i64 t, .int .i64 e] from fun W hb => ⟨by rw [hL]; exact (p.below hb).four.1, by rw [hL]; exact (p.below hb).blk⟩)
  have q1 : (0 : Int) ≤ (a : Int) := by omega
  have q2 : (a : Int) ≤ 100000 := by omega
  have q3 : (0 : Int) ≤ (i : Int) := by omega
  have q4 : (i : Int) ≤ 1024 := by omega
  have q5 : (0 : Int) ≤ (n : Int) := by omega
  have q6 : (i : Int) + (n : Int) ≤ (M : Int) := by omega
  have q7 : (M : Int) ≤ 1024 := by omega
  have q8 : (P : Int) ≤ 64 := by omega
  have HJ := Lib.hid (show 8 * ((a : Int) + 1 + (P : Int)) + (i : Int) = (J : Int) from by omega)
  have HX := Lib.hid hxl
  have HSl := Lib.hid p.blk.lt
  clear p hte hl h1 h2 hg hi hr hP hM hb1 hb2 hJ hL hn hxs hxl hrb
  go_enter Tryd.func16, Tryd.ntmps16
  go_wp2_with fail
  refine Calls.mono HL.out ?_
  rintro r w2 ⟨rfl, b2⟩
  have HB := Lib.hid b2
  clear b2 HL
  go_wp2_with fail
  obtain ⟨w3, hw3⟩ : ∃ W, W = w2.alloc (.cells #[.int .i64 P, .int .i64 M, .bool false, .int .i64 0] 74) := ⟨_, rfl⟩
  rw [← hw3]
  have hk3 : Bk w3 w2.heap.size 74 #[.int .i64 P, .int .i64 M, .bool false, .int .i64 0] := by rw [hw3]; exact Bk.new w2 _ _
  have hb3 : Below w.heap.size w w3 := by rw [hw3]; exact HB.out.trans ((Gw.alloc w2 _).mono HB.out.size)
  have HB3 := Lib.hid hb3
  clear hw3
  refine rwr_r _ _ _ w.heap.size w2.heap.size s a P i n L c J c2 A A2 xs (HP.out w3 hb3).2.lt (HP.out w3 hb3).1 hk3.lt (hk3.cell 0) q1 q2 (by omega) q8 q3 (by omega) HJ.out (Lib.hid (fun W hW => of_mkW (Nat.le_trans hb3.size hW.size) (HR.out W (hb3.trans (hW.mono hb3.size))))) rfl ?_ ?_ ?_ ?_ ?_ ?_
  · rfl
  · rfl
  · rfl
  · rfl
  · rfl
  intro vals w4 hG h51 h53
  obtain ⟨A5, c5, e5, ho5⟩ := h51
  unfold IsV at h53
  have HB4 := Lib.hid (HB3.out.trans (hG.mono HB3.out.size))
  have hq := (HP.out w4 HB4.out).2
  rw [HX.out] at e5 ho5
  have HO := Lib.hid (And.intro ho5 hq)
  simp only [putD, Act.put, List.setIfInBounds_toArray, List.set_cons_zero, List.set_cons_succ, e5, h53]
  have g5 := hq.free 0
  have x5 := hq.cell 0
  have hsl5 := hq.lt
  clear hG e5 hb3 hk3 h53 hq ho5
  go_wp2_with fail
  go_ret
  refine ⟨rfl, A5, c5, HO.out.2.set 0 _, HO.out.1.kept (grown_set _ ⟨s, 0, none⟩ _) (.inr (fun e => ?_)), ((Two.below HB4.out).trans (Two.setc _ s 0 _ none)).one⟩
  have h1 := (HO.out.1.lt s e).1
  have h2 := HSl.out
  omega
end Go.Proofs.YtfodefgihicafaaDoor
/- The reference's Decimal and Hex. Conditions: below a hundred; lengths. -/
namespace Go.Proofs.YtfodefgihicafaaDoor
set_option linter.unusedVariables false
set_option linter.unusedSimpArgs false
open Go.RowKit
theorem conv1 (w : World) (z : Int) (d : BitVec 8) (h : z = U8 d) (g : Nat) (hg : g = w.heap.size) :
    (convert 30 9 (.slice (some ⟨g, 0, none⟩) 1 1)).run Tryd.prog (w.alloc (.cells #[.int .u8 z] 5)) = .ok (.string (strB [d])) (w.alloc (.cells #[.int .u8 z] 5)) := by
  subst h hg
  exact str_conv [d] (some ⟨w.heap.size, 0, none⟩) 1 (w.heap.size + 1) _ (rd1_new (f := b8) (w := w) (E := 5) (y := d) (u := .int .u8 (U8 d)) rfl)
theorem dig8 (r : Nat) (h : r < 10) : (48 : Int) + (r : Int) = U8 (BitVec.ofNat 8 (48 + r)) := by
  have e : U8 (BitVec.ofNat 8 (48 + r)) = (((BitVec.ofNat 8 (48 + r)).toNat : Nat) : Int) := rfl
  rw [e, BitVec.toNat_ofNat]
  omega
set_option maxHeartbeats 2000000
set_option maxRecDepth 100000
end Go.Proofs.YtfodefgihicafaaDoor
/- Decimal numerals: strconv.Itoa and the reference's Decimal of any number up to a million. Conditions: 0 ≤ n. -/
namespace Go.Proofs.YtfodefgihicafaaDoor
set_option linter.unusedVariables false
set_option linter.unusedSimpArgs false
open Go.RowKit
def dg8 (r : Nat) : BitVec 8 := BitVec.ofNat 8 (48 + r)
def dcL (n : Nat) : List (BitVec 8) := (Lib.decDigits n).map UInt8.toBitVec
theorem dcL_small {n : Nat} (h : n < 10) : dcL n = [dg8 n] := by
  unfold dcL
  rw [Lib.decDigits, dif_pos h]
  rfl
theorem dcL_step {n : Nat} (h : ¬ n < 10) : dcL n = dcL (n / 10) ++ [dg8 (n % 10)] := by
  unfold dcL
  rw [Lib.decDigits, dif_neg h, List.map_append]
  rfl
theorem dcL_len : ∀ n, (dcL n).length ≤ n + 1 := by
  intro n
  induction n using Nat.strongRecOn with
  | _ n ih =>
    by_cases h : n < 10
    · rw [dcL_small h]; simp
    · rw [dcL_step h, List.length_append]
      have := ih (n / 10) (by omega)
      simp; omega
theorem itoa_dcL (n : Nat) : (⟨(Lib.itoa (n : Int)).toArray⟩ : ByteArray) = strB (dcL n) := by
  have h : Lib.itoa (n : Int) = Lib.decDigits n := by unfold Lib.itoa; rw [if_neg (by omega)]; simp
  rw [h]
  unfold strB strL dcL
  rw [List.map_map]
  have : (UInt8.ofBitVec ∘ UInt8.toBitVec) = id := rfl
  rw [this, List.map_id]
theorem itoa_n (n : Nat) (h : n ≤ 1000000) (w : World) (htab : Lib.TabIs Tryd.prog w "internal/strconv.uint64pow10" .u64 Lib.pow10Tab) :
    Calls Tryd.prog 51 #[.int .i64 n] w (RetP (.string (strB (dcL n))) w) := by
  refine (itoaG n (by omega) (by omega) w htab).mono ?_
  rintro e w' ⟨rfl, k, os, rfl⟩
  rw [itoa_dcL]
  refine ⟨rfl, ?_⟩
  exact ⟨rfl, rfl, rfl, by simp [Sort.grow], fun i hi => by simp [Sort.grow]; exact Array.getElem?_append_left hi⟩
set_option maxHeartbeats 2000000
set_option maxRecDepth 100000
theorem dec_n (n0 : Nat) (h : n0 ≤ 1000000) (w : World) : Calls Tryd.prog 56 #[.int .i64 n0] w (RetP (.string (strB (dcL n0))) w) := by
  obtain ⟨r, hr⟩ : ∃ r, r = n0 % 10 := ⟨_, rfl⟩
  have hr9 : r < 10 := by omega
  have hd := dig8 r hr9
  obtain ⟨d, hdd⟩ : ∃ d, d = BitVec.ofNat 8 (48 + r) := ⟨_, rfl⟩
  rw [← hdd] at hd
  have hcv := conv1 w ((48 : Int) + (r : Int)) d hd w.heap.size rfl
  have q0 : (0 : Int) ≤ (n0 : Int) := by omega
  have hm : (n0 : Int).tmod 10 = (r : Int) := by rw [Int.tmod_eq_emod_of_nonneg q0]; omega
  have r0 : (0 : Int) ≤ (r : Int) := by omega
  have r9 : (r : Int) < 10 := by omega
  have HL := Lib.hid (show (dcL n0).length ≤ 1000001 from Nat.le_trans (dcL_len n0) (by omega))
  have HD := Lib.hid (show dcL n0 = dcL n0 ++ ([] : List (BitVec 8)) ∧ d = dg8 (n0 % 10) from ⟨by simp, by rw [hdd, hr]; rfl⟩)
  have hn0 : (n0 : Int) ≤ 1000000 := by omega
  have HR := Lib.hid hr
  clear hd hdd hr9 h hr
  go_enter Tryd.func56, Tryd.ntmps56
  go_wp2_with fail
  have HB := Lib.hid (show Below w.heap.size w (w.alloc (.cells #[.int .u8 ((48 : Int) + (r : Int))] 5)) from Gw.alloc w _)
  go_loopw [0, 3] (fun n s W => ∃ (m r : Nat) (tl : List (BitVec 8)), n = .int .i64 m ∧ s = .string (strB (dg8 r :: tl)) ∧ (m : Int) ≤ 1000000 ∧ Hid (r = m % 10 ∧ dcL n0 = dcL m ++ tl) ∧ Hid (Below w.heap.size w W)) (fun n _ _ => (Go.RowKit.intOf n).toNat)
  case atStart => exact ⟨n0, r, [], rfl, by rw [HD.out.2, ← HR.out], by omega, Lib.hid ⟨HR.out, HD.out.1⟩, HB⟩
  case round =>
    clear HB hcv hm r0 r9
    obtain ⟨m, r1, tl, rfl, rfl, hm, hS, hB⟩ := hrel
    by_cases hlt : m < 10
    · have q1 : (m : Int) < 10 := by omega
      have e : dcL n0 = dg8 r1 :: tl := by
        rw [hS.out.2, hS.out.1, dcL_small hlt, Nat.mod_eq_of_lt hlt]; rfl
      have HE := Lib.hid e
      clear e hlt
      go_wp2_with fail
      go_ret
      exact ⟨by rw [HE.out]; rfl, hB.out⟩
    · have q1 : (10 : Int) ≤ (m : Int) := by omega
      obtain ⟨q, hq⟩ : ∃ q, q = m / 10 := ⟨_, rfl⟩
      obtain ⟨r2, hr2⟩ : ∃ r, r = q % 10 := ⟨_, rfl⟩
      have hr9 : r2 < 10 := by omega
      have hd := dig8 r2 hr9
      obtain ⟨d, hdd⟩ : ∃ d, d = BitVec.ofNat 8 (48 + r2) := ⟨_, rfl⟩
      rw [← hdd] at hd
      have hcv := conv1 wr ((48 : Int) + (r2 : Int)) d hd wr.heap.size rfl
      have hqd : (m : Int).tdiv 10 = (q : Int) := by rw [Int.tdiv_eq_ediv_of_nonneg (by omega)]; omega
      have hmq : (q : Int).tmod 10 = (r2 : Int) := by rw [Int.tmod_eq_emod_of_nonneg (by omega)]; omega
      have z1 : (0 : Int) ≤ (q : Int) := by omega
      have z2 : (q : Int) ≤ 1000000 := by omega
      have z3 : (0 : Int) ≤ (r2 : Int) := by omega
      have z4 : (r2 : Int) < 10 := by omega
      have a4 : strB [d] ++ strB (dg8 r1 :: tl) = strB (d :: dg8 r1 :: tl) := strB_app [d] (dg8 r1 :: tl)
      have a5 : (strB [d]).size = 1 := rfl
      obtain ⟨L, hL⟩ : ∃ L, L = (dg8 r1 :: tl).length := ⟨_, rfl⟩
      have a6 : (strB (dg8 r1 :: tl)).size = L := by rw [strB_len, hL]
      have hL9 : (L : Int) ≤ 1000002 := by
        have h1 := HL.out
        rw [hS.out.2, List.length_append] at h1
        rw [hL, List.length_cons]
        omega
      have HN := Lib.hid (show r2 = q % 10 ∧ dcL n0 = dcL q ++ (dg8 r1 :: tl) ∧ d = dg8 r2 ∧ q < m from ⟨hr2, by rw [hS.out.2, dcL_step hlt, hS.out.1, ← hq, List.append_assoc]; rfl, hdd, by omega⟩)
      have HB2 := Lib.hid (show Below w.heap.size w (wr.alloc (.cells #[.int .u8 ((48 : Int) + (r2 : Int))] 5)) from hB.out.trans ((Gw.alloc wr _).mono hB.out.size))
      clear hlt hq hr2 hr9 hd hdd hL
      go_wp2_with fail
      go_roundw
      case rel => exact ⟨q, r2, dg8 r1 :: tl, rfl, by rw [HN.out.2.2.1], z2, Lib.hid ⟨HN.out.1, HN.out.2.1⟩, HB2⟩
      case measure => simp [Go.RowKit.intOf]; have := HN.out.2.2.2; omega
end Go.Proofs.YtfodefgihicafaaDoor
/- obj.Text of any object that stands there whole. Conditions: lengths; the tables deBruijn64tab and uint64pow10. -/
namespace Go.Proofs.YtfodefgihicafaaDoor
set_option linter.unusedVariables false
set_option linter.unusedSimpArgs false
open Go.RowKit
def ptT (y : BitVec 64) : List (BitVec 8) := if y.toNat = 0 then [32#8, 45#8] else 32#8 :: dcL (y.toNat - 1)
def ptsT (ys : List (BitVec 64)) : List (BitVec 8) := ys.flatMap ptT
def hdT (P N : Nat) : List (BitVec 8) := ((dcL P ++ [32#8]) ++ dcL N) ++ [58#8]
def spT (bs : List (BitVec 8)) : List (BitVec 8) := if bs = [] then [] else [32#8]
def objS (P N : Nat) (ys : List (BitVec 64)) (bs : List (BitVec 8)) : List (BitVec 8) := ((hdT P N ++ ptsT ys) ++ spT bs) ++ hexB bs
def formS : List (BitVec 8) := [102#8, 111#8, 114#8, 109#8]
def argS : List (BitVec 8) := [97#8, 114#8, 103#8]
theorem ptT_len (y : BitVec 64) (h : y.toNat ≤ 8192) : (ptT y).length ≤ 8200 := by
  unfold ptT
  split
  · simp
  · rw [List.length_cons]
    have := dcL_len (y.toNat - 1)
    omega
theorem ptsT_snoc (l : List (BitVec 64)) (y : BitVec 64) : ptsT (l ++ [y]) = ptsT l ++ ptT y := by unfold ptsT; rw [List.flatMap_append]; simp
theorem ptsT_len : ∀ l : List (BitVec 64), (∀ y ∈ l, y.toNat ≤ 8192) → (ptsT l).length ≤ 8200 * l.length
  | [], _ => Nat.le_refl _
  | y :: l, h => by
    have e : ptsT (y :: l) = ptT y ++ ptsT l := rfl
    rw [e, List.length_append, List.length_cons]
    have h1 := ptT_len y (h y (List.mem_cons_self ..))
    have h2 := ptsT_len l (fun z hz => h z (List.mem_cons_of_mem _ hz))
    omega
theorem hdT_len (P N : Nat) (hP : P ≤ 64) (hN : N ≤ 1024) : (hdT P N).length ≤ 2000 := by
  unfold hdT
  rw [List.length_append, List.length_append, List.length_append]
  have h1 := dcL_len P
  have h2 := dcL_len N
  simp; omega
theorem ten_below {w w' : World} {name : String} {k : IntKind} {zs : List Int} (h : Lib.TabIs Tryd.prog w name k zs) (hb : Below w.heap.size w w') : Lib.TabIs Tryd.prog w' name k zs := by
  unfold Lib.TabIs World.var? at h ⊢
  cases hg : Program.globalNamed Tryd.prog name with
  | none => rw [hg] at h; cases h
  | some g =>
    rw [hg] at h
    simp only [Option.bind_some] at h ⊢
    have hl : g < w.heap.size := by
      rcases Nat.lt_or_ge g w.heap.size with hl | hl
      · exact hl
      · rw [Array.getElem?_eq_none hl] at h; cases h
    rw [hb.block g hl]; exact h
theorem pok_le {b t : Nat} {y : BitVec 64} (h : pokB b t y = true) (ht : t ≤ 8192) : y.toNat ≤ 8192 := by
  unfold pokB at h
  have := of_decide_eq_true h
  omega
/-- What is told of the object. -/
structure TxG (w : World) (s : Nat) (a : Int) (P N b t : Nat) (ys : List (BitVec 64)) (bs : List (BitVec 8)) : Prop where
  look : ∀ W, Below w.heap.size w W → Calls Tryd.prog 43 #[.pointer (some ⟨s, 0, none⟩), .int .i64 a] W (RetP (.tuple #[.agg #[.int .i64 P, .int .i64 N, .bool false, .int .i64 0], .int .i64 0]) W)
  ptr : ∀ W, Below w.heap.size w W → ∀ (k : Nat) (h : k < ys.length), Calls Tryd.prog 9 #[.pointer (some ⟨s, 0, none⟩), .int .i64 a, .int .i64 k] W (RetP (.tuple #[.int .i64 (ptV b t ys[k]), .int .i64 (ptE b t ys[k])]) W)
  read : ∀ W, Below w.heap.size w W → Calls Tryd.prog 13 #[.pointer (some ⟨s, 0, none⟩), .int .i64 a, .int .i64 0, .int .i64 N] W (MkEP b8 5 bs 0 W)
  tab : w.cell? ⟨2, 15, none⟩ = some (.int .u8 4)
  ten : Lib.TabIs Tryd.prog w "internal/strconv.uint64pow10" .u64 Lib.pow10Tab
  hP : ys.length = P ∧ P ≤ 64
  hN : bs.length = N ∧ N ≤ 1024
  ht : t ≤ 8192
set_option maxHeartbeats 2000000
set_option maxRecDepth 100000
theorem erf_c (w : World) : Calls Tryd.prog 49 #[.int .i64 2] w (RetP (.string (strB formS)) w) := by
  go_enter Tryd.func49, Tryd.ntmps49
  go_wp2_with fail
  go_ret
  exact ⟨rfl, Below.refl _ _⟩
theorem era_c (w : World) : Calls Tryd.prog 49 #[.int .i64 1] w (RetP (.string (strB argS)) w) := by
  go_enter Tryd.func49, Tryd.ntmps49
  go_wp2_with fail
  go_ret
  exact ⟨rfl, Below.refl _ _⟩
theorem tg_r (Q : Exit → Act → World → Prop) (a0 : Act) (w : World) (hb bd P N : Nat) (DP DM DE DF : List (BitVec 8)) (m n : Nat) (hh : hb < w.heap.size) (c0 : w.cell? ⟨hb, 0, none⟩ = some (.int .i64 P)) (c1 : w.cell? ⟨hb, 1, none⟩ = some (.int .i64 N)) (hP : P ≤ 64) (hN : N ≤ 1024) (eP : Hid (dcL P = DP ∧ dcL N = DM)) (lP : (strB DP).size = m) (lN : (strB DM).size = n) (m1 : (m : Int) ≤ 100) (n1 : (n : Int) ≤ 2000) (eE : Hid ((DP ++ [32#8]) ++ DM = DE ∧ DE ++ [58#8] = DF)) (ten : Hid (Lib.TabIs Tryd.prog w "internal/strconv.uint64pow10" .u64 Lib.pow10Tab)) (hsz : a0.tmps.size = 90) (sl5 : a0.tmps.getD 5 undef = .pointer (some ⟨hb, 0, none⟩))
    (fin : ∀ (vals : Nat → Value) (w1 : World), Below w.heap.size w w1 → (IsV (.string (strB DF))) (vals 8) w1 → wpList Tryd.prog #[{ dst := some 33, op := Go.Op.call { callee := Go.Callee.value (Go.Operand.func 50), args := #[Go.Operand.tmp 7, Go.Operand.tmp 32], argTypes := #[101, 9] }, type := 104, pos := "", after := #[], guard := none }] Q [{ dst := some 33, op := Go.Op.call { callee := Go.Callee.value (Go.Operand.func 50), args := #[Go.Operand.tmp 7, Go.Operand.tmp 32], argTypes := #[101, 9] }, type := 104, pos := "", after := #[], guard := none }] (putD vals [24, 25, 26, 27, 28, 29, 30, 31, 32] 0 a0) w1) :
    (Code.region 5 (regIn Tryd.f20 5) true).wp Tryd.prog Q a0 w := by
  refine region_by_tail (m := 9) (G := fun w w1 => Below w.heap.size w w1) [IsV (.pointer (some ⟨hb, 0, none⟩)),
    IsV (.int .i64 P),
    IsV (.string (strB DP)),
    IsV (.string (strB (DP ++ [32#8]))),
    IsV (.pointer (some ⟨hb, 1, none⟩)),
    IsV (.int .i64 N),
    IsV (.string (strB DM)),
    IsV (.string (strB DE)),
    IsV (.string (strB DF))]
    [24, 25, 26, 27, 28, 29, 30, 31, 32] (by kernel_rfl) (Gw.drew _) Gw.trans (by rw [hsz]; kernel_rfl) (by kernel_rfl) ?_ ?_ ?_
  · intro f hf
    simp only [List.mem_cons, List.not_mem_nil, or_false] at hf
    rcases hf with rfl | rfl | rfl | rfl | rfl | rfl | rfl | rfl | rfl <;> intro v a b h g <;> first | exact IsV.mono h
  · refine ⟨?_, ?_, ?_, ?_, ?_, ?_, ?_, ?_, ?_, trivial⟩
    · refine owes_v (Go.Op.fieldAddr 60 (Go.Operand.tmp 5) 0) 0 [] (by kernel_rfl) (by kernel_rfl) (by kernel_rfl) rfl fun vals w1 ρ hG hF hρ hcst hfun => ?_
      have e5 : ρ (.tmp 5) = .pointer (some ⟨hb, 0, none⟩) := ((hρ 5).trans (slotO [] (by kernel_rfl))).trans sl5
      clear hρ hF hcst hfun sl5 fin
      exact opv_val (by go_simp <;> rfl) ⟨gw_self _, rfl⟩
    · refine owes_v (Go.Op.load 3 (Go.Operand.tmp 24)) 3 [0] (by kernel_rfl) (by kernel_rfl) (by kernel_rfl) rfl fun vals w1 ρ hG hF hρ hcst hfun => ?_
      have e24 : ρ (.tmp 24) = .pointer (some ⟨hb, 0, none⟩) := ((hρ 24).trans (slotJ [0] (by rw [hsz]; decide) (by kernel_rfl))).trans (hF 0 (by decide))
      have k := (hG.cell (p := ⟨hb, 0, none⟩) hh).trans c0
      clear hρ hF hcst hfun sl5 fin
      exact opv_val (by go_simp <;> rfl) ⟨gw_self _, rfl⟩
    · refine owes_v (Go.Op.call { callee := Go.Callee.value (Go.Operand.func 51), args := #[Go.Operand.tmp 25], argTypes := #[3] }) 9 [1] (by kernel_rfl) (by kernel_rfl) (by kernel_rfl) rfl fun vals w1 ρ hG hF hρ hcst hfun => ?_
      have e25 : ρ (.tmp 25) = .int .i64 P := ((hρ 25).trans (slotJ [1] (by rw [hsz]; decide) (by kernel_rfl))).trans (hF 1 (by decide))
      have k := itoa_n P (by omega) w1 (ten_below ten.out hG)
      rw [eP.out.1] at k
      clear hρ hF hcst sl5 fin
      exact opv_enter (by go_simp <;> rfl) (of_ret k)
    · refine owes_v (Go.Op.binOp Go.BinOp.add 9 (Go.Operand.tmp 26) (Go.Operand.const (Go.Value.string { data := #[32] })) 9) 9 [2] (by kernel_rfl) (by kernel_rfl) (by kernel_rfl) rfl fun vals w1 ρ hG hF hρ hcst hfun => ?_
      have e26 : ρ (.tmp 26) = .string (strB DP) := ((hρ 26).trans (slotJ [2] (by rw [hsz]; decide) (by kernel_rfl))).trans (hF 2 (by decide))
      have k : strB DP ++ (⟨#[32]⟩ : ByteArray) = strB (DP ++ [32#8]) := app_sd DP ⟨#[32]⟩
      clear hρ hF hfun sl5 fin
      exact opv_val (by go_simp <;> first | rfl | omega) ⟨gw_self _, rfl⟩
    · refine owes_v (Go.Op.fieldAddr 60 (Go.Operand.tmp 5) 1) 0 [] (by kernel_rfl) (by kernel_rfl) (by kernel_rfl) rfl fun vals w1 ρ hG hF hρ hcst hfun => ?_
      have e5 : ρ (.tmp 5) = .pointer (some ⟨hb, 0, none⟩) := ((hρ 5).trans (slotO [] (by kernel_rfl))).trans sl5
      clear hρ hF hcst hfun sl5 fin
      exact opv_val (by go_simp <;> rfl) ⟨gw_self _, rfl⟩
    · refine owes_v (Go.Op.load 3 (Go.Operand.tmp 28)) 3 [4] (by kernel_rfl) (by kernel_rfl) (by kernel_rfl) rfl fun vals w1 ρ hG hF hρ hcst hfun => ?_
      have e28 : ρ (.tmp 28) = .pointer (some ⟨hb, 1, none⟩) := ((hρ 28).trans (slotJ [4] (by rw [hsz]; decide) (by kernel_rfl))).trans (hF 4 (by decide))
      have k := (hG.cell (p := ⟨hb, 1, none⟩) hh).trans c1
      clear hρ hF hcst hfun sl5 fin
      exact opv_val (by go_simp <;> rfl) ⟨gw_self _, rfl⟩
    · refine owes_v (Go.Op.call { callee := Go.Callee.value (Go.Operand.func 51), args := #[Go.Operand.tmp 29], argTypes := #[3] }) 9 [5] (by kernel_rfl) (by kernel_rfl) (by kernel_rfl) rfl fun vals w1 ρ hG hF hρ hcst hfun => ?_
      have e29 : ρ (.tmp 29) = .int .i64 N := ((hρ 29).trans (slotJ [5] (by rw [hsz]; decide) (by kernel_rfl))).trans (hF 5 (by decide))
      have k := itoa_n N (by omega) w1 (ten_below ten.out hG)
      rw [eP.out.2] at k
      clear hρ hF hcst sl5 fin
      exact opv_enter (by go_simp <;> rfl) (of_ret k)
    · refine owes_v (Go.Op.binOp Go.BinOp.add 9 (Go.Operand.tmp 27) (Go.Operand.tmp 30) 9) 9 [3, 6] (by kernel_rfl) (by kernel_rfl) (by kernel_rfl) rfl fun vals w1 ρ hG hF hρ hcst hfun => ?_
      have e27 : ρ (.tmp 27) = .string (strB (DP ++ [32#8])) := ((hρ 27).trans (slotJ [3, 6] (by rw [hsz]; decide) (by kernel_rfl))).trans (hF 3 (by decide))
      have e30 : ρ (.tmp 30) = .string (strB DM) := ((hρ 30).trans (slotJ [3, 6] (by rw [hsz]; decide) (by kernel_rfl))).trans (hF 6 (by decide))
      have k : strB (DP ++ [32#8]) ++ strB DM = strB DE := by rw [strB_app, eE.out.1]
      have k2 : (strB (DP ++ [32#8])).size = m + 1 := by rw [strB_len, List.length_append, ← strB_len DP, lP]; rfl
      clear hρ hF hcst hfun sl5 fin
      exact opv_val (by go_simp <;> first | rfl | omega) ⟨gw_self _, rfl⟩
    · refine owes_v (Go.Op.binOp Go.BinOp.add 9 (Go.Operand.tmp 31) (Go.Operand.const (Go.Value.string { data := #[58] })) 9) 9 [7] (by kernel_rfl) (by kernel_rfl) (by kernel_rfl) rfl fun vals w1 ρ hG hF hρ hcst hfun => ?_
      have e31 : ρ (.tmp 31) = .string (strB DE) := ((hρ 31).trans (slotJ [7] (by rw [hsz]; decide) (by kernel_rfl))).trans (hF 7 (by decide))
      have k : strB DE ++ (⟨#[58]⟩ : ByteArray) = strB DF := by rw [app_sd, show sB ⟨#[58]⟩ = [58#8] from rfl, eE.out.2]
      have k2 : (strB DE).size = m + 1 + n := by rw [strB_len, ← eE.out.1, List.length_append, List.length_append, ← strB_len DP, lP, ← strB_len DM, lN]; rfl
      clear hρ hF hfun sl5 fin
      exact opv_val (by go_simp <;> first | rfl | omega) ⟨gw_self _, rfl⟩
  · intro vals w1 hG hF
    exact last_list (by kernel_rfl) (by kernel_rfl) (by kernel_rfl) (fin vals w1 hG (hF 8 (by decide +kernel)))
theorem otext_c (w : World) (s : Nat) (a : Int) (P N b t : Nat) (ys : List (BitVec 64)) (bs : List (BitVec 8)) (h : TxG w s a P N b t ys bs) (R : ByteArray) (hR : R = if ys.all (pokB b t) = true then strB (objS P N ys bs) else strB formS) :
    Calls Tryd.prog 20 #[.pointer (some ⟨s, 0, none⟩), .int .i64 a] w (RetP (.string R) w) := by
  have H := Lib.hid h
  have HR := Lib.hid hR
  have h2w : 2 < w.heap.size := tab_lt h.tab
  have q0 : (P : Int) ≤ 64 := by have := h.hP; omega
  have q1 : (N : Int) ≤ 1024 := by have := h.hN; omega
  have H2 := Lib.hid h2w
  clear h h2w hR
  go_enter Tryd.func20, Tryd.ntmps20
  go_wp2_with fail
  refine Calls.mono (H.out.look w (Below.refl _ _)) ?_
  rintro e w1 ⟨rfl, hb1⟩
  have HB1 := Lib.hid hb1
  clear hb1
  go_wp2_with fail
  obtain ⟨q, hq⟩ : ∃ q, q = w1.heap.size := ⟨_, rfl⟩
  obtain ⟨bd, hbd⟩ : ∃ q, q = w1.heap.size + 1 := ⟨_, rfl⟩
  obtain ⟨wa, hwa⟩ : ∃ W, W = w1.alloc (.cells #[.int .i64 P, .int .i64 N, .bool false, .int .i64 0] 60) := ⟨_, rfl⟩
  obtain ⟨wb, hwb⟩ : ∃ W, W = wa.alloc (.cells #[.pointer none, .slice none 0 0] 101) := ⟨_, rfl⟩
  rw [← hbd, ← hq, ← hwa, ← hwb]
  have z1 : wa.heap.size = bd := by rw [hwa, hbd]; simp
  have k1 : Bk wa q 60 #[.int .i64 P, .int .i64 N, .bool false, .int .i64 0] := by rw [hwa, hq]; exact Bk.new w1 _ _
  have k2 : Bk wb bd 101 #[.pointer none, .slice none 0 0] := by rw [hwb, ← z1]; exact Bk.new wa _ _
  have d1 : Below w1.heap.size w1 wa := by rw [hwa]; exact Gw.alloc w1 _
  have d2 : Below wa.heap.size wa wb := by rw [hwb]; exact Gw.alloc wa _
  have HS := Lib.hid (show BdS wb bd bd [] ∧ Bk wb q 60 #[.int .i64 P, .int .i64 N, .bool false, .int .i64 0] ∧ Below w.heap.size w wb from
    ⟨⟨by rw [← z1]; exact d2.size, _, ⟨Nat.le_refl _, ⟨_, .inl rfl, k2⟩, Ow.nil_ _ _ _ _⟩⟩, k1.below d2 k1.lt, HB1.out.trans ((d1.trans (d2.mono d1.size)).mono HB1.out.size)⟩)
  have HO := Lib.hid (show bd = q + 1 ∧ w.heap.size ≤ q from ⟨by rw [hbd, hq], by rw [hq]; exact HB1.out.size⟩)
  clear hbd hq hwa hwb z1 k1 k2 d1 d2 HB1
  have HKeep := Lib.hid (fun (W W' : World) (h : Bk W q 60 #[.int .i64 P, .int .i64 N, .bool false, .int .i64 0]) (hb : Below w.heap.size w W) (hk : Below bd W W') => show Bk W' q 60 #[.int .i64 P, .int .i64 N, .bool false, .int .i64 0] ∧ Below w.heap.size w W' from
    ⟨(hk.block q (by have := HO.out; omega)).trans h, hb.trans (hk.mono (by have := HO.out; omega))⟩)
  obtain ⟨DP, hDP⟩ : ∃ D, D = dcL P := ⟨_, rfl⟩
  obtain ⟨DM, hDM⟩ : ∃ D, D = dcL N := ⟨_, rfl⟩
  have HD := Lib.hid (And.intro hDP.symm hDM.symm)
  have hlP : DP.length ≤ 65 := by have h1 := dcL_len P; rw [hDP]; omega
  have hlN : DM.length ≤ 1025 := by have h1 := dcL_len N; rw [hDM]; omega
  have Hdl := Lib.hid (And.intro hlP hlN)
  have HH := Lib.hid (show (DP ++ [32#8] ++ DM) ++ [58#8] = hdT P N ∧ (hdT P N).length ≤ 2000 from ⟨by unfold hdT; rw [hDP, hDM], hdT_len P N (by omega) (by omega)⟩)
  clear hDP hDM hlP hlN
  refine tg_r _ _ _ q bd P N DP DM (DP ++ [32#8] ++ DM) (hdT P N) DP.length DM.length HS.out.2.1.lt (HS.out.2.1.cell 0) (HS.out.2.1.cell 1) (by omega) (by omega) HD (strB_len _) (strB_len _) (by have := Hdl.out; omega) (by have := Hdl.out; omega) (Lib.hid ⟨rfl, HH.out.1⟩) (Lib.hid (ten_below H.out.ten HS.out.2.2)) ?_ ?_ ?_
  · rfl
  · rfl
  intro vals w3 hG h32
  unfold IsV at h32
  simp only [putD, Act.put, List.setIfInBounds_toArray, List.set_cons_zero, List.set_cons_succ, h32]
  have H3 := Lib.hid (show BdS w3 bd bd [] ∧ Bk w3 q 60 #[.int .i64 P, .int .i64 N, .bool false, .int .i64 0] ∧ Below w.heap.size w w3 from ⟨HS.out.1.below hG, HS.out.2.1.below hG HS.out.2.1.lt, HS.out.2.2.trans (hG.mono HS.out.2.2.size)⟩)
  clear hG h32 HS
  go_wp2_with fail
  refine Calls.mono (ws_s _ _ _ _ (hdT P N) H3.out.1 (by have := HH.out.2; simp; omega)) ?_
  rintro r w4 ⟨n, rfl, h4, b4⟩
  have H4 := Lib.hid (show BdS w4 bd bd (hdT P N ++ ptsT (ys.take 0)) ∧ Bk w4 q 60 #[.int .i64 P, .int .i64 N, .bool false, .int .i64 0] ∧ Below w.heap.size w w4 from ⟨by rw [List.take_zero]; show BdS w4 bd bd (hdT P N ++ []); rw [List.append_nil]; exact h4, HKeep.out _ _ H3.out.2.1 H3.out.2.2 b4⟩)
  have c0 := H4.out.2.1.cell 0
  clear h4 b4 H3
  go_wp2_with fail
  clear c0
  go_loopw [36] (fun i W => ∃ k : Nat, i = .int .i64 k ∧ k ≤ P ∧ Hid (BdS W bd bd (hdT P N ++ ptsT (ys.take k)) ∧ Bk W q 60 #[.int .i64 P, .int .i64 N, .bool false, .int .i64 0] ∧ Below w.heap.size w W) ∧ Hid ((ys.take k).all (pokB b t) = true)) (fun i _ => P - (Go.RowKit.intOf i).toNat)
  case atStart => exact ⟨0, rfl, Nat.zero_le _, H4, Lib.hid rfl⟩
  case round =>
    clear H4
    obtain ⟨k, rfl, hk, hS, hA⟩ := hrel
    by_cases hlt : k < P
    · have hkl : k < ys.length := by rw [H.out.hP.1]; exact hlt
      obtain ⟨y, hy⟩ : ∃ y, y = ys[k] := ⟨_, rfl⟩
      have HP := Lib.hid (H.out.ptr wr hS.out.2.2 k hkl)
      rw [← hy] at HP
      have hmem : y ∈ ys := by rw [hy]; exact List.getElem_mem _
      have hnx : ptsT (ys.take (k + 1)) = ptsT (ys.take k) ++ ptT y := by rw [List.take_succ_eq_append_getElem hkl, ptsT_snoc, ← hy]
      have hal : (ys.take (k + 1)).all (pokB b t) = ((ys.take k).all (pokB b t) && pokB b t y) := by rw [List.take_succ_eq_append_getElem hkl, List.all_append, ← hy]; simp
      have hlen : (hdT P N ++ ptsT (ys.take k)).length ≤ 600000 := by
        rw [List.length_append]
        have h1 := ptsT_len (ys.take k) (fun z hz => pok_le (List.all_eq_true.1 hA.out z hz) H.out.ht)
        have h2 := HH.out.2
        rw [List.length_take] at h1
        omega
      have HLn := Lib.hid hlen
      have p1 : (0 : Int) ≤ (k : Int) := by omega
      have p2 : (k : Int) < (P : Int) := by omega
      cases hpk : pokB b t y with
      | false =>
        obtain ⟨e1, e2⟩ := pt_no hpk
        rw [e1, e2] at HP
        have HRf := Lib.hid (show R = strB formS from by rw [HR.out, if_neg (all_no hmem hpk)])
        clear e1 e2 hpk hal hnx hmem hy hkl hlen
        go_wp2_with fail
        refine Calls.mono HP.out ?_
        rintro r w5 ⟨rfl, b5⟩
        have B5 := Lib.hid (hS.out.2.2.trans (b5.mono hS.out.2.2.size))
        clear b5 HP
        go_wp2_with fail
        refine Calls.mono (erf_c _) ?_
        rintro r w6 ⟨rfl, b6⟩
        have B6 := Lib.hid (B5.out.trans (b6.mono B5.out.size))
        clear b6
        go_wp2_with fail
        go_ret
        exact ⟨by rw [HRf.out]; rfl, B6.out⟩
      | true =>
        obtain ⟨e1, e2⟩ := pt_yes hpk
        have hyt := pok_le hpk H.out.ht
        have HAl := Lib.hid (show (ys.take (k + 1)).all (pokB b t) = true from by rw [hal, hA.out, hpk]; rfl)
        by_cases hy0 : y.toNat = 0
        · have e3 : ptV b t y = -1 := by rw [e1, hy0]; rfl
          rw [e3, e2] at HP
          have HNx := Lib.hid (show ptsT (ys.take (k + 1)) = ptsT (ys.take k) ++ [32#8, 45#8] from by rw [hnx]; unfold ptT; rw [if_pos hy0])
          clear e1 e2 e3 hpk hal hnx hmem hy hkl hyt hy0 hlen
          go_wp2_with fail
          refine Calls.mono HP.out ?_
          rintro r w5 ⟨rfl, b5⟩
          have H5 := Lib.hid (show BdS w5 bd bd (hdT P N ++ ptsT (ys.take k)) ∧ Bk w5 q 60 #[.int .i64 P, .int .i64 N, .bool false, .int .i64 0] ∧ Below w.heap.size w w5 from ⟨hS.out.1.below b5, hS.out.2.1.below b5 hS.out.2.1.lt, hS.out.2.2.trans (b5.mono hS.out.2.2.size)⟩)
          clear b5 HP
          go_wp2_with fail
          refine Calls.mono (ws_s _ _ _ _ [32#8, 45#8] H5.out.1 (by have := HLn.out; simp only [List.length_cons, List.length_nil]; omega)) ?_
          rintro r w6 ⟨n, rfl, h6, b6⟩
          have H6 := Lib.hid (show BdS w6 bd bd (hdT P N ++ ptsT (ys.take (k + 1))) ∧ Bk w6 q 60 #[.int .i64 P, .int .i64 N, .bool false, .int .i64 0] ∧ Below w.heap.size w w6 from by
            rw [HNx.out, ← List.append_assoc]
            exact ⟨h6, HKeep.out _ _ H5.out.2.1 H5.out.2.2 b6⟩)
          clear h6 b6
          go_wp2_with fail
          go_roundw
          case rel =>
            have X : ∃ k' : Nat, (Value.int .i64 ((k : Int) + 1)) = .int .i64 k' ∧ k' ≤ P ∧ Hid (BdS w6 bd bd (hdT P N ++ ptsT (ys.take k')) ∧ Bk w6 q 60 #[.int .i64 P, .int .i64 N, .bool false, .int .i64 0] ∧ Below w.heap.size w w6) ∧ Hid ((ys.take k').all (pokB b t) = true) := ⟨k + 1, by go_num, by omega, H6, HAl⟩
            first | exact X | exact ⟨_, _, _, _, _, _, _, _, _, _, _, _, _, _, _, _, _, _, _, _, X, rfl⟩
          case measure => simp [Go.RowKit.intOf]; omega
        · obtain ⟨Z, hZ⟩ : ∃ Z, Z = y.toNat - 1 := ⟨_, rfl⟩
          have e3 : ptV b t y = (Z : Int) := by rw [e1]; omega
          rw [e3, e2] at HP
          have HI := Lib.hid (fun W (hb : Below w.heap.size w W) => itoa_n Z (by omega) W (ten_below H.out.ten hb))
          obtain ⟨D, hD⟩ : ∃ D, D = dcL Z := ⟨_, rfl⟩
          rw [← hD] at HI
          have HNx := Lib.hid (show ptsT (ys.take (k + 1)) = ptsT (ys.take k) ++ (32#8 :: D) from by rw [hnx]; unfold ptT; rw [if_neg hy0, ← hZ, hD])
          have hDl : D.length ≤ 8193 := by have h1 := dcL_len Z; rw [hD]; omega
          obtain ⟨dl, hdl⟩ : ∃ n, n = D.length := ⟨_, rfl⟩
          have a4 : (⟨#[32]⟩ : ByteArray) ++ strB D = strB (32#8 :: D) := app_ds ⟨#[32]⟩ D
          have a5 : (strB D).size = dl := by rw [strB_len, hdl]
          have a6 : (dl : Int) ≤ 8193 := by omega
          have a7 : ((Z : Int) == -1) = false := by
            rw [beq_eq_false_iff_ne]
            omega
          have HDl := Lib.hid hDl
          clear e1 e2 e3 hpk hal hnx hmem hy hkl hyt hy0 hZ hD hDl hdl hlen
          go_wp2_with fail
          refine Calls.mono HP.out ?_
          rintro r w5 ⟨rfl, b5⟩
          have H5 := Lib.hid (show BdS w5 bd bd (hdT P N ++ ptsT (ys.take k)) ∧ Bk w5 q 60 #[.int .i64 P, .int .i64 N, .bool false, .int .i64 0] ∧ Below w.heap.size w w5 from ⟨hS.out.1.below b5, hS.out.2.1.below b5 hS.out.2.1.lt, hS.out.2.2.trans (b5.mono hS.out.2.2.size)⟩)
          clear b5 HP
          go_wp2_with fail
          refine Calls.mono (HI.out _ H5.out.2.2) ?_
          rintro r w6 ⟨rfl, b6⟩
          have H6 := Lib.hid (show BdS w6 bd bd (hdT P N ++ ptsT (ys.take k)) ∧ Bk w6 q 60 #[.int .i64 P, .int .i64 N, .bool false, .int .i64 0] ∧ Below w.heap.size w w6 from ⟨H5.out.1.below b6, H5.out.2.1.below b6 H5.out.2.1.lt, H5.out.2.2.trans (b6.mono H5.out.2.2.size)⟩)
          clear b6 H5
          go_wp2_with fail
          refine Calls.mono (ws_s _ _ _ _ (32#8 :: D) H6.out.1 (by have := HLn.out; have := HDl.out; simp only [List.length_cons]; omega)) ?_
          rintro r w7 ⟨n, rfl, h7, b7⟩
          have H7 := Lib.hid (show BdS w7 bd bd (hdT P N ++ ptsT (ys.take (k + 1))) ∧ Bk w7 q 60 #[.int .i64 P, .int .i64 N, .bool false, .int .i64 0] ∧ Below w.heap.size w w7 from by
            rw [HNx.out, ← List.append_assoc]
            exact ⟨h7, HKeep.out _ _ H6.out.2.1 H6.out.2.2 b7⟩)
          clear h7 b7 a4 a5 a6 a7
          go_wp2_with fail
          go_roundw
          case rel =>
            have X : ∃ k' : Nat, (Value.int .i64 ((k : Int) + 1)) = .int .i64 k' ∧ k' ≤ P ∧ Hid (BdS w7 bd bd (hdT P N ++ ptsT (ys.take k')) ∧ Bk w7 q 60 #[.int .i64 P, .int .i64 N, .bool false, .int .i64 0] ∧ Below w.heap.size w w7) ∧ Hid ((ys.take k').all (pokB b t) = true) := ⟨k + 1, by go_num, by omega, H7, HAl⟩
            first | exact X | exact ⟨_, _, _, _, _, _, _, _, _, _, _, _, _, _, _, _, _, _, _, _, X, rfl⟩
          case measure => simp [Go.RowKit.intOf]; omega
    · have hkP : k = P := by omega
      have htk : ys.take k = ys := List.take_of_length_le (by rw [H.out.hP.1]; omega)
      have hS1 := hS.out
      have hA1 := hA.out
      rw [htk] at hS1 hA1
      have HRf := Lib.hid (show R = strB (((hdT P N ++ ptsT ys) ++ spT bs) ++ hexB bs) from by rw [HR.out, if_pos hA1]; rfl)
      have hpl : (hdT P N ++ ptsT ys).length ≤ 600000 := by
        rw [List.length_append]
        have h1 := ptsT_len ys (fun z hz => pok_le (List.all_eq_true.1 hA1 z hz) H.out.ht)
        have h2 := HH.out.2
        have h3 := H.out.hP
        omega
      obtain ⟨X, hX⟩ : ∃ X, X = hdT P N ++ ptsT ys := ⟨_, rfl⟩
      rw [← hX] at hS1 HRf hpl
      have H5 := Lib.hid (And.intro hS1 hpl)
      have c1 := hS1.2.1.cell 1
      have HB9 := Lib.hid hS1.2.2
      clear hkP htk hS1 hA1 hpl hX hS hA hk
      go_wp2_with fail
      refine Calls.mono (H.out.read wr HB9.out) ?_
      rintro e w6 ⟨A, c6, rfl, hc6, ho6, hb6⟩
      have hbl : bs.length = N := H.out.hN.1
      rw [hbl]
      have H6 := Lib.hid (show BdS w6 bd bd X ∧ Below w.heap.size w w6 from ⟨H5.out.1.1.below hb6, HB9.out.trans (hb6.mono HB9.out.size)⟩)
      by_cases hN0 : N = 0
      · have hbs : bs = [] := List.eq_nil_of_length_eq_zero (by omega)
        have HR2 := Lib.hid (show R = strB X from by rw [HRf.out, hbs]; show strB ((X ++ []) ++ []) = _; rw [List.append_nil, List.append_nil])
        subst hN0
        clear hbl hbs ho6 hb6 hc6 c1
        go_wp2_with fail
        refine wp_loop_rounds 1 ?_
        rw [rounds_succ]
        go_wp2_with fail
        refine Calls.mono (BdS.str _ _ _ _ H6.out.1) ?_
        rintro r w7 ⟨rfl, b7⟩
        have H7 := Lib.hid (H6.out.2.trans (b7.mono (by have := HO.out; omega)))
        clear b7
        go_wp2_with fail
        go_ret
        exact ⟨by rw [HR2.out]; rfl, H7.out⟩
      · have hne : bs ≠ [] := fun e => by rw [e] at hbl; simp at hbl; omega
        have hsp : spT bs = [32#8] := by unfold spT; rw [if_neg hne]
        rw [hsp] at HRf
        obtain ⟨r, rfl⟩ : ∃ r, A = some ⟨r, 0, none⟩ := by
          rcases ho6.2 with ⟨e, hn⟩ | ⟨g, _, _, e, _⟩
          · exact absurd (List.eq_nil_of_length_eq_zero hn) hne
          · injection e with e; exact ⟨g, e⟩
        have hr6 := ho6.ge
        have hc6' : (N : Int) ≤ c6 := by have : N ≤ c6 := by rw [← hbl]; exact hc6
                                         omega
        have n0 : (0 : Int) < (N : Int) := by omega
        obtain ⟨v6, hv6⟩ := H5.out.1.1.2
        have T6 : TxS w6 bd bd v6 X r bs := by
          refine ⟨hv6.below hb6, Nat.le_trans H5.out.1.1.1 hb6.size, hr6.2, fun j hj => ho6.cell hj, ?_, ?_⟩
          · intro e
            have := hv6.lt
            omega
          · intro e
            have := (hv6.own.lt r e).2
            omega
        have H7 := Lib.hid (And.intro T6 H6.out.2)
        clear T6 hv6 hr6 ho6 hb6 hc6 hne hsp hN0 hbl c1
        go_wp2_with fail
        refine Calls.mono (wb_q _ _ _ _ _ _ _ 32#8 H7.out.1 (by have := H5.out.2; omega)) ?_
        rintro e w9 ⟨⟨v9, rfl, T9⟩, hw9⟩
        have H9 := Lib.hid (show (∃ v, TxS w9 bd bd v ((X ++ [32#8]) ++ hexB (bs.take 0)) r bs) ∧ Below w.heap.size w w9 from ⟨⟨v9, by rw [List.take_zero]; show TxS w9 bd bd v9 ((X ++ [32#8]) ++ []) r bs; rw [List.append_nil]; exact T9⟩, H7.out.2.trans (hw9.mono (by have := HO.out; omega))⟩)
        clear T9 hw9
        go_wp2_with fail
        go_loopw [78] (fun i W => ∃ k : Nat, i = .int .i64 k ∧ k ≤ N ∧ Hid ((∃ v, TxS W bd bd v ((X ++ [32#8]) ++ hexB (bs.take k)) r bs) ∧ Below w.heap.size w W)) (fun i _ => N - (Go.RowKit.intOf i).toNat)
        case atStart => exact ⟨0, rfl, Nat.zero_le _, H9⟩
        case round =>
          clear H9
          obtain ⟨k, rfl, hk, hS⟩ := hrel
          by_cases hlt : k < N
          · have hkl : k < bs.length := by rw [H.out.hN.1]; exact hlt
            obtain ⟨x, hxx⟩ : ∃ x, x = bs[k] := ⟨_, rfl⟩
            have hcell : wr.cell? ⟨r, k, none⟩ = some (.int .u8 (U8 x)) := by
              obtain ⟨v, hv⟩ := hS.out.1
              rw [hxx]; exact hv.rd k hkl
            have HF := Lib.hid (fu_w wr (cell_later hS.out.2 H.out.tab) x)
            obtain ⟨ha, hha⟩ : ∃ a, a = hexU (x.toNat / 16) := ⟨_, rfl⟩
            obtain ⟨hb, hhb⟩ : ∃ a, a = hexU (x.toNat % 16) := ⟨_, rfl⟩
            have hnx : hexB (bs.take (k + 1)) = hexB (bs.take k) ++ [ha, hb] := by
              rw [List.take_succ_eq_append_getElem hkl, hexB_snoc, ← hxx, hha, hhb]
            rw [← hha, ← hhb] at HF
            have hl : (hexB (bs.take k)).length ≤ 4000 := by
              rw [hexB_len, List.length_take]; omega
            have HNx := Lib.hid (And.intro hnx hl)
            have p1 : (0 : Int) ≤ (k : Int) := by omega
            have p2 : (k : Int) < (N : Int) := by omega
            clear hxx hha hhb hnx hl hkl
            go_wp2_with fail
            refine Calls.mono HF.out ?_
            rintro e w10 ⟨rfl, b10⟩
            have H10 := Lib.hid (show (∃ v, TxS w10 bd bd v ((X ++ [32#8]) ++ hexB (bs.take k)) r bs) ∧ Below w.heap.size w w10 from ⟨by obtain ⟨v, hv⟩ := hS.out.1; exact ⟨v, hv.below b10⟩, hS.out.2.trans (b10.mono hS.out.2.size)⟩)
            obtain ⟨x0, x1⟩ := ext3 ha hb
            clear b10 hcell HF
            obtain ⟨v10, hv10⟩ := H10.out.1
            have HV := Lib.hid hv10
            clear hv10
            go_wp2_with fail
            refine Calls.mono (ws_q _ _ _ _ _ _ [ha, hb] _ _ _ rfl rfl HV.out (by have := H5.out.2; have := HNx.out.2; rw [List.length_append, List.length_append]; simp only [List.length_cons, List.length_nil]; omega)) ?_
            rintro e w11 ⟨⟨n11, v11, rfl, T11⟩, hw11⟩
            have H11 := Lib.hid (show (∃ v, TxS w11 bd bd v ((X ++ [32#8]) ++ hexB (bs.take (k + 1))) r bs) ∧ Below w.heap.size w w11 from ⟨⟨v11, by rw [HNx.out.1, ← List.append_assoc]; exact T11⟩, H10.out.2.trans (hw11.mono (by have := HO.out; omega))⟩)
            clear T11 hw11 x0 x1
            go_wp2_with fail
            go_roundw
            case rel =>
              have X : ∃ k' : Nat, (Value.int .i64 ((k : Int) + 1)) = .int .i64 k' ∧ k' ≤ N ∧ Hid ((∃ v, TxS w11 bd bd v ((X ++ [32#8]) ++ hexB (bs.take k')) r bs) ∧ Below w.heap.size w w11) := ⟨k + 1, by go_num, by omega, H11⟩
              first | exact X | exact ⟨_, _, _, _, _, _, _, _, _, _, _, X, rfl⟩
            case measure => simp [Go.RowKit.intOf]; omega
          · have HE := Lib.hid (show (∃ v, TxS wr bd bd v ((X ++ [32#8]) ++ hexB bs) r bs) ∧ Below w.heap.size w wr from by
              have h := hS.out
              rwa [List.take_of_length_le (by rw [H.out.hN.1]; omega)] at h)
            clear hS
            go_wp2_with fail
            obtain ⟨v, hv⟩ := HE.out.1
            refine Calls.mono (BdS.str _ _ _ _ ⟨hv.hB, v, hv.at_⟩) ?_
            rintro e w12 ⟨rfl, b12⟩
            have H12 := Lib.hid (HE.out.2.trans (b12.mono (by have := HO.out; omega)))
            clear b12 hv
            go_wp2_with fail
            go_ret
            exact ⟨by rw [HRf.out, List.append_assoc]; rfl, H12.out⟩
end Go.Proofs.YtfodefgihicafaaDoor
