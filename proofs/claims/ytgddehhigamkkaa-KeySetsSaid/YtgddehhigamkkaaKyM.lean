/- What loamlaw10.known answers: true. No conditions. -/
import Derived.Test.YtgddehhigamkkaaKyK
namespace Go.Proofs.Ytgddehhigamkkaa
set_option linter.unusedVariables false
set_option linter.unusedSimpArgs false
open Go.RowKit Go.Maps Go.Sort
set_option maxHeartbeats 1000000
set_option maxRecDepth 100000
theorem of_bel {P : Program} {f : FuncId} {args : Array Value} {v : Value} {w : World} (h : Calls P f args w fun e w' => e = .returned v ∧ Below w.heap.size w w') : Calls P f args w fun e w2 => ∃ u, e = .returned u ∧ Below w.heap.size w w2 ∧ IsV v u w2 :=
  h.mono fun _ _ h => ⟨_, h.1, h.2, rfl⟩
theorem of_same {P : Program} {f : FuncId} {args : Array Value} {v : Value} {w : World} (h : Calls P f args w fun e w' => e = .returned v ∧ w' = w) : Calls P f args w fun e w2 => ∃ u, e = .returned u ∧ Below w.heap.size w w2 ∧ IsV v u w2 :=
  h.mono fun _ _ h => ⟨_, h.1, h.2 ▸ Below.refl _ _, rfl⟩
theorem compare_b (p q : Int × Int) (w : World) : Calls Try.prog 9 #[kV p, kV q] w fun e w' => e = .returned (.int .i64 (cmpN p q)) ∧ Below w.heap.size w w' :=
  (compare_c p q w).mono fun _ _ h => by
    obtain ⟨h1, n, os, rfl⟩ := h
    exact ⟨h1, Lib.below_grow _ _ (Nat.le_refl _) _ _⟩
theorem compare_l (w : World) : Calls Try.prog 9 #[.agg #[.int .i64 0, .int .i64 5], .agg #[.int .i64 1, .int .i64 2]] w fun e w' => e = .returned (.int .i64 (-1)) ∧ Below w.heap.size w w' := compare_b (0, 5) (1, 2) w
/-- A slice of n. -/
def LenV (n : Nat) (v : Value) (_ : World) : Prop := ∃ A c, v = .slice A n c
theorem LenV.mono {n : Nat} {v : Value} {a b : World} (h : LenV n v a) (_ : Below a.heap.size a b) : LenV n v b := h
theorem row_len {B : Nat} {X : Nat → Prop} {w : World} {g : Nat} {m : List (Int × Int)} (h : SetX B X w g m) (hm : m.length ≤ 100000) : Calls Try.prog 19 #[.pointer (some ⟨g, 0, none⟩)] w fun e w2 => ∃ u, e = .returned u ∧ Below w.heap.size w w2 ∧ LenV m.length u w2 :=
  (srow_c h hm).mono fun _ _ h => by
    obtain ⟨v, rfl, hr, hb⟩ := h
    obtain ⟨A, c, rfl, _, _⟩ := hr.slice
    exact ⟨_, rfl, hb, A, c, by rw [sortN_len]⟩
theorem eqK (p q : Int × Int) (W : World) : (Op.equalIn 10000 23 (kV p) (kV q)).run Try.prog W = .ok (decide (p = q)) W := by
  obtain ⟨a, b⟩ := p
  obtain ⟨c, d⟩ := q
  unfold kV
  go_simp
  by_cases h1 : a = c
  · by_cases h2 : b = d
    · simp [h1, h2]
    · simp [h1, h2]
  · simp [h1]
theorem blk_krd {w : World} {q B : Nat} {ks : List (Int × Int)} (h : Bk w q 23 (flatK ks).toArray) (hq : q < B) : KRd w B (some ⟨q, 0, none⟩) ks :=
  RdK.krd (fun j u hu => ⟨_, rfl, by rw [add_off, Nat.zero_add, h.cell]; simpa using hu⟩) hq
theorem k10_reg (Q : Exit → Act → World → Prop) (a0 : Act) (w : World) (A Bp g q6 c6 S0 : Nat) (hA : A < w.heap.size) (hB : Bp < w.heap.size) (hq : q6 < w.heap.size) (ca0 : w.cell? ⟨A, 0, none⟩ = some (.int .i64 0)) (ca1 : w.cell? ⟨A, 1, none⟩ = some (.int .i64 5)) (b0 : w.cell? ⟨Bp, 0, none⟩ = some (.int .i64 1)) (b1 : w.cell? ⟨Bp, 1, none⟩ = some (.int .i64 2)) (r0 : w.cell? ⟨q6, 0, none⟩ = some (.int .i64 0)) (r1 : w.cell? ⟨q6, 1, none⟩ = some (.int .i64 5)) (HS : Hid (SetX S0 (fun _ => False) w g [(0, 5)])) (hsz : a0.tmps.size = 70) (sl1 : a0.tmps.getD 1 undef = .pointer (some ⟨A, 0, none⟩)) (sl2 : a0.tmps.getD 2 undef = .pointer (some ⟨Bp, 0, none⟩)) (sl3 : a0.tmps.getD 3 undef = .pointer (some ⟨g, 0, none⟩)) (sl4 : a0.tmps.getD 4 undef = .int .i64 2) (sl5 : a0.tmps.getD 5 undef = .int .i64 1) (sl6 : a0.tmps.getD 6 undef = .slice (some ⟨q6, 0, none⟩) 2 c6)
    (fin : ∀ (vals : Nat → Value) (w1 : World), Below w.heap.size w w1 → (IsV (.bool true)) (vals 49) w1 → Q .normal (putD vals [21, 22, 23, 24, 25, 26, 27, 28, 29, 30, 31, 32, 33, 34, 35, 36, 37, 38, 39, 40, 41, 42, 43, 44, 45, 46, 47, 48, 49, 50, 51, 52, 53, 54, 55, 56, 57, 58, 59, 60, 61, 62, 63, 64, 65, 66, 67, 68, 69, 0] 0 a0) w1) :
    (Code.region 7 (regIn Try.f8 7) true).wp Try.prog Q a0 w := by
  refine region_by (G := fun w w1 => Below w.heap.size w w1) [IsV (.agg #[.int .i64 1, .int .i64 2]),
    IsV (.int .u64 4294967298),
    IsV (.agg #[.int .i64 1, .int .i64 2]),
    IsV (.agg #[.int .i64 1, .int .i64 2]),
    IsV (.bool true),
    IsV (.bool true),
    IsV (.agg #[.int .i64 0, .int .i64 5]),
    IsV (.agg #[.int .i64 1, .int .i64 2]),
    IsV (.int .i64 (-1)),
    IsV (.bool true),
    IsV (.bool true),
    IsV (.bool true),
    IsV (.int .i64 2),
    IsV (.bool true),
    IsV (.bool true),
    IsV (.bool true),
    IsV (.int .i64 1),
    IsV (.bool true),
    IsV (.bool true),
    IsV (.bool true),
    IsV (.agg #[.int .i64 0, .int .i64 5]),
    IsV (.bool true),
    IsV (.bool true),
    IsV (.bool true),
    IsV (.agg #[.int .i64 1, .int .i64 2]),
    IsV (.bool false),
    IsV (.bool true),
    IsV (.bool true),
    IsV (.bool true),
    IsV (.int .i64 1),
    IsV (.bool true),
    IsV (.bool true),
    IsV (.bool true),
    LenV 1,
    IsV (.int .i64 1),
    IsV (.bool true),
    IsV (.bool true),
    IsV (.bool true),
    IsV (.slice (some ⟨q6, 0, none⟩) 2 c6),
    IsV (.int .i64 2),
    IsV (.bool true),
    IsV (.bool true),
    IsV (.bool true),
    IsV (.slice (some ⟨q6, 0, none⟩) 2 c6),
    IsV (.pointer (some ⟨q6, 0, none⟩)),
    IsV (.agg #[.int .i64 0, .int .i64 5]),
    IsV (.agg #[.int .i64 0, .int .i64 5]),
    IsV (.bool true),
    IsV (.bool true),
    IsV (.bool true)]
    [21, 22, 23, 24, 25, 26, 27, 28, 29, 30, 31, 32, 33, 34, 35, 36, 37, 38, 39, 40, 41, 42, 43, 44, 45, 46, 47, 48, 49, 50, 51, 52, 53, 54, 55, 56, 57, 58, 59, 60, 61, 62, 63, 64, 65, 66, 67, 68, 69, 0] (by kernel_rfl) (Gw.drew _) Gw.trans (by rw [hsz]; kernel_rfl) (by kernel_rfl) ?_ ?_ ?_
  · intro f hf
    simp only [List.mem_cons, List.not_mem_nil, or_false] at hf
    rcases hf with rfl | rfl | rfl | rfl | rfl | rfl | rfl | rfl | rfl | rfl | rfl | rfl | rfl | rfl | rfl | rfl | rfl | rfl | rfl | rfl | rfl | rfl | rfl | rfl | rfl | rfl | rfl | rfl | rfl | rfl | rfl | rfl | rfl | rfl | rfl | rfl | rfl | rfl | rfl | rfl | rfl | rfl | rfl | rfl | rfl | rfl | rfl | rfl | rfl | rfl <;> intro v a b h g <;> first | exact IsV.mono h | exact LenV.mono h g
  · refine ⟨?_, ?_, ?_, ?_, ?_, ?_, ?_, ?_, ?_, ?_, ?_, ?_, ?_, ?_, ?_, ?_, ?_, ?_, ?_, ?_, ?_, ?_, ?_, ?_, ?_, ?_, ?_, ?_, ?_, ?_, ?_, ?_, ?_, ?_, ?_, ?_, ?_, ?_, ?_, ?_, ?_, ?_, ?_, ?_, ?_, ?_, ?_, ?_, ?_, ?_, trivial⟩
    · refine owes_v (Go.Op.load 23 (Go.Operand.tmp 2)) 23 [] (by kernel_rfl) (by kernel_rfl) (by kernel_rfl) rfl fun vals w1 ρ hG hF hρ hcst hfun => ?_
      have e2 : ρ (.tmp 2) = .pointer (some ⟨Bp, 0, none⟩) := ((hρ 2).trans (slotO [] (by kernel_rfl))).trans sl2
      obtain ⟨k1, k2⟩ := And.intro ((hG.cell (p := ⟨Bp, 0, none⟩) hB).trans b0) ((hG.cell (p := ⟨Bp, 1, none⟩) hB).trans b1)
      clear hρ hF hcst hfun sl1 sl2 sl3 sl4 sl5 sl6 fin
      exact opv_val (by go_simp <;> rfl) ⟨gw_self _, rfl⟩
    · refine owes_v (Go.Op.call { callee := Go.Callee.value (Go.Operand.func 13), args := #[Go.Operand.tmp 21], argTypes := #[23] }) 30 [0] (by kernel_rfl) (by kernel_rfl) (by kernel_rfl) rfl fun vals w1 ρ hG hF hρ hcst hfun => ?_
      have e21 : ρ (.tmp 21) = .agg #[.int .i64 1, .int .i64 2] := ((hρ 21).trans (slotJ [0] (by rw [hsz]; decide) (by kernel_rfl))).trans (hF 0 (by decide))
      clear hρ hF hcst sl1 sl2 sl3 sl4 sl5 sl6 fin
      exact opv_enter (by go_simp <;> rfl) (of_bel (pack_c (1, 2) w1))
    · refine owes_v (Go.Op.call { callee := Go.Callee.value (Go.Operand.func 12), args := #[Go.Operand.tmp 22], argTypes := #[30] }) 23 [1] (by kernel_rfl) (by kernel_rfl) (by kernel_rfl) rfl fun vals w1 ρ hG hF hρ hcst hfun => ?_
      have e22 : ρ (.tmp 22) = .int .u64 4294967298 := ((hρ 22).trans (slotJ [1] (by rw [hsz]; decide) (by kernel_rfl))).trans (hF 1 (by decide))
      clear hρ hF hcst sl1 sl2 sl3 sl4 sl5 sl6 fin
      exact opv_enter (by go_simp <;> rfl) (of_bel (unpack_c 4294967298 w1 (by decide) (by decide)))
    · refine owes_v (Go.Op.load 23 (Go.Operand.tmp 2)) 23 [] (by kernel_rfl) (by kernel_rfl) (by kernel_rfl) rfl fun vals w1 ρ hG hF hρ hcst hfun => ?_
      have e2 : ρ (.tmp 2) = .pointer (some ⟨Bp, 0, none⟩) := ((hρ 2).trans (slotO [] (by kernel_rfl))).trans sl2
      obtain ⟨k1, k2⟩ := And.intro ((hG.cell (p := ⟨Bp, 0, none⟩) hB).trans b0) ((hG.cell (p := ⟨Bp, 1, none⟩) hB).trans b1)
      clear hρ hF hcst hfun sl1 sl2 sl3 sl4 sl5 sl6 fin
      exact opv_val (by go_simp <;> rfl) ⟨gw_self _, rfl⟩
    · refine owes_v (Go.Op.binOp Go.BinOp.eql 23 (Go.Operand.tmp 23) (Go.Operand.tmp 24) 23) 4 [2, 3] (by kernel_rfl) (by kernel_rfl) (by kernel_rfl) rfl fun vals w1 ρ hG hF hρ hcst hfun => ?_
      have e23 : ρ (.tmp 23) = .agg #[.int .i64 1, .int .i64 2] := ((hρ 23).trans (slotJ [2, 3] (by rw [hsz]; decide) (by kernel_rfl))).trans (hF 2 (by decide))
      have e24 : ρ (.tmp 24) = .agg #[.int .i64 1, .int .i64 2] := ((hρ 24).trans (slotJ [2, 3] (by rw [hsz]; decide) (by kernel_rfl))).trans (hF 3 (by decide))
      have kq : ∀ W, (Op.equalIn 10000 23 (.agg #[.int .i64 1, .int .i64 2]) (.agg #[.int .i64 1, .int .i64 2])).run Try.prog W = .ok true W := fun W => eqK (1, 2) (1, 2) W
      clear hρ hF hcst hfun sl1 sl2 sl3 sl4 sl5 sl6 fin
      exact opv_val (by go_simp <;> rfl) ⟨gw_self _, rfl⟩
    · exact owes_mvj 4 25 (by kernel_rfl) (by kernel_rfl) (by kernel_rfl) (by kernel_rfl) (by rw [hsz]; decide) (fun v w h => h)
    · refine owes_vt 5 true (Go.Op.load 23 (Go.Operand.tmp 1)) 23 [] (by kernel_rfl) (by kernel_rfl) (by kernel_rfl) (fun _ _ h => h) (by rw [hsz]; kernel_rfl) (by kernel_rfl) rfl fun vals w1 ρ hG hF hρ hcst hfun => ?_
      have e1 : ρ (.tmp 1) = .pointer (some ⟨A, 0, none⟩) := ((hρ 1).trans (slotO [] (by kernel_rfl))).trans sl1
      obtain ⟨k1, k2⟩ := And.intro ((hG.cell (p := ⟨A, 0, none⟩) hA).trans ca0) ((hG.cell (p := ⟨A, 1, none⟩) hA).trans ca1)
      clear hρ hF hcst hfun sl1 sl2 sl3 sl4 sl5 sl6 fin
      exact opv_val (by go_simp <;> rfl) ⟨gw_self _, rfl⟩
    · refine owes_vt 5 true (Go.Op.load 23 (Go.Operand.tmp 2)) 23 [] (by kernel_rfl) (by kernel_rfl) (by kernel_rfl) (fun _ _ h => h) (by rw [hsz]; kernel_rfl) (by kernel_rfl) rfl fun vals w1 ρ hG hF hρ hcst hfun => ?_
      have e2 : ρ (.tmp 2) = .pointer (some ⟨Bp, 0, none⟩) := ((hρ 2).trans (slotO [] (by kernel_rfl))).trans sl2
      obtain ⟨k1, k2⟩ := And.intro ((hG.cell (p := ⟨Bp, 0, none⟩) hB).trans b0) ((hG.cell (p := ⟨Bp, 1, none⟩) hB).trans b1)
      clear hρ hF hcst hfun sl1 sl2 sl3 sl4 sl5 sl6 fin
      exact opv_val (by go_simp <;> rfl) ⟨gw_self _, rfl⟩
    · refine owes_vt 5 true (Go.Op.call { callee := Go.Callee.value (Go.Operand.func 9), args := #[Go.Operand.tmp 27, Go.Operand.tmp 28], argTypes := #[23, 23] }) 3 [6, 7] (by kernel_rfl) (by kernel_rfl) (by kernel_rfl) (fun _ _ h => h) (by rw [hsz]; kernel_rfl) (by kernel_rfl) rfl fun vals w1 ρ hG hF hρ hcst hfun => ?_
      have e27 : ρ (.tmp 27) = .agg #[.int .i64 0, .int .i64 5] := ((hρ 27).trans (slotJ [6, 7] (by rw [hsz]; decide) (by kernel_rfl))).trans (hF 6 (by decide))
      have e28 : ρ (.tmp 28) = .agg #[.int .i64 1, .int .i64 2] := ((hρ 28).trans (slotJ [6, 7] (by rw [hsz]; decide) (by kernel_rfl))).trans (hF 7 (by decide))
      clear hρ hF hcst sl1 sl2 sl3 sl4 sl5 sl6 fin
      exact opv_enter (by go_simp <;> rfl) (of_bel (compare_l w1))
    · refine owes_vt 5 true (Go.Op.binOp Go.BinOp.eql 3 (Go.Operand.tmp 29) (Go.Operand.const (Go.Value.int Go.IntKind.i64 (-1))) 3) 4 [8] (by kernel_rfl) (by kernel_rfl) (by kernel_rfl) (fun _ _ h => h) (by rw [hsz]; kernel_rfl) (by kernel_rfl) rfl fun vals w1 ρ hG hF hρ hcst hfun => ?_
      have e29 : ρ (.tmp 29) = .int .i64 (-1) := ((hρ 29).trans (slotJ [8] (by rw [hsz]; decide) (by kernel_rfl))).trans (hF 8 (by decide))
      clear hρ hF hfun sl1 sl2 sl3 sl4 sl5 sl6 fin
      exact opv_val (by go_simp <;> rfl) ⟨gw_self _, rfl⟩
    · refine owes_v (Go.Op.pick (Go.Operand.tmp 26) (Go.Operand.tmp 30) (Go.Operand.const (Go.Value.bool false))) 4 [5, 9] (by kernel_rfl) (by kernel_rfl) (by kernel_rfl) rfl fun vals w1 ρ hG hF hρ hcst hfun => ?_
      have e26 : ρ (.tmp 26) = .bool true := ((hρ 26).trans (slotJ [5, 9] (by rw [hsz]; decide) (by kernel_rfl))).trans (hF 5 (by decide))
      have e30 : ρ (.tmp 30) = .bool true := ((hρ 30).trans (slotJ [5, 9] (by rw [hsz]; decide) (by kernel_rfl))).trans (hF 9 (by decide))
      clear hρ hF hfun sl1 sl2 sl3 sl4 sl5 sl6 fin
      exact opv_val (by go_simp <;> rfl) ⟨gw_self _, rfl⟩
    · exact owes_mvj 10 31 (by kernel_rfl) (by kernel_rfl) (by kernel_rfl) (by kernel_rfl) (by rw [hsz]; decide) (fun v w h => h)
    · refine owes_vt 11 true (Go.Op.move (Go.Operand.tmp 4)) 3 [] (by kernel_rfl) (by kernel_rfl) (by kernel_rfl) (fun _ _ h => h) (by rw [hsz]; kernel_rfl) (by kernel_rfl) rfl fun vals w1 ρ hG hF hρ hcst hfun => ?_
      have e4 : ρ (.tmp 4) = .int .i64 2 := ((hρ 4).trans (slotO [] (by kernel_rfl))).trans sl4
      clear hρ hF hcst hfun sl1 sl2 sl3 sl4 sl5 sl6 fin
      exact opv_val (by go_simp <;> rfl) ⟨gw_self _, rfl⟩
    · refine owes_vt 11 true (Go.Op.binOp Go.BinOp.eql 3 (Go.Operand.tmp 33) (Go.Operand.const (Go.Value.int Go.IntKind.i64 2)) 3) 4 [12] (by kernel_rfl) (by kernel_rfl) (by kernel_rfl) (fun _ _ h => h) (by rw [hsz]; kernel_rfl) (by kernel_rfl) rfl fun vals w1 ρ hG hF hρ hcst hfun => ?_
      have e33 : ρ (.tmp 33) = .int .i64 2 := ((hρ 33).trans (slotJ [12] (by rw [hsz]; decide) (by kernel_rfl))).trans (hF 12 (by decide))
      clear hρ hF hfun sl1 sl2 sl3 sl4 sl5 sl6 fin
      exact opv_val (by go_simp <;> rfl) ⟨gw_self _, rfl⟩
    · refine owes_v (Go.Op.pick (Go.Operand.tmp 32) (Go.Operand.tmp 34) (Go.Operand.const (Go.Value.bool false))) 4 [11, 13] (by kernel_rfl) (by kernel_rfl) (by kernel_rfl) rfl fun vals w1 ρ hG hF hρ hcst hfun => ?_
      have e32 : ρ (.tmp 32) = .bool true := ((hρ 32).trans (slotJ [11, 13] (by rw [hsz]; decide) (by kernel_rfl))).trans (hF 11 (by decide))
      have e34 : ρ (.tmp 34) = .bool true := ((hρ 34).trans (slotJ [11, 13] (by rw [hsz]; decide) (by kernel_rfl))).trans (hF 13 (by decide))
      clear hρ hF hfun sl1 sl2 sl3 sl4 sl5 sl6 fin
      exact opv_val (by go_simp <;> rfl) ⟨gw_self _, rfl⟩
    · exact owes_mvj 14 35 (by kernel_rfl) (by kernel_rfl) (by kernel_rfl) (by kernel_rfl) (by rw [hsz]; decide) (fun v w h => h)
    · refine owes_vt 15 true (Go.Op.move (Go.Operand.tmp 5)) 3 [] (by kernel_rfl) (by kernel_rfl) (by kernel_rfl) (fun _ _ h => h) (by rw [hsz]; kernel_rfl) (by kernel_rfl) rfl fun vals w1 ρ hG hF hρ hcst hfun => ?_
      have e5 : ρ (.tmp 5) = .int .i64 1 := ((hρ 5).trans (slotO [] (by kernel_rfl))).trans sl5
      clear hρ hF hcst hfun sl1 sl2 sl3 sl4 sl5 sl6 fin
      exact opv_val (by go_simp <;> rfl) ⟨gw_self _, rfl⟩
    · refine owes_vt 15 true (Go.Op.binOp Go.BinOp.eql 3 (Go.Operand.tmp 37) (Go.Operand.const (Go.Value.int Go.IntKind.i64 1)) 3) 4 [16] (by kernel_rfl) (by kernel_rfl) (by kernel_rfl) (fun _ _ h => h) (by rw [hsz]; kernel_rfl) (by kernel_rfl) rfl fun vals w1 ρ hG hF hρ hcst hfun => ?_
      have e37 : ρ (.tmp 37) = .int .i64 1 := ((hρ 37).trans (slotJ [16] (by rw [hsz]; decide) (by kernel_rfl))).trans (hF 16 (by decide))
      clear hρ hF hfun sl1 sl2 sl3 sl4 sl5 sl6 fin
      exact opv_val (by go_simp <;> rfl) ⟨gw_self _, rfl⟩
    · refine owes_v (Go.Op.pick (Go.Operand.tmp 36) (Go.Operand.tmp 38) (Go.Operand.const (Go.Value.bool false))) 4 [15, 17] (by kernel_rfl) (by kernel_rfl) (by kernel_rfl) rfl fun vals w1 ρ hG hF hρ hcst hfun => ?_
      have e36 : ρ (.tmp 36) = .bool true := ((hρ 36).trans (slotJ [15, 17] (by rw [hsz]; decide) (by kernel_rfl))).trans (hF 15 (by decide))
      have e38 : ρ (.tmp 38) = .bool true := ((hρ 38).trans (slotJ [15, 17] (by rw [hsz]; decide) (by kernel_rfl))).trans (hF 17 (by decide))
      clear hρ hF hfun sl1 sl2 sl3 sl4 sl5 sl6 fin
      exact opv_val (by go_simp <;> rfl) ⟨gw_self _, rfl⟩
    · exact owes_mvj 18 39 (by kernel_rfl) (by kernel_rfl) (by kernel_rfl) (by kernel_rfl) (by rw [hsz]; decide) (fun v w h => h)
    · refine owes_vt 19 true (Go.Op.load 23 (Go.Operand.tmp 1)) 23 [] (by kernel_rfl) (by kernel_rfl) (by kernel_rfl) (fun _ _ h => h) (by rw [hsz]; kernel_rfl) (by kernel_rfl) rfl fun vals w1 ρ hG hF hρ hcst hfun => ?_
      have e1 : ρ (.tmp 1) = .pointer (some ⟨A, 0, none⟩) := ((hρ 1).trans (slotO [] (by kernel_rfl))).trans sl1
      obtain ⟨k1, k2⟩ := And.intro ((hG.cell (p := ⟨A, 0, none⟩) hA).trans ca0) ((hG.cell (p := ⟨A, 1, none⟩) hA).trans ca1)
      clear hρ hF hcst hfun sl1 sl2 sl3 sl4 sl5 sl6 fin
      exact opv_val (by go_simp <;> rfl) ⟨gw_self _, rfl⟩
    · refine owes_vt 19 true (Go.Op.call { callee := Go.Callee.value (Go.Operand.func 21), args := #[Go.Operand.tmp 3, Go.Operand.tmp 41], argTypes := #[37, 23] }) 4 [20] (by kernel_rfl) (by kernel_rfl) (by kernel_rfl) (fun _ _ h => h) (by rw [hsz]; kernel_rfl) (by kernel_rfl) rfl fun vals w1 ρ hG hF hρ hcst hfun => ?_
      have e3 : ρ (.tmp 3) = .pointer (some ⟨g, 0, none⟩) := ((hρ 3).trans (slotO [20] (by kernel_rfl))).trans sl3
      have e41 : ρ (.tmp 41) = .agg #[.int .i64 0, .int .i64 5] := ((hρ 41).trans (slotJ [20] (by rw [hsz]; decide) (by kernel_rfl))).trans (hF 20 (by decide))
      clear hρ hF hcst sl1 sl2 sl3 sl4 sl5 sl6 fin
      exact opv_enter (by go_simp <;> rfl) (of_bel (shas_c (HS.out.below hG) (0, 5) ⟨by decide, by decide⟩))
    · refine owes_v (Go.Op.pick (Go.Operand.tmp 40) (Go.Operand.tmp 42) (Go.Operand.const (Go.Value.bool false))) 4 [19, 21] (by kernel_rfl) (by kernel_rfl) (by kernel_rfl) rfl fun vals w1 ρ hG hF hρ hcst hfun => ?_
      have e40 : ρ (.tmp 40) = .bool true := ((hρ 40).trans (slotJ [19, 21] (by rw [hsz]; decide) (by kernel_rfl))).trans (hF 19 (by decide))
      have e42 : ρ (.tmp 42) = .bool true := ((hρ 42).trans (slotJ [19, 21] (by rw [hsz]; decide) (by kernel_rfl))).trans (hF 21 (by decide))
      clear hρ hF hfun sl1 sl2 sl3 sl4 sl5 sl6 fin
      exact opv_val (by go_simp <;> rfl) ⟨gw_self _, rfl⟩
    · exact owes_mvj 22 43 (by kernel_rfl) (by kernel_rfl) (by kernel_rfl) (by kernel_rfl) (by rw [hsz]; decide) (fun v w h => h)
    · refine owes_vt 23 true (Go.Op.load 23 (Go.Operand.tmp 2)) 23 [] (by kernel_rfl) (by kernel_rfl) (by kernel_rfl) (fun _ _ h => h) (by rw [hsz]; kernel_rfl) (by kernel_rfl) rfl fun vals w1 ρ hG hF hρ hcst hfun => ?_
      have e2 : ρ (.tmp 2) = .pointer (some ⟨Bp, 0, none⟩) := ((hρ 2).trans (slotO [] (by kernel_rfl))).trans sl2
      obtain ⟨k1, k2⟩ := And.intro ((hG.cell (p := ⟨Bp, 0, none⟩) hB).trans b0) ((hG.cell (p := ⟨Bp, 1, none⟩) hB).trans b1)
      clear hρ hF hcst hfun sl1 sl2 sl3 sl4 sl5 sl6 fin
      exact opv_val (by go_simp <;> rfl) ⟨gw_self _, rfl⟩
    · refine owes_vt 23 true (Go.Op.call { callee := Go.Callee.value (Go.Operand.func 21), args := #[Go.Operand.tmp 3, Go.Operand.tmp 45], argTypes := #[37, 23] }) 4 [24] (by kernel_rfl) (by kernel_rfl) (by kernel_rfl) (fun _ _ h => h) (by rw [hsz]; kernel_rfl) (by kernel_rfl) rfl fun vals w1 ρ hG hF hρ hcst hfun => ?_
      have e3 : ρ (.tmp 3) = .pointer (some ⟨g, 0, none⟩) := ((hρ 3).trans (slotO [24] (by kernel_rfl))).trans sl3
      have e45 : ρ (.tmp 45) = .agg #[.int .i64 1, .int .i64 2] := ((hρ 45).trans (slotJ [24] (by rw [hsz]; decide) (by kernel_rfl))).trans (hF 24 (by decide))
      clear hρ hF hcst sl1 sl2 sl3 sl4 sl5 sl6 fin
      exact opv_enter (by go_simp <;> rfl) (of_bel (shas_c (HS.out.below hG) (1, 2) ⟨by decide, by decide⟩))
    · refine owes_vt 23 true (Go.Op.unOp Go.UnOp.not 4 (Go.Operand.tmp 46)) 4 [25] (by kernel_rfl) (by kernel_rfl) (by kernel_rfl) (fun _ _ h => h) (by rw [hsz]; kernel_rfl) (by kernel_rfl) rfl fun vals w1 ρ hG hF hρ hcst hfun => ?_
      have e46 : ρ (.tmp 46) = .bool false := ((hρ 46).trans (slotJ [25] (by rw [hsz]; decide) (by kernel_rfl))).trans (hF 25 (by decide))
      clear hρ hF hcst hfun sl1 sl2 sl3 sl4 sl5 sl6 fin
      exact opv_val (by go_simp <;> rfl) ⟨gw_self _, rfl⟩
    · refine owes_v (Go.Op.pick (Go.Operand.tmp 44) (Go.Operand.tmp 47) (Go.Operand.const (Go.Value.bool false))) 4 [23, 26] (by kernel_rfl) (by kernel_rfl) (by kernel_rfl) rfl fun vals w1 ρ hG hF hρ hcst hfun => ?_
      have e44 : ρ (.tmp 44) = .bool true := ((hρ 44).trans (slotJ [23, 26] (by rw [hsz]; decide) (by kernel_rfl))).trans (hF 23 (by decide))
      have e47 : ρ (.tmp 47) = .bool true := ((hρ 47).trans (slotJ [23, 26] (by rw [hsz]; decide) (by kernel_rfl))).trans (hF 26 (by decide))
      clear hρ hF hfun sl1 sl2 sl3 sl4 sl5 sl6 fin
      exact opv_val (by go_simp <;> rfl) ⟨gw_self _, rfl⟩
    · exact owes_mvj 27 48 (by kernel_rfl) (by kernel_rfl) (by kernel_rfl) (by kernel_rfl) (by rw [hsz]; decide) (fun v w h => h)
    · refine owes_vt 28 true (Go.Op.call { callee := Go.Callee.value (Go.Operand.func 17), args := #[Go.Operand.tmp 3], argTypes := #[37] }) 3 [] (by kernel_rfl) (by kernel_rfl) (by kernel_rfl) (fun _ _ h => h) (by rw [hsz]; kernel_rfl) (by kernel_rfl) rfl fun vals w1 ρ hG hF hρ hcst hfun => ?_
      have e3 : ρ (.tmp 3) = .pointer (some ⟨g, 0, none⟩) := ((hρ 3).trans (slotO [] (by kernel_rfl))).trans sl3
      clear hρ hF hcst sl1 sl2 sl3 sl4 sl5 sl6 fin
      exact opv_enter (by go_simp <;> rfl) (of_same (slen_c (HS.out.below hG)))
    · refine owes_vt 28 true (Go.Op.binOp Go.BinOp.eql 3 (Go.Operand.tmp 50) (Go.Operand.const (Go.Value.int Go.IntKind.i64 1)) 3) 4 [29] (by kernel_rfl) (by kernel_rfl) (by kernel_rfl) (fun _ _ h => h) (by rw [hsz]; kernel_rfl) (by kernel_rfl) rfl fun vals w1 ρ hG hF hρ hcst hfun => ?_
      have e50 : ρ (.tmp 50) = .int .i64 1 := ((hρ 50).trans (slotJ [29] (by rw [hsz]; decide) (by kernel_rfl))).trans (hF 29 (by decide))
      clear hρ hF hfun sl1 sl2 sl3 sl4 sl5 sl6 fin
      exact opv_val (by go_simp <;> rfl) ⟨gw_self _, rfl⟩
    · refine owes_v (Go.Op.pick (Go.Operand.tmp 49) (Go.Operand.tmp 51) (Go.Operand.const (Go.Value.bool false))) 4 [28, 30] (by kernel_rfl) (by kernel_rfl) (by kernel_rfl) rfl fun vals w1 ρ hG hF hρ hcst hfun => ?_
      have e49 : ρ (.tmp 49) = .bool true := ((hρ 49).trans (slotJ [28, 30] (by rw [hsz]; decide) (by kernel_rfl))).trans (hF 28 (by decide))
      have e51 : ρ (.tmp 51) = .bool true := ((hρ 51).trans (slotJ [28, 30] (by rw [hsz]; decide) (by kernel_rfl))).trans (hF 30 (by decide))
      clear hρ hF hfun sl1 sl2 sl3 sl4 sl5 sl6 fin
      exact opv_val (by go_simp <;> rfl) ⟨gw_self _, rfl⟩
    · exact owes_mvj 31 52 (by kernel_rfl) (by kernel_rfl) (by kernel_rfl) (by kernel_rfl) (by rw [hsz]; decide) (fun v w h => h)
    · refine owes_vt 32 true (Go.Op.call { callee := Go.Callee.value (Go.Operand.func 19), args := #[Go.Operand.tmp 3], argTypes := #[37] }) 39 [] (by kernel_rfl) (by kernel_rfl) (by kernel_rfl) (fun _ _ h => h) (by rw [hsz]; kernel_rfl) (by kernel_rfl) rfl fun vals w1 ρ hG hF hρ hcst hfun => ?_
      have e3 : ρ (.tmp 3) = .pointer (some ⟨g, 0, none⟩) := ((hρ 3).trans (slotO [] (by kernel_rfl))).trans sl3
      clear hρ hF hcst sl1 sl2 sl3 sl4 sl5 sl6 fin
      exact opv_enter (by go_simp <;> rfl) (row_len (HS.out.below hG) (by simp))
    · refine owes_vt 32 true (Go.Op.call { callee := Go.Callee.builtin Go.Builtin.len, args := #[Go.Operand.tmp 54], argTypes := #[39] }) 3 [33] (by kernel_rfl) (by kernel_rfl) (by kernel_rfl) (fun _ _ h => h) (by rw [hsz]; kernel_rfl) (by kernel_rfl) rfl fun vals w1 ρ hG hF hρ hcst hfun => ?_
      have f54 : (LenV 1) (vals 33) w1 := hF 33 (by decide)
      have e54 : ρ (.tmp 54) = vals 33 := (hρ 54).trans (slotJ [33] (by rw [hsz]; decide) (by kernel_rfl))
      obtain ⟨A5, c5, h5⟩ := f54
      rw [h5] at e54
      clear hρ hF hcst hfun sl1 sl2 sl3 sl4 sl5 sl6 fin
      exact opv_val (by go_simp <;> rfl) ⟨gw_self _, rfl⟩
    · refine owes_vt 32 true (Go.Op.binOp Go.BinOp.eql 3 (Go.Operand.tmp 55) (Go.Operand.const (Go.Value.int Go.IntKind.i64 1)) 3) 4 [34] (by kernel_rfl) (by kernel_rfl) (by kernel_rfl) (fun _ _ h => h) (by rw [hsz]; kernel_rfl) (by kernel_rfl) rfl fun vals w1 ρ hG hF hρ hcst hfun => ?_
      have e55 : ρ (.tmp 55) = .int .i64 1 := ((hρ 55).trans (slotJ [34] (by rw [hsz]; decide) (by kernel_rfl))).trans (hF 34 (by decide))
      clear hρ hF hfun sl1 sl2 sl3 sl4 sl5 sl6 fin
      exact opv_val (by go_simp <;> rfl) ⟨gw_self _, rfl⟩
    · refine owes_v (Go.Op.pick (Go.Operand.tmp 53) (Go.Operand.tmp 56) (Go.Operand.const (Go.Value.bool false))) 4 [32, 35] (by kernel_rfl) (by kernel_rfl) (by kernel_rfl) rfl fun vals w1 ρ hG hF hρ hcst hfun => ?_
      have e53 : ρ (.tmp 53) = .bool true := ((hρ 53).trans (slotJ [32, 35] (by rw [hsz]; decide) (by kernel_rfl))).trans (hF 32 (by decide))
      have e56 : ρ (.tmp 56) = .bool true := ((hρ 56).trans (slotJ [32, 35] (by rw [hsz]; decide) (by kernel_rfl))).trans (hF 35 (by decide))
      clear hρ hF hfun sl1 sl2 sl3 sl4 sl5 sl6 fin
      exact opv_val (by go_simp <;> rfl) ⟨gw_self _, rfl⟩
    · exact owes_mvj 36 57 (by kernel_rfl) (by kernel_rfl) (by kernel_rfl) (by kernel_rfl) (by rw [hsz]; decide) (fun v w h => h)
    · refine owes_vt 37 true (Go.Op.move (Go.Operand.tmp 6)) 39 [] (by kernel_rfl) (by kernel_rfl) (by kernel_rfl) (fun _ _ h => h) (by rw [hsz]; kernel_rfl) (by kernel_rfl) rfl fun vals w1 ρ hG hF hρ hcst hfun => ?_
      have e6 : ρ (.tmp 6) = .slice (some ⟨q6, 0, none⟩) 2 c6 := ((hρ 6).trans (slotO [] (by kernel_rfl))).trans sl6
      clear hρ hF hcst hfun sl1 sl2 sl3 sl4 sl5 sl6 fin
      exact opv_val (by go_simp <;> rfl) ⟨gw_self _, rfl⟩
    · refine owes_vt 37 true (Go.Op.call { callee := Go.Callee.builtin Go.Builtin.len, args := #[Go.Operand.tmp 59], argTypes := #[39] }) 3 [38] (by kernel_rfl) (by kernel_rfl) (by kernel_rfl) (fun _ _ h => h) (by rw [hsz]; kernel_rfl) (by kernel_rfl) rfl fun vals w1 ρ hG hF hρ hcst hfun => ?_
      have e59 : ρ (.tmp 59) = .slice (some ⟨q6, 0, none⟩) 2 c6 := ((hρ 59).trans (slotJ [38] (by rw [hsz]; decide) (by kernel_rfl))).trans (hF 38 (by decide))
      clear hρ hF hcst hfun sl1 sl2 sl3 sl4 sl5 sl6 fin
      exact opv_val (by go_simp <;> rfl) ⟨gw_self _, rfl⟩
    · refine owes_vt 37 true (Go.Op.binOp Go.BinOp.eql 3 (Go.Operand.tmp 60) (Go.Operand.const (Go.Value.int Go.IntKind.i64 2)) 3) 4 [39] (by kernel_rfl) (by kernel_rfl) (by kernel_rfl) (fun _ _ h => h) (by rw [hsz]; kernel_rfl) (by kernel_rfl) rfl fun vals w1 ρ hG hF hρ hcst hfun => ?_
      have e60 : ρ (.tmp 60) = .int .i64 2 := ((hρ 60).trans (slotJ [39] (by rw [hsz]; decide) (by kernel_rfl))).trans (hF 39 (by decide))
      clear hρ hF hfun sl1 sl2 sl3 sl4 sl5 sl6 fin
      exact opv_val (by go_simp <;> rfl) ⟨gw_self _, rfl⟩
    · refine owes_v (Go.Op.pick (Go.Operand.tmp 58) (Go.Operand.tmp 61) (Go.Operand.const (Go.Value.bool false))) 4 [37, 40] (by kernel_rfl) (by kernel_rfl) (by kernel_rfl) rfl fun vals w1 ρ hG hF hρ hcst hfun => ?_
      have e58 : ρ (.tmp 58) = .bool true := ((hρ 58).trans (slotJ [37, 40] (by rw [hsz]; decide) (by kernel_rfl))).trans (hF 37 (by decide))
      have e61 : ρ (.tmp 61) = .bool true := ((hρ 61).trans (slotJ [37, 40] (by rw [hsz]; decide) (by kernel_rfl))).trans (hF 40 (by decide))
      clear hρ hF hfun sl1 sl2 sl3 sl4 sl5 sl6 fin
      exact opv_val (by go_simp <;> rfl) ⟨gw_self _, rfl⟩
    · exact owes_mvj 41 62 (by kernel_rfl) (by kernel_rfl) (by kernel_rfl) (by kernel_rfl) (by rw [hsz]; decide) (fun v w h => h)
    · refine owes_vt 42 true (Go.Op.move (Go.Operand.tmp 6)) 39 [] (by kernel_rfl) (by kernel_rfl) (by kernel_rfl) (fun _ _ h => h) (by rw [hsz]; kernel_rfl) (by kernel_rfl) rfl fun vals w1 ρ hG hF hρ hcst hfun => ?_
      have e6 : ρ (.tmp 6) = .slice (some ⟨q6, 0, none⟩) 2 c6 := ((hρ 6).trans (slotO [] (by kernel_rfl))).trans sl6
      clear hρ hF hcst hfun sl1 sl2 sl3 sl4 sl5 sl6 fin
      exact opv_val (by go_simp <;> rfl) ⟨gw_self _, rfl⟩
    · refine owes_vt 42 true (Go.Op.indexAddr 39 (Go.Operand.tmp 64) (Go.Operand.const (Go.Value.int Go.IntKind.i64 0))) 0 [43] (by kernel_rfl) (by kernel_rfl) (by kernel_rfl) (fun _ _ h => h) (by rw [hsz]; kernel_rfl) (by kernel_rfl) rfl fun vals w1 ρ hG hF hρ hcst hfun => ?_
      have e64 : ρ (.tmp 64) = .slice (some ⟨q6, 0, none⟩) 2 c6 := ((hρ 64).trans (slotJ [43] (by rw [hsz]; decide) (by kernel_rfl))).trans (hF 43 (by decide))
      clear hρ hF hfun sl1 sl2 sl3 sl4 sl5 sl6 fin
      exact opv_val (by go_simp <;> rfl) ⟨gw_self _, rfl⟩
    · refine owes_vt 42 true (Go.Op.load 23 (Go.Operand.tmp 65)) 23 [44] (by kernel_rfl) (by kernel_rfl) (by kernel_rfl) (fun _ _ h => h) (by rw [hsz]; kernel_rfl) (by kernel_rfl) rfl fun vals w1 ρ hG hF hρ hcst hfun => ?_
      have e65 : ρ (.tmp 65) = .pointer (some ⟨q6, 0, none⟩) := ((hρ 65).trans (slotJ [44] (by rw [hsz]; decide) (by kernel_rfl))).trans (hF 44 (by decide))
      obtain ⟨k1, k2⟩ := And.intro ((hG.cell (p := ⟨q6, 0, none⟩) hq).trans r0) ((hG.cell (p := ⟨q6, 1, none⟩) hq).trans r1)
      clear hρ hF hcst hfun sl1 sl2 sl3 sl4 sl5 sl6 fin
      exact opv_val (by go_simp <;> rfl) ⟨gw_self _, rfl⟩
    · refine owes_vt 42 true (Go.Op.load 23 (Go.Operand.tmp 1)) 23 [] (by kernel_rfl) (by kernel_rfl) (by kernel_rfl) (fun _ _ h => h) (by rw [hsz]; kernel_rfl) (by kernel_rfl) rfl fun vals w1 ρ hG hF hρ hcst hfun => ?_
      have e1 : ρ (.tmp 1) = .pointer (some ⟨A, 0, none⟩) := ((hρ 1).trans (slotO [] (by kernel_rfl))).trans sl1
      obtain ⟨k1, k2⟩ := And.intro ((hG.cell (p := ⟨A, 0, none⟩) hA).trans ca0) ((hG.cell (p := ⟨A, 1, none⟩) hA).trans ca1)
      clear hρ hF hcst hfun sl1 sl2 sl3 sl4 sl5 sl6 fin
      exact opv_val (by go_simp <;> rfl) ⟨gw_self _, rfl⟩
    · refine owes_vt 42 true (Go.Op.binOp Go.BinOp.eql 23 (Go.Operand.tmp 66) (Go.Operand.tmp 67) 23) 4 [45, 46] (by kernel_rfl) (by kernel_rfl) (by kernel_rfl) (fun _ _ h => h) (by rw [hsz]; kernel_rfl) (by kernel_rfl) rfl fun vals w1 ρ hG hF hρ hcst hfun => ?_
      have e66 : ρ (.tmp 66) = .agg #[.int .i64 0, .int .i64 5] := ((hρ 66).trans (slotJ [45, 46] (by rw [hsz]; decide) (by kernel_rfl))).trans (hF 45 (by decide))
      have e67 : ρ (.tmp 67) = .agg #[.int .i64 0, .int .i64 5] := ((hρ 67).trans (slotJ [45, 46] (by rw [hsz]; decide) (by kernel_rfl))).trans (hF 46 (by decide))
      have kq : ∀ W, (Op.equalIn 10000 23 (.agg #[.int .i64 0, .int .i64 5]) (.agg #[.int .i64 0, .int .i64 5])).run Try.prog W = .ok true W := fun W => eqK (0, 5) (0, 5) W
      clear hρ hF hcst hfun sl1 sl2 sl3 sl4 sl5 sl6 fin
      exact opv_val (by go_simp <;> rfl) ⟨gw_self _, rfl⟩
    · refine owes_v (Go.Op.pick (Go.Operand.tmp 63) (Go.Operand.tmp 68) (Go.Operand.const (Go.Value.bool false))) 4 [42, 47] (by kernel_rfl) (by kernel_rfl) (by kernel_rfl) rfl fun vals w1 ρ hG hF hρ hcst hfun => ?_
      have e63 : ρ (.tmp 63) = .bool true := ((hρ 63).trans (slotJ [42, 47] (by rw [hsz]; decide) (by kernel_rfl))).trans (hF 42 (by decide))
      have e68 : ρ (.tmp 68) = .bool true := ((hρ 68).trans (slotJ [42, 47] (by rw [hsz]; decide) (by kernel_rfl))).trans (hF 47 (by decide))
      clear hρ hF hfun sl1 sl2 sl3 sl4 sl5 sl6 fin
      exact opv_val (by go_simp <;> rfl) ⟨gw_self _, rfl⟩
    · exact owes_mvj 48 69 (by kernel_rfl) (by kernel_rfl) (by kernel_rfl) (by kernel_rfl) (by rw [hsz]; decide) (fun v w h => h)
  · intro vals w1 hG hF
    exact fin vals w1 hG (hF 49 (by decide +kernel))
/-- The two keys of known, and the set besides. -/
structure S10 (w : World) (A : Nat) (W : World) : Prop where
  bel : Below w.heap.size w W
  k0 : Bk W A 23 #[.int .i64 0, .int .i64 5]
  k1 : Bk W (A + 1) 23 #[.int .i64 1, .int .i64 2]
  le : w.heap.size ≤ A
  sz : A + 2 ≤ W.heap.size
theorem S10.on {w W W' : World} {A : Nat} (h : S10 w A W) (hb : Below (A + 2) W W') : S10 w A W' :=
  ⟨h.bel.trans (hb.mono (by have := h.le; omega)), h.k0.below hb (by omega), h.k1.below hb (by omega), h.le, Nat.le_trans h.sz hb.size⟩
theorem S10.grow {w W : World} {A : Nat} (h : S10 w A W) (o : Obj) : S10 w A (W.alloc o) := h.on ((Gw.alloc W o).mono h.sz)
theorem k10_add {w W : World} {A g : Nat} (h : S10 w A W) (hs : SetX (A + 2) (fun _ => False) W g []) :
    Calls Try.prog 15 #[.pointer (some ⟨g, 0, none⟩), .slice (some ⟨W.heap.size, 0, none⟩) 3 3] (W.alloc (.cells #[.int .i64 1, .int .i64 2, .int .i64 0, .int .i64 5, .int .i64 1, .int .i64 2] 23)) fun e w' => e = .returned (.int .i64 2) ∧ S10 w A w' ∧ SetX (A + 2) (fun _ => False) w' g [(1, 2), (0, 5)] := by
  have h4 := (hs.besides (X' := fun k => k = W.heap.size) (fun k e => .inr (by omega))).below (Gw.alloc W (.cells #[.int .i64 1, .int .i64 2, .int .i64 0, .int .i64 5, .int .i64 1, .int .i64 2] 23))
  have hsz : A + 2 ≤ (W.alloc (.cells #[.int .i64 1, .int .i64 2, .int .i64 0, .int .i64 5, .int .i64 1, .int .i64 2] 23)).heap.size := by have := h.sz; simp; omega
  refine (sadd_c h4 (fun k e => by rw [e]; simp) hsz (some ⟨W.heap.size, 0, none⟩) 3 [(1, 2), (0, 5), (1, 2)] (blk_krd (ks := [(1, 2), (0, 5), (1, 2)]) (Bk.new W 23 _) (by simp)) (fun ad e _ => by injection e with e; subst e; exact .inr rfl) (by intro k hk; simp at hk; rcases hk with rfl | rfl | rfl <;> exact ⟨by decide, by decide⟩) (by decide) (by decide)).mono ?_
  rintro e w' ⟨rfl, h5, k5⟩
  have e5 : addL [] [((1 : Int), (2 : Int)), (0, 5), (1, 2)] = [(1, 2), (0, 5)] := by decide
  rw [e5] at h5 ⊢
  exact ⟨rfl, (h.grow _).on (k5.below hsz (fun _ e => e.1)), h5.besides (fun k f => f.elim)⟩
theorem k10_rem {w W : World} {A g : Nat} (h : S10 w A W) (hs : SetX (A + 2) (fun _ => False) W g [(1, 2), (0, 5)]) :
    Calls Try.prog 16 #[.pointer (some ⟨g, 0, none⟩), .slice (some ⟨W.heap.size, 0, none⟩) 1 1] (W.alloc (.cells #[.int .i64 1, .int .i64 2] 23)) fun e w' => e = .returned (.int .i64 1) ∧ S10 w A w' ∧ SetX (A + 2) (fun _ => False) w' g [(0, 5)] := by
  have h4 := (hs.besides (X' := fun k => k = W.heap.size) (fun k e => .inr (by omega))).below (Gw.alloc W (.cells #[.int .i64 1, .int .i64 2] 23))
  have hsz : A + 2 ≤ (W.alloc (.cells #[.int .i64 1, .int .i64 2] 23)).heap.size := by have := h.sz; simp; omega
  refine (srem_c h4 (some ⟨W.heap.size, 0, none⟩) 1 [(1, 2)] (blk_krd (ks := [(1, 2)]) (Bk.new W 23 _) (by simp)) (fun ad e _ => by injection e with e; subst e; exact .inr rfl) (by intro k hk; simp at hk; subst hk; exact ⟨by decide, by decide⟩) (by decide) (by decide)).mono ?_
  rintro e w' ⟨rfl, h5, k5⟩
  have e5 : offL [((1 : Int), (2 : Int)), (0, 5)] [(1, 2)] = [(0, 5)] := by decide
  rw [e5] at h5 ⊢
  exact ⟨rfl, (h.grow _).on (k5.below hsz (fun _ e => e.1)), h5.besides (fun k f => f.elim)⟩
theorem k10_sort {w W : World} {A g : Nat} (h : S10 w A W) (hs : SetX (A + 2) (fun _ => False) W g [(0, 5)]) :
    Calls Try.prog 22 #[.slice (some ⟨W.heap.size, 0, none⟩) 2 2] (W.alloc (.cells #[.int .i64 1, .int .i64 2, .int .i64 0, .int .i64 5] 23)) fun e w' => ∃ q c, e = .returned (.slice (some ⟨q, 0, none⟩) 2 c) ∧ S10 w A w' ∧ SetX (A + 2) (fun _ => False) w' g [(0, 5)] ∧ q < w'.heap.size ∧ w'.cell? ⟨q, 0, none⟩ = some (.int .i64 0) ∧ w'.cell? ⟨q, 1, none⟩ = some (.int .i64 5) := by
  have hb := Gw.alloc W (.cells #[.int .i64 1, .int .i64 2, .int .i64 0, .int .i64 5] 23)
  refine (sorted_c _ (some ⟨W.heap.size, 0, none⟩) 2 [(1, 2), (0, 5)] (fun j u hu => ⟨_, rfl, by rw [add_off, Nat.zero_add, (Bk.new W 23 #[.int .i64 1, .int .i64 2, .int .i64 0, .int .i64 5]).cell]; simpa [flatK, cK] using hu⟩) (fun e => by cases e) (by decide)).mono ?_
  rintro e w' ⟨v, rfl, hr, hb2⟩
  have es : [((0 : Int), (5 : Int)), (1, 2)] = sortN [(1, 2), (0, 5)] := sortN_of (List.Perm.swap _ _ _) (by simp [kLe_iff])
  rw [← es] at hr
  obtain ⟨A1, c1, rfl, _, _⟩ := hr.slice
  obtain ⟨q, rfl, _, hq, c0, c2⟩ := hr.at_ 0 (by decide)
  exact ⟨q, c1, rfl, (h.grow _).on (hb2.mono (by have := h.sz; simp; omega)), (hs.below hb).below hb2, hq, c0, c2⟩
theorem known10_c (w : World) : Calls Try.prog 8 #[] w fun e w' => e = .returned (.bool true) ∧ Below w.heap.size w w' := by
  obtain ⟨A, hA⟩ : ∃ A, A = w.heap.size := ⟨_, rfl⟩
  obtain ⟨W3, hW3⟩ : ∃ X, X = ((w.alloc (.cells #[.int .i64 0, .int .i64 5] 23)).alloc (.cells #[.int .i64 1, .int .i64 2] 23)).alloc (.cells #[.map none] 37) := ⟨_, rfl⟩
  have hs3 : W3.heap.size = A + 1 + 1 + 1 := by rw [hW3, hA]; simp
  have hb3 : Below w.heap.size w W3 := by rw [hW3]; exact (((Gw.alloc w _).alloc (by simp) _).alloc (by simp; omega) _)
  have hk0 : Bk W3 A 23 #[.int .i64 0, .int .i64 5] := by rw [hW3, hA]; exact ((Bk.new w _ _).alloc _).alloc _
  have hk1 : Bk W3 (A + 1) 23 #[.int .i64 1, .int .i64 2] := by
    have := Bk.new (w.alloc (.cells #[.int .i64 0, .int .i64 5] 23)) 23 #[.int .i64 1, .int .i64 2]
    rw [World.size_alloc, ← hA] at this
    rw [hW3]; exact this.alloc _
  have hset : SetX (A + 2) (fun _ => False) W3 (A + 1 + 1) [] := by
    have := Bk.new ((w.alloc (.cells #[.int .i64 0, .int .i64 5] 23)).alloc (.cells #[.int .i64 1, .int .i64 2] 23)) 37 #[.map none]
    rw [World.size_alloc, World.size_alloc, ← hA] at this
    refine ⟨none, ⟨by rw [hW3]; exact this, rfl⟩, fun k e => ⟨?_, fun f => f⟩⟩
    rcases e with rfl | e
    · exact Nat.le_refl _
    · cases e
  have h10 : S10 w A W3 := ⟨hb3, hk0, hk1, by omega, by omega⟩
  have HA := Lib.hid (k10_add h10 hset)
  rw [hs3] at HA
  have HW := Lib.hid (And.intro hA hW3)
  clear hs3 hb3 hk0 hk1 hset h10 hA hW3
  go_enter Try.func8, Try.ntmps8
  go_wp2_with fail
  rw [← HW.out.2, ← HW.out.1]
  refine Calls.mono HA.out ?_
  rintro e w5 ⟨rfl, h5, s5⟩
  have H5 := Lib.hid (And.intro h5 s5)
  have c1 := h5.k1.cell 0
  have c2 := h5.k1.cell 1
  have HR := Lib.hid (k10_rem h5 s5)
  clear h5 s5 HA HW
  go_wp2_with fail
  refine Calls.mono HR.out ?_
  rintro e w6 ⟨rfl, h6, s6⟩
  have d1 := h6.k1.cell 0
  have d2 := h6.k1.cell 1
  have d3 := h6.k0.cell 0
  have d4 := h6.k0.cell 1
  have HO := Lib.hid (k10_sort h6 s6)
  clear h6 s6 HR H5 c1 c2
  go_wp2_with fail
  refine Calls.mono HO.out ?_
  rintro e w7 ⟨q, c7, rfl, h7, s7, hq, r0, r1⟩
  have H7 := Lib.hid (And.intro h7 s7)
  have HQ := Lib.hid (And.intro hq (And.intro r0 r1))
  clear h7 s7 hq r0 r1 HO d1 d2 d3 d4
  go_wp2_with fail
  refine k10_reg _ _ _ A (A + 1) (A + 1 + 1) q c7 (A + 2) H7.out.1.k0.lt H7.out.1.k1.lt HQ.out.1 (H7.out.1.k0.cell 0) (H7.out.1.k0.cell 1) (H7.out.1.k1.cell 0) (H7.out.1.k1.cell 1) HQ.out.2.1 HQ.out.2.2 (Lib.hid H7.out.2) rfl rfl rfl rfl rfl rfl rfl ?_
  intro vals w8 hG h0
  unfold IsV at h0
  simp only [putD, Act.put, List.setIfInBounds_toArray, List.set_cons_zero, List.set_cons_succ, h0]
  clear h0
  go_wp2_with fail
  go_ret
  exact ⟨rfl, H7.out.1.bel.trans (hG.mono H7.out.1.bel.size)⟩
end Go.Proofs.Ytgddehhigamkkaa
