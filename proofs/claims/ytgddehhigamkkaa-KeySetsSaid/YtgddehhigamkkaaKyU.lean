/- KeySets: its world, its regions that draw their order. Conditions: lengths. -/
import Derived.Test.YtgddehhigamkkaaKyT
import Derived.Test.YtgddehhigamkkaaFrame
import Derived.Test.YtgddehhigamkkaaOpenS
namespace Go.Proofs.Ytgddehhigamkkaa
set_option linter.unusedVariables false
set_option linter.unusedSimpArgs false
open Go.RowKit Go.Maps
set_option maxHeartbeats 8000000
set_option maxRecDepth 100000
theorem KR.krd {w : World} {base : Nat} {A : Option Addr} {n c : Nat} {ks : List (Int × Int)} (h : KR w base (.slice A n c) ks) : KRd w w.heap.size A ks := by
  intro k hk
  obtain ⟨q, rfl, _, hq, _⟩ := h.at_ k hk
  exact h.rdp.krd hq k hk
/-- The world of KeySets: its steps, and its key in block H. -/
structure KS (w : World) (B H : Nat) (A : Option Addr) (l : List Stp) (kx ky : Int) (W : World) : Prop where
  bel : Below w.heap.size w W
  sz : B ≤ W.heap.size
  box : Bk W H 23 #[.int .i64 kx, .int .i64 ky]
  sts : Sts W w.heap.size A l
  le : w.heap.size ≤ B
  hl : H < B
theorem KS.on {w : World} {B H : Nat} {A : Option Addr} {l : List Stp} {kx ky : Int} {W W' : World} (h : KS w B H A l kx ky W) (hb : Below B W W') : KS w B H A l kx ky W' :=
  ⟨h.bel.trans (hb.mono h.le), Nat.le_trans h.sz hb.size, h.box.below hb h.hl, h.sts.bel (hb.mono h.le), h.le, h.hl⟩
theorem KS.go {w : World} {B H : Nat} {A : Option Addr} {l : List Stp} {kx ky : Int} {W W' : World} (h : KS w B H A l kx ky W) (hb : Below W.heap.size W W') : KS w B H A l kx ky W' := h.on (hb.mono h.sz)
theorem s21_reg (Q : Exit → Act → World → Prop) (a0 : Act) (w : World) (q qx N c6 k : Nat) (x y u v c : Int) (r : Bool) (hq : q < w.heap.size) (hx : qx < w.heap.size) (c1 : w.cell? ⟨q, k * 2, none⟩ = some (.int .i64 u)) (c2 : w.cell? ⟨q, k * 2 + 1, none⟩ = some (.int .i64 v)) (d1 : w.cell? ⟨qx, 0, none⟩ = some (.int .i64 x)) (d2 : w.cell? ⟨qx, 1, none⟩ = some (.int .i64 y)) (hk1 : (0 : Int) ≤ (k : Int)) (hk2 : (k : Int) < (N : Int)) (hr : (c == 0) = r) (HC : Hid (∀ W, Calls Try.prog 10 #[.agg #[.int .i64 u, .int .i64 v], .agg #[.int .i64 x, .int .i64 y]] W fun e w' => e = .returned (.int .i64 c) ∧ Below W.heap.size W w')) (hsz : a0.tmps.size = 162) (sl6 : a0.tmps.getD 6 undef = .slice (some ⟨q, 0, none⟩) N c6) (sl10 : a0.tmps.getD 10 undef = .pointer (some ⟨qx, 0, none⟩)) (sl12 : a0.tmps.getD 12 undef = .int .i64 k)
    (fin : ∀ (vals : Nat → Value) (w1 : World), Below w.heap.size w w1 → (IsV (.bool r)) (vals 6) w1 → Q .normal (putD vals [59, 60, 61, 62, 63, 64, 65] 0 a0) w1) :
    (Code.region 21 (regIn Try.f4 21) true).wp Try.prog Q a0 w := by
  refine region_by (G := fun w w1 => Below w.heap.size w w1) [IsV (.slice (some ⟨q, 0, none⟩) N c6),
    IsV (.int .i64 k),
    IsV (.pointer (some ⟨q, k * 2, none⟩)),
    IsV (.agg #[.int .i64 u, .int .i64 v]),
    IsV (.agg #[.int .i64 x, .int .i64 y]),
    IsV (.int .i64 c),
    IsV (.bool r)]
    [59, 60, 61, 62, 63, 64, 65] (by kernel_rfl) (Gw.drew _) Gw.trans (by rw [hsz]; kernel_rfl) (by kernel_rfl) ?_ ?_ ?_
  · intro f hf
    simp only [List.mem_cons, List.not_mem_nil, or_false] at hf
    rcases hf with rfl | rfl | rfl | rfl | rfl | rfl | rfl <;> intro v a b h g <;> first | exact IsV.mono h
  · refine ⟨?_, ?_, ?_, ?_, ?_, ?_, ?_, trivial⟩
    · exact owes_mv 6 (by kernel_rfl) (by kernel_rfl) (by kernel_rfl) sl6 (fun _ => rfl)
    · exact owes_mv 12 (by kernel_rfl) (by kernel_rfl) (by kernel_rfl) sl12 (fun _ => rfl)
    · refine owes_v (Go.Op.indexAddr 38 (Go.Operand.tmp 59) (Go.Operand.tmp 60)) 0 [0, 1] (by kernel_rfl) (by kernel_rfl) (by kernel_rfl) rfl fun vals w1 ρ hG hF hρ hcst hfun => ?_
      have e59 : ρ (.tmp 59) = .slice (some ⟨q, 0, none⟩) N c6 := ((hρ 59).trans (slotJ [0, 1] (by rw [hsz]; decide) (by kernel_rfl))).trans (hF 0 (by decide))
      have e60 : ρ (.tmp 60) = .int .i64 k := ((hρ 60).trans (slotJ [0, 1] (by rw [hsz]; decide) (by kernel_rfl))).trans (hF 1 (by decide))
      clear hρ hF hcst hfun sl6 sl10 sl12 fin
      exact opv_val (by go_simp <;> rfl) ⟨gw_self _, rfl⟩
    · refine owes_v (Go.Op.load 27 (Go.Operand.tmp 61)) 27 [2] (by kernel_rfl) (by kernel_rfl) (by kernel_rfl) rfl fun vals w1 ρ hG hF hρ hcst hfun => ?_
      have e61 : ρ (.tmp 61) = .pointer (some ⟨q, k * 2, none⟩) := ((hρ 61).trans (slotJ [2] (by rw [hsz]; decide) (by kernel_rfl))).trans (hF 2 (by decide))
      obtain ⟨j1, j2⟩ := And.intro ((hG.cell (p := ⟨q, k * 2, none⟩) hq).trans c1) ((hG.cell (p := ⟨q, k * 2 + 1, none⟩) hq).trans c2)
      clear hρ hF hcst hfun sl6 sl10 sl12 fin
      exact opv_val (by go_simp <;> rfl) ⟨gw_self _, rfl⟩
    · refine owes_v (Go.Op.load 27 (Go.Operand.tmp 10)) 27 [] (by kernel_rfl) (by kernel_rfl) (by kernel_rfl) rfl fun vals w1 ρ hG hF hρ hcst hfun => ?_
      have e10 : ρ (.tmp 10) = .pointer (some ⟨qx, 0, none⟩) := ((hρ 10).trans (slotO [] (by kernel_rfl))).trans sl10
      obtain ⟨j1, j2⟩ := And.intro ((hG.cell (p := ⟨qx, 0, none⟩) hx).trans d1) ((hG.cell (p := ⟨qx, 1, none⟩) hx).trans d2)
      clear hρ hF hcst hfun sl6 sl10 sl12 fin
      exact opv_val (by go_simp <;> rfl) ⟨gw_self _, rfl⟩
    · refine owes_v (Go.Op.call { callee := Go.Callee.value (Go.Operand.func 10), args := #[Go.Operand.tmp 62, Go.Operand.tmp 63], argTypes := #[27, 27] }) 3 [3, 4] (by kernel_rfl) (by kernel_rfl) (by kernel_rfl) rfl fun vals w1 ρ hG hF hρ hcst hfun => ?_
      have e62 : ρ (.tmp 62) = .agg #[.int .i64 u, .int .i64 v] := ((hρ 62).trans (slotJ [3, 4] (by rw [hsz]; decide) (by kernel_rfl))).trans (hF 3 (by decide))
      have e63 : ρ (.tmp 63) = .agg #[.int .i64 x, .int .i64 y] := ((hρ 63).trans (slotJ [3, 4] (by rw [hsz]; decide) (by kernel_rfl))).trans (hF 4 (by decide))
      clear hρ hF hcst sl6 sl10 sl12 fin
      exact opv_enter (by go_simp <;> rfl) (of_bel (HC.out w1))
    · refine owes_v (Go.Op.binOp Go.BinOp.eql 3 (Go.Operand.tmp 64) (Go.Operand.const (Go.Value.int Go.IntKind.i64 0)) 3) 4 [5] (by kernel_rfl) (by kernel_rfl) (by kernel_rfl) rfl fun vals w1 ρ hG hF hρ hcst hfun => ?_
      have e64 : ρ (.tmp 64) = .int .i64 c := ((hρ 64).trans (slotJ [5] (by rw [hsz]; decide) (by kernel_rfl))).trans (hF 5 (by decide))
      clear hρ hF hfun sl6 sl10 sl12 fin
      exact opv_val (by go_simp <;> rfl) ⟨gw_self _, rfl⟩
  · intro vals w1 hG hF
    exact fin vals w1 hG (hF 6 (by decide +kernel))
theorem s39t_reg (Q : Exit → Act → World → Prop) (a0 : Act) (w : World)  (hsz : a0.tmps.size = 162) (sl14 : a0.tmps.getD 14 undef = .bool true)
    (fin : ∀ (vals : Nat → Value) (w1 : World), Below w.heap.size w w1 → (IsV (.bool true)) (vals 11) w1 → Q .normal (putD vals [147, 148, 149, 150, 151, 152, 153, 154, 155, 156, 157, 14] 0 a0) w1) :
    (Code.region 39 (regIn Try.f4 39) true).wp Try.prog Q a0 w := by
  refine region_by (G := fun w w1 => Below w.heap.size w w1) [IsV (.bool true),
    IsV (.bool true),
    IsV undef,
    IsV undef,
    IsV undef,
    IsV undef,
    IsV undef,
    IsV undef,
    IsV undef,
    IsV undef,
    IsV (.bool true),
    IsV (.bool true)]
    [147, 148, 149, 150, 151, 152, 153, 154, 155, 156, 157, 14] (by kernel_rfl) (Gw.drew _) Gw.trans (by rw [hsz]; kernel_rfl) (by kernel_rfl) ?_ ?_ ?_
  · intro f hf
    simp only [List.mem_cons, List.not_mem_nil, or_false] at hf
    rcases hf with rfl | rfl | rfl | rfl | rfl | rfl | rfl | rfl | rfl | rfl | rfl | rfl <;> intro v a b h g <;> first | exact IsV.mono h
  · refine ⟨?_, ?_, ?_, ?_, ?_, ?_, ?_, ?_, ?_, ?_, ?_, ?_, trivial⟩
    · exact owes_mv 14 (by kernel_rfl) (by kernel_rfl) (by kernel_rfl) sl14 (fun _ => rfl)
    · exact owes_mvj 0 147 (by kernel_rfl) (by kernel_rfl) (by kernel_rfl) (by kernel_rfl) (by rw [hsz]; decide) (fun v w h => h)
    · exact owes_no 1 true false (by decide) (by kernel_rfl) (by kernel_rfl) (fun _ _ h => h) (by rw [hsz]; kernel_rfl) (fun _ => rfl)
    · exact owes_no 1 true false (by decide) (by kernel_rfl) (by kernel_rfl) (fun _ _ h => h) (by rw [hsz]; kernel_rfl) (fun _ => rfl)
    · exact owes_no 1 true false (by decide) (by kernel_rfl) (by kernel_rfl) (fun _ _ h => h) (by rw [hsz]; kernel_rfl) (fun _ => rfl)
    · exact owes_no 1 true false (by decide) (by kernel_rfl) (by kernel_rfl) (fun _ _ h => h) (by rw [hsz]; kernel_rfl) (fun _ => rfl)
    · exact owes_no 1 true false (by decide) (by kernel_rfl) (by kernel_rfl) (fun _ _ h => h) (by rw [hsz]; kernel_rfl) (fun _ => rfl)
    · exact owes_no 1 true false (by decide) (by kernel_rfl) (by kernel_rfl) (fun _ _ h => h) (by rw [hsz]; kernel_rfl) (fun _ => rfl)
    · exact owes_no 1 true false (by decide) (by kernel_rfl) (by kernel_rfl) (fun _ _ h => h) (by rw [hsz]; kernel_rfl) (fun _ => rfl)
    · exact owes_no 1 true false (by decide) (by kernel_rfl) (by kernel_rfl) (fun _ _ h => h) (by rw [hsz]; kernel_rfl) (fun _ => rfl)
    · refine owes_v (Go.Op.pick (Go.Operand.tmp 148) (Go.Operand.const (Go.Value.bool true)) (Go.Operand.tmp 156)) 4 [1, 9] (by kernel_rfl) (by kernel_rfl) (by kernel_rfl) rfl fun vals w1 ρ hG hF hρ hcst hfun => ?_
      have e148 : ρ (.tmp 148) = .bool true := ((hρ 148).trans (slotJ [1, 9] (by rw [hsz]; decide) (by kernel_rfl))).trans (hF 1 (by decide))
      have f156 : (IsV undef) (vals 9) w1 := hF 9 (by decide)
      have e156 : ρ (.tmp 156) = vals 9 := (hρ 156).trans (slotJ [1, 9] (by rw [hsz]; decide) (by kernel_rfl))
      clear hρ hF hfun sl14 fin
      exact opv_val (by go_simp <;> rfl) ⟨gw_self _, rfl⟩
    · exact owes_mvj 10 157 (by kernel_rfl) (by kernel_rfl) (by kernel_rfl) (by kernel_rfl) (by rw [hsz]; decide) (fun v w h => h)
  · intro vals w1 hG hF
    exact fin vals w1 hG (hF 11 (by decide +kernel))
theorem s39f_reg (Q : Exit → Act → World → Prop) (a0 : Act) (w : World) (q H N c6 k : Nat) (x y u v c : Int) (r : Bool) (hq : q < w.heap.size) (hx : H < w.heap.size) (c1 : w.cell? ⟨q, k * 2, none⟩ = some (.int .i64 u)) (c2 : w.cell? ⟨q, k * 2 + 1, none⟩ = some (.int .i64 v)) (d1 : w.cell? ⟨H, 0, none⟩ = some (.int .i64 x)) (d2 : w.cell? ⟨H, 1, none⟩ = some (.int .i64 y)) (hk1 : (0 : Int) ≤ (k : Int)) (hk2 : (k : Int) < (N : Int)) (hr : (c == 0) = r) (HO : Hid (∀ W, Calls Try.prog 11 #[.agg #[.int .i64 x, .int .i64 y]] W fun e w' => e = .returned (.agg #[.int .i64 x, .int .i64 y]) ∧ Below W.heap.size W w')) (HC : Hid (∀ W, Calls Try.prog 10 #[.agg #[.int .i64 u, .int .i64 v], .agg #[.int .i64 x, .int .i64 y]] W fun e w' => e = .returned (.int .i64 c) ∧ Below W.heap.size W w')) (hsz : a0.tmps.size = 162) (sl3 : a0.tmps.getD 3 undef = .pointer (some ⟨H, 0, none⟩)) (sl6 : a0.tmps.getD 6 undef = .slice (some ⟨q, 0, none⟩) N c6) (sl14 : a0.tmps.getD 14 undef = .bool false) (sl15 : a0.tmps.getD 15 undef = .int .i64 k)
    (fin : ∀ (vals : Nat → Value) (w1 : World), Below w.heap.size w w1 → (IsV (.bool r)) (vals 11) w1 → Q .normal (putD vals [147, 148, 149, 150, 151, 152, 153, 154, 155, 156, 157, 14] 0 a0) w1) :
    (Code.region 39 (regIn Try.f4 39) true).wp Try.prog Q a0 w := by
  refine region_by (G := fun w w1 => Below w.heap.size w w1) [IsV (.bool false),
    IsV (.bool false),
    IsV (.slice (some ⟨q, 0, none⟩) N c6),
    IsV (.int .i64 k),
    IsV (.pointer (some ⟨q, k * 2, none⟩)),
    IsV (.agg #[.int .i64 u, .int .i64 v]),
    IsV (.agg #[.int .i64 x, .int .i64 y]),
    IsV (.agg #[.int .i64 x, .int .i64 y]),
    IsV (.int .i64 c),
    IsV (.bool r),
    IsV (.bool r),
    IsV (.bool r)]
    [147, 148, 149, 150, 151, 152, 153, 154, 155, 156, 157, 14] (by kernel_rfl) (Gw.drew _) Gw.trans (by rw [hsz]; kernel_rfl) (by kernel_rfl) ?_ ?_ ?_
  · intro f hf
    simp only [List.mem_cons, List.not_mem_nil, or_false] at hf
    rcases hf with rfl | rfl | rfl | rfl | rfl | rfl | rfl | rfl | rfl | rfl | rfl | rfl <;> intro v a b h g <;> first | exact IsV.mono h
  · refine ⟨?_, ?_, ?_, ?_, ?_, ?_, ?_, ?_, ?_, ?_, ?_, ?_, trivial⟩
    · exact owes_mv 14 (by kernel_rfl) (by kernel_rfl) (by kernel_rfl) sl14 (fun _ => rfl)
    · exact owes_mvj 0 147 (by kernel_rfl) (by kernel_rfl) (by kernel_rfl) (by kernel_rfl) (by rw [hsz]; decide) (fun v w h => h)
    · refine owes_vt 1 false (Go.Op.move (Go.Operand.tmp 6)) 38 [] (by kernel_rfl) (by kernel_rfl) (by kernel_rfl) (fun _ _ h => h) (by rw [hsz]; kernel_rfl) (by kernel_rfl) rfl fun vals w1 ρ hG hF hρ hcst hfun => ?_
      have e6 : ρ (.tmp 6) = .slice (some ⟨q, 0, none⟩) N c6 := ((hρ 6).trans (slotO [] (by kernel_rfl))).trans sl6
      clear hρ hF hcst hfun sl3 sl6 sl14 sl15 fin
      exact opv_val (by go_simp <;> rfl) ⟨gw_self _, rfl⟩
    · refine owes_vt 1 false (Go.Op.move (Go.Operand.tmp 15)) 3 [] (by kernel_rfl) (by kernel_rfl) (by kernel_rfl) (fun _ _ h => h) (by rw [hsz]; kernel_rfl) (by kernel_rfl) rfl fun vals w1 ρ hG hF hρ hcst hfun => ?_
      have e15 : ρ (.tmp 15) = .int .i64 k := ((hρ 15).trans (slotO [] (by kernel_rfl))).trans sl15
      clear hρ hF hcst hfun sl3 sl6 sl14 sl15 fin
      exact opv_val (by go_simp <;> rfl) ⟨gw_self _, rfl⟩
    · refine owes_vt 1 false (Go.Op.indexAddr 38 (Go.Operand.tmp 149) (Go.Operand.tmp 150)) 0 [2, 3] (by kernel_rfl) (by kernel_rfl) (by kernel_rfl) (fun _ _ h => h) (by rw [hsz]; kernel_rfl) (by kernel_rfl) rfl fun vals w1 ρ hG hF hρ hcst hfun => ?_
      have e149 : ρ (.tmp 149) = .slice (some ⟨q, 0, none⟩) N c6 := ((hρ 149).trans (slotJ [2, 3] (by rw [hsz]; decide) (by kernel_rfl))).trans (hF 2 (by decide))
      have e150 : ρ (.tmp 150) = .int .i64 k := ((hρ 150).trans (slotJ [2, 3] (by rw [hsz]; decide) (by kernel_rfl))).trans (hF 3 (by decide))
      clear hρ hF hcst hfun sl3 sl6 sl14 sl15 fin
      exact opv_val (by go_simp <;> rfl) ⟨gw_self _, rfl⟩
    · refine owes_vt 1 false (Go.Op.load 27 (Go.Operand.tmp 151)) 27 [4] (by kernel_rfl) (by kernel_rfl) (by kernel_rfl) (fun _ _ h => h) (by rw [hsz]; kernel_rfl) (by kernel_rfl) rfl fun vals w1 ρ hG hF hρ hcst hfun => ?_
      have e151 : ρ (.tmp 151) = .pointer (some ⟨q, k * 2, none⟩) := ((hρ 151).trans (slotJ [4] (by rw [hsz]; decide) (by kernel_rfl))).trans (hF 4 (by decide))
      obtain ⟨j1, j2⟩ := And.intro ((hG.cell (p := ⟨q, k * 2, none⟩) hq).trans c1) ((hG.cell (p := ⟨q, k * 2 + 1, none⟩) hq).trans c2)
      clear hρ hF hcst hfun sl3 sl6 sl14 sl15 fin
      exact opv_val (by go_simp <;> rfl) ⟨gw_self _, rfl⟩
    · refine owes_vt 1 false (Go.Op.load 23 (Go.Operand.tmp 3)) 23 [] (by kernel_rfl) (by kernel_rfl) (by kernel_rfl) (fun _ _ h => h) (by rw [hsz]; kernel_rfl) (by kernel_rfl) rfl fun vals w1 ρ hG hF hρ hcst hfun => ?_
      have e3 : ρ (.tmp 3) = .pointer (some ⟨H, 0, none⟩) := ((hρ 3).trans (slotO [] (by kernel_rfl))).trans sl3
      obtain ⟨j1, j2⟩ := And.intro ((hG.cell (p := ⟨H, 0, none⟩) hx).trans d1) ((hG.cell (p := ⟨H, 1, none⟩) hx).trans d2)
      clear hρ hF hcst hfun sl3 sl6 sl14 sl15 fin
      exact opv_val (by go_simp <;> rfl) ⟨gw_self _, rfl⟩
    · refine owes_vt 1 false (Go.Op.call { callee := Go.Callee.value (Go.Operand.func 11), args := #[Go.Operand.tmp 153], argTypes := #[23] }) 27 [6] (by kernel_rfl) (by kernel_rfl) (by kernel_rfl) (fun _ _ h => h) (by rw [hsz]; kernel_rfl) (by kernel_rfl) rfl fun vals w1 ρ hG hF hρ hcst hfun => ?_
      have e153 : ρ (.tmp 153) = .agg #[.int .i64 x, .int .i64 y] := ((hρ 153).trans (slotJ [6] (by rw [hsz]; decide) (by kernel_rfl))).trans (hF 6 (by decide))
      clear hρ hF hcst sl3 sl6 sl14 sl15 fin
      exact opv_enter (by go_simp <;> rfl) (of_bel (HO.out w1))
    · refine owes_vt 1 false (Go.Op.call { callee := Go.Callee.value (Go.Operand.func 10), args := #[Go.Operand.tmp 152, Go.Operand.tmp 154], argTypes := #[27, 27] }) 3 [5, 7] (by kernel_rfl) (by kernel_rfl) (by kernel_rfl) (fun _ _ h => h) (by rw [hsz]; kernel_rfl) (by kernel_rfl) rfl fun vals w1 ρ hG hF hρ hcst hfun => ?_
      have e152 : ρ (.tmp 152) = .agg #[.int .i64 u, .int .i64 v] := ((hρ 152).trans (slotJ [5, 7] (by rw [hsz]; decide) (by kernel_rfl))).trans (hF 5 (by decide))
      have e154 : ρ (.tmp 154) = .agg #[.int .i64 x, .int .i64 y] := ((hρ 154).trans (slotJ [5, 7] (by rw [hsz]; decide) (by kernel_rfl))).trans (hF 7 (by decide))
      clear hρ hF hcst sl3 sl6 sl14 sl15 fin
      exact opv_enter (by go_simp <;> rfl) (of_bel (HC.out w1))
    · refine owes_vt 1 false (Go.Op.binOp Go.BinOp.eql 3 (Go.Operand.tmp 155) (Go.Operand.const (Go.Value.int Go.IntKind.i64 0)) 3) 4 [8] (by kernel_rfl) (by kernel_rfl) (by kernel_rfl) (fun _ _ h => h) (by rw [hsz]; kernel_rfl) (by kernel_rfl) rfl fun vals w1 ρ hG hF hρ hcst hfun => ?_
      have e155 : ρ (.tmp 155) = .int .i64 c := ((hρ 155).trans (slotJ [8] (by rw [hsz]; decide) (by kernel_rfl))).trans (hF 8 (by decide))
      clear hρ hF hfun sl3 sl6 sl14 sl15 fin
      exact opv_val (by go_simp <;> rfl) ⟨gw_self _, rfl⟩
    · refine owes_v (Go.Op.pick (Go.Operand.tmp 148) (Go.Operand.const (Go.Value.bool true)) (Go.Operand.tmp 156)) 4 [1, 9] (by kernel_rfl) (by kernel_rfl) (by kernel_rfl) rfl fun vals w1 ρ hG hF hρ hcst hfun => ?_
      have e148 : ρ (.tmp 148) = .bool false := ((hρ 148).trans (slotJ [1, 9] (by rw [hsz]; decide) (by kernel_rfl))).trans (hF 1 (by decide))
      have e156 : ρ (.tmp 156) = .bool r := ((hρ 156).trans (slotJ [1, 9] (by rw [hsz]; decide) (by kernel_rfl))).trans (hF 9 (by decide))
      clear hρ hF hfun sl3 sl6 sl14 sl15 fin
      exact opv_val (by go_simp <;> rfl) ⟨gw_self _, rfl⟩
    · exact owes_mvj 10 157 (by kernel_rfl) (by kernel_rfl) (by kernel_rfl) (by kernel_rfl) (by rw [hsz]; decide) (fun v w h => h)
  · intro vals w1 hG hF
    exact fin vals w1 hG (hF 11 (by decide +kernel))
end Go.Proofs.Ytgddehhigamkkaa
