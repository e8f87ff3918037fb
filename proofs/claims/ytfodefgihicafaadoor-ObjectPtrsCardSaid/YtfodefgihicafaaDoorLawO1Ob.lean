/- The law ObjectPtrs of layer 16 returns true for every argument. Conditions: the listed tables. -/
import Derived.Test.YtfodefgihicafaaDoorOb1
namespace Go.Proofs.YtfodefgihicafaaDoor
set_option linter.unusedVariables false
set_option linter.unusedSimpArgs false
open Go.RowKit Go.Maps
theorem rem_nat (x : Int) (m : Nat) (hm : 0 < m) (h : (Lit.int .u8 x).wf = true) : ∃ n : Nat, n < m ∧ x % (m : Int) = (n : Int) ∧ x.tmod (m : Int) = (n : Int) := by
  obtain ⟨h0, _⟩ : 0 ≤ x ∧ x ≤ 255 := by
    rw [wfu8 h]
    exact ⟨U8_lo _, by have := U8_hi (BitVec.ofInt 8 x); omega⟩
  obtain ⟨k, rfl⟩ : ∃ k : Nat, x = (k : Int) := ⟨x.toNat, by omega⟩
  refine ⟨k % m, Nat.mod_lt _ hm, rfl, rfl⟩
def zV (z : Int) : Value := .int .i64 z
theorem Ow.two {w w' : World} {base q n c s : Nat} {row : Option Nat} {xs : List Int} (h : Ow zV 3 w base (.slice (some ⟨q, 0, none⟩) n c) xs) (t : Two w w' s row) (h1 : q ≠ s) (h2 : some q ≠ row) : Ow zV 3 w' base (.slice (some ⟨q, 0, none⟩) n c) xs := by
  obtain ⟨e1, e2⟩ := h
  refine ⟨e1, ?_⟩
  rcases e2 with e2 | ⟨g, cap, cur, e, hg, hh, r⟩
  · exact .inl e2
  · refine .inr ⟨g, cap, cur, e, hg, ?_, r⟩
    have e3 : q = g := by injection e with e; injection e with e; injection e
    subst e3
    rw [t.block q (Array.getElem?_eq_some_iff.1 hh).1 h1 h2]
    exact hh
theorem fill_step (N k : Nat) (h : k < N) : (List.replicate k (-1 : Int) ++ List.replicate (N - k) 0).set k (-1) = List.replicate (k + 1) (-1) ++ List.replicate (N - (k + 1)) 0 := by
  have e : List.replicate (N - k) (0 : Int) = 0 :: List.replicate (N - (k + 1)) 0 := by rw [← List.replicate_succ]; congr 1; omega
  rw [e, List.set_append_right _ _ (by simp), List.length_replicate, Nat.sub_self, List.set_cons_zero, List.replicate_succ', List.append_assoc]
  rfl
/-- The space, the words, the row of what is wanted. -/
structure PkS (W : World) (C s g N q D : Nat) (v : Value) (L R : List Int) : Prop where
  sp : ∃ ws, SpAt W C s g v ws 0 (N + 4) 400 ∧ PtW ws N L
  row : Ow zV 3 W D (.slice (some ⟨q, 0, none⟩) N N) R
  sD : s < D
  gD : g < D
  vD : ∀ k, v.ownBlock = some k → k < D
section
variable {W W' : World} {C s g N q D : Nat} {v : Value} {L R : List Int}
theorem PkS.qD (h : PkS W C s g N q D v L R) : D ≤ q ∧ q < W.heap.size := h.row.ge
theorem PkS.below (h : PkS W C s g N q D v L R) (hb : Below W.heap.size W W') : PkS W' C s g N q D v L R := by
  obtain ⟨ws, h1, h2⟩ := h.sp
  exact ⟨⟨ws, h1.below hb, h2⟩, h.row.below hb, h.sD, h.gD, h.vD⟩
theorem PkS.store (h : PkS W C s g N q D v L R) {j : Nat} (hj : j < R.length) (y : Int) : PkS (W.setCell ⟨q, j, none⟩ (zV y)) C s g N q D v L (R.set j y) := by
  obtain ⟨ws, h1, h2⟩ := h.sp
  have hq := h.qD
  have h3 := h.gD
  have h4 := h.sD
  refine ⟨⟨ws, ⟨h1.mem.grown (grown_set W ⟨q, j, none⟩ (zV y)) (fun e => by injection e with e; have e : g = q := e; omega) (.inr (fun e => by have := h.vD q e; omega)), h1.blk.far (show s ≠ q by omega) _, h1.sg, h1.sv, h1.hs, h1.bt, h1.te, h1.el⟩, h2⟩, h.row.set hj y, h.sD, h.gD, h.vD⟩
theorem PkS.cell (h : PkS W C s g N q D v L R) {j : Nat} (hj : j < R.length) : W.cell? ⟨q, j, none⟩ = some (.int .i64 R[j]) ∧ W.frozen? ⟨q, j, none⟩ = false := ⟨h.row.cell hj, h.row.free j⟩
theorem PkS.set (h : PkS W C s g N q D v L R) {k : Nat} (hk : k < N) (m : Int) (hm : m = 0 ∨ m = (N : Int) + 2 ∨ m = -1) : Calls Tryd.prog 11 #[.pointer (some ⟨s, 0, none⟩), .int .i64 0, .int .i64 k, .int .i64 m] W fun r w' => r = .returned (.int .i64 0) ∧ PkS w' C s g N q D v (L.set k m) R ∧ Below C W w' := by
  obtain ⟨ws, h1, h2⟩ := h.sp
  have hq := h.qD
  have h4 := h.sD
  refine (pk_set h2 h1 hk m hm).mono ?_
  rintro r w' ⟨e1, e2, e3, e4⟩
  exact ⟨e1, ⟨e2, h.row.two e3 (by omega) (fun e => by have := h.vD q e.symm; omega), h.sD, h.gD, h.vD⟩, e4⟩
end
set_option maxHeartbeats 4000000
set_option maxRecDepth 100000
theorem pt33_r (Q : Exit → Act → World → Prop) (a0 : Act) (w : World) (s : Nat) (A : Option Addr) (c : Nat) (hw : Hid (∀ W, Below w.heap.size w W → Calls Tryd.prog 18 #[.pointer (some ⟨s, 0, none⟩)] W (RetP (.int .i64 0) W))) (hr : Hid (Rd b8 w w.heap.size A (List.replicate 8 0#8))) (hsz : a0.tmps.size = 153) (sl8 : a0.tmps.getD 8 undef = .pointer (some ⟨s, 0, none⟩)) (sl22 : a0.tmps.getD 22 undef = .slice A 8 c) (sl23 : a0.tmps.getD 23 undef = .int .i64 0) (sl24 : a0.tmps.getD 24 undef = .int .i64 (-1)) (sl25 : a0.tmps.getD 25 undef = .int .i64 0)
    (fin : ∀ (vals : Nat → Value) (w1 : World), Below w.heap.size w w1 → (IsV (.bool true)) (vals 20) w1 → Q .normal (putD vals [133, 134, 135, 136, 137, 138, 139, 140, 141, 142, 143, 144, 145, 146, 147, 148, 149, 150, 151, 152, 4] 0 a0) w1) :
    (Code.region 33 (regIn Tryd.f6 33) true).wp Tryd.prog Q a0 w := by
  refine region_by (G := fun w w1 => Below w.heap.size w w1) [IsV (.int .i64 0),
    IsV (.int .i64 0),
    IsV (.int .i64 0),
    IsV (.bool true),
    IsV (.bool true),
    IsV (.slice A 8 c),
    IsV (.string (strB (List.replicate 8 0#8))),
    SlV b8 (List.replicate 8 0#8),
    IsV (.string (strB (List.replicate 8 0#8))),
    IsV (.bool true),
    IsV (.bool true),
    IsV (.bool true),
    IsV (.int .i64 (-1)),
    IsV (.bool true),
    IsV (.bool true),
    IsV (.bool true),
    IsV (.pointer (some ⟨s, 0, none⟩)),
    IsV (.int .i64 0),
    IsV (.bool true),
    IsV (.bool true),
    IsV (.bool true)]
    [133, 134, 135, 136, 137, 138, 139, 140, 141, 142, 143, 144, 145, 146, 147, 148, 149, 150, 151, 152, 4] (by kernel_rfl) (Gw.drew _) Gw.trans (by rw [hsz]; kernel_rfl) (by kernel_rfl) ?_ ?_ ?_
  · intro f hf
    simp only [List.mem_cons, List.not_mem_nil, or_false] at hf
    rcases hf with rfl | rfl | rfl | rfl | rfl | rfl | rfl | rfl | rfl | rfl | rfl | rfl | rfl | rfl | rfl | rfl | rfl | rfl | rfl | rfl | rfl <;> intro v a b h g <;> first | exact IsV.mono h | exact SlV.mono h g
  · refine ⟨?_, ?_, ?_, ?_, ?_, ?_, ?_, ?_, ?_, ?_, ?_, ?_, ?_, ?_, ?_, ?_, ?_, ?_, ?_, ?_, ?_, trivial⟩
    · exact owes_mv 23 (by kernel_rfl) (by kernel_rfl) (by kernel_rfl) sl23 (fun _ => rfl)
    · exact owes_mv 25 (by kernel_rfl) (by kernel_rfl) (by kernel_rfl) sl25 (fun _ => rfl)
    · refine owes_v (Go.Op.binOp Go.BinOp.add 3 (Go.Operand.tmp 133) (Go.Operand.tmp 134) 3) 3 [0, 1] (by kernel_rfl) (by kernel_rfl) (by kernel_rfl) rfl fun vals w1 ρ hG hF hρ hcst hfun => ?_
      have e133 : ρ (.tmp 133) = .int .i64 0 := ((hρ 133).trans (slotJ [0, 1] (by rw [hsz]; decide) (by kernel_rfl))).trans (hF 0 (by decide))
      have e134 : ρ (.tmp 134) = .int .i64 0 := ((hρ 134).trans (slotJ [0, 1] (by rw [hsz]; decide) (by kernel_rfl))).trans (hF 1 (by decide))
      clear hρ hF hcst hfun sl8 sl22 sl23 sl24 sl25 fin
      exact opv_val (by go_simp <;> rfl) ⟨gw_self _, rfl⟩
    · refine owes_v (Go.Op.binOp Go.BinOp.eql 3 (Go.Operand.tmp 135) (Go.Operand.const (Go.Value.int Go.IntKind.i64 0)) 3) 4 [2] (by kernel_rfl) (by kernel_rfl) (by kernel_rfl) rfl fun vals w1 ρ hG hF hρ hcst hfun => ?_
      have e135 : ρ (.tmp 135) = .int .i64 0 := ((hρ 135).trans (slotJ [2] (by rw [hsz]; decide) (by kernel_rfl))).trans (hF 2 (by decide))
      clear hρ hF hfun sl8 sl22 sl23 sl24 sl25 fin
      exact opv_val (by go_simp <;> rfl) ⟨gw_self _, rfl⟩
    · exact owes_mvj 3 136 (by kernel_rfl) (by kernel_rfl) (by kernel_rfl) (by kernel_rfl) (by rw [hsz]; decide) (fun v w h => h)
    · refine owes_vt 4 true (Go.Op.move (Go.Operand.tmp 22)) 30 [] (by kernel_rfl) (by kernel_rfl) (by kernel_rfl) (fun _ _ h => h) (by rw [hsz]; kernel_rfl) (by kernel_rfl) rfl fun vals w1 ρ hG hF hρ hcst hfun => ?_
      have e22 : ρ (.tmp 22) = .slice A 8 c := ((hρ 22).trans (slotO [] (by kernel_rfl))).trans sl22
      clear hρ hF hcst hfun sl8 sl22 sl23 sl24 sl25 fin
      exact opv_val (by go_simp <;> rfl) ⟨gw_self _, rfl⟩
    · refine owes_vt 4 true (Go.Op.convert 30 9 (Go.Operand.tmp 138)) 9 [5] (by kernel_rfl) (by kernel_rfl) (by kernel_rfl) (fun _ _ h => h) (by rw [hsz]; kernel_rfl) (by kernel_rfl) rfl fun vals w1 ρ hG hF hρ hcst hfun => ?_
      have e138 : ρ (.tmp 138) = .slice A 8 c := ((hρ 138).trans (slotJ [5] (by rw [hsz]; decide) (by kernel_rfl))).trans (hF 5 (by decide))
      have k : (convert 30 9 (.slice A 8 c)).run Tryd.prog w1 = .ok (.string (strB (List.replicate 8 0#8))) w1 := str_conv (List.replicate 8 0#8) A c _ w1 (hr.out.below hG)
      clear hρ hF hcst hfun sl8 sl22 sl23 sl24 sl25 fin
      exact opv_val (by go_simp <;> rfl) ⟨gw_self _, rfl⟩
    · refine owes_vt 4 true (Go.Op.makeSlice 30 (Go.Operand.const (Go.Value.int Go.IntKind.i64 8)) (Go.Operand.const (Go.Value.int Go.IntKind.i64 8))) 30 [] (by kernel_rfl) (by kernel_rfl) (by kernel_rfl) (fun _ _ h => h) (by rw [hsz]; kernel_rfl) (by kernel_rfl) rfl fun vals w1 ρ hG hF hρ hcst hfun => ?_
      clear hρ hF hfun sl8 sl22 sl23 sl24 sl25 fin
      refine opv_make (f := b8) one8 0#8 rfl (n := 8) (hcst _) (by decide) (by decide) fun w2 ho hb => ⟨hb, _, _, rfl, by decide, ho.rd⟩
    · refine owes_vt 4 true (Go.Op.convert 30 9 (Go.Operand.tmp 140)) 9 [7] (by kernel_rfl) (by kernel_rfl) (by kernel_rfl) (fun _ _ h => h) (by rw [hsz]; kernel_rfl) (by kernel_rfl) rfl fun vals w1 ρ hG hF hρ hcst hfun => ?_
      have f140 : (SlV b8 (List.replicate 8 0#8)) (vals 7) w1 := hF 7 (by decide)
      have e140 : ρ (.tmp 140) = vals 7 := (hρ 140).trans (slotJ [7] (by rw [hsz]; decide) (by kernel_rfl))
      have k := conv_sl f140
      clear hρ hF hcst hfun sl8 sl22 sl23 sl24 sl25 fin
      exact opv_val (by go_simp <;> rfl) ⟨gw_self _, rfl⟩
    · refine owes_vt 4 true (Go.Op.binOp Go.BinOp.eql 9 (Go.Operand.tmp 139) (Go.Operand.tmp 141) 9) 4 [6, 8] (by kernel_rfl) (by kernel_rfl) (by kernel_rfl) (fun _ _ h => h) (by rw [hsz]; kernel_rfl) (by kernel_rfl) rfl fun vals w1 ρ hG hF hρ hcst hfun => ?_
      have e139 : ρ (.tmp 139) = .string (strB (List.replicate 8 0#8)) := ((hρ 139).trans (slotJ [6, 8] (by rw [hsz]; decide) (by kernel_rfl))).trans (hF 6 (by decide))
      have e141 : ρ (.tmp 141) = .string (strB (List.replicate 8 0#8)) := ((hρ 141).trans (slotJ [6, 8] (by rw [hsz]; decide) (by kernel_rfl))).trans (hF 8 (by decide))
      clear hρ hF hcst hfun sl8 sl22 sl23 sl24 sl25 fin
      exact opv_val (by go_simp <;> rfl) ⟨gw_self _, rfl⟩
    · refine owes_v (Go.Op.pick (Go.Operand.tmp 137) (Go.Operand.tmp 142) (Go.Operand.const (Go.Value.bool false))) 4 [4, 9] (by kernel_rfl) (by kernel_rfl) (by kernel_rfl) rfl fun vals w1 ρ hG hF hρ hcst hfun => ?_
      have e137 : ρ (.tmp 137) = .bool true := ((hρ 137).trans (slotJ [4, 9] (by rw [hsz]; decide) (by kernel_rfl))).trans (hF 4 (by decide))
      have e142 : ρ (.tmp 142) = .bool true := ((hρ 142).trans (slotJ [4, 9] (by rw [hsz]; decide) (by kernel_rfl))).trans (hF 9 (by decide))
      clear hρ hF hfun sl8 sl22 sl23 sl24 sl25 fin
      exact opv_val (by go_simp <;> rfl) ⟨gw_self _, rfl⟩
    · exact owes_mvj 10 143 (by kernel_rfl) (by kernel_rfl) (by kernel_rfl) (by kernel_rfl) (by rw [hsz]; decide) (fun v w h => h)
    · refine owes_vt 11 true (Go.Op.move (Go.Operand.tmp 24)) 3 [] (by kernel_rfl) (by kernel_rfl) (by kernel_rfl) (fun _ _ h => h) (by rw [hsz]; kernel_rfl) (by kernel_rfl) rfl fun vals w1 ρ hG hF hρ hcst hfun => ?_
      have e24 : ρ (.tmp 24) = .int .i64 (-1) := ((hρ 24).trans (slotO [] (by kernel_rfl))).trans sl24
      clear hρ hF hcst hfun sl8 sl22 sl23 sl24 sl25 fin
      exact opv_val (by go_simp <;> rfl) ⟨gw_self _, rfl⟩
    · refine owes_vt 11 true (Go.Op.binOp Go.BinOp.eql 3 (Go.Operand.tmp 145) (Go.Operand.const (Go.Value.int Go.IntKind.i64 (-1))) 3) 4 [12] (by kernel_rfl) (by kernel_rfl) (by kernel_rfl) (fun _ _ h => h) (by rw [hsz]; kernel_rfl) (by kernel_rfl) rfl fun vals w1 ρ hG hF hρ hcst hfun => ?_
      have e145 : ρ (.tmp 145) = .int .i64 (-1) := ((hρ 145).trans (slotJ [12] (by rw [hsz]; decide) (by kernel_rfl))).trans (hF 12 (by decide))
      clear hρ hF hfun sl8 sl22 sl23 sl24 sl25 fin
      exact opv_val (by go_simp <;> rfl) ⟨gw_self _, rfl⟩
    · refine owes_v (Go.Op.pick (Go.Operand.tmp 144) (Go.Operand.tmp 146) (Go.Operand.const (Go.Value.bool false))) 4 [11, 13] (by kernel_rfl) (by kernel_rfl) (by kernel_rfl) rfl fun vals w1 ρ hG hF hρ hcst hfun => ?_
      have e144 : ρ (.tmp 144) = .bool true := ((hρ 144).trans (slotJ [11, 13] (by rw [hsz]; decide) (by kernel_rfl))).trans (hF 11 (by decide))
      have e146 : ρ (.tmp 146) = .bool true := ((hρ 146).trans (slotJ [11, 13] (by rw [hsz]; decide) (by kernel_rfl))).trans (hF 13 (by decide))
      clear hρ hF hfun sl8 sl22 sl23 sl24 sl25 fin
      exact opv_val (by go_simp <;> rfl) ⟨gw_self _, rfl⟩
    · exact owes_mvj 14 147 (by kernel_rfl) (by kernel_rfl) (by kernel_rfl) (by kernel_rfl) (by rw [hsz]; decide) (fun v w h => h)
    · refine owes_vt 15 true (Go.Op.move (Go.Operand.tmp 8)) 25 [] (by kernel_rfl) (by kernel_rfl) (by kernel_rfl) (fun _ _ h => h) (by rw [hsz]; kernel_rfl) (by kernel_rfl) rfl fun vals w1 ρ hG hF hρ hcst hfun => ?_
      have e8 : ρ (.tmp 8) = .pointer (some ⟨s, 0, none⟩) := ((hρ 8).trans (slotO [] (by kernel_rfl))).trans sl8
      clear hρ hF hcst hfun sl8 sl22 sl23 sl24 sl25 fin
      exact opv_val (by go_simp <;> rfl) ⟨gw_self _, rfl⟩
    · refine owes_vt 15 true (Go.Op.call { callee := Go.Callee.value (Go.Operand.func 18), args := #[Go.Operand.tmp 149], argTypes := #[25] }) 33 [16] (by kernel_rfl) (by kernel_rfl) (by kernel_rfl) (fun _ _ h => h) (by rw [hsz]; kernel_rfl) (by kernel_rfl) rfl fun vals w1 ρ hG hF hρ hcst hfun => ?_
      have e149 : ρ (.tmp 149) = .pointer (some ⟨s, 0, none⟩) := ((hρ 149).trans (slotJ [16] (by rw [hsz]; decide) (by kernel_rfl))).trans (hF 16 (by decide))
      clear hρ hF hcst sl8 sl22 sl23 sl24 sl25 fin
      exact opv_enter (by go_simp <;> rfl) (of_ret (hw.out w1 hG))
    · refine owes_vt 15 true (Go.Op.binOp Go.BinOp.eql 3 (Go.Operand.tmp 150) (Go.Operand.const (Go.Value.int Go.IntKind.i64 0)) 3) 4 [17] (by kernel_rfl) (by kernel_rfl) (by kernel_rfl) (fun _ _ h => h) (by rw [hsz]; kernel_rfl) (by kernel_rfl) rfl fun vals w1 ρ hG hF hρ hcst hfun => ?_
      have e150 : ρ (.tmp 150) = .int .i64 0 := ((hρ 150).trans (slotJ [17] (by rw [hsz]; decide) (by kernel_rfl))).trans (hF 17 (by decide))
      clear hρ hF hfun sl8 sl22 sl23 sl24 sl25 fin
      exact opv_val (by go_simp <;> rfl) ⟨gw_self _, rfl⟩
    · refine owes_v (Go.Op.pick (Go.Operand.tmp 148) (Go.Operand.tmp 151) (Go.Operand.const (Go.Value.bool false))) 4 [15, 18] (by kernel_rfl) (by kernel_rfl) (by kernel_rfl) rfl fun vals w1 ρ hG hF hρ hcst hfun => ?_
      have e148 : ρ (.tmp 148) = .bool true := ((hρ 148).trans (slotJ [15, 18] (by rw [hsz]; decide) (by kernel_rfl))).trans (hF 15 (by decide))
      have e151 : ρ (.tmp 151) = .bool true := ((hρ 151).trans (slotJ [15, 18] (by rw [hsz]; decide) (by kernel_rfl))).trans (hF 18 (by decide))
      clear hρ hF hfun sl8 sl22 sl23 sl24 sl25 fin
      exact opv_val (by go_simp <;> rfl) ⟨gw_self _, rfl⟩
    · exact owes_mvj 19 152 (by kernel_rfl) (by kernel_rfl) (by kernel_rfl) (by kernel_rfl) (by rw [hsz]; decide) (fun v w h => h)
  · intro vals w1 hG hF
    exact fin vals w1 hG (hF 20 (by decide +kernel))
theorem optrs_walk (w : World) (ht : w.cell? ⟨2, 15, none⟩ = some (.int .u8 4)) (p : Int) (wp : (Lit.int .u8 p).wf = true) (A : Option Addr) (bs : List (BitVec 8)) (c : Nat) (hc : bs.length ≤ c) (hm : c ≤ maxLen) (hr : Rd b8 w w.heap.size A bs) :
    Calls Tryd.prog 6 #[.int .u8 p, .slice A bs.length c] w (RetP (.bool true) w) := by
  obtain ⟨P, hP, _, p2⟩ := rem_nat p 64 (by decide) wp
  have p3 : p.tmod 64 = (P : Int) := p2
  have p4 : (P : Int) < 64 := by omega
  obtain ⟨N, hN⟩ : ∃ N : Nat, N = P + 1 := ⟨_, rfl⟩
  have p5 : 1 + (P : Int) = (N : Int) := by omega
  have p6 : (1 : Int) ≤ (N : Int) := by omega
  have p7 : (N : Int) ≤ 64 := by omega
  obtain ⟨M, hM⟩ : ∃ M : Nat, M = N + 2 := ⟨_, rfl⟩
  obtain ⟨K, hK⟩ : ∃ K, K = bs.length := ⟨_, rfl⟩
  rw [← hK]
  have HT := Lib.hid ht
  have HR := Lib.hid hr
  have HK := Lib.hid hK
  have HN := Lib.hid (show 1 ≤ N ∧ N ≤ 64 ∧ M = N + 2 ∧ N = P + 1 from ⟨by omega, by omega, hM, hN⟩)
  clear ht hr hK hc hm wp hP hN hM p2
  by_cases cx : (60 : Int) < (K : Int)
  · go_enter Tryd.func6, Tryd.ntmps6
    go_wp2_with fail
    refine Calls.mono (known16_c w HT.out) ?_
    rintro r w1 ⟨rfl, b1⟩
    have H1 := Lib.hid b1
    clear b1 HT
    go_wp2_with fail
    go_ret
    exact ⟨rfl, H1.out⟩
  have cx2 : (K : Int) ≤ 60 := by omega
  clear cx
  go_enter Tryd.func6, Tryd.ntmps6
  go_wp2_with fail
  refine Calls.mono (known16_c w HT.out) ?_
  rintro r w1 ⟨rfl, b1⟩
  have H1 := Lib.hid b1
  clear b1 HT
  go_wp2_with fail
  refine Calls.mono (new_in w1 400 (by decide)) ?_
  rintro r w2 ⟨g, v, rfl, h2, b2⟩
  have HB2 := Lib.hid (H1.out.trans (b2.mono H1.out.size))
  clear b2
  go_wp2_with fail
  refine Calls.mono (snew_in _ _ _ _ _ 0 400 h2 (by decide) (by rw [List.length_replicate]; decide) (by rw [List.length_replicate]; decide)) ?_
  rintro r w3 ⟨s, rfl, h3, b3⟩
  have HB3 := Lib.hid (HB2.out.trans (b3.mono HB2.out.size))
  have H3 := Lib.hid h3
  clear b3 h2 h3 HB2
  go_wp2_with fail
  refine Calls.mono (pa_a H3.out HN.out.1 HN.out.2.1) ?_
  rintro r w4 ⟨rfl, h4, b4⟩
  have HB4 := Lib.hid (HB3.out.trans (b4.mono H1.out.size))
  have H4 := Lib.hid h4
  clear b4 h4 H3 HB3
  go_wp2_with fail
  refine Calls.mono (pa_b H4.out HN.out.1 HN.out.2.1 HN.out.2.2.1) ?_
  rintro r w5 ⟨rfl, h5, b5⟩
  have HB5 := Lib.hid (HB4.out.trans (b5.mono H1.out.size))
  have H5 := Lib.hid h5
  clear b5 h5 H4 HB4
  go_wp2_with (at_make; refine wp_make (f := zV) oneI rfl _ _ rfl 0 rfl w5.heap.size N _ _ _ _ rfl rfl rfl rfl (by have := HN.out.2.1; omega) (by decide) (Nat.le_refl _) ?_; rintro q w6 hq ho6 hb6 _; have H6 := Lib.hid (And.intro ho6 hb6); clear hq ho6 hb6)
  obtain ⟨D, hD⟩ : ∃ D, D = w5.heap.size := ⟨_, rfl⟩
  obtain ⟨C, hC⟩ : ∃ C, C = w1.heap.size := ⟨_, rfl⟩
  have H7 := Lib.hid (show PkS w6 C s g N q D v (List.replicate N (-1)) (List.replicate N 0) ∧ Below w.heap.size w w6 from by
    obtain ⟨ws, e1, e2⟩ := H5.out
    rw [hD, hC]
    exact ⟨⟨⟨ws, e1.below H6.out.2, e2⟩, H6.out.1, e1.blk.lt, e1.mem.blk.lt, fun k e => (e1.mem.row.lt k e).2⟩, HB5.out.trans (H6.out.2.mono HB5.out.size)⟩)
  have HC := Lib.hid (show w.heap.size ≤ C ∧ w.heap.size ≤ D from ⟨by rw [hC]; exact H1.out.size, by rw [hD]; exact HB5.out.size⟩)
  clear hD hC H6 H5 HB5 H1
  go_loopw [15] (fun i W => ∃ k : Nat, i = .int .i64 k ∧ k ≤ N ∧ Hid (PkS W C s g N q D v (List.replicate N (-1)) (List.replicate k (-1) ++ List.replicate (N - k) 0) ∧ Below w.heap.size w W)) (fun i _ => N - (Go.RowKit.intOf i).toNat)
  case atStart => exact ⟨0, rfl, Nat.zero_le _, Lib.hid (by simpa using H7.out)⟩
  case round =>
    obtain ⟨k, rfl, hk, hS⟩ := hrel
    by_cases hlt : k < N
    · have p8 : (0 : Int) ≤ (k : Int) := by omega
      have p9 : (k : Int) < (N : Int) := by omega
      have hkl : k < (List.replicate k (-1 : Int) ++ List.replicate (N - k) 0).length := by simp; omega
      obtain ⟨y, hy⟩ : ∃ y, y = (List.replicate k (-1 : Int) ++ List.replicate (N - k) 0)[k] := ⟨_, rfl⟩
      obtain ⟨c0, f0⟩ := hS.out.1.cell hkl
      rw [← hy] at c0
      have HX := Lib.hid (show PkS (wr.setCell ⟨q, k, none⟩ (.int .i64 (-1))) C s g N q D v (List.replicate N (-1)) (List.replicate (k + 1) (-1) ++ List.replicate (N - (k + 1)) 0) ∧ Below w.heap.size w (wr.setCell ⟨q, k, none⟩ (.int .i64 (-1))) from by
        have h1 := hS.out.1.store hkl (-1)
        rw [fill_step N k hlt] at h1
        exact ⟨h1, hS.out.2.setCell (show w.heap.size ≤ q from Nat.le_trans HC.out.2 hS.out.1.qD.1) _⟩)
      clear hy hkl hS
      go_wp2_with fail
      clear c0 f0
      go_roundw
      case rel => first | exact ⟨k + 1, by go_num, by omega, HX⟩ | exact ⟨_, ⟨k + 1, by go_num, by omega, HX⟩, rfl⟩
      case measure => simp [Go.RowKit.intOf]; omega
    · have hkN : k = N := by omega
      have H8 := Lib.hid (show PkS wr C s g N q D v (List.replicate N (-1)) (List.replicate N (-1)) ∧ Below w.heap.size w wr from by
        have := hS.out
        rw [hkN, Nat.sub_self] at this
        simpa using this)
      have hNk : N = k := hkN.symm
      clear hS hkN hlt hk
      subst hNk
      obtain ⟨w8, hw8⟩ : ∃ w8, w8 = wr := ⟨_, rfl⟩
      rw [← hw8] at H8 ⊢
      clear hw8
      go_wp2_with fail
      go_loopw [16] (fun i W => ∃ k : Nat, i = .int .i64 k ∧ k ≤ K ∧ Hid (∃ L, PkS W C s g N q D v L L ∧ Below w.heap.size w W)) (fun i _ => K - (Go.RowKit.intOf i).toNat)
      case atStart => exact ⟨0, rfl, Nat.zero_le _, Lib.hid ⟨_, H8.out⟩⟩
      case round =>
        obtain ⟨k, rfl, hk, hS⟩ := hrel
        by_cases hlt : k < K
        · have q1 : (0 : Int) ≤ (k : Int) := by omega
          have q2 : (k : Int) < (K : Int) := by omega
          obtain ⟨L, hP, hBw⟩ := hS.out
          have hLl : L.length = N := by obtain ⟨ws, _, e⟩ := hP.sp; exact e.llen
          have hkl : k < bs.length := by rw [← HK.out]; exact hlt
          obtain ⟨x, hx⟩ : ∃ x, x = U8 bs[k] := ⟨_, rfl⟩
          obtain ⟨ad, rfl, hcell⟩ : ∃ ad, A = some ad ∧ wr.cell? (ad.add k) = some (.int .u8 x) := by
            obtain ⟨ad, e, _, hc⟩ := (HR.out.below hBw) k hkl
            exact ⟨ad, e, by rw [hx]; exact hc⟩
          obtain ⟨x0, x1⟩ : 0 ≤ x ∧ x ≤ 255 := by rw [hx]; exact ⟨U8_lo _, by have := U8_hi bs[k]; omega⟩
          obtain ⟨r, hr, hrN⟩ : ∃ r : Nat, x.tmod (N : Int) = (r : Int) ∧ r < N := by
            obtain ⟨z, rfl⟩ : ∃ z : Nat, x = (z : Int) := ⟨x.toNat, by omega⟩
            exact ⟨z % N, rfl, Nat.mod_lt _ (by have := HN.out.1; omega)⟩
          have HP := Lib.hid (show PkS wr C s g N q D v L L ∧ Below w.heap.size w wr ∧ L.length = N ∧ r < N from ⟨hP, hBw, hLl, hrN⟩)
          have q3 : (0 : Int) ≤ (r : Int) := by omega
          have q4 : (r : Int) < (N : Int) := by omega
          have hm3 : (k : Int).tmod 3 = 0 ∨ (k : Int).tmod 3 = 1 ∨ (k : Int).tmod 3 = 2 := by
            rw [show (k : Int).tmod 3 = ((k % 3 : Nat) : Int) from rfl]; omega
          clear hP hBw hLl hkl hx hS hrN
          rcases hm3 with hm3 | hm3 | hm3
          · go_wp2_with fail
            refine Calls.mono ((HP.out.1.below (Gw.alloc wr _)).set HP.out.2.2.2 (0) (.inl rfl)) ?_
            rintro e w10 ⟨rfl, h10, b10⟩
            obtain ⟨c0, f0⟩ := h10.cell (j := r) (by rw [HP.out.2.2.1]; exact HP.out.2.2.2)
            obtain ⟨y, hy⟩ : ∃ y, y = L[r]'(by rw [HP.out.2.2.1]; exact HP.out.2.2.2) := ⟨_, rfl⟩
            rw [← hy] at c0
            have HX := Lib.hid (show ∃ L, PkS (w10.setCell ⟨q, r, none⟩ (.int .i64 (0))) C s g N q D v L L ∧ Below w.heap.size w (w10.setCell ⟨q, r, none⟩ (.int .i64 (0))) from
              ⟨_, h10.store (by rw [HP.out.2.2.1]; exact HP.out.2.2.2) (0), ((HP.out.2.1.trans ((Gw.alloc wr _).mono HP.out.2.1.size)).trans (b10.mono HC.out.1)).setCell (show w.heap.size ≤ q from Nat.le_trans HC.out.2 h10.qD.1) _⟩)
            clear h10 b10 hy hcell
            go_wp2_with fail
            clear c0 f0
            go_roundw
            case rel => first | exact ⟨k + 1, by go_num, by omega, HX⟩ | ((repeat apply Exists.intro); refine ⟨?_, rfl⟩; exact ⟨k + 1, by go_num, by omega, HX⟩)
            case measure => simp [Go.RowKit.intOf]; omega
          · have hm_ : (M : Int) = 0 ∨ (M : Int) = (N : Int) + 2 ∨ (M : Int) = -1 := .inr (.inl (by have := HN.out.2.2.1; omega))
            have HM := Lib.hid hm_
            clear hm_
            go_wp2_with fail
            refine Calls.mono ((HP.out.1.below (Gw.alloc wr _)).set HP.out.2.2.2 ((M : Int)) HM.out) ?_
            rintro e w10 ⟨rfl, h10, b10⟩
            obtain ⟨c0, f0⟩ := h10.cell (j := r) (by rw [HP.out.2.2.1]; exact HP.out.2.2.2)
            obtain ⟨y, hy⟩ : ∃ y, y = L[r]'(by rw [HP.out.2.2.1]; exact HP.out.2.2.2) := ⟨_, rfl⟩
            rw [← hy] at c0
            have HX := Lib.hid (show ∃ L, PkS (w10.setCell ⟨q, r, none⟩ (.int .i64 ((M : Int)))) C s g N q D v L L ∧ Below w.heap.size w (w10.setCell ⟨q, r, none⟩ (.int .i64 ((M : Int)))) from
              ⟨_, h10.store (by rw [HP.out.2.2.1]; exact HP.out.2.2.2) ((M : Int)), ((HP.out.2.1.trans ((Gw.alloc wr _).mono HP.out.2.1.size)).trans (b10.mono HC.out.1)).setCell (show w.heap.size ≤ q from Nat.le_trans HC.out.2 h10.qD.1) _⟩)
            clear h10 b10 hy hcell
            go_wp2_with fail
            clear c0 f0
            go_roundw
            case rel => first | exact ⟨k + 1, by go_num, by omega, HX⟩ | ((repeat apply Exists.intro); refine ⟨?_, rfl⟩; exact ⟨k + 1, by go_num, by omega, HX⟩)
            case measure => simp [Go.RowKit.intOf]; omega
          · go_wp2_with fail
            refine Calls.mono ((HP.out.1.below (Gw.alloc wr _)).set HP.out.2.2.2 (-1) (.inr (.inr rfl))) ?_
            rintro e w10 ⟨rfl, h10, b10⟩
            obtain ⟨c0, f0⟩ := h10.cell (j := r) (by rw [HP.out.2.2.1]; exact HP.out.2.2.2)
            obtain ⟨y, hy⟩ : ∃ y, y = L[r]'(by rw [HP.out.2.2.1]; exact HP.out.2.2.2) := ⟨_, rfl⟩
            rw [← hy] at c0
            have HX := Lib.hid (show ∃ L, PkS (w10.setCell ⟨q, r, none⟩ (.int .i64 (-1))) C s g N q D v L L ∧ Below w.heap.size w (w10.setCell ⟨q, r, none⟩ (.int .i64 (-1))) from
              ⟨_, h10.store (by rw [HP.out.2.2.1]; exact HP.out.2.2.2) (-1), ((HP.out.2.1.trans ((Gw.alloc wr _).mono HP.out.2.1.size)).trans (b10.mono HC.out.1)).setCell (show w.heap.size ≤ q from Nat.le_trans HC.out.2 h10.qD.1) _⟩)
            clear h10 b10 hy hcell
            go_wp2_with fail
            clear c0 f0
            go_roundw
            case rel => first | exact ⟨k + 1, by go_num, by omega, HX⟩ | ((repeat apply Exists.intro); refine ⟨?_, rfl⟩; exact ⟨k + 1, by go_num, by omega, HX⟩)
            case measure => simp [Go.RowKit.intOf]; omega
        · have hKk : K = k := by omega
          obtain ⟨L, hP, hBw⟩ := hS.out
          have hLl : L.length = N := by obtain ⟨ws, _, e⟩ := hP.sp; exact e.llen
          obtain ⟨w9, hw9⟩ : ∃ w9, w9 = wr := ⟨_, rfl⟩
          rw [← hw9] at hP hBw ⊢
          have H9 := Lib.hid (And.intro hP (And.intro hBw hLl))
          clear hS hP hBw hLl hw9 hlt hk H8 H7
          subst hKk
          go_wp2_with fail
          go_loopw [19] (fun i W => ∃ k : Nat, i = .int .i64 k ∧ k ≤ N ∧ Hid (PkS W C s g N q D v L L ∧ Below w.heap.size w W)) (fun i _ => N - (Go.RowKit.intOf i).toNat)
          case atStart => exact ⟨0, rfl, Nat.zero_le _, Lib.hid ⟨H9.out.1, H9.out.2.1⟩⟩
          case round =>
            obtain ⟨k, rfl, hk, hS⟩ := hrel
            by_cases hlt : k < N
            · have q5 : (0 : Int) ≤ (k : Int) := by omega
              have q6 : (k : Int) < (N : Int) := by omega
              have hkl : k < L.length := by rw [H9.out.2.2]; exact hlt
              obtain ⟨y, hy⟩ : ∃ y, y = L[k] := ⟨_, rfl⟩
              have HPt := Lib.hid (show Calls Tryd.prog 9 #[.pointer (some ⟨s, 0, none⟩), .int .i64 0, .int .i64 k] wr (RetP (.tuple #[.int .i64 y, .int .i64 0]) wr) from by
                obtain ⟨ws, e1, e2⟩ := hS.out.1.sp
                rw [hy]
                exact pk_ptr e2 e1 hkl)
              go_wp2_with fail
              refine Calls.mono HPt.out ?_
              rintro e w10 ⟨rfl, b10⟩
              have hp10 := hS.out.1.below b10
              obtain ⟨c0, f0⟩ := hp10.cell (j := k) hkl
              rw [← hy] at c0
              have HX := Lib.hid (show PkS w10 C s g N q D v L L ∧ Below w.heap.size w w10 from ⟨hp10, hS.out.2.trans (b10.mono hS.out.2.size)⟩)
              clear hp10 b10 HPt f0 hy hkl hS
              go_wp2_with fail
              clear c0
              go_roundw
              case rel => first | exact ⟨k + 1, by go_num, by omega, HX⟩ | ((repeat apply Exists.intro); refine ⟨?_, rfl⟩; exact ⟨k + 1, by go_num, by omega, HX⟩)
              case measure => simp [Go.RowKit.intOf]; omega
            · have hNk : N = k := by omega
              obtain ⟨w11, hw11⟩ : ∃ w11, w11 = wr := ⟨_, rfl⟩
              rw [← hw11] at hS ⊢
              clear hw11 hlt hk H9
              subst hNk
              go_wp2_with fail
              have HRd := Lib.hid (show ∀ W, Below w11.heap.size w11 W → Calls Tryd.prog 13 #[.pointer (some ⟨s, 0, none⟩), .int .i64 0, .int .i64 0, .int .i64 8] W (MkEP b8 5 (List.replicate 8 0#8) 0 W) ∧ Calls Tryd.prog 9 #[.pointer (some ⟨s, 0, none⟩), .int .i64 M, .int .i64 0] W (RetP (.tuple #[.int .i64 (-1), .int .i64 0]) W) ∧ Calls Tryd.prog 18 #[.pointer (some ⟨s, 0, none⟩)] W (RetP (.int .i64 0) W) from fun W hW => by
                obtain ⟨ws, e1, e2⟩ := (hS.out.1.below hW).sp
                exact ⟨pk_read e2 e1, pk_ptrb e2 e1 M HN.out.2.2.1, pk_well e2 e1⟩)
              have HBw := Lib.hid hS.out.2
              clear hS
              refine Calls.mono (HRd.out w11 (Below.refl _ _)).1 ?_
              rintro r w12 ⟨A12, c12, rfl, _, ho12, b12⟩
              have H12 := Lib.hid (And.intro ho12.rd b12)
              clear ho12 b12
              go_wp2_with fail
              refine Calls.mono (HRd.out w12 H12.out.2).2.1 ?_
              rintro r w13 ⟨rfl, b13⟩
              have H13 := Lib.hid (show Rd b8 w13 w13.heap.size A12 (List.replicate 8 0#8) ∧ Below w11.heap.size w11 w13 from ⟨(H12.out.1.below b13).more b13.size, H12.out.2.trans (b13.mono H12.out.2.size)⟩)
              clear b13 H12
              go_wp2_with fail
              have HWl := Lib.hid (fun W (hW : Below w13.heap.size w13 W) => (HRd.out W (H13.out.2.trans (hW.mono H13.out.2.size))).2.2)
              refine pt33_r _ _ _ s A12 c12 HWl (Lib.hid H13.out.1) ?_ ?_ ?_ ?_ ?_ ?_ ?_
              iterate 6 (· rfl)
              intro vals w14 hG h152
              unfold IsV at h152
              simp only [putD, Act.put, List.setIfInBounds_toArray, List.set_cons_zero, List.set_cons_succ, h152]
              have HE := Lib.hid (HBw.out.trans ((H13.out.2.trans (hG.mono H13.out.2.size)).mono HBw.out.size))
              clear hG h152
              go_wp2_with fail
              go_ret
              exact ⟨rfl, HE.out⟩
end Go.Proofs.YtfodefgihicafaaDoor
namespace Go.Proofs.YtfodefgihicafaaDoor.objectPtrs
open Go.ChangeShapes Go.WideShapes Go.ChangeAt Go.RowKit
open Go.ChangeMaps (open_string shut_string)
set_option linter.unusedVariables false
set_option maxRecDepth 100000 in
theorem lifted (os : Os) (started : os.Started) (H : Type) (enc : TypeId × Value → H) :
    ReturnsInHanded {} Tryd.checked os 6 .any (fun w args => (Rows.objectPtrsSpec.pre enc Tryd.prog Tryd.f6 [] false w args ∧ laidMetH Tryd.prog laid16 w) ∧ sizedMet enc Tryd.prog Tryd.f6 (OpenSpec.ofChange Rows.objectPtrsSpec) false w args) (Rows.objectPtrsSpec.post enc Tryd.prog Tryd.f6 false true false false) := by
  refine returnsInHanded_of_change_and (C := Tryd.checked) (X := fun w _ => laidMetH Tryd.prog laid16 w) (fun _ _ _ hh h => h.of_heap hh) own started (by kernel_rfl) Tryd.func6
    (ChangeSpec.witness_shaped (enc := enc) (C := Tryd.checked) (os := os) (X := fun w _ => laidMetH Tryd.prog laid16 w) false (World.doorLaid Tryd.prog 24 os) #[.int .u8 0, .slice none 0 0] 8 rfl (World.shaped_of_RefB (by kernel_rfl) (by kernel_rfl)) (by kernel_rfl) (by kernel_rfl) (by kernel_rfl) (door_met os _)) ?_
  intro W base args ds gs before hval0 hW _ _ hL _
  have hLd := of_laid hL
  have hval : ∀ (j : Nat) t v, Tryd.f6.params[j]? = some t → args[j]? = some v → Value.okWide Tryd.prog W .any base t v := hval0
  have hW' := hW
  obtain ⟨p, q, hA0, hV, rfl, hfz, hnd⟩ := hW
  have hA : DataW.TrodAll enc Tryd.prog W 0 (fun _ => true) true Tryd.f6.params.toList args.toList ds p := hA0
  rw [Tryd.params6] at hA hval
  obtain ⟨v0, vs0, d0, ds0, p0, q0, hargs, rfl, rfl, h0, r0⟩ := trodAll_cons hA
  obtain ⟨v1, vs1, d1, ds1, p1, q1, rfl, rfl, rfl, h1, r1⟩ := trodAll_cons r0
  obtain ⟨rfl, rfl, rfl⟩ := trodAll_nil r1
  obtain rfl : args = #[v0, v1] := by cases args; simp_all
  obtain ⟨rfl, rfl⟩ := trodVars_none hV
  have k0 := h0
  have lt0 : ∀ x ∈ p0, x.block < W.heap.size := by obtain ⟨m, hm⟩ := k0; exact DataW.trod_lt m _ _ _ hm
  obtain ⟨a0, e0v, _, _, w0⟩ := open_int Tryd.underlying5 (hval 0 5 v0 rfl rfl) h0; subst e0v
  have k1 := h1
  have lt1 : ∀ x ∈ p1, x.block < W.heap.size := by obtain ⟨m, hm⟩ := k1; exact DataW.trod_lt m _ _ _ hm
  obtain ⟨A1, a1, c1, e1v, g1, m1, w1⟩ := open_bytes Tryd.underlying30 Tryd.underlying5 (by kernel_rfl) (hval 1 30 v1 rfl rfl) h1; subst e1v
  clear hA0 hval0
  refine (optrs_walk W hLd a0 w0 A1 a1 c1 g1 m1 w1).mono fun e W' ⟨he, bel⟩ => ?_
  subst he
  exact ⟨_, rfl, _, _, _, [], _, [], hW', trodAll_mk1 (shut_bool Tryd.underlying4 _), (trodAll_cons_mk (Below.trod laidOut (by kernel_rfl) (of_decide_eq_true (by kernel_rfl)) k0 bel lt0) (trodAll_cons_mk (Below.trod laidOut (by kernel_rfl) (of_decide_eq_true (by kernel_rfl)) k1 bel lt1) trodAll_mk0)), rfl, bel.frame _, fun h => by cases h⟩
theorem over : Rows.objectPtrsRow.holds Tryd.pinned (OpenSpec.ofChange Rows.objectPtrsSpec) :=
  OpenClaim.holds_of_wide 6 Tryd.f6 rfl rfl rfl rfl rfl rfl rfl ⟨rfl, rfl, rfl, rfl, rfl⟩ rfl rfl rfl rfl rfl (by kernel_rfl) Tryd.func6 (by kernel_rfl)
    (of_decide_eq_true (by kernel_rfl)) (by unfold Func.isWrapper; first | (rw [if_pos (by decide +kernel)]; kernel_rfl) | (rw [if_neg (by decide +kernel)]; exact ⟨rfl, rfl⟩))
    (fun os started H enc _ => lifted os started H enc)
theorem proved : Rows.ObjectPtrsCardSaid :=
  Claim7.holds_tied_plain_at .later [] [.data, .data, .data] true (true, "c9447320ff57cce1bb3f3cabae1e8816a2dfa12256a7c525c45f8a6aebb30cda") false over (fun _ h => by cases h) (by kernel_rfl) (fun _ h => by cases h) objectPtrs_row_tie rfl ⟨rfl, rfl⟩ (by kernel_rfl) rfl
    (fun f fn hf hfn => by
      obtain rfl : f = 6 := Option.some.inj ((show Tryd.prog.funcNamed Rows.objectPtrsRow.func = some 6 by kernel_rfl).symm.trans hf) |>.symm
      obtain rfl : fn = Tryd.f6 := (Option.some.inj (Tryd.func6.symm.trans hfn)).symm
      exact ⟨by kernel_rfl, fun j t ht => by
        rw [Tryd.params6] at ht
        have hm : t ∈ [5, 30] := by simpa using Array.mem_of_getElem? ht
        have hall : ([5, 30].all fun u => !Tryd.prog.wantsStandIn u) = true := by kernel_rfl
        exact (show Tryd.prog.wantsStandIn t = false by simpa using List.all_eq_true.1 hall t hm)⟩)
    (by kernel_rfl)
end Go.Proofs.YtfodefgihicafaaDoor.objectPtrs
