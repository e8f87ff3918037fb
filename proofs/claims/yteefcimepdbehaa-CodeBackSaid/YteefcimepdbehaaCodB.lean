/- What loamlaw5.known answers: true. No conditions. -/
import Derived.Test.YteefcimepdbehaaCodA
import Derived.Test.YteefcimepdbehaaStr
namespace Go.Proofs.Yteefcimepdbehaa
set_option linter.unusedVariables false
set_option linter.unusedSimpArgs false
open Go.RowKit
def Fk (w : World) (g : Nat) (E : TypeId) (cs : Array Value) : Prop := ∃ fr, w.heap[g]? = some (.cells cs E fr)
section
variable {W W' : World} {g B : Nat} {E : TypeId} {cs : Array Value}
theorem fk_at {fr : Nat × Nat} (h : g = W.heap.size) : Fk (W.alloc (.cells cs E fr)) g E cs := h ▸ ⟨fr, heap_alloc_new W _⟩
theorem Fk.lt (h : Fk W g E cs) : g < W.heap.size := by
  obtain ⟨fr, h⟩ := h
  rcases Nat.lt_or_ge g W.heap.size with hl | hl
  · exact hl
  · rw [Array.getElem?_eq_none hl] at h; cases h
theorem Fk.drew (h : Fk W g E cs) : Fk W.drew g E cs := h
theorem Fk.drewN (h : Fk W g E cs) (n : Nat) : Fk (W.drewN n) g E cs := h
theorem Fk.rd {α : Type} {f : α → Value} {xs : List α} (h : Fk W g E cs) (e : cs = (xs.map f).toArray) (hB : g < B) : Rd f W B (some ⟨g, 0, none⟩) xs := fun j hj => by
  refine ⟨_, rfl, hB, ?_⟩
  have e2 : ((⟨g, 0, none⟩ : Addr).add j) = ⟨g, j, none⟩ := by unfold Addr.add; split <;> simp_all
  rw [e2, Joins.cell_of_block h.choose_spec, e]
  simp [hj]
end
theorem kc_at (w : World) (C : Array Value) (n c g : Nat) (hg : g = w.heap.size) : (convert 26 26 (.slice (some ⟨g, 0, none⟩) n c)).run Try.prog (w.alloc (.cells C 5)) = .ok (.slice (some ⟨g, 0, none⟩) n c) (w.alloc (.cells C 5 (C.size, C.size + 1))) :=
  Joins.run_convert_bytes_const_at w 26 5 C n c g hg Try.underlying26 Try.underlying5
theorem skA {w W : World} (h : Below w.heap.size w W ∧ w.heap.size ≤ W.heap.size) (o : Obj) : Below w.heap.size w (W.alloc o) ∧ w.heap.size ≤ (W.alloc o).heap.size := ⟨h.1.alloc h.2 o, by simp; omega⟩
theorem skD {w W : World} (h : Below w.heap.size w W ∧ w.heap.size ≤ W.heap.size) : Below w.heap.size w W.drew ∧ w.heap.size ≤ W.drew.heap.size := ⟨h.1.drew, h.2⟩
theorem skR (w : World) : Below w.heap.size w w ∧ w.heap.size ≤ w.heap.size := ⟨Below.refl _ _, Nat.le_refl _⟩
theorem of_ret {P : Program} {f : FuncId} {args : Array Value} {v : Value} {w : World} (h : Calls P f args w fun e w2 => e = .returned v ∧ w2 = w) : Calls P f args w fun e w2 => ∃ u, e = .returned u ∧ Below w.heap.size w w2 ∧ IsV v u w2 :=
  h.mono fun _ _ h => ⟨_, h.1, h.2 ▸ Below.refl _ _, rfl⟩
theorem of_cl {P : Program} {g : FuncId} {args : Array Value} {xs : List (BitVec 8)} {w : World} (h : Calls P g args w (CloneP xs w)) : Calls P g args w fun e w2 => ∃ u, e = .returned u ∧ Below w.heap.size w w2 ∧ SlV b8 xs u w2 :=
  h.mono fun e w2 h => by
    obtain ⟨A, c, rfl, hc, hr, hb, _⟩ := h
    exact ⟨_, rfl, hb, A, c, rfl, hc, hr⟩
theorem conv_sl {xs : List (BitVec 8)} {v : Value} {w : World} (h : SlV b8 xs v w) : (convert 26 9 v).run Try.prog w = .ok (.string (strB xs)) w := by
  obtain ⟨A, c, rfl, _, hr⟩ := h
  exact str_conv xs A c _ w hr
def encK : List (BitVec 8) := [172, 2, 1, 2, 97, 98, 1, 5, 0, 0, 0, 0, 0, 0, 0]
theorem encK_str : strB encK = { data := #[172, 2, 1, 2, 97, 98, 1, 5, 0, 0, 0, 0, 0, 0, 0] } := by kernel_rfl
theorem ab_str : strB [97#8, 98#8] = { data := #[97, 98] } := by kernel_rfl
theorem eqK : (({ data := #[172, 2, 1, 2, 97, 98, 1, 5, 0, 0, 0, 0, 0, 0, 0] } : ByteArray).toList == ({ data := #[172, 2, 1, 2, 97, 98, 1, 5, 0, 0, 0, 0, 0, 0, 0] } : ByteArray).toList) = true := beq_self_eq_true _
theorem conv_ab {A : Option Addr} {c : Nat} {w : World} {B : Nat} (h : Rd b8 w B A [97#8, 98#8]) : (convert 26 9 (.slice A 2 c)).run Try.prog w = .ok (.string { data := #[97, 98] }) w := by
  have k := str_conv _ A c B w h
  rw [ab_str] at k
  exact k
theorem conv_k {v : Value} {w : World} (h : SlV b8 encK v w) : (convert 26 9 v).run Try.prog w = .ok (.string { data := #[172, 2, 1, 2, 97, 98, 1, 5, 0, 0, 0, 0, 0, 0, 0] }) w := by
  have k := conv_sl h
  rw [encK_str] at k
  exact k
theorem rd_five {w : World} {B q : Nat} (h : Rd u64v w B (some ⟨q, 0, none⟩) [5#64]) : w.cell? ⟨q, 0, none⟩ = some (.int .u64 5) := by
  obtain ⟨ad, e, hb, hc⟩ := h 0 (by decide)
  cases e
  exact hc
set_option maxRecDepth 100000
set_option maxHeartbeats 400000
theorem known5_reg (Q : Exit → Act → World → Prop) (a0 : Act) (w : World) (g d q : Nat) (A5 : Option Addr) (c5 : Nat) (he : EncR g encK w) (hd : DecAt w d [] 0) (r5 : Rd b8 w w.heap.size A5 [97#8, 98#8]) (r6 : Rd u64v w w.heap.size (some ⟨q, 0, none⟩) [5#64]) (hsz : a0.tmps.size = 71) (sl1 : a0.tmps.getD 1 undef = .pointer (some ⟨g, 0, none⟩)) (sl2 : a0.tmps.getD 2 undef = .pointer (some ⟨d, 0, none⟩)) (sl3 : a0.tmps.getD 3 undef = .int .u64 300) (sl4 : a0.tmps.getD 4 undef = .int .i64 (-1)) (sl5 : a0.tmps.getD 5 undef = .slice A5 2 c5) (sl6 : a0.tmps.getD 6 undef = .slice (some ⟨q, 0, none⟩) 1 1)
    (fin : ∀ (vals : Nat → Value) (w1 : World), Below w.heap.size w w1 → (IsV (.bool true)) (vals 38) w1 → Q .normal (putD vals [33, 34, 35, 36, 37, 38, 39, 40, 41, 42, 43, 44, 45, 46, 47, 48, 49, 50, 51, 52, 53, 54, 55, 56, 57, 58, 59, 60, 61, 62, 63, 64, 65, 66, 67, 68, 69, 70, 0] 0 a0) w1) :
    (Code.region 13 (regIn Try.f15 13) true).wp Try.prog Q a0 w := by
  refine region_by (G := fun w w1 => Below w.heap.size w w1) [IsV (.pointer (some ⟨g, 0, none⟩)),
    SlV b8 encK,
    IsV (.string { data := #[172, 2, 1, 2, 97, 98, 1, 5, 0, 0, 0, 0, 0, 0, 0] }),
    IsV (.bool true),
    IsV (.bool true),
    IsV (.int .u64 300),
    IsV (.bool true),
    IsV (.bool true),
    IsV (.bool true),
    IsV (.int .i64 (-1)),
    IsV (.bool true),
    IsV (.bool true),
    IsV (.bool true),
    IsV (.slice A5 2 c5),
    IsV (.string { data := #[97, 98] }),
    IsV (.bool true),
    IsV (.bool true),
    IsV (.bool true),
    IsV (.slice (some ⟨q, 0, none⟩) 1 1),
    IsV (.int .i64 1),
    IsV (.bool true),
    IsV (.bool true),
    IsV (.bool true),
    IsV (.slice (some ⟨q, 0, none⟩) 1 1),
    IsV (.pointer (some ⟨q, 0, none⟩)),
    IsV (.int .u64 5),
    IsV (.bool true),
    IsV (.bool true),
    IsV (.bool true),
    IsV (.pointer (some ⟨d, 0, none⟩)),
    IsV (.int .i64 0),
    IsV (.bool true),
    IsV (.bool true),
    IsV (.bool true),
    IsV (.pointer (some ⟨d, 0, none⟩)),
    IsV (.int .i64 0),
    IsV (.bool true),
    IsV (.bool true),
    IsV (.bool true)]
    [33, 34, 35, 36, 37, 38, 39, 40, 41, 42, 43, 44, 45, 46, 47, 48, 49, 50, 51, 52, 53, 54, 55, 56, 57, 58, 59, 60, 61, 62, 63, 64, 65, 66, 67, 68, 69, 70, 0] (by kernel_rfl) (Gw.drew _) Gw.trans (by rw [hsz]; kernel_rfl) (by kernel_rfl) ?_ ?_ ?_
  · intro f hf
    simp only [List.mem_cons, List.not_mem_nil, or_false] at hf
    rcases hf with rfl | rfl | rfl | rfl | rfl | rfl | rfl | rfl | rfl | rfl | rfl | rfl | rfl | rfl | rfl | rfl | rfl | rfl | rfl | rfl | rfl | rfl | rfl | rfl | rfl | rfl | rfl | rfl | rfl | rfl | rfl | rfl | rfl | rfl | rfl | rfl | rfl | rfl | rfl <;> intro v a b h g <;> first | exact IsV.mono h | exact SlV.mono h g
  · refine ⟨?_, ?_, ?_, ?_, ?_, ?_, ?_, ?_, ?_, ?_, ?_, ?_, ?_, ?_, ?_, ?_, ?_, ?_, ?_, ?_, ?_, ?_, ?_, ?_, ?_, ?_, ?_, ?_, ?_, ?_, ?_, ?_, ?_, ?_, ?_, ?_, ?_, ?_, ?_, trivial⟩
    · exact owes_mv 1 (by kernel_rfl) (by kernel_rfl) (by kernel_rfl) sl1 (fun _ => rfl)
    · refine owes_v (Go.Op.call { callee := Go.Callee.value (Go.Operand.func 25), args := #[Go.Operand.tmp 33], argTypes := #[25] }) 26 [0] (by kernel_rfl) (by kernel_rfl) (by kernel_rfl) rfl fun vals w1 ρ hG hF hρ hcst hfun => ?_
      have e33 : ρ (.tmp 33) = .pointer (some ⟨g, 0, none⟩) := ((hρ 33).trans (slotJ [0] (by rw [hsz]; decide) (by kernel_rfl))).trans (hF 0 (by decide))
      clear hρ hF hcst sl1 sl2 sl3 sl4 sl5 sl6 fin
      exact opv_enter (by go_simp <;> rfl) (of_cl (enc_bytes w1 g encK (he.below hG) (by decide)))
    · refine owes_v (Go.Op.convert 26 9 (Go.Operand.tmp 34)) 9 [1] (by kernel_rfl) (by kernel_rfl) (by kernel_rfl) rfl fun vals w1 ρ hG hF hρ hcst hfun => ?_
      have f34 : (SlV b8 encK) (vals 1) w1 := hF 1 (by decide)
      have e34 : ρ (.tmp 34) = vals 1 := (hρ 34).trans (slotJ [1] (by rw [hsz]; decide) (by kernel_rfl))
      have k := conv_k f34
      clear hρ hF hcst hfun sl1 sl2 sl3 sl4 sl5 sl6 fin
      exact opv_val (by go_simp <;> rfl) ⟨gw_self _, rfl⟩
    · refine owes_v (Go.Op.binOp Go.BinOp.eql 9 (Go.Operand.tmp 35) (Go.Operand.const (Go.Value.string { data := #[172, 2, 1, 2, 97, 98, 1, 5, 0, 0, 0, 0, 0, 0, 0] })) 9) 4 [2] (by kernel_rfl) (by kernel_rfl) (by kernel_rfl) rfl fun vals w1 ρ hG hF hρ hcst hfun => ?_
      have e35 : ρ (.tmp 35) = .string { data := #[172, 2, 1, 2, 97, 98, 1, 5, 0, 0, 0, 0, 0, 0, 0] } := ((hρ 35).trans (slotJ [2] (by rw [hsz]; decide) (by kernel_rfl))).trans (hF 2 (by decide))
      clear hρ hF hfun sl1 sl2 sl3 sl4 sl5 sl6 fin
      exact opv_val (by go_simp <;> rfl) ⟨gw_self _, rfl⟩
    · exact owes_mvj 3 36 (by kernel_rfl) (by kernel_rfl) (by kernel_rfl) (by kernel_rfl) (by rw [hsz]; decide) (fun v w h => h)
    · refine owes_vt 4 true (Go.Op.move (Go.Operand.tmp 3)) 29 [] (by kernel_rfl) (by kernel_rfl) (by kernel_rfl) (fun _ _ h => h) (by rw [hsz]; kernel_rfl) (by kernel_rfl) rfl fun vals w1 ρ hG hF hρ hcst hfun => ?_
      have e3 : ρ (.tmp 3) = .int .u64 300 := ((hρ 3).trans (slotO [] (by kernel_rfl))).trans sl3
      clear hρ hF hcst hfun sl1 sl2 sl3 sl4 sl5 sl6 fin
      exact opv_val (by go_simp <;> rfl) ⟨gw_self _, rfl⟩
    · refine owes_vt 4 true (Go.Op.binOp Go.BinOp.eql 29 (Go.Operand.tmp 38) (Go.Operand.const (Go.Value.int Go.IntKind.u64 300)) 29) 4 [5] (by kernel_rfl) (by kernel_rfl) (by kernel_rfl) (fun _ _ h => h) (by rw [hsz]; kernel_rfl) (by kernel_rfl) rfl fun vals w1 ρ hG hF hρ hcst hfun => ?_
      have e38 : ρ (.tmp 38) = .int .u64 300 := ((hρ 38).trans (slotJ [5] (by rw [hsz]; decide) (by kernel_rfl))).trans (hF 5 (by decide))
      clear hρ hF hfun sl1 sl2 sl3 sl4 sl5 sl6 fin
      exact opv_val (by go_simp <;> rfl) ⟨gw_self _, rfl⟩
    · refine owes_v (Go.Op.pick (Go.Operand.tmp 37) (Go.Operand.tmp 39) (Go.Operand.const (Go.Value.bool false))) 4 [4, 6] (by kernel_rfl) (by kernel_rfl) (by kernel_rfl) rfl fun vals w1 ρ hG hF hρ hcst hfun => ?_
      have e37 : ρ (.tmp 37) = .bool true := ((hρ 37).trans (slotJ [4, 6] (by rw [hsz]; decide) (by kernel_rfl))).trans (hF 4 (by decide))
      have e39 : ρ (.tmp 39) = .bool true := ((hρ 39).trans (slotJ [4, 6] (by rw [hsz]; decide) (by kernel_rfl))).trans (hF 6 (by decide))
      clear hρ hF hfun sl1 sl2 sl3 sl4 sl5 sl6 fin
      exact opv_val (by go_simp <;> rfl) ⟨gw_self _, rfl⟩
    · exact owes_mvj 7 40 (by kernel_rfl) (by kernel_rfl) (by kernel_rfl) (by kernel_rfl) (by rw [hsz]; decide) (fun v w h => h)
    · refine owes_vt 8 true (Go.Op.move (Go.Operand.tmp 4)) 2 [] (by kernel_rfl) (by kernel_rfl) (by kernel_rfl) (fun _ _ h => h) (by rw [hsz]; kernel_rfl) (by kernel_rfl) rfl fun vals w1 ρ hG hF hρ hcst hfun => ?_
      have e4 : ρ (.tmp 4) = .int .i64 (-1) := ((hρ 4).trans (slotO [] (by kernel_rfl))).trans sl4
      clear hρ hF hcst hfun sl1 sl2 sl3 sl4 sl5 sl6 fin
      exact opv_val (by go_simp <;> rfl) ⟨gw_self _, rfl⟩
    · refine owes_vt 8 true (Go.Op.binOp Go.BinOp.eql 2 (Go.Operand.tmp 42) (Go.Operand.const (Go.Value.int Go.IntKind.i64 (-1))) 2) 4 [9] (by kernel_rfl) (by kernel_rfl) (by kernel_rfl) (fun _ _ h => h) (by rw [hsz]; kernel_rfl) (by kernel_rfl) rfl fun vals w1 ρ hG hF hρ hcst hfun => ?_
      have e42 : ρ (.tmp 42) = .int .i64 (-1) := ((hρ 42).trans (slotJ [9] (by rw [hsz]; decide) (by kernel_rfl))).trans (hF 9 (by decide))
      clear hρ hF hfun sl1 sl2 sl3 sl4 sl5 sl6 fin
      exact opv_val (by go_simp <;> rfl) ⟨gw_self _, rfl⟩
    · refine owes_v (Go.Op.pick (Go.Operand.tmp 41) (Go.Operand.tmp 43) (Go.Operand.const (Go.Value.bool false))) 4 [8, 10] (by kernel_rfl) (by kernel_rfl) (by kernel_rfl) rfl fun vals w1 ρ hG hF hρ hcst hfun => ?_
      have e41 : ρ (.tmp 41) = .bool true := ((hρ 41).trans (slotJ [8, 10] (by rw [hsz]; decide) (by kernel_rfl))).trans (hF 8 (by decide))
      have e43 : ρ (.tmp 43) = .bool true := ((hρ 43).trans (slotJ [8, 10] (by rw [hsz]; decide) (by kernel_rfl))).trans (hF 10 (by decide))
      clear hρ hF hfun sl1 sl2 sl3 sl4 sl5 sl6 fin
      exact opv_val (by go_simp <;> rfl) ⟨gw_self _, rfl⟩
    · exact owes_mvj 11 44 (by kernel_rfl) (by kernel_rfl) (by kernel_rfl) (by kernel_rfl) (by rw [hsz]; decide) (fun v w h => h)
    · refine owes_vt 12 true (Go.Op.move (Go.Operand.tmp 5)) 26 [] (by kernel_rfl) (by kernel_rfl) (by kernel_rfl) (fun _ _ h => h) (by rw [hsz]; kernel_rfl) (by kernel_rfl) rfl fun vals w1 ρ hG hF hρ hcst hfun => ?_
      have e5 : ρ (.tmp 5) = .slice A5 2 c5 := ((hρ 5).trans (slotO [] (by kernel_rfl))).trans sl5
      clear hρ hF hcst hfun sl1 sl2 sl3 sl4 sl5 sl6 fin
      exact opv_val (by go_simp <;> rfl) ⟨gw_self _, rfl⟩
    · refine owes_vt 12 true (Go.Op.convert 26 9 (Go.Operand.tmp 46)) 9 [13] (by kernel_rfl) (by kernel_rfl) (by kernel_rfl) (fun _ _ h => h) (by rw [hsz]; kernel_rfl) (by kernel_rfl) rfl fun vals w1 ρ hG hF hρ hcst hfun => ?_
      have e46 : ρ (.tmp 46) = .slice A5 2 c5 := ((hρ 46).trans (slotJ [13] (by rw [hsz]; decide) (by kernel_rfl))).trans (hF 13 (by decide))
      have k := conv_ab (c := c5) (r5.below hG)
      clear hρ hF hcst hfun sl1 sl2 sl3 sl4 sl5 sl6 fin
      exact opv_val (by go_simp <;> rfl) ⟨gw_self _, rfl⟩
    · refine owes_vt 12 true (Go.Op.binOp Go.BinOp.eql 9 (Go.Operand.tmp 47) (Go.Operand.const (Go.Value.string { data := #[97, 98] })) 9) 4 [14] (by kernel_rfl) (by kernel_rfl) (by kernel_rfl) (fun _ _ h => h) (by rw [hsz]; kernel_rfl) (by kernel_rfl) rfl fun vals w1 ρ hG hF hρ hcst hfun => ?_
      have e47 : ρ (.tmp 47) = .string { data := #[97, 98] } := ((hρ 47).trans (slotJ [14] (by rw [hsz]; decide) (by kernel_rfl))).trans (hF 14 (by decide))
      clear hρ hF hfun sl1 sl2 sl3 sl4 sl5 sl6 fin
      exact opv_val (by go_simp <;> rfl) ⟨gw_self _, rfl⟩
    · refine owes_v (Go.Op.pick (Go.Operand.tmp 45) (Go.Operand.tmp 48) (Go.Operand.const (Go.Value.bool false))) 4 [12, 15] (by kernel_rfl) (by kernel_rfl) (by kernel_rfl) rfl fun vals w1 ρ hG hF hρ hcst hfun => ?_
      have e45 : ρ (.tmp 45) = .bool true := ((hρ 45).trans (slotJ [12, 15] (by rw [hsz]; decide) (by kernel_rfl))).trans (hF 12 (by decide))
      have e48 : ρ (.tmp 48) = .bool true := ((hρ 48).trans (slotJ [12, 15] (by rw [hsz]; decide) (by kernel_rfl))).trans (hF 15 (by decide))
      clear hρ hF hfun sl1 sl2 sl3 sl4 sl5 sl6 fin
      exact opv_val (by go_simp <;> rfl) ⟨gw_self _, rfl⟩
    · exact owes_mvj 16 49 (by kernel_rfl) (by kernel_rfl) (by kernel_rfl) (by kernel_rfl) (by rw [hsz]; decide) (fun v w h => h)
    · refine owes_vt 17 true (Go.Op.move (Go.Operand.tmp 6)) 30 [] (by kernel_rfl) (by kernel_rfl) (by kernel_rfl) (fun _ _ h => h) (by rw [hsz]; kernel_rfl) (by kernel_rfl) rfl fun vals w1 ρ hG hF hρ hcst hfun => ?_
      have e6 : ρ (.tmp 6) = .slice (some ⟨q, 0, none⟩) 1 1 := ((hρ 6).trans (slotO [] (by kernel_rfl))).trans sl6
      clear hρ hF hcst hfun sl1 sl2 sl3 sl4 sl5 sl6 fin
      exact opv_val (by go_simp <;> rfl) ⟨gw_self _, rfl⟩
    · refine owes_vt 17 true (Go.Op.call { callee := Go.Callee.builtin Go.Builtin.len, args := #[Go.Operand.tmp 51], argTypes := #[30] }) 3 [18] (by kernel_rfl) (by kernel_rfl) (by kernel_rfl) (fun _ _ h => h) (by rw [hsz]; kernel_rfl) (by kernel_rfl) rfl fun vals w1 ρ hG hF hρ hcst hfun => ?_
      have e51 : ρ (.tmp 51) = .slice (some ⟨q, 0, none⟩) 1 1 := ((hρ 51).trans (slotJ [18] (by rw [hsz]; decide) (by kernel_rfl))).trans (hF 18 (by decide))
      clear hρ hF hcst hfun sl1 sl2 sl3 sl4 sl5 sl6 fin
      exact opv_val (by go_simp <;> rfl) ⟨gw_self _, rfl⟩
    · refine owes_vt 17 true (Go.Op.binOp Go.BinOp.eql 3 (Go.Operand.tmp 52) (Go.Operand.const (Go.Value.int Go.IntKind.i64 1)) 3) 4 [19] (by kernel_rfl) (by kernel_rfl) (by kernel_rfl) (fun _ _ h => h) (by rw [hsz]; kernel_rfl) (by kernel_rfl) rfl fun vals w1 ρ hG hF hρ hcst hfun => ?_
      have e52 : ρ (.tmp 52) = .int .i64 1 := ((hρ 52).trans (slotJ [19] (by rw [hsz]; decide) (by kernel_rfl))).trans (hF 19 (by decide))
      clear hρ hF hfun sl1 sl2 sl3 sl4 sl5 sl6 fin
      exact opv_val (by go_simp <;> rfl) ⟨gw_self _, rfl⟩
    · refine owes_v (Go.Op.pick (Go.Operand.tmp 50) (Go.Operand.tmp 53) (Go.Operand.const (Go.Value.bool false))) 4 [17, 20] (by kernel_rfl) (by kernel_rfl) (by kernel_rfl) rfl fun vals w1 ρ hG hF hρ hcst hfun => ?_
      have e50 : ρ (.tmp 50) = .bool true := ((hρ 50).trans (slotJ [17, 20] (by rw [hsz]; decide) (by kernel_rfl))).trans (hF 17 (by decide))
      have e53 : ρ (.tmp 53) = .bool true := ((hρ 53).trans (slotJ [17, 20] (by rw [hsz]; decide) (by kernel_rfl))).trans (hF 20 (by decide))
      clear hρ hF hfun sl1 sl2 sl3 sl4 sl5 sl6 fin
      exact opv_val (by go_simp <;> rfl) ⟨gw_self _, rfl⟩
    · exact owes_mvj 21 54 (by kernel_rfl) (by kernel_rfl) (by kernel_rfl) (by kernel_rfl) (by rw [hsz]; decide) (fun v w h => h)
    · refine owes_vt 22 true (Go.Op.move (Go.Operand.tmp 6)) 30 [] (by kernel_rfl) (by kernel_rfl) (by kernel_rfl) (fun _ _ h => h) (by rw [hsz]; kernel_rfl) (by kernel_rfl) rfl fun vals w1 ρ hG hF hρ hcst hfun => ?_
      have e6 : ρ (.tmp 6) = .slice (some ⟨q, 0, none⟩) 1 1 := ((hρ 6).trans (slotO [] (by kernel_rfl))).trans sl6
      clear hρ hF hcst hfun sl1 sl2 sl3 sl4 sl5 sl6 fin
      exact opv_val (by go_simp <;> rfl) ⟨gw_self _, rfl⟩
    · refine owes_vt 22 true (Go.Op.indexAddr 30 (Go.Operand.tmp 56) (Go.Operand.const (Go.Value.int Go.IntKind.i64 0))) 0 [23] (by kernel_rfl) (by kernel_rfl) (by kernel_rfl) (fun _ _ h => h) (by rw [hsz]; kernel_rfl) (by kernel_rfl) rfl fun vals w1 ρ hG hF hρ hcst hfun => ?_
      have e56 : ρ (.tmp 56) = .slice (some ⟨q, 0, none⟩) 1 1 := ((hρ 56).trans (slotJ [23] (by rw [hsz]; decide) (by kernel_rfl))).trans (hF 23 (by decide))
      clear hρ hF hfun sl1 sl2 sl3 sl4 sl5 sl6 fin
      exact opv_val (by go_simp <;> rfl) ⟨gw_self _, rfl⟩
    · refine owes_vt 22 true (Go.Op.load 29 (Go.Operand.tmp 57)) 29 [24] (by kernel_rfl) (by kernel_rfl) (by kernel_rfl) (fun _ _ h => h) (by rw [hsz]; kernel_rfl) (by kernel_rfl) rfl fun vals w1 ρ hG hF hρ hcst hfun => ?_
      have e57 : ρ (.tmp 57) = .pointer (some ⟨q, 0, none⟩) := ((hρ 57).trans (slotJ [24] (by rw [hsz]; decide) (by kernel_rfl))).trans (hF 24 (by decide))
      have k := rd_five (r6.below hG)
      clear hρ hF hcst hfun sl1 sl2 sl3 sl4 sl5 sl6 fin
      exact opv_val (by go_simp <;> rfl) ⟨gw_self _, rfl⟩
    · refine owes_vt 22 true (Go.Op.binOp Go.BinOp.eql 29 (Go.Operand.tmp 58) (Go.Operand.const (Go.Value.int Go.IntKind.u64 5)) 29) 4 [25] (by kernel_rfl) (by kernel_rfl) (by kernel_rfl) (fun _ _ h => h) (by rw [hsz]; kernel_rfl) (by kernel_rfl) rfl fun vals w1 ρ hG hF hρ hcst hfun => ?_
      have e58 : ρ (.tmp 58) = .int .u64 5 := ((hρ 58).trans (slotJ [25] (by rw [hsz]; decide) (by kernel_rfl))).trans (hF 25 (by decide))
      clear hρ hF hfun sl1 sl2 sl3 sl4 sl5 sl6 fin
      exact opv_val (by go_simp <;> rfl) ⟨gw_self _, rfl⟩
    · refine owes_v (Go.Op.pick (Go.Operand.tmp 55) (Go.Operand.tmp 59) (Go.Operand.const (Go.Value.bool false))) 4 [22, 26] (by kernel_rfl) (by kernel_rfl) (by kernel_rfl) rfl fun vals w1 ρ hG hF hρ hcst hfun => ?_
      have e55 : ρ (.tmp 55) = .bool true := ((hρ 55).trans (slotJ [22, 26] (by rw [hsz]; decide) (by kernel_rfl))).trans (hF 22 (by decide))
      have e59 : ρ (.tmp 59) = .bool true := ((hρ 59).trans (slotJ [22, 26] (by rw [hsz]; decide) (by kernel_rfl))).trans (hF 26 (by decide))
      clear hρ hF hfun sl1 sl2 sl3 sl4 sl5 sl6 fin
      exact opv_val (by go_simp <;> rfl) ⟨gw_self _, rfl⟩
    · exact owes_mvj 27 60 (by kernel_rfl) (by kernel_rfl) (by kernel_rfl) (by kernel_rfl) (by rw [hsz]; decide) (fun v w h => h)
    · refine owes_vt 28 true (Go.Op.move (Go.Operand.tmp 2)) 42 [] (by kernel_rfl) (by kernel_rfl) (by kernel_rfl) (fun _ _ h => h) (by rw [hsz]; kernel_rfl) (by kernel_rfl) rfl fun vals w1 ρ hG hF hρ hcst hfun => ?_
      have e2 : ρ (.tmp 2) = .pointer (some ⟨d, 0, none⟩) := ((hρ 2).trans (slotO [] (by kernel_rfl))).trans sl2
      clear hρ hF hcst hfun sl1 sl2 sl3 sl4 sl5 sl6 fin
      exact opv_val (by go_simp <;> rfl) ⟨gw_self _, rfl⟩
    · refine owes_vt 28 true (Go.Op.call { callee := Go.Callee.value (Go.Operand.func 32), args := #[Go.Operand.tmp 62], argTypes := #[42] }) 3 [29] (by kernel_rfl) (by kernel_rfl) (by kernel_rfl) (fun _ _ h => h) (by rw [hsz]; kernel_rfl) (by kernel_rfl) rfl fun vals w1 ρ hG hF hρ hcst hfun => ?_
      have e62 : ρ (.tmp 62) = .pointer (some ⟨d, 0, none⟩) := ((hρ 62).trans (slotJ [29] (by rw [hsz]; decide) (by kernel_rfl))).trans (hF 29 (by decide))
      clear hρ hF hcst sl1 sl2 sl3 sl4 sl5 sl6 fin
      exact opv_enter (by go_simp <;> rfl) (of_ret (dec_left w1 d [] 0 (hd.below hG)))
    · refine owes_vt 28 true (Go.Op.binOp Go.BinOp.eql 3 (Go.Operand.tmp 63) (Go.Operand.const (Go.Value.int Go.IntKind.i64 0)) 3) 4 [30] (by kernel_rfl) (by kernel_rfl) (by kernel_rfl) (fun _ _ h => h) (by rw [hsz]; kernel_rfl) (by kernel_rfl) rfl fun vals w1 ρ hG hF hρ hcst hfun => ?_
      have e63 : ρ (.tmp 63) = .int .i64 0 := ((hρ 63).trans (slotJ [30] (by rw [hsz]; decide) (by kernel_rfl))).trans (hF 30 (by decide))
      clear hρ hF hfun sl1 sl2 sl3 sl4 sl5 sl6 fin
      exact opv_val (by go_simp <;> rfl) ⟨gw_self _, rfl⟩
    · refine owes_v (Go.Op.pick (Go.Operand.tmp 61) (Go.Operand.tmp 64) (Go.Operand.const (Go.Value.bool false))) 4 [28, 31] (by kernel_rfl) (by kernel_rfl) (by kernel_rfl) rfl fun vals w1 ρ hG hF hρ hcst hfun => ?_
      have e61 : ρ (.tmp 61) = .bool true := ((hρ 61).trans (slotJ [28, 31] (by rw [hsz]; decide) (by kernel_rfl))).trans (hF 28 (by decide))
      have e64 : ρ (.tmp 64) = .bool true := ((hρ 64).trans (slotJ [28, 31] (by rw [hsz]; decide) (by kernel_rfl))).trans (hF 31 (by decide))
      clear hρ hF hfun sl1 sl2 sl3 sl4 sl5 sl6 fin
      exact opv_val (by go_simp <;> rfl) ⟨gw_self _, rfl⟩
    · exact owes_mvj 32 65 (by kernel_rfl) (by kernel_rfl) (by kernel_rfl) (by kernel_rfl) (by rw [hsz]; decide) (fun v w h => h)
    · refine owes_vt 33 true (Go.Op.move (Go.Operand.tmp 2)) 42 [] (by kernel_rfl) (by kernel_rfl) (by kernel_rfl) (fun _ _ h => h) (by rw [hsz]; kernel_rfl) (by kernel_rfl) rfl fun vals w1 ρ hG hF hρ hcst hfun => ?_
      have e2 : ρ (.tmp 2) = .pointer (some ⟨d, 0, none⟩) := ((hρ 2).trans (slotO [] (by kernel_rfl))).trans sl2
      clear hρ hF hcst hfun sl1 sl2 sl3 sl4 sl5 sl6 fin
      exact opv_val (by go_simp <;> rfl) ⟨gw_self _, rfl⟩
    · refine owes_vt 33 true (Go.Op.call { callee := Go.Callee.value (Go.Operand.func 33), args := #[Go.Operand.tmp 67], argTypes := #[42] }) 49 [34] (by kernel_rfl) (by kernel_rfl) (by kernel_rfl) (fun _ _ h => h) (by rw [hsz]; kernel_rfl) (by kernel_rfl) rfl fun vals w1 ρ hG hF hρ hcst hfun => ?_
      have e67 : ρ (.tmp 67) = .pointer (some ⟨d, 0, none⟩) := ((hρ 67).trans (slotJ [34] (by rw [hsz]; decide) (by kernel_rfl))).trans (hF 34 (by decide))
      clear hρ hF hcst sl1 sl2 sl3 sl4 sl5 sl6 fin
      exact opv_enter (by go_simp <;> rfl) (of_ret (dec_err w1 d [] 0 (hd.below hG)))
    · refine owes_vt 33 true (Go.Op.binOp Go.BinOp.eql 3 (Go.Operand.tmp 68) (Go.Operand.const (Go.Value.int Go.IntKind.i64 0)) 3) 4 [35] (by kernel_rfl) (by kernel_rfl) (by kernel_rfl) (fun _ _ h => h) (by rw [hsz]; kernel_rfl) (by kernel_rfl) rfl fun vals w1 ρ hG hF hρ hcst hfun => ?_
      have e68 : ρ (.tmp 68) = .int .i64 0 := ((hρ 68).trans (slotJ [35] (by rw [hsz]; decide) (by kernel_rfl))).trans (hF 35 (by decide))
      clear hρ hF hfun sl1 sl2 sl3 sl4 sl5 sl6 fin
      exact opv_val (by go_simp <;> rfl) ⟨gw_self _, rfl⟩
    · refine owes_v (Go.Op.pick (Go.Operand.tmp 66) (Go.Operand.tmp 69) (Go.Operand.const (Go.Value.bool false))) 4 [33, 36] (by kernel_rfl) (by kernel_rfl) (by kernel_rfl) rfl fun vals w1 ρ hG hF hρ hcst hfun => ?_
      have e66 : ρ (.tmp 66) = .bool true := ((hρ 66).trans (slotJ [33, 36] (by rw [hsz]; decide) (by kernel_rfl))).trans (hF 33 (by decide))
      have e69 : ρ (.tmp 69) = .bool true := ((hρ 69).trans (slotJ [33, 36] (by rw [hsz]; decide) (by kernel_rfl))).trans (hF 36 (by decide))
      clear hρ hF hfun sl1 sl2 sl3 sl4 sl5 sl6 fin
      exact opv_val (by go_simp <;> rfl) ⟨gw_self _, rfl⟩
    · exact owes_mvj 37 70 (by kernel_rfl) (by kernel_rfl) (by kernel_rfl) (by kernel_rfl) (by rw [hsz]; decide) (fun v w h => h)
  · intro vals w1 hG hF
    exact fin vals w1 hG (hF 38 (by decide +kernel))
end Go.Proofs.Yteefcimepdbehaa
