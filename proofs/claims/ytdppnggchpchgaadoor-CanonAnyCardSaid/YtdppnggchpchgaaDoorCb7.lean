/- Texts joined: RegX RegY GvS GvC GvE CrcB CrcC CrcR. -/
import Derived.Test.YtdppnggchpchgaaDoorCb6
import Derived.Laws.CopyRow
import Derived.Laws.Rows
import Derived.Laws.Tables
import Derived.Test.YtdppnggchpchgaaDoorCrcA
import Derived.Deep.RegionHeld3
import Derived.Test.YtdppnggchpchgaaDoorCrcD
import Derived.Test.YtdppnggchpchgaaDoorRegV
import Derived.LoopTactic
/- Operations that wait for each other in part: those that may come next, listed. No conditions. -/
namespace Go.Proofs.YtdppnggchpchgaaDoor
set_option linter.unusedVariables false
set_option linter.unusedSimpArgs false
open Go.RowKit
section
variable {P : Program} {ops : Array Oper} {Q : Exit → Act → World → Prop}
/-- One step: nx lists which of rest may come next, and what is left then. -/
theorem spineS_of {W : World → Prop} {n : Nat} {rest : List Nat} {a : Act} {w : World} (nx : List (Nat × List Nat))
    (hcov : (rest.all fun i => (rest.any fun j => waitsB ops i j) || nx.any (fun x => x.1 == i && x.2 == rest.erase i)) = true)
    (H : ∀ x ∈ nx, ∃ o, ops[x.1]? = some o ∧ o.guard = none ∧ Oper.wp P o a w (fun a' w' => a'.defers = a.defers ∧ W w' ∧ SpineS P ops Q W n x.2 a' w') NoQ) : SpineS P ops Q W (n + 1) rest a w := by
  intro i hi hfree
  rw [List.all_eq_true] at hcov
  have h := hcov i hi
  rw [Bool.or_eq_true] at h
  rcases h with h | h
  · rw [List.any_eq_true] at h
    obtain ⟨j, hj, hw⟩ := h
    rw [List.all_eq_true] at hfree
    have := hfree j hj
    rw [hw] at this
    cases this
  · rw [List.any_eq_true] at h
    obtain ⟨x, hx, hxe⟩ := h
    rw [Bool.and_eq_true, beq_iff_eq, beq_iff_eq] at hxe
    obtain ⟨rfl, e⟩ := hxe
    have := H x hx
    rw [e] at this
    exact this
end
end Go.Proofs.YtdppnggchpchgaaDoor
/- One operation of a region by its run, over any frame. No conditions. -/
namespace Go.Proofs.YtdppnggchpchgaaDoor
set_option linter.unusedVariables false
set_option linter.unusedSimpArgs false
open Go.RowKit
set_option maxHeartbeats 1000000
set_option maxRecDepth 100000
section
variable {P : Program} {ops : Array Oper} {Q : Exit → Act → World → Prop}
/-- One of the row, by its run. -/
theorem set_exec {i n : Nat} {is : List Nat} {W : World → Prop} {d : Option Tmp} {op : Op} {type : TypeId} {a : Act} {w w' : World} {v : Value} (ho : (ops[i]?).map (fun o => (o.op, o.type)) = some (op, type)) (hdo : (ops[i]?).map (·.dst) = some d) (hg : (ops[i]?).bind (·.guard) = none)
    (hrun : (execOp a.eval { dst := d, op, type, pos := "", after := #[], guard := none }).run P w = .ok (.value v) w') (hW : W w') (h : SpineS P ops Q W n is (a.put d v) w') : ∃ o, ops[i]? = some o ∧ o.guard = none ∧ Oper.wp P o a w (fun a' w' => a'.defers = a.defers ∧ W w' ∧ SpineS P ops Q W n is a' w') NoQ := by
  cases hi : ops[i]? with
  | none => rw [hi] at ho; cases ho
  | some o =>
    rw [hi] at ho hdo hg
    obtain ⟨dst, op', type', pos, after, guard⟩ := o
    simp only [Option.map_some, Option.some.injEq, Prod.mk.injEq] at ho hdo
    obtain ⟨rfl, rfl⟩ := ho
    subst hdo
    simp only [Option.bind_some] at hg
    subst hg
    refine ⟨_, rfl, rfl, ?_⟩
    have he : execOp a.eval { dst, op := op', type := type', pos, after, guard := none } = execOp a.eval { dst, op := op', type := type', pos := "", after := #[], guard := none } := by
      cases op' <;> rfl
    unfold Oper.wp
    rw [he, hrun]
    simp only [Oper.upon]
    exact ⟨by cases dst <;> rfl, hW, h⟩
theorem float_exec {i : Nat} {op : Op} {type : TypeId} {ρ : Operand → Value} {w : World} {v : Value} (ho : (ops[i]?).map (fun o => (o.op, o.type)) = some (op, type))
    (hrun : (execOp ρ { dst := none, op, type, pos := "", after := #[], guard := none }).run P w = .ok (.value v) w) : ∃ o, ops[i]? = some o ∧ (execOp ρ o).run P w = .ok (.value v) w := by
  cases hi : ops[i]? with
  | none => rw [hi] at ho; cases ho
  | some o =>
    rw [hi] at ho
    obtain ⟨dst, op', type', pos, after, guard⟩ := o
    simp only [Option.map_some, Option.some.injEq, Prod.mk.injEq] at ho
    obtain ⟨rfl, rfl⟩ := ho
    refine ⟨_, rfl, ?_⟩
    rw [← hrun]
    cases op' <;> rfl
theorem put_comm (a : Act) (d e : Nat) (u v : Value) (h : d ≠ e) : (a.put (some d) u).put (some e) v = (a.put (some e) v).put (some d) u := by
  simp only [Act.put]
  rw [Array.setIfInBounds_comm _ _ h]
end
end Go.Proofs.YtdppnggchpchgaaDoor
/- Stores of whole rows by law. No conditions. -/
namespace Go.Proofs.YtdppnggchpchgaaDoor
set_option linter.unusedVariables false
set_option linter.unusedSimpArgs false
open Go.RowKit Go.Maps
set_option maxRecDepth 100000
set_option maxHeartbeats 4000000
theorem srow_below {w : World} {B g : Nat} (hB : B ≤ g) (cs : Array Value) : Below B w (w.setRow g cs) :=
  ⟨rfl, rfl, rfl, by simp, fun k hk => setRow_other w g k cs (by omega)⟩
theorem srow_kept (w : World) (g : Nat) (cs : Array Value) : Kept (fun k => k = g) w (w.setRow g cs) := ⟨rfl, rfl, rfl, by simp, fun k _ hk => setRow_other w g k cs hk⟩
/-- A store of a whole row. -/
theorem wp_stR {P : Program} {ops : Array Oper} {rest : List Oper} {o : Oper} {a : Act} {w : World} {Q : Exit → Act → World → Prop} (hg : o.guard = none) (T : TypeId) (x y : Operand) (ho : o.op = .store T x y) (g : Nat) (cs : Array Value) (hx : a.eval x = .pointer (some ⟨g, 0, none⟩)) (hy : a.eval y = .agg cs) (E : TypeId) (old : Array Value) (hb : Bk w g E old)
    (hi : (P.info? T).map (·.size) = some cs.size) (hold : old.size = cs.size) (h1 : cs.all (·.oneCell') = true)
    (h : ∀ w', Bk w' g E cs → (∀ B, B ≤ g → Below B w w') → Kept (fun k => k = g) w w' → wpList P ops Q rest (a.put o.dst undef) w') : wpList P ops Q (o :: rest) a w :=
  wpList_store_row hg T x y ho g cs hx hy E old hb hi hold h1 (h _ (setRow_heap w g old cs E (0, 0) hb) (fun B hB => srow_below hB cs) (srow_kept w g cs))
theorem Kept.as_grown {w w' : World} {b : Nat} (h : Kept (fun k => k = b) w w') : w.grownBy w' (some b) := ⟨h.os, h.tape, h.output, h.size, fun k hk hne => h.block k hk (fun e => hne (by rw [e]))⟩
end Go.Proofs.YtdppnggchpchgaaDoor
/- The reference's Canon. Conditions: lengths; pointers and roots are some node's or 0. -/
namespace Go.Proofs.YtdppnggchpchgaaDoor
set_option linter.unusedVariables false
set_option linter.unusedSimpArgs false
open Go.RowKit Go.Maps
/-- A box of another type than all rows of a graph's is written to. -/
theorem GO2.far {W W' : World} {B q : Nat} {g : Gv} {cs : Array Value} {m : Nat × Nat} (h : GO2 W B g) (hg : W.grownBy W' (some q)) (hq : W.heap[q]? = some (.cells cs 32 m)) : GO2 W' B g := by
  refine ⟨h.nd.far hg hq (by decide) (by decide) (by decide), World.ownsRow.kept h.rt hg ?_⟩
  rcases h.rt.2 with ⟨e, _⟩ | ⟨g, cap, cur, e, _, hh, _⟩
  · left; rw [e]; rfl
  · right; rw [e]; intro e3; injection e3 with e3; exact type_ne2 hh hq (by decide) e3
def PkT (B : Nat) (N : Nat) (ns : List Nv) (rs : List Rv) (od : List Int) (v : Value) (w : World) : Prop := ∃ (g' : Gv) (q : Nat), v = .tuple #[g'.v, .slice (some ⟨q, 0, none⟩) N N] ∧ GO2 w B g' ∧ g'.n.map Nv.m = pickN ns od od ∧ g'.r = rs.map (fun r => ⟨r.s, newO od r.t⟩)
theorem PkT.mono {B N : Nat} {ns : List Nv} {rs : List Rv} {od : List Int} {v : Value} {a b : World} (h : PkT B N ns rs od v a) (g : Below a.heap.size a b) : PkT B N ns rs od v b := by
  obtain ⟨g', q, e, h, r⟩ := h
  exact ⟨g', q, e, h.below g, r⟩
def PkG (B : Nat) (ns : List Nv) (rs : List Rv) (od : List Int) (v : Value) (w : World) : Prop := ∃ (g' : Gv), v = g'.v ∧ GO2 w B g' ∧ g'.n.map Nv.m = pickN ns od od ∧ g'.r = rs.map (fun r => ⟨r.s, newO od r.t⟩)
theorem PkG.mono {B : Nat} {ns : List Nv} {rs : List Rv} {od : List Int} {v : Value} {a b : World} (h : PkG B ns rs od v a) (g : Below a.heap.size a b) : PkG B ns rs od v b := by
  obtain ⟨g', e, h, r⟩ := h
  exact ⟨g', e, h.below g, r⟩
def PkW (B : Nat) (v : Value) (w : World) : Prop := ∃ k, v = .pointer (some ⟨k, 0, none⟩) ∧ B ≤ k ∧ Bk w k 32 #[.slice none 0 0, .slice none 0 0]
theorem PkW.mono {B : Nat} {v : Value} {a b : World} (h : PkW B v a) (g : Below a.heap.size a b) : PkW B v b := by
  obtain ⟨k, e, h0, h⟩ := h
  exact ⟨k, e, h0, h.below g h.lt⟩
def AnyW (_ : Value) (_ : World) : Prop := True
theorem AnyW.mono {v : Value} {a b : World} (_ : AnyW v a) (_ : Below a.heap.size a b) : AnyW v b := trivial
theorem walk_k {W : World} {g : Gv} {v u : Value} {fr od : List Int} (hod : walkL g.n fr = od) (hv : g.v = v) (hf : FewP g) (hok : ∀ x ∈ g.n, ∀ p ∈ x.ps, okP g.n.length p = true) (h : g.At W W.heap.size) (hl : fr.length ≤ 1000) (hu : IntsV fr u W) : Calls Tryd.prog 18 #[v, u] W fun e w2 => ∃ u, e = .returned u ∧ Below W.heap.size W w2 ∧ IntsV od u w2 := by
  subst hod
  obtain ⟨A, c, rfl, hr⟩ := hu
  rw [← hv]
  refine (walk_o W g h hf hok A c fr hr hl).mono ?_
  rintro e w2 ⟨v, rfl, ho, b2⟩
  obtain ⟨A', c', rfl, _⟩ := ho.form
  exact ⟨_, rfl, b2, A', c', rfl, ho.rd⟩
theorem pick_k {W : World} {g : Gv} {v u : Value} {od : List Int} {B N : Nat} (hN : N = g.n.length) (hv : g.v = v) (hf : FewP g) (hok : ∀ x ∈ g.n, ∀ p ∈ x.ps, okP g.n.length p = true) (hrt : ∀ r ∈ g.r, okP g.n.length r.t = true) (h : g.At W W.heap.size) (hod : ∀ p ∈ od, hasG g.n.length p = true) (hnd : od.Nodup) (hl : od.length ≤ 1000) (hB : B ≤ W.heap.size) (hu : IntsV od u W) :
    Calls Tryd.prog 22 #[v, u] W fun e w2 => ∃ u, e = .returned u ∧ Below W.heap.size W w2 ∧ PkT B N g.n g.r od u w2 := by
  obtain ⟨A, c, rfl, hr⟩ := hu
  rw [← hv]
  refine (pick_c W g h hf hok hrt A c od hr hod hnd hl).mono ?_
  rintro e w2 ⟨g', q, rfl, ho, _, h1, h2, b2⟩
  exact ⟨_, rfl, b2, g', q, by rw [hN], ho.mono hB, h1, h2⟩
theorem set_call {P : Program} {ops : Array Oper} {Q : Exit → Act → World → Prop} {i n : Nat} {is : List Nat} {W : World → Prop} {d : Option Tmp} {op : Op} {type : TypeId} {a : Act} {w w1 : World} {f : FuncId} {args : Array Value} (ho : (ops[i]?).map (fun o => (o.op, o.type)) = some (op, type)) (hdo : (ops[i]?).map (·.dst) = some d) (hg : (ops[i]?).bind (·.guard) = none)
    (hrun : (execOp a.eval { dst := d, op, type, pos := "", after := #[], guard := none }).run P w = .ok (.enter f args) w1) (h : Calls P f args w1 fun e w' => ∃ v, e = .returned v ∧ W w' ∧ SpineS P ops Q W n is (a.put d v) w') : ∃ o, ops[i]? = some o ∧ o.guard = none ∧ Oper.wp P o a w (fun a' w' => a'.defers = a.defers ∧ W w' ∧ SpineS P ops Q W n is a' w') NoQ := by
  cases hi : ops[i]? with
  | none => rw [hi] at ho; cases ho
  | some o =>
    rw [hi] at ho hdo hg
    obtain ⟨dst, op', type', pos, after, guard⟩ := o
    simp only [Option.map_some, Option.some.injEq, Prod.mk.injEq] at ho hdo
    obtain ⟨rfl, rfl⟩ := ho
    subst hdo
    simp only [Option.bind_some] at hg
    subst hg
    refine ⟨_, rfl, rfl, ?_⟩
    have he : execOp a.eval { dst, op := op', type := type', pos, after, guard := none } = execOp a.eval { dst, op := op', type := type', pos := "", after := #[], guard := none } := by
      cases op' <;> rfl
    unfold Oper.wp
    rw [he, hrun]
    simp only [Oper.upon]
    refine Calls.mono h fun e w'' he => ?_
    obtain ⟨v, rfl, hw, hs⟩ := he
    exact ⟨by cases dst <;> rfl, hw, hs⟩
set_option maxHeartbeats 1500000
set_option maxRecDepth 100000
/-- The store of a graph in a box of its own. -/
def NilG : Array Value := #[.slice none 0 0, .slice none 0 0]
theorem canon_r (Q : Exit → Act → World → Prop) (a0 : Act) (w : World) (s N M a1 a2 : Nat) (A A2 : Option Addr) (g : Gv) (od : List Int) (hN : Hid (N = g.n.length)) (hv : Hid (g.v = .agg #[.slice A N a1, .slice A2 M a2])) (hf : FewP g) (hok : Hid (∀ x ∈ g.n, ∀ p ∈ x.ps, okP g.n.length p = true)) (hrt : Hid (∀ r ∈ g.r, okP g.n.length r.t = true)) (ha : Hid (GBx w s g (.slice A N a1) (.slice A2 M a2))) (hl : (g.r.map (·.t)).length ≤ 1000) (hod : Hid (walkL g.n (g.r.map (·.t)) = od)) (hol : od.length ≤ 1000) (hoh : Hid (∀ p ∈ od, hasG g.n.length p = true)) (hon : Hid od.Nodup) (hsw : s < w.heap.size)
    (hsz : a0.tmps.size = 15) (h1 : a0.tmps.getD 1 undef = .pointer (some ⟨s, 0, none⟩))
    (fin : ∀ (v9 v10 : Value) (g' : Gv) (q b : Nat) V, Below w.heap.size w V → GO2 V w.heap.size g' → g'.n.map Nv.m = pickN g.n od od → g'.r = g.r.map (fun r => ⟨r.s, newO od r.t⟩) → Bk V b 32 #[g'.vn, g'.vr] → w.heap.size ≤ b → Q .normal (((((((((putA [(0, 6, .agg #[.slice A N a1, .slice A2 M a2]), (1, 7, .agg #[.slice A N a1, .slice A2 M a2]), (2, 8, .agg #[.slice A N a1, .slice A2 M a2])] a0).put (some 9) v9).put (some 10) v10).put (some 11) (.tuple #[g'.v, .slice (some ⟨q, 0, none⟩) N N])).put (some 5) (.tuple #[g'.v, .slice (some ⟨q, 0, none⟩) N N])).put (some 12) g'.v).put (some 13) (.slice (some ⟨q, 0, none⟩) N N)).put (some 3) (.pointer (some ⟨b, 0, none⟩))).put (some 4) (.slice (some ⟨q, 0, none⟩) N N)) V) :
    (Code.region 1 (regIn Tryd.f13 1) true).wp Tryd.prog Q a0 w := by
  have hP : ∀ V, Below w.heap.size w V → (fun W => W.cell? ⟨s, 0, none⟩ = some (.slice A N a1) ∧ W.cell? ⟨s, 1, none⟩ = some (.slice A2 M a2)) V := fun V hb => ⟨(ha.out V hb).1, (ha.out V hb).2.1⟩
  have hAt : Hid (∀ V, Below w.heap.size w V → g.At V V.heap.size) := Lib.hid fun V hb => (ha.out V hb).2.2
  have hNm : ∀ V, Below w.heap.size w V → Calls Tryd.prog 19 #[(.agg #[.slice A N a1, .slice A2 M a2])] V fun e w2 => ∃ u, e = .returned u ∧ Below V.heap.size V w2 ∧ IntsV (g.r.map (·.t)) u w2 := fun V hb => rnamed_k hv.out hf rfl (hAt.out V hb)
  have hWk : ∀ V v9, Below w.heap.size w V → IntsV (g.r.map (·.t)) v9 V → Calls Tryd.prog 18 #[(.agg #[.slice A N a1, .slice A2 M a2]), v9] V fun e w2 => ∃ u, e = .returned u ∧ Below V.heap.size V w2 ∧ IntsV od u w2 := fun V v9 hb h9 => walk_k hod.out hv.out hf hok.out (hAt.out V hb) hl h9
  have hPk : ∀ V v10, Below w.heap.size w V → IntsV od v10 V → Calls Tryd.prog 22 #[(.agg #[.slice A N a1, .slice A2 M a2]), v10] V fun e w2 => ∃ u, e = .returned u ∧ Below V.heap.size V w2 ∧ PkT w.heap.size N g.n g.r od u w2 := fun V v10 hb h10 => pick_k hN.out hv.out hf hok.out hrt.out (hAt.out V hb) hoh.out hon.out hol hb.size h10
  refine region_by_setV 10 [3, 4, 5, 6, 7, 8, 9, 10, 11] [(0, 6, .agg #[.slice A N a1, .slice A2 M a2]), (1, 7, .agg #[.slice A N a1, .slice A2 M a2]), (2, 8, .agg #[.slice A N a1, .slice A2 M a2])] (fun W => W.cell? ⟨s, 0, none⟩ = some (.slice A N a1) ∧ W.cell? ⟨s, 1, none⟩ = some (.slice A2 M a2)) (by kernel_rfl) (by rw [hsz]; kernel_rfl) (by kernel_rfl) (by kernel_rfl) (by kernel_rfl) (by kernel_rfl) (hP _ (Gw.drew _)) ?_ ?_
  · intro y hy V ρ hV hρ hcst
    have e1 : ρ (.tmp 1) = .pointer (some ⟨s, 0, none⟩) := (hρ 1).trans (by simp only [putA]; repeat (first | with_reducible exact put_same _ _ _ (by simp only [put_size, hsz]; decide) | with_reducible refine (put_other _ _ _ _ (by decide)).trans ?_ | with_reducible exact h1))
    clear hρ fin hNm hWk hPk
    obtain ⟨c1, c2⟩ := hV
    simp only [List.mem_cons, List.not_mem_nil, or_false] at hy
    rcases hy with rfl | rfl | rfl
    all_goals exact float_exec (op := .load 32 (.tmp 1)) (type := 32) (by kernel_rfl) (by go_simp)
  obtain ⟨A0, hA0⟩ : ∃ Z, Z = putA [(0, 6, .agg #[.slice A N a1, .slice A2 M a2]), (1, 7, .agg #[.slice A N a1, .slice A2 M a2]), (2, 8, .agg #[.slice A N a1, .slice A2 M a2])] a0 := ⟨_, rfl⟩
  have hs0 : A0.tmps.size = 15 := by rw [hA0]; simp only [putA, put_size, hsz]
  have g6 : A0.tmps.getD 6 undef = .agg #[.slice A N a1, .slice A2 M a2] := by rw [hA0]; simp only [putA]; repeat (first | with_reducible exact put_same _ _ _ (by simp only [put_size, hsz]; decide) | with_reducible refine (put_other _ _ _ _ (by decide)).trans ?_)
  have g7 : A0.tmps.getD 7 undef = .agg #[.slice A N a1, .slice A2 M a2] := by rw [hA0]; simp only [putA]; repeat (first | with_reducible exact put_same _ _ _ (by simp only [put_size, hsz]; decide) | with_reducible refine (put_other _ _ _ _ (by decide)).trans ?_)
  have g8 : A0.tmps.getD 8 undef = .agg #[.slice A N a1, .slice A2 M a2] := by rw [hA0]; simp only [putA]; repeat (first | with_reducible exact put_same _ _ _ (by simp only [put_size, hsz]; decide) | with_reducible refine (put_other _ _ _ _ (by decide)).trans ?_)
  rw [← hA0] at fin ⊢
  clear hA0 h1
  have hb0 : Below w.heap.size w w.drew := Gw.drew w
  generalize w.drew = V0 at hb0 ⊢
  have T3 : (regIn Tryd.f13 1)[3]?.map (fun o => (o.op, o.type)) = some (.call { callee := .value (.func 19), args := #[.tmp 8], argTypes := #[32] }, 40) := by kernel_rfl
  have T4 : (regIn Tryd.f13 1)[4]?.map (fun o => (o.op, o.type)) = some (.call { callee := .value (.func 18), args := #[.tmp 7, .tmp 9], argTypes := #[32, 40] }, 40) := by kernel_rfl
  have T5 : (regIn Tryd.f13 1)[5]?.map (fun o => (o.op, o.type)) = some (.call { callee := .value (.func 22), args := #[.tmp 6, .tmp 10], argTypes := #[32, 40] }, 46) := by kernel_rfl
  have T6 : (regIn Tryd.f13 1)[6]?.map (fun o => (o.op, o.type)) = some (.move (.tmp 11), 46) := by kernel_rfl
  have T7 : (regIn Tryd.f13 1)[7]?.map (fun o => (o.op, o.type)) = some (.extract (.tmp 5) 0, 32) := by kernel_rfl
  have T8 : (regIn Tryd.f13 1)[8]?.map (fun o => (o.op, o.type)) = some (.extract (.tmp 5) 1, 40) := by kernel_rfl
  have T9 : (regIn Tryd.f13 1)[9]?.map (fun o => (o.op, o.type)) = some (.alloc 32, 0) := by kernel_rfl
  have T10 : (regIn Tryd.f13 1)[10]?.map (fun o => (o.op, o.type)) = some (.store 32 (.tmp 3) (.tmp 12), 0) := by kernel_rfl
  have T11 : (regIn Tryd.f13 1)[11]?.map (fun o => (o.op, o.type)) = some (.assign (.tmp 13), 40) := by kernel_rfl
  have R3 : ∀ (ρ : Operand → Value) (V : World), ρ (.func 19) = .func (.func 19) #[] #[] → ρ (.tmp 8) = (.agg #[.slice A N a1, .slice A2 M a2]) → (execOp ρ { dst := some 9, op := .call { callee := .value (.func 19), args := #[.tmp 8], argTypes := #[32] }, type := 40, pos := "", after := #[], guard := none }).run Tryd.prog V = .ok (.enter 19 #[(.agg #[.slice A N a1, .slice A2 M a2])]) V := fun ρ V e0 e1 => by go_simp
  have R4 : ∀ (ρ : Operand → Value) (V : World) (v9 : Value), ρ (.func 18) = .func (.func 18) #[] #[] → ρ (.tmp 7) = (.agg #[.slice A N a1, .slice A2 M a2]) → ρ (.tmp 9) = v9 → (execOp ρ { dst := some 10, op := .call { callee := .value (.func 18), args := #[.tmp 7, .tmp 9], argTypes := #[32, 40] }, type := 40, pos := "", after := #[], guard := none }).run Tryd.prog V = .ok (.enter 18 #[(.agg #[.slice A N a1, .slice A2 M a2]), v9]) V := fun ρ V v9 e0 e1 e2 => by go_simp
  have R5 : ∀ (ρ : Operand → Value) (V : World) (v10 : Value), ρ (.func 22) = .func (.func 22) #[] #[] → ρ (.tmp 6) = (.agg #[.slice A N a1, .slice A2 M a2]) → ρ (.tmp 10) = v10 → (execOp ρ { dst := some 11, op := .call { callee := .value (.func 22), args := #[.tmp 6, .tmp 10], argTypes := #[32, 40] }, type := 46, pos := "", after := #[], guard := none }).run Tryd.prog V = .ok (.enter 22 #[(.agg #[.slice A N a1, .slice A2 M a2]), v10]) V := fun ρ V v10 e0 e1 e2 => by go_simp
  have R6 : ∀ (ρ : Operand → Value) (V : World) (v : Value), ρ (.tmp 11) = v → (execOp ρ { dst := some 5, op := .move (.tmp 11), type := 46, pos := "", after := #[], guard := none }).run Tryd.prog V = .ok (.value v) V := fun ρ V v e => by go_simp
  have R7 : ∀ (ρ : Operand → Value) (V : World) (u v : Value), ρ (.tmp 5) = .tuple #[u, v] → (execOp ρ { dst := some 12, op := .extract (.tmp 5) 0, type := 32, pos := "", after := #[], guard := none }).run Tryd.prog V = .ok (.value u) V := fun ρ V u v e => by go_simp
  have R8 : ∀ (ρ : Operand → Value) (V : World) (u v : Value), ρ (.tmp 5) = .tuple #[u, v] → (execOp ρ { dst := some 13, op := .extract (.tmp 5) 1, type := 40, pos := "", after := #[], guard := none }).run Tryd.prog V = .ok (.value v) V := fun ρ V u v e => by go_simp
  have R9 : ∀ (ρ : Operand → Value) (V : World), (execOp ρ { dst := some 3, op := .alloc 32, type := 0, pos := "", after := #[], guard := none }).run Tryd.prog V = .ok (.value (.pointer (some ⟨V.heap.size, 0, none⟩))) (V.alloc (.cells NilG 32)) := fun ρ V => by unfold NilG; go_simp
  have R11 : ∀ (ρ : Operand → Value) (V : World) (v : Value), ρ (.tmp 13) = v → (execOp ρ { dst := some 4, op := .assign (.tmp 13), type := 40, pos := "", after := #[], guard := none }).run Tryd.prog V = .ok (.value v) V := fun ρ V v e => by go_simp
  have E_11 : ∀ (v9 : Value) (v10 : Value) (g' : Gv) (q : Nat) (b : Nat) (Z : Act) (V : World), Z = (((((((A0.put (some 9) v9).put (some 10) v10).put (some 11) (.tuple #[g'.v, .slice (some ⟨q, 0, none⟩) N N])).put (some 5) (.tuple #[g'.v, .slice (some ⟨q, 0, none⟩) N N])).put (some 12) g'.v).put (some 13) (.slice (some ⟨q, 0, none⟩) N N)).put (some 3) (.pointer (some ⟨b, 0, none⟩))) → Below w.heap.size w V → GO2 V w.heap.size g' → g'.n.map Nv.m = pickN g.n od od → g'.r = g.r.map (fun r => (⟨r.s, newO od r.t⟩ : Rv)) → Bk V b 32 #[g'.vn, g'.vr] → w.heap.size ≤ b → SpineS Tryd.prog (regIn Tryd.f13 1) Q (fun W => W.cell? ⟨s, 0, none⟩ = some (.slice A N a1) ∧ W.cell? ⟨s, 1, none⟩ = some (.slice A2 M a2)) 1 [11] Z V := by
    intro v9 v10 g' q b Z V hA hb hg hm hr hk hs
    refine spineS_of [(11, [])] (by kernel_rfl) ?_
    intro x hx
    simp only [List.mem_cons, List.not_mem_nil, or_false] at hx
    subst hx
    · refine set_exec T11 (by kernel_rfl) (by kernel_rfl) (R11 _ V (.slice (some ⟨q, 0, none⟩) N N) (by show Array.getD _ 13 _ = _; rw [hA]; repeat (first | with_reducible exact put_same _ _ _ (by simp only [put_size, hs0]; decide) | with_reducible refine (put_other _ _ _ _ (by decide)).trans ?_))) (hP _ hb) ?_
      unfold SpineS
      rw [hA]
      exact fin v9 v10 g' q b V hb hg hm hr hk hs
  have E_10_11 : ∀ (v9 : Value) (v10 : Value) (g' : Gv) (q : Nat) (b : Nat) (Z : Act) (V : World), Z = (((((((A0.put (some 9) v9).put (some 10) v10).put (some 11) (.tuple #[g'.v, .slice (some ⟨q, 0, none⟩) N N])).put (some 5) (.tuple #[g'.v, .slice (some ⟨q, 0, none⟩) N N])).put (some 12) g'.v).put (some 13) (.slice (some ⟨q, 0, none⟩) N N)).put (some 3) (.pointer (some ⟨b, 0, none⟩))) → Below w.heap.size w V → GO2 V w.heap.size g' → g'.n.map Nv.m = pickN g.n od od → g'.r = g.r.map (fun r => (⟨r.s, newO od r.t⟩ : Rv)) → Bk V b 32 NilG → w.heap.size ≤ b → SpineS Tryd.prog (regIn Tryd.f13 1) Q (fun W => W.cell? ⟨s, 0, none⟩ = some (.slice A N a1) ∧ W.cell? ⟨s, 1, none⟩ = some (.slice A2 M a2)) 2 [10, 11] Z V := by
    intro v9 v10 g' q b Z V hA hb hg hm hr hk hs
    refine spineS_of [(10, [11])] (by kernel_rfl) ?_
    intro x hx
    simp only [List.mem_cons, List.not_mem_nil, or_false] at hx
    subst hx
    · refine set_list (d := none) T10 (by kernel_rfl) (by kernel_rfl) ?_
      refine wp_stR rfl 32 (.tmp 3) (.tmp 12) rfl b #[g'.vn, g'.vr] (by show Array.getD _ 3 _ = _; rw [hA]; repeat (first | with_reducible exact put_same _ _ _ (by simp only [put_size, hs0]; decide) | with_reducible refine (put_other _ _ _ _ (by decide)).trans ?_)) (by show Array.getD _ 12 _ = g'.v; rw [hA]; repeat (first | with_reducible exact put_same _ _ _ (by simp only [put_size, hs0]; decide) | with_reducible refine (put_other _ _ _ _ (by decide)).trans ?_)) 32 NilG hk (by kernel_rfl) rfl (by simp [Gv.vn, Gv.vr, Value.oneCell']) ?_
      intro w2 q2 _ o2
      have hb3 : Below w.heap.size w w2 := hb.trans (o2.below hb.size (fun c e => by rw [e]; exact hs))
      refine ⟨rfl, hP _ hb3, ?_⟩
      exact E_11 v9 v10 g' q b _ _ hA hb3 (hg.far (Kept.as_grown o2) hk) hm hr q2 hs
  have E_9_10_11 : ∀ (v9 : Value) (v10 : Value) (g' : Gv) (q : Nat) (Z : Act) (V : World), Z = ((((((A0.put (some 9) v9).put (some 10) v10).put (some 11) (.tuple #[g'.v, .slice (some ⟨q, 0, none⟩) N N])).put (some 5) (.tuple #[g'.v, .slice (some ⟨q, 0, none⟩) N N])).put (some 12) g'.v).put (some 13) (.slice (some ⟨q, 0, none⟩) N N)) → Below w.heap.size w V → GO2 V w.heap.size g' → g'.n.map Nv.m = pickN g.n od od → g'.r = g.r.map (fun r => (⟨r.s, newO od r.t⟩ : Rv)) → SpineS Tryd.prog (regIn Tryd.f13 1) Q (fun W => W.cell? ⟨s, 0, none⟩ = some (.slice A N a1) ∧ W.cell? ⟨s, 1, none⟩ = some (.slice A2 M a2)) 3 [9, 10, 11] Z V := by
    intro v9 v10 g' q Z V hA hb hg hm hr
    refine spineS_of [(9, [10, 11])] (by kernel_rfl) ?_
    intro x hx
    simp only [List.mem_cons, List.not_mem_nil, or_false] at hx
    subst hx
    · have b2 := Gw.alloc V (.cells NilG 32)
      refine set_exec T9 (by kernel_rfl) (by kernel_rfl) (R9 _ V) (hP _ (hb.trans (b2.mono hb.size))) ?_
      exact E_10_11 v9 v10 g' q V.heap.size _ _ (by rw [hA]) (hb.trans (b2.mono hb.size)) (hg.below b2) hm hr (Bk.new V 32 NilG) hb.size
  have E_8_11 : ∀ (v9 : Value) (v10 : Value) (g' : Gv) (q : Nat) (b : Nat) (Z : Act) (V : World), Z = ((((((A0.put (some 9) v9).put (some 10) v10).put (some 11) (.tuple #[g'.v, .slice (some ⟨q, 0, none⟩) N N])).put (some 5) (.tuple #[g'.v, .slice (some ⟨q, 0, none⟩) N N])).put (some 12) g'.v).put (some 3) (.pointer (some ⟨b, 0, none⟩))) → Below w.heap.size w V → GO2 V w.heap.size g' → g'.n.map Nv.m = pickN g.n od od → g'.r = g.r.map (fun r => (⟨r.s, newO od r.t⟩ : Rv)) → Bk V b 32 #[g'.vn, g'.vr] → w.heap.size ≤ b → SpineS Tryd.prog (regIn Tryd.f13 1) Q (fun W => W.cell? ⟨s, 0, none⟩ = some (.slice A N a1) ∧ W.cell? ⟨s, 1, none⟩ = some (.slice A2 M a2)) 2 [8, 11] Z V := by
    intro v9 v10 g' q b Z V hA hb hg hm hr hk hs
    refine spineS_of [(8, [11])] (by kernel_rfl) ?_
    intro x hx
    simp only [List.mem_cons, List.not_mem_nil, or_false] at hx
    subst hx
    · refine set_exec T8 (by kernel_rfl) (by kernel_rfl) (R8 _ V g'.v (.slice (some ⟨q, 0, none⟩) N N) (by show Array.getD _ 5 _ = _; rw [hA]; repeat (first | with_reducible exact put_same _ _ _ (by simp only [put_size, hs0]; decide) | with_reducible refine (put_other _ _ _ _ (by decide)).trans ?_))) (hP _ hb) ?_
      exact E_11 v9 v10 g' q b _ _ (by rw [hA, put_comm _ 3 13 _ _ (by decide)]) hb hg hm hr hk hs
  have E_8_10_11 : ∀ (v9 : Value) (v10 : Value) (g' : Gv) (q : Nat) (b : Nat) (Z : Act) (V : World), Z = ((((((A0.put (some 9) v9).put (some 10) v10).put (some 11) (.tuple #[g'.v, .slice (some ⟨q, 0, none⟩) N N])).put (some 5) (.tuple #[g'.v, .slice (some ⟨q, 0, none⟩) N N])).put (some 12) g'.v).put (some 3) (.pointer (some ⟨b, 0, none⟩))) → Below w.heap.size w V → GO2 V w.heap.size g' → g'.n.map Nv.m = pickN g.n od od → g'.r = g.r.map (fun r => (⟨r.s, newO od r.t⟩ : Rv)) → Bk V b 32 NilG → w.heap.size ≤ b → SpineS Tryd.prog (regIn Tryd.f13 1) Q (fun W => W.cell? ⟨s, 0, none⟩ = some (.slice A N a1) ∧ W.cell? ⟨s, 1, none⟩ = some (.slice A2 M a2)) 3 [8, 10, 11] Z V := by
    intro v9 v10 g' q b Z V hA hb hg hm hr hk hs
    refine spineS_of [(8, [10, 11]), (10, [8, 11])] (by kernel_rfl) ?_
    intro x hx
    simp only [List.mem_cons, List.not_mem_nil, or_false] at hx
    rcases hx with rfl | rfl
    · refine set_exec T8 (by kernel_rfl) (by kernel_rfl) (R8 _ V g'.v (.slice (some ⟨q, 0, none⟩) N N) (by show Array.getD _ 5 _ = _; rw [hA]; repeat (first | with_reducible exact put_same _ _ _ (by simp only [put_size, hs0]; decide) | with_reducible refine (put_other _ _ _ _ (by decide)).trans ?_))) (hP _ hb) ?_
      exact E_10_11 v9 v10 g' q b _ _ (by rw [hA, put_comm _ 3 13 _ _ (by decide)]) hb hg hm hr hk hs
    · refine set_list (d := none) T10 (by kernel_rfl) (by kernel_rfl) ?_
      refine wp_stR rfl 32 (.tmp 3) (.tmp 12) rfl b #[g'.vn, g'.vr] (by show Array.getD _ 3 _ = _; rw [hA]; repeat (first | with_reducible exact put_same _ _ _ (by simp only [put_size, hs0]; decide) | with_reducible refine (put_other _ _ _ _ (by decide)).trans ?_)) (by show Array.getD _ 12 _ = g'.v; rw [hA]; repeat (first | with_reducible exact put_same _ _ _ (by simp only [put_size, hs0]; decide) | with_reducible refine (put_other _ _ _ _ (by decide)).trans ?_)) 32 NilG hk (by kernel_rfl) rfl (by simp [Gv.vn, Gv.vr, Value.oneCell']) ?_
      intro w2 q2 _ o2
      have hb3 : Below w.heap.size w w2 := hb.trans (o2.below hb.size (fun c e => by rw [e]; exact hs))
      refine ⟨rfl, hP _ hb3, ?_⟩
      exact E_8_11 v9 v10 g' q b _ _ hA hb3 (hg.far (Kept.as_grown o2) hk) hm hr q2 hs
  have E_8_9_10_11 : ∀ (v9 : Value) (v10 : Value) (g' : Gv) (q : Nat) (Z : Act) (V : World), Z = (((((A0.put (some 9) v9).put (some 10) v10).put (some 11) (.tuple #[g'.v, .slice (some ⟨q, 0, none⟩) N N])).put (some 5) (.tuple #[g'.v, .slice (some ⟨q, 0, none⟩) N N])).put (some 12) g'.v) → Below w.heap.size w V → GO2 V w.heap.size g' → g'.n.map Nv.m = pickN g.n od od → g'.r = g.r.map (fun r => (⟨r.s, newO od r.t⟩ : Rv)) → SpineS Tryd.prog (regIn Tryd.f13 1) Q (fun W => W.cell? ⟨s, 0, none⟩ = some (.slice A N a1) ∧ W.cell? ⟨s, 1, none⟩ = some (.slice A2 M a2)) 4 [8, 9, 10, 11] Z V := by
    intro v9 v10 g' q Z V hA hb hg hm hr
    refine spineS_of [(8, [9, 10, 11]), (9, [8, 10, 11])] (by kernel_rfl) ?_
    intro x hx
    simp only [List.mem_cons, List.not_mem_nil, or_false] at hx
    rcases hx with rfl | rfl
    · refine set_exec T8 (by kernel_rfl) (by kernel_rfl) (R8 _ V g'.v (.slice (some ⟨q, 0, none⟩) N N) (by show Array.getD _ 5 _ = _; rw [hA]; repeat (first | with_reducible exact put_same _ _ _ (by simp only [put_size, hs0]; decide) | with_reducible refine (put_other _ _ _ _ (by decide)).trans ?_))) (hP _ hb) ?_
      exact E_9_10_11 v9 v10 g' q _ _ (by rw [hA]) hb hg hm hr
    · have b2 := Gw.alloc V (.cells NilG 32)
      refine set_exec T9 (by kernel_rfl) (by kernel_rfl) (R9 _ V) (hP _ (hb.trans (b2.mono hb.size))) ?_
      exact E_8_10_11 v9 v10 g' q V.heap.size _ _ (by rw [hA]) (hb.trans (b2.mono hb.size)) (hg.below b2) hm hr (Bk.new V 32 NilG) hb.size
  have E_7_10_11 : ∀ (v9 : Value) (v10 : Value) (g' : Gv) (q : Nat) (b : Nat) (Z : Act) (V : World), Z = ((((((A0.put (some 9) v9).put (some 10) v10).put (some 11) (.tuple #[g'.v, .slice (some ⟨q, 0, none⟩) N N])).put (some 5) (.tuple #[g'.v, .slice (some ⟨q, 0, none⟩) N N])).put (some 13) (.slice (some ⟨q, 0, none⟩) N N)).put (some 3) (.pointer (some ⟨b, 0, none⟩))) → Below w.heap.size w V → GO2 V w.heap.size g' → g'.n.map Nv.m = pickN g.n od od → g'.r = g.r.map (fun r => (⟨r.s, newO od r.t⟩ : Rv)) → Bk V b 32 NilG → w.heap.size ≤ b → SpineS Tryd.prog (regIn Tryd.f13 1) Q (fun W => W.cell? ⟨s, 0, none⟩ = some (.slice A N a1) ∧ W.cell? ⟨s, 1, none⟩ = some (.slice A2 M a2)) 3 [7, 10, 11] Z V := by
    intro v9 v10 g' q b Z V hA hb hg hm hr hk hs
    refine spineS_of [(7, [10, 11])] (by kernel_rfl) ?_
    intro x hx
    simp only [List.mem_cons, List.not_mem_nil, or_false] at hx
    subst hx
    · refine set_exec T7 (by kernel_rfl) (by kernel_rfl) (R7 _ V g'.v (.slice (some ⟨q, 0, none⟩) N N) (by show Array.getD _ 5 _ = _; rw [hA]; repeat (first | with_reducible exact put_same _ _ _ (by simp only [put_size, hs0]; decide) | with_reducible refine (put_other _ _ _ _ (by decide)).trans ?_))) (hP _ hb) ?_
      exact E_10_11 v9 v10 g' q b _ _ (by rw [hA, put_comm _ 3 12 _ _ (by decide), put_comm _ 13 12 _ _ (by decide)]) hb hg hm hr hk hs
  have E_7_9_10_11 : ∀ (v9 : Value) (v10 : Value) (g' : Gv) (q : Nat) (Z : Act) (V : World), Z = (((((A0.put (some 9) v9).put (some 10) v10).put (some 11) (.tuple #[g'.v, .slice (some ⟨q, 0, none⟩) N N])).put (some 5) (.tuple #[g'.v, .slice (some ⟨q, 0, none⟩) N N])).put (some 13) (.slice (some ⟨q, 0, none⟩) N N)) → Below w.heap.size w V → GO2 V w.heap.size g' → g'.n.map Nv.m = pickN g.n od od → g'.r = g.r.map (fun r => (⟨r.s, newO od r.t⟩ : Rv)) → SpineS Tryd.prog (regIn Tryd.f13 1) Q (fun W => W.cell? ⟨s, 0, none⟩ = some (.slice A N a1) ∧ W.cell? ⟨s, 1, none⟩ = some (.slice A2 M a2)) 4 [7, 9, 10, 11] Z V := by
    intro v9 v10 g' q Z V hA hb hg hm hr
    refine spineS_of [(7, [9, 10, 11]), (9, [7, 10, 11])] (by kernel_rfl) ?_
    intro x hx
    simp only [List.mem_cons, List.not_mem_nil, or_false] at hx
    rcases hx with rfl | rfl
    · refine set_exec T7 (by kernel_rfl) (by kernel_rfl) (R7 _ V g'.v (.slice (some ⟨q, 0, none⟩) N N) (by show Array.getD _ 5 _ = _; rw [hA]; repeat (first | with_reducible exact put_same _ _ _ (by simp only [put_size, hs0]; decide) | with_reducible refine (put_other _ _ _ _ (by decide)).trans ?_))) (hP _ hb) ?_
      exact E_9_10_11 v9 v10 g' q _ _ (by rw [hA, put_comm _ 13 12 _ _ (by decide)]) hb hg hm hr
    · have b2 := Gw.alloc V (.cells NilG 32)
      refine set_exec T9 (by kernel_rfl) (by kernel_rfl) (R9 _ V) (hP _ (hb.trans (b2.mono hb.size))) ?_
      exact E_7_10_11 v9 v10 g' q V.heap.size _ _ (by rw [hA]) (hb.trans (b2.mono hb.size)) (hg.below b2) hm hr (Bk.new V 32 NilG) hb.size
  have E_7_8_10_11 : ∀ (v9 : Value) (v10 : Value) (g' : Gv) (q : Nat) (b : Nat) (Z : Act) (V : World), Z = (((((A0.put (some 9) v9).put (some 10) v10).put (some 11) (.tuple #[g'.v, .slice (some ⟨q, 0, none⟩) N N])).put (some 5) (.tuple #[g'.v, .slice (some ⟨q, 0, none⟩) N N])).put (some 3) (.pointer (some ⟨b, 0, none⟩))) → Below w.heap.size w V → GO2 V w.heap.size g' → g'.n.map Nv.m = pickN g.n od od → g'.r = g.r.map (fun r => (⟨r.s, newO od r.t⟩ : Rv)) → Bk V b 32 NilG → w.heap.size ≤ b → SpineS Tryd.prog (regIn Tryd.f13 1) Q (fun W => W.cell? ⟨s, 0, none⟩ = some (.slice A N a1) ∧ W.cell? ⟨s, 1, none⟩ = some (.slice A2 M a2)) 4 [7, 8, 10, 11] Z V := by
    intro v9 v10 g' q b Z V hA hb hg hm hr hk hs
    refine spineS_of [(7, [8, 10, 11]), (8, [7, 10, 11])] (by kernel_rfl) ?_
    intro x hx
    simp only [List.mem_cons, List.not_mem_nil, or_false] at hx
    rcases hx with rfl | rfl
    · refine set_exec T7 (by kernel_rfl) (by kernel_rfl) (R7 _ V g'.v (.slice (some ⟨q, 0, none⟩) N N) (by show Array.getD _ 5 _ = _; rw [hA]; repeat (first | with_reducible exact put_same _ _ _ (by simp only [put_size, hs0]; decide) | with_reducible refine (put_other _ _ _ _ (by decide)).trans ?_))) (hP _ hb) ?_
      exact E_8_10_11 v9 v10 g' q b _ _ (by rw [hA, put_comm _ 3 12 _ _ (by decide)]) hb hg hm hr hk hs
    · refine set_exec T8 (by kernel_rfl) (by kernel_rfl) (R8 _ V g'.v (.slice (some ⟨q, 0, none⟩) N N) (by show Array.getD _ 5 _ = _; rw [hA]; repeat (first | with_reducible exact put_same _ _ _ (by simp only [put_size, hs0]; decide) | with_reducible refine (put_other _ _ _ _ (by decide)).trans ?_))) (hP _ hb) ?_
      exact E_7_10_11 v9 v10 g' q b _ _ (by rw [hA, put_comm _ 3 13 _ _ (by decide)]) hb hg hm hr hk hs
  have E_7_8_9_10_11 : ∀ (v9 : Value) (v10 : Value) (g' : Gv) (q : Nat) (Z : Act) (V : World), Z = ((((A0.put (some 9) v9).put (some 10) v10).put (some 11) (.tuple #[g'.v, .slice (some ⟨q, 0, none⟩) N N])).put (some 5) (.tuple #[g'.v, .slice (some ⟨q, 0, none⟩) N N])) → Below w.heap.size w V → GO2 V w.heap.size g' → g'.n.map Nv.m = pickN g.n od od → g'.r = g.r.map (fun r => (⟨r.s, newO od r.t⟩ : Rv)) → SpineS Tryd.prog (regIn Tryd.f13 1) Q (fun W => W.cell? ⟨s, 0, none⟩ = some (.slice A N a1) ∧ W.cell? ⟨s, 1, none⟩ = some (.slice A2 M a2)) 5 [7, 8, 9, 10, 11] Z V := by
    intro v9 v10 g' q Z V hA hb hg hm hr
    refine spineS_of [(7, [8, 9, 10, 11]), (8, [7, 9, 10, 11]), (9, [7, 8, 10, 11])] (by kernel_rfl) ?_
    intro x hx
    simp only [List.mem_cons, List.not_mem_nil, or_false] at hx
    rcases hx with rfl | rfl | rfl
    · refine set_exec T7 (by kernel_rfl) (by kernel_rfl) (R7 _ V g'.v (.slice (some ⟨q, 0, none⟩) N N) (by show Array.getD _ 5 _ = _; rw [hA]; repeat (first | with_reducible exact put_same _ _ _ (by simp only [put_size, hs0]; decide) | with_reducible refine (put_other _ _ _ _ (by decide)).trans ?_))) (hP _ hb) ?_
      exact E_8_9_10_11 v9 v10 g' q _ _ (by rw [hA]) hb hg hm hr
    · refine set_exec T8 (by kernel_rfl) (by kernel_rfl) (R8 _ V g'.v (.slice (some ⟨q, 0, none⟩) N N) (by show Array.getD _ 5 _ = _; rw [hA]; repeat (first | with_reducible exact put_same _ _ _ (by simp only [put_size, hs0]; decide) | with_reducible refine (put_other _ _ _ _ (by decide)).trans ?_))) (hP _ hb) ?_
      exact E_7_9_10_11 v9 v10 g' q _ _ (by rw [hA]) hb hg hm hr
    · have b2 := Gw.alloc V (.cells NilG 32)
      refine set_exec T9 (by kernel_rfl) (by kernel_rfl) (R9 _ V) (hP _ (hb.trans (b2.mono hb.size))) ?_
      exact E_7_8_10_11 v9 v10 g' q V.heap.size _ _ (by rw [hA]) (hb.trans (b2.mono hb.size)) (hg.below b2) hm hr (Bk.new V 32 NilG) hb.size
  have E_6_7_8_10_11 : ∀ (v9 : Value) (v10 : Value) (g' : Gv) (q : Nat) (b : Nat) (Z : Act) (V : World), Z = ((((A0.put (some 9) v9).put (some 10) v10).put (some 11) (.tuple #[g'.v, .slice (some ⟨q, 0, none⟩) N N])).put (some 3) (.pointer (some ⟨b, 0, none⟩))) → Below w.heap.size w V → GO2 V w.heap.size g' → g'.n.map Nv.m = pickN g.n od od → g'.r = g.r.map (fun r => (⟨r.s, newO od r.t⟩ : Rv)) → Bk V b 32 NilG → w.heap.size ≤ b → SpineS Tryd.prog (regIn Tryd.f13 1) Q (fun W => W.cell? ⟨s, 0, none⟩ = some (.slice A N a1) ∧ W.cell? ⟨s, 1, none⟩ = some (.slice A2 M a2)) 5 [6, 7, 8, 10, 11] Z V := by
    intro v9 v10 g' q b Z V hA hb hg hm hr hk hs
    refine spineS_of [(6, [7, 8, 10, 11])] (by kernel_rfl) ?_
    intro x hx
    simp only [List.mem_cons, List.not_mem_nil, or_false] at hx
    subst hx
    · refine set_exec T6 (by kernel_rfl) (by kernel_rfl) (R6 _ V (.tuple #[g'.v, .slice (some ⟨q, 0, none⟩) N N]) (by show Array.getD _ 11 _ = _; rw [hA]; repeat (first | with_reducible exact put_same _ _ _ (by simp only [put_size, hs0]; decide) | with_reducible refine (put_other _ _ _ _ (by decide)).trans ?_))) (hP _ hb) ?_
      exact E_7_8_10_11 v9 v10 g' q b _ _ (by rw [hA, put_comm _ 3 5 _ _ (by decide)]) hb hg hm hr hk hs
  have E_6_7_8_9_10_11 : ∀ (v9 : Value) (v10 : Value) (g' : Gv) (q : Nat) (Z : Act) (V : World), Z = (((A0.put (some 9) v9).put (some 10) v10).put (some 11) (.tuple #[g'.v, .slice (some ⟨q, 0, none⟩) N N])) → Below w.heap.size w V → GO2 V w.heap.size g' → g'.n.map Nv.m = pickN g.n od od → g'.r = g.r.map (fun r => (⟨r.s, newO od r.t⟩ : Rv)) → SpineS Tryd.prog (regIn Tryd.f13 1) Q (fun W => W.cell? ⟨s, 0, none⟩ = some (.slice A N a1) ∧ W.cell? ⟨s, 1, none⟩ = some (.slice A2 M a2)) 6 [6, 7, 8, 9, 10, 11] Z V := by
    intro v9 v10 g' q Z V hA hb hg hm hr
    refine spineS_of [(6, [7, 8, 9, 10, 11]), (9, [6, 7, 8, 10, 11])] (by kernel_rfl) ?_
    intro x hx
    simp only [List.mem_cons, List.not_mem_nil, or_false] at hx
    rcases hx with rfl | rfl
    · refine set_exec T6 (by kernel_rfl) (by kernel_rfl) (R6 _ V (.tuple #[g'.v, .slice (some ⟨q, 0, none⟩) N N]) (by show Array.getD _ 11 _ = _; rw [hA]; repeat (first | with_reducible exact put_same _ _ _ (by simp only [put_size, hs0]; decide) | with_reducible refine (put_other _ _ _ _ (by decide)).trans ?_))) (hP _ hb) ?_
      exact E_7_8_9_10_11 v9 v10 g' q _ _ (by rw [hA]) hb hg hm hr
    · have b2 := Gw.alloc V (.cells NilG 32)
      refine set_exec T9 (by kernel_rfl) (by kernel_rfl) (R9 _ V) (hP _ (hb.trans (b2.mono hb.size))) ?_
      exact E_6_7_8_10_11 v9 v10 g' q V.heap.size _ _ (by rw [hA]) (hb.trans (b2.mono hb.size)) (hg.below b2) hm hr (Bk.new V 32 NilG) hb.size
  have E_5_6_7_8_10_11 : ∀ (v9 : Value) (v10 : Value) (b : Nat) (Z : Act) (V : World), Z = (((A0.put (some 9) v9).put (some 10) v10).put (some 3) (.pointer (some ⟨b, 0, none⟩))) → Below w.heap.size w V → IntsV od v10 V → Bk V b 32 NilG → w.heap.size ≤ b → SpineS Tryd.prog (regIn Tryd.f13 1) Q (fun W => W.cell? ⟨s, 0, none⟩ = some (.slice A N a1) ∧ W.cell? ⟨s, 1, none⟩ = some (.slice A2 M a2)) 6 [5, 6, 7, 8, 10, 11] Z V := by
    intro v9 v10 b Z V hA hb h10 hk hs
    refine spineS_of [(5, [6, 7, 8, 10, 11])] (by kernel_rfl) ?_
    intro x hx
    simp only [List.mem_cons, List.not_mem_nil, or_false] at hx
    subst hx
    · refine set_call T5 (by kernel_rfl) (by kernel_rfl) (R5 _ V v10 rfl (by show Array.getD _ 6 _ = _; rw [hA]; repeat (first | with_reducible exact put_same _ _ _ (by simp only [put_size, hs0]; decide) | with_reducible refine (put_other _ _ _ _ (by decide)).trans ?_ | with_reducible exact g6)) (by show Array.getD _ 10 _ = _; rw [hA]; repeat (first | with_reducible exact put_same _ _ _ (by simp only [put_size, hs0]; decide) | with_reducible refine (put_other _ _ _ _ (by decide)).trans ?_))) ?_
      refine Calls.mono (hPk V v10 hb h10) ?_
      rintro e w2 ⟨u, rfl, b2, g', q, rfl, hg, hm, hr⟩
      refine ⟨_, rfl, hP _ (hb.trans (b2.mono hb.size)), ?_⟩
      exact E_6_7_8_10_11 v9 v10 g' q b _ _ (by rw [hA, put_comm _ 3 11 _ _ (by decide)]) (hb.trans (b2.mono hb.size)) hg hm hr (hk.below b2 hk.lt) hs
  have E_5_6_7_8_9_10_11 : ∀ (v9 : Value) (v10 : Value) (Z : Act) (V : World), Z = ((A0.put (some 9) v9).put (some 10) v10) → Below w.heap.size w V → IntsV od v10 V → SpineS Tryd.prog (regIn Tryd.f13 1) Q (fun W => W.cell? ⟨s, 0, none⟩ = some (.slice A N a1) ∧ W.cell? ⟨s, 1, none⟩ = some (.slice A2 M a2)) 7 [5, 6, 7, 8, 9, 10, 11] Z V := by
    intro v9 v10 Z V hA hb h10
    refine spineS_of [(5, [6, 7, 8, 9, 10, 11]), (9, [5, 6, 7, 8, 10, 11])] (by kernel_rfl) ?_
    intro x hx
    simp only [List.mem_cons, List.not_mem_nil, or_false] at hx
    rcases hx with rfl | rfl
    · refine set_call T5 (by kernel_rfl) (by kernel_rfl) (R5 _ V v10 rfl (by show Array.getD _ 6 _ = _; rw [hA]; repeat (first | with_reducible exact put_same _ _ _ (by simp only [put_size, hs0]; decide) | with_reducible refine (put_other _ _ _ _ (by decide)).trans ?_ | with_reducible exact g6)) (by show Array.getD _ 10 _ = _; rw [hA]; repeat (first | with_reducible exact put_same _ _ _ (by simp only [put_size, hs0]; decide) | with_reducible refine (put_other _ _ _ _ (by decide)).trans ?_))) ?_
      refine Calls.mono (hPk V v10 hb h10) ?_
      rintro e w2 ⟨u, rfl, b2, g', q, rfl, hg, hm, hr⟩
      refine ⟨_, rfl, hP _ (hb.trans (b2.mono hb.size)), ?_⟩
      exact E_6_7_8_9_10_11 v9 v10 g' q _ _ (by rw [hA]) (hb.trans (b2.mono hb.size)) hg hm hr
    · have b2 := Gw.alloc V (.cells NilG 32)
      refine set_exec T9 (by kernel_rfl) (by kernel_rfl) (R9 _ V) (hP _ (hb.trans (b2.mono hb.size))) ?_
      exact E_5_6_7_8_10_11 v9 v10 V.heap.size _ _ (by rw [hA]) (hb.trans (b2.mono hb.size)) (h10.mono b2) (Bk.new V 32 NilG) hb.size
  have E_4_5_6_7_8_10_11 : ∀ (v9 : Value) (b : Nat) (Z : Act) (V : World), Z = ((A0.put (some 9) v9).put (some 3) (.pointer (some ⟨b, 0, none⟩))) → Below w.heap.size w V → IntsV (g.r.map (·.t)) v9 V → Bk V b 32 NilG → w.heap.size ≤ b → SpineS Tryd.prog (regIn Tryd.f13 1) Q (fun W => W.cell? ⟨s, 0, none⟩ = some (.slice A N a1) ∧ W.cell? ⟨s, 1, none⟩ = some (.slice A2 M a2)) 7 [4, 5, 6, 7, 8, 10, 11] Z V := by
    intro v9 b Z V hA hb h9 hk hs
    refine spineS_of [(4, [5, 6, 7, 8, 10, 11])] (by kernel_rfl) ?_
    intro x hx
    simp only [List.mem_cons, List.not_mem_nil, or_false] at hx
    subst hx
    · refine set_call T4 (by kernel_rfl) (by kernel_rfl) (R4 _ V v9 rfl (by show Array.getD _ 7 _ = _; rw [hA]; repeat (first | with_reducible exact put_same _ _ _ (by simp only [put_size, hs0]; decide) | with_reducible refine (put_other _ _ _ _ (by decide)).trans ?_ | with_reducible exact g7)) (by show Array.getD _ 9 _ = _; rw [hA]; repeat (first | with_reducible exact put_same _ _ _ (by simp only [put_size, hs0]; decide) | with_reducible refine (put_other _ _ _ _ (by decide)).trans ?_))) ?_
      refine Calls.mono (hWk V v9 hb h9) ?_
      rintro e w2 ⟨u, rfl, b2, hu⟩
      refine ⟨_, rfl, hP _ (hb.trans (b2.mono hb.size)), ?_⟩
      exact E_5_6_7_8_10_11 v9 u b _ _ (by rw [hA, put_comm _ 3 10 _ _ (by decide)]) (hb.trans (b2.mono hb.size)) hu (hk.below b2 hk.lt) hs
  have E_4_5_6_7_8_9_10_11 : ∀ (v9 : Value) (Z : Act) (V : World), Z = (A0.put (some 9) v9) → Below w.heap.size w V → IntsV (g.r.map (·.t)) v9 V → SpineS Tryd.prog (regIn Tryd.f13 1) Q (fun W => W.cell? ⟨s, 0, none⟩ = some (.slice A N a1) ∧ W.cell? ⟨s, 1, none⟩ = some (.slice A2 M a2)) 8 [4, 5, 6, 7, 8, 9, 10, 11] Z V := by
    intro v9 Z V hA hb h9
    refine spineS_of [(4, [5, 6, 7, 8, 9, 10, 11]), (9, [4, 5, 6, 7, 8, 10, 11])] (by kernel_rfl) ?_
    intro x hx
    simp only [List.mem_cons, List.not_mem_nil, or_false] at hx
    rcases hx with rfl | rfl
    · refine set_call T4 (by kernel_rfl) (by kernel_rfl) (R4 _ V v9 rfl (by show Array.getD _ 7 _ = _; rw [hA]; repeat (first | with_reducible exact put_same _ _ _ (by simp only [put_size, hs0]; decide) | with_reducible refine (put_other _ _ _ _ (by decide)).trans ?_ | with_reducible exact g7)) (by show Array.getD _ 9 _ = _; rw [hA]; repeat (first | with_reducible exact put_same _ _ _ (by simp only [put_size, hs0]; decide) | with_reducible refine (put_other _ _ _ _ (by decide)).trans ?_))) ?_
      refine Calls.mono (hWk V v9 hb h9) ?_
      rintro e w2 ⟨u, rfl, b2, hu⟩
      refine ⟨_, rfl, hP _ (hb.trans (b2.mono hb.size)), ?_⟩
      exact E_5_6_7_8_9_10_11 v9 u _ _ (by rw [hA]) (hb.trans (b2.mono hb.size)) hu
    · have b2 := Gw.alloc V (.cells NilG 32)
      refine set_exec T9 (by kernel_rfl) (by kernel_rfl) (R9 _ V) (hP _ (hb.trans (b2.mono hb.size))) ?_
      exact E_4_5_6_7_8_10_11 v9 V.heap.size _ _ (by rw [hA]) (hb.trans (b2.mono hb.size)) (h9.mono b2) (Bk.new V 32 NilG) hb.size
  have E_3_4_5_6_7_8_10_11 : ∀ (b : Nat) (Z : Act) (V : World), Z = (A0.put (some 3) (.pointer (some ⟨b, 0, none⟩))) → Below w.heap.size w V → Bk V b 32 NilG → w.heap.size ≤ b → SpineS Tryd.prog (regIn Tryd.f13 1) Q (fun W => W.cell? ⟨s, 0, none⟩ = some (.slice A N a1) ∧ W.cell? ⟨s, 1, none⟩ = some (.slice A2 M a2)) 8 [3, 4, 5, 6, 7, 8, 10, 11] Z V := by
    intro b Z V hA hb hk hs
    refine spineS_of [(3, [4, 5, 6, 7, 8, 10, 11])] (by kernel_rfl) ?_
    intro x hx
    simp only [List.mem_cons, List.not_mem_nil, or_false] at hx
    subst hx
    · refine set_call T3 (by kernel_rfl) (by kernel_rfl) (R3 _ V rfl (by show Array.getD _ 8 _ = _; rw [hA]; repeat (first | with_reducible exact put_same _ _ _ (by simp only [put_size, hs0]; decide) | with_reducible refine (put_other _ _ _ _ (by decide)).trans ?_ | with_reducible exact g8))) ?_
      refine Calls.mono (hNm V hb) ?_
      rintro e w2 ⟨u, rfl, b2, hu⟩
      refine ⟨_, rfl, hP _ (hb.trans (b2.mono hb.size)), ?_⟩
      exact E_4_5_6_7_8_10_11 u b _ _ (by rw [hA, put_comm _ 3 9 _ _ (by decide)]) (hb.trans (b2.mono hb.size)) hu (hk.below b2 hk.lt) hs
  have E_3_4_5_6_7_8_9_10_11 : ∀  (Z : Act) (V : World), Z = A0 → Below w.heap.size w V → SpineS Tryd.prog (regIn Tryd.f13 1) Q (fun W => W.cell? ⟨s, 0, none⟩ = some (.slice A N a1) ∧ W.cell? ⟨s, 1, none⟩ = some (.slice A2 M a2)) 9 [3, 4, 5, 6, 7, 8, 9, 10, 11] Z V := by
    intro  Z V hA hb
    refine spineS_of [(3, [4, 5, 6, 7, 8, 9, 10, 11]), (9, [3, 4, 5, 6, 7, 8, 10, 11])] (by kernel_rfl) ?_
    intro x hx
    simp only [List.mem_cons, List.not_mem_nil, or_false] at hx
    rcases hx with rfl | rfl
    · refine set_call T3 (by kernel_rfl) (by kernel_rfl) (R3 _ V rfl (by show Array.getD _ 8 _ = _; rw [hA]; repeat (first | with_reducible exact put_same _ _ _ (by simp only [put_size, hs0]; decide) | with_reducible refine (put_other _ _ _ _ (by decide)).trans ?_ | with_reducible exact g8))) ?_
      refine Calls.mono (hNm V hb) ?_
      rintro e w2 ⟨u, rfl, b2, hu⟩
      refine ⟨_, rfl, hP _ (hb.trans (b2.mono hb.size)), ?_⟩
      exact E_4_5_6_7_8_9_10_11 u _ _ (by rw [hA]) (hb.trans (b2.mono hb.size)) hu
    · have b2 := Gw.alloc V (.cells NilG 32)
      refine set_exec T9 (by kernel_rfl) (by kernel_rfl) (R9 _ V) (hP _ (hb.trans (b2.mono hb.size))) ?_
      exact E_3_4_5_6_7_8_10_11 V.heap.size _ _ (by rw [hA]) (hb.trans (b2.mono hb.size)) (Bk.new V 32 NilG) hb.size
  exact E_3_4_5_6_7_8_9_10_11 A0 V0 rfl hb0
theorem canon_res {tmps : Array Value} {W : World} {g : Nat} {a b : Value} (hb : Bk W g 32 #[a, b]) (h2 : tmps.getD 2 undef = .pointer (some ⟨g, 0, none⟩)) :
    (results Tryd.f13 tmps).run Tryd.prog W = .ok (.agg #[a, b]) W := by
  have hl := run_loadVar_row (P := Tryd.prog) W g 32 32 #[a, b] (0, 0) _ hb Tryd.underlying32 rfl (by kernel_rfl)
  have h2' : tmps[2]?.getD undef = .pointer (some ⟨g, 0, none⟩) := by simpa using h2
  simp [results, Tryd.results13, h2', asAddr, hl]
theorem canon_c (w : World) (g : Gv) (hg : g.At w w.heap.size) (hs : FewP g) (hok : ∀ x ∈ g.n, ∀ p ∈ x.ps, okP g.n.length p = true) (hrt : ∀ r ∈ g.r, okP g.n.length r.t = true) :
    Calls Tryd.prog 13 #[g.v] w fun e w' => ∃ (g' : Gv), e = .returned g'.v ∧ g'.At w' w'.heap.size ∧ g'.n.map Nv.m = pickN g.n (walkL g.n (g.r.map (·.t))) (walkL g.n (g.r.map (·.t))) ∧ g'.r = g.r.map (fun r => ⟨r.s, newO (walkL g.n (g.r.map (·.t))) r.t⟩) ∧ Below w.heap.size w w' := by
  obtain ⟨N, M, hN, hM, hva⟩ := @gv_cut g
  have HVa := Lib.hid hva
  rw [hva]
  obtain ⟨A, hA⟩ : ∃ A, A = g.A := ⟨_, rfl⟩
  obtain ⟨A2, hA2⟩ : ∃ A2, A2 = g.A2 := ⟨_, rfl⟩
  obtain ⟨a1, ha1⟩ : ∃ a1, a1 = g.c := ⟨_, rfl⟩
  obtain ⟨a2, ha2⟩ : ∃ a2, a2 = g.c2 := ⟨_, rfl⟩
  rw [← hA, ← hA2, ← ha1, ← ha2] at HVa ⊢
  have HN := Lib.hid hN
  have HG := Lib.hid hg
  have HS := Lib.hid hs
  have HOk := Lib.hid hok
  have HRt := Lib.hid hrt
  obtain ⟨od, hod⟩ : ∃ od, walkL g.n (g.r.map (·.t)) = od := ⟨_, rfl⟩
  rw [hod]
  have HOd := Lib.hid hod
  have hnd := walkL_nd g.n (g.r.map (·.t))
  have hle := walkL_len g.n (g.r.map (·.t))
  rw [hod] at hnd hle
  have HNd := Lib.hid hnd.1
  have HHs := Lib.hid hnd.2
  have HLe := Lib.hid (show (g.r.map (·.t)).length ≤ 1000 ∧ od.length ≤ 1000 from ⟨by rw [List.length_map]; have := hs.2.1; omega, by have := hs.1; omega⟩)
  clear hva hA hA2 ha1 ha2 hN hM hg hs hok hrt hod hnd hle
  go_enter Tryd.func13, Tryd.ntmps13
  go_wp2_with fail
  obtain ⟨W0, hW0⟩ : ∃ W0, W0 = (w.alloc (.cells #[.slice A N a1, .slice A2 M a2] 32)).alloc (.cells #[.slice none 0 0, .slice none 0 0] 32) := ⟨_, rfl⟩
  have H0 := Lib.hid (show Bk W0 w.heap.size 32 #[.slice A N a1, .slice A2 M a2] ∧ Bk W0 (w.heap.size + 1) 32 #[.slice none 0 0, .slice none 0 0] ∧ Below w.heap.size w W0 from by
    rw [hW0]
    have k1 := Bk.new (w.alloc (.cells #[.slice A N a1, .slice A2 M a2] 32)) 32 #[.slice none 0 0, .slice none 0 0]
    simp only [World.size_alloc] at k1
    exact ⟨(Bk.new w _ _).alloc _, k1, (Gw.alloc w _).trans ((Gw.alloc _ _).mono (by simp))⟩)
  rw [← hW0]
  clear hW0
  have HGa := Lib.hid (GBx.of2 H0.out.1 (HG.out.up H0.out.2.2))
  have HVa2 := Lib.hid HVa.out
  refine canon_r _ _ _ w.heap.size N M a1 a2 A A2 g od HN HVa2 HS.out HOk HRt HGa HLe.out.1 HOd HLe.out.2 HHs HNd H0.out.1.lt rfl rfl ?_
  intro v9 v10 g' q k w2 hbw hgo hm hr hbz hk
  obtain ⟨N', M', hN', hM', hvb⟩ := @gv_cut g'
  have HVb := Lib.hid hvb
  obtain ⟨B, hB⟩ : ∃ A, A = g'.A := ⟨_, rfl⟩
  obtain ⟨B2, hB2⟩ : ∃ A2, A2 = g'.A2 := ⟨_, rfl⟩
  obtain ⟨b1, hb1⟩ : ∃ a1, a1 = g'.c := ⟨_, rfl⟩
  obtain ⟨b2, hb2⟩ : ∃ a2, a2 = g'.c2 := ⟨_, rfl⟩
  rw [← hB, ← hB2, ← hb1, ← hb2] at HVb
  have hvn : g'.vn = .slice B N' b1 := by rw [hB, hb1, hN']; rfl
  have hvr : g'.vr = .slice B2 M' b2 := by rw [hB2, hb2, hM']; rfl
  rw [hvn, hvr] at hbz
  rw [HVb.out]
  simp only [putA, putD, Act.put, List.setIfInBounds_toArray, List.set_cons_zero, List.set_cons_succ]
  have HM := Lib.hid (And.intro hm hr)
  have hr2 : Bk w2 (w.heap.size + 1) 32 #[.slice none 0 0, .slice none 0 0] := H0.out.2.1.below hbw H0.out.2.1.lt
  have hgf := hgo.mono (B' := w.heap.size) H0.out.2.2.size
  have hbl : Below w.heap.size w w2 := H0.out.2.2.trans (hbw.mono H0.out.2.2.size)
  have c0 := hbz.two.1
  have c1 := hbz.two.2
  have f0 := hr2.free 0
  have f1 := hr2.free 1
  have g0 := hr2.two.1
  have g1 := hr2.two.2
  have H2 := Lib.hid (And.intro hr2 (And.intro hgf hbl))
  clear hbz hgf hr2 hbl hbw hgo hm hr hvn hvr hN' hM' hvb hB hB2 hb1 hb2 hk
  go_wp2_with fail
  have hbf : Bk ((w2.setCell ⟨w.heap.size + 1, 0, none⟩ (.slice B N' b1)).setCell ⟨w.heap.size + 1, 1, none⟩ (.slice B2 M' b2)) (w.heap.size + 1) 32 #[.slice B N' b1, .slice B2 M' b2] := by
    have h := (H2.out.1.set 0 (.slice B N' b1)).set 1 (.slice B2 M' b2)
    simpa using h
  have hKf : Kept (fun b => b = w.heap.size + 1) w2 ((w2.setCell ⟨w.heap.size + 1, 0, none⟩ (.slice B N' b1)).setCell ⟨w.heap.size + 1, 1, none⟩ (.slice B2 M' b2)) := (Kept.set w2 _ 0 _).trans (Kept.set _ _ 1 _)
  have hgf := (H2.out.2.1.far (grown_set w2 ⟨w.heap.size + 1, 0, none⟩ (.slice B N' b1)) H2.out.1).far (grown_set _ ⟨w.heap.size + 1, 1, none⟩ (.slice B2 M' b2)) (H2.out.1.set 0 _)
  refine bodyPost_ret (v := .agg #[.slice B N' b1, .slice B2 M' b2]) (canon_res hbf rfl) rfl ⟨g', by rw [HVb.out], hgf.at_, HM.out.1, HM.out.2, H2.out.2.2.trans (hKf.below H2.out.2.2.size (fun c e => by rw [e]; omega))⟩
end Go.Proofs.YtdppnggchpchgaaDoor
/- GraphTrims: its last region. No conditions. -/
namespace Go.Proofs.YtdppnggchpchgaaDoor
set_option linter.unusedVariables false
set_option linter.unusedSimpArgs false
open Go.RowKit Go.Maps
def CnV (ms : List (List Int × List (BitVec 8))) (rs : List Rv) (v : Value) (w : World) : Prop := ∃ g' : Gv, v = g'.v ∧ g'.At w w.heap.size ∧ g'.n.map Nv.m = ms ∧ g'.r = rs
theorem CnV.mono {ms : List (List Int × List (BitVec 8))} {rs : List Rv} {v : Value} {a b : World} (h : CnV ms rs v a) (hb : Below a.heap.size a b) : CnV ms rs v b := by
  obtain ⟨g', e, h1, h2⟩ := h
  exact ⟨g', e, h1.up hb, h2⟩
theorem FewP.of_n {a c : Gv} (h : FewP a) (h1 : c.n = a.n) (h2 : c.r = a.r) : FewP c := h.same (by rw [h1]) h2
theorem can_k {W : World} {g : Gv} {v : Value} {ms : List (List Int × List (BitVec 8))} {rs : List Rv} (hf : FewP g) (hok : ∀ x ∈ g.n, ∀ p ∈ x.ps, okP g.n.length p = true) (hrt : ∀ r ∈ g.r, okP g.n.length r.t = true)
    (hms : pickN g.n (walkL g.n (g.r.map (·.t))) (walkL g.n (g.r.map (·.t))) = ms) (hrs : g.r.map (fun r => (⟨r.s, newO (walkL g.n (g.r.map (·.t))) r.t⟩ : Rv)) = rs) (h : OfV g v W) : Calls Tryd.prog 13 #[v] W fun e w2 => ∃ u, e = .returned u ∧ Below W.heap.size W w2 ∧ CnV ms rs u w2 := by
  obtain ⟨g1, rfl, h1, n1, r1⟩ := h
  refine (canon_c W g1 h1 (hf.of_n n1 r1) (by rw [n1]; exact hok) (by rw [n1, r1]; exact hrt)).mono ?_
  rintro e w2 ⟨g', rfl, ha, hm, hr, b2⟩
  rw [n1, r1] at hm hr
  exact ⟨_, rfl, b2, g', rfl, ha, hm.trans hms, hr.trans hrs⟩
theorem FewP.pick {g t : Gv} {od : List Int} {f : Int → Int} (h : FewP g) (hh : ∀ p ∈ od, hasG g.n.length p = true) (hn : od.Nodup) (h1 : t.n.map Nv.m = pickN g.n od od) (h2 : t.r = g.r.map fun r => (⟨r.s, f r.t⟩ : Rv)) : FewP t := by
  have hl := congrArg List.length h1
  unfold pickN at hl
  rw [List.length_map, List.length_map] at hl
  have hle := nd_le hn hh
  refine ⟨by have := h.1; omega, by rw [h2, List.length_map]; exact h.2.1, fun x hx => ?_, fun r hr => ?_⟩
  · have hm : x.m ∈ t.n.map Nv.m := List.mem_map.2 ⟨x, hx, rfl⟩
    rw [h1] at hm
    unfold pickN at hm
    obtain ⟨p, hp, e⟩ := List.mem_map.1 hm
    unfold pick1 Nv.m at e
    cases ey : g.n[(p - 1).toNat]? with
    | none => rw [ey] at e; injection e with e1 e2; rw [← e1, ← e2]; exact ⟨by simp, by simp⟩
    | some y =>
      rw [ey] at e
      injection e with e1 e2
      have := h.2.2.1 y (List.mem_of_getElem? ey)
      rw [← e1, ← e2, List.length_map]
      exact this
  · rw [h2] at hr
    obtain ⟨s, hs, rfl⟩ := List.mem_map.1 hr
    exact h.2.2.2 s hs
set_option maxHeartbeats 4000000
set_option maxRecDepth 100000
end Go.Proofs.YtdppnggchpchgaaDoor
/- What crc.Sum, tail and Seal answer. Conditions: at most 2^31 bytes. -/
namespace Go.Proofs.YtdppnggchpchgaaDoor
set_option linter.unusedVariables false
set_option linter.unusedSimpArgs false
open Go.RowKit
abbrev Pt : Type := Option Addr × List (BitVec 8) × Nat
def Pt.v (p : Pt) : Value := .slice p.1 p.2.1.length p.2.2
def Pt.l (p : Pt) : List (BitVec 8) := p.2.1
def sumC (ls : List (List (BitVec 8))) : BitVec 32 := ls.foldl addC 0
def tailL (s : BitVec 32) : List (BitVec 8) := [s.setWidth 8, (s >>> 8).setWidth 8, (s >>> 16).setWidth 8, (s >>> 24).setWidth 8]
def sealC (bs : List (BitVec 8)) : List (BitVec 8) := bs ++ tailL (addC 0 bs)
set_option maxHeartbeats 400000
theorem m8_0 (s : BitVec 32) : U32 s % 256 = U8 (s.setWidth 8) := by
  rw [← u32_u8]; simp [IntKind.wrap, IntKind.bits, IntKind.signed]
theorem sh8 (s : BitVec 32) : U32 s / (256 : Int) = U32 (s >>> 8) := by rw [show (256 : Int) = 2 ^ 8 from by decide, shrU32]
theorem sh16 (s : BitVec 32) : U32 s / (65536 : Int) = U32 (s >>> 16) := by rw [show (65536 : Int) = 2 ^ 16 from by decide, shrU32]
theorem sh24 (s : BitVec 32) : U32 s / (16777216 : Int) = U32 (s >>> 24) := by rw [show (16777216 : Int) = 2 ^ 24 from by decide, shrU32]
attribute [local go_sem] m8_0 sh8 sh16 sh24 u32_u8
theorem Bk.grown {w w' : World} {g : Nat} {E : TypeId} {cs : Array Value} {row : Option Nat} (h : Bk w g E cs) (hg : w.grownBy w' row) (hne : some g ≠ row) : Bk w' g E cs := (hg.block g h.lt hne).trans h
end Go.Proofs.YtdppnggchpchgaaDoor
/- What crc.Right answers. Conditions: at most 2^30 bytes. -/
namespace Go.Proofs.YtdppnggchpchgaaDoor
set_option linter.unusedVariables false
set_option linter.unusedSimpArgs false
open Go.RowKit
def right4 (xs : List (BitVec 8)) (y0 y1 y2 y3 : BitVec 8) : Bool := (addC (0#32) xs).setWidth 8 == y0 && (((addC (0#32) xs) >>> 8).setWidth 8 == y1 && (((addC (0#32) xs) >>> 16).setWidth 8 == y2 && ((addC (0#32) xs) >>> 24).setWidth 8 == y3))
attribute [local go_sem] beqU8
set_option maxHeartbeats 800000
set_option maxRecDepth 100000
end Go.Proofs.YtdppnggchpchgaaDoor
/- What Sum and Low of loamref2 answer. Conditions: at most 2^31 bytes. -/
namespace Go.Proofs.YtdppnggchpchgaaDoor
set_option linter.unusedVariables false
set_option linter.unusedSimpArgs false
open Go.RowKit
set_option maxHeartbeats 400000
set_option maxRecDepth 100000
set_option maxHeartbeats 400000
attribute [local go_sem] m8_0 sh8 sh16 sh24 u32_u8
end Go.Proofs.YtdppnggchpchgaaDoor
