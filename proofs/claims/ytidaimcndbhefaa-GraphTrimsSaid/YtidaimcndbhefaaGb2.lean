/- Texts joined: GvC GvD GvE GvF. -/
import Derived.Test.YtidaimcndbhefaaGb1
/- The reference's Canon. Conditions: lengths; pointers and roots are some node's or 0. -/
namespace Go.Proofs.Ytidaimcndbhefaa
set_option linter.unusedVariables false
set_option linter.unusedSimpArgs false
open Go.RowKit Go.Maps
/-- A box of another type than all rows of a graph's is written to. -/
theorem GO2.far {W W' : World} {B q : Nat} {g : Gv} {cs : Array Value} {m : Nat × Nat} (h : GO2 W B g) (hg : W.grownBy W' (some q)) (hq : W.heap[q]? = some (.cells cs 32 m)) : GO2 W' B g := by
  refine ⟨h.nd.far hg hq (by decide) (by decide) (by decide), World.ownsRow.kept h.rt hg ?_⟩
  rcases h.rt.2 with ⟨e, _⟩ | ⟨g, cap, cur, e, _, hh, _⟩
  · left; rw [e]; rfl
  · right; rw [e]; intro e3; injection e3 with e3; exact type_ne2 hh hq (by decide) e3
def PkT (B : Nat) (N : Nat) (ns : List Nv) (rs : List Rv) (od : List Int) (v : Value) (w : World) : Prop := ∃ (g' : Gv) (q : Nat), v = .tuple #[g'.v, .slice (some ⟨q, 0, none⟩) N N] ∧ GO2 w B g' ∧ g'.n.map Nv.m = pickN ns od od ∧ g'.r = rs.map (fun r => ⟨r.s, newO od r.t⟩)
theorem PkT.mono {B N : Nat} {ns : List Nv} {rs : List Rv} {od : List Int} {v : Value} {a b : World} (h : PkT B N ns rs od v a) (g : Below a.heap.size a b) : PkT B N ns rs od v b := by
  obtain ⟨g', q, e, h, r⟩ := h
  exact ⟨g', q, e, h.below g, r⟩
def PkG (B : Nat) (ns : List Nv) (rs : List Rv) (od : List Int) (v : Value) (w : World) : Prop := ∃ (g' : Gv), v = g'.v ∧ GO2 w B g' ∧ g'.n.map Nv.m = pickN ns od od ∧ g'.r = rs.map (fun r => ⟨r.s, newO od r.t⟩)
theorem PkG.mono {B : Nat} {ns : List Nv} {rs : List Rv} {od : List Int} {v : Value} {a b : World} (h : PkG B ns rs od v a) (g : Below a.heap.size a b) : PkG B ns rs od v b := by
  obtain ⟨g', e, h, r⟩ := h
  exact ⟨g', e, h.below g, r⟩
def PkW (B : Nat) (v : Value) (w : World) : Prop := ∃ k, v = .pointer (some ⟨k, 0, none⟩) ∧ B ≤ k ∧ Bk w k 32 #[.slice none 0 0, .slice none 0 0]
theorem PkW.mono {B : Nat} {v : Value} {a b : World} (h : PkW B v a) (g : Below a.heap.size a b) : PkW B v b := by
  obtain ⟨k, e, h0, h⟩ := h
  exact ⟨k, e, h0, h.below g h.lt⟩
def AnyW (_ : Value) (_ : World) : Prop := True
theorem AnyW.mono {v : Value} {a b : World} (_ : AnyW v a) (_ : Below a.heap.size a b) : AnyW v b := trivial
theorem walk_k {W : World} {g : Gv} {v u : Value} {fr od : List Int} (hod : walkL g.n fr = od) (hv : g.v = v) (hf : FewP g) (hok : ∀ x ∈ g.n, ∀ p ∈ x.ps, okP g.n.length p = true) (h : g.At W W.heap.size) (hl : fr.length ≤ 1000) (hu : IntsV fr u W) : Calls Try.prog 14 #[v, u] W fun e w2 => ∃ u, e = .returned u ∧ Below W.heap.size W w2 ∧ IntsV od u w2 := by
  subst hod
  obtain ⟨A, c, rfl, hr⟩ := hu
  rw [← hv]
  refine (walk_o W g h hf hok A c fr hr hl).mono ?_
  rintro e w2 ⟨v, rfl, ho, b2⟩
  obtain ⟨A', c', rfl, _⟩ := ho.form
  exact ⟨_, rfl, b2, A', c', rfl, ho.rd⟩
theorem pick_k {W : World} {g : Gv} {v u : Value} {od : List Int} {B N : Nat} (hN : N = g.n.length) (hv : g.v = v) (hf : FewP g) (hok : ∀ x ∈ g.n, ∀ p ∈ x.ps, okP g.n.length p = true) (hrt : ∀ r ∈ g.r, okP g.n.length r.t = true) (h : g.At W W.heap.size) (hod : ∀ p ∈ od, hasG g.n.length p = true) (hnd : od.Nodup) (hl : od.length ≤ 1000) (hB : B ≤ W.heap.size) (hu : IntsV od u W) :
    Calls Try.prog 34 #[v, u] W fun e w2 => ∃ u, e = .returned u ∧ Below W.heap.size W w2 ∧ PkT B N g.n g.r od u w2 := by
  obtain ⟨A, c, rfl, hr⟩ := hu
  rw [← hv]
  refine (pick_c W g h hf hok hrt A c od hr hod hnd hl).mono ?_
  rintro e w2 ⟨g', q, rfl, ho, _, h1, h2, b2⟩
  exact ⟨_, rfl, b2, g', q, by rw [hN], ho.mono hB, h1, h2⟩
theorem set_call {P : Program} {ops : Array Oper} {Q : Exit → Act → World → Prop} {i n : Nat} {is : List Nat} {W : World → Prop} {d : Option Tmp} {op : Op} {type : TypeId} {a : Act} {w w1 : World} {f : FuncId} {args : Array Value} (ho : (ops[i]?).map (fun o => (o.op, o.type)) = some (op, type)) (hdo : (ops[i]?).map (·.dst) = some d) (hg : (ops[i]?).bind (·.guard) = none)
    (hrun : (execOp a.eval { dst := d, op, type, pos := "", after := #[], guard := none }).run P w = .ok (.enter f args) w1) (h : Calls P f args w1 fun e w' => ∃ v, e = .returned v ∧ W w' ∧ SpineS P ops Q W n is (a.put d v) w') : ∃ o, ops[i]? = some o ∧ o.guard = none ∧ Oper.wp P o a w (fun a' w' => a'.defers = a.defers ∧ W w' ∧ SpineS P ops Q W n is a' w') NoQ := by
  cases hi : ops[i]? with
  | none => rw [hi] at ho; cases ho
  | some o =>
    rw [hi] at ho hdo hg
    obtain ⟨dst, op', type', pos, after, guard⟩ := o
    simp only [Option.map_some, Option.some.injEq, Prod.mk.injEq] at ho hdo
    obtain ⟨rfl, rfl⟩ := ho
    subst hdo
    simp only [Option.bind_some] at hg
    subst hg
    refine ⟨_, rfl, rfl, ?_⟩
    have he : execOp a.eval { dst, op := op', type := type', pos, after, guard := none } = execOp a.eval { dst, op := op', type := type', pos := "", after := #[], guard := none } := by
      cases op' <;> rfl
    unfold Oper.wp
    rw [he, hrun]
    simp only [Oper.upon]
    refine Calls.mono h fun e w'' he => ?_
    obtain ⟨v, rfl, hw, hs⟩ := he
    exact ⟨by cases dst <;> rfl, hw, hs⟩
set_option maxHeartbeats 1500000
set_option maxRecDepth 100000
/-- The store of a graph in a box of its own. -/
def NilG : Array Value := #[.slice none 0 0, .slice none 0 0]
theorem canon_r (Q : Exit → Act → World → Prop) (a0 : Act) (w : World) (s N M a1 a2 : Nat) (A A2 : Option Addr) (g : Gv) (od : List Int) (hN : Hid (N = g.n.length)) (hv : Hid (g.v = .agg #[.slice A N a1, .slice A2 M a2])) (hf : FewP g) (hok : Hid (∀ x ∈ g.n, ∀ p ∈ x.ps, okP g.n.length p = true)) (hrt : Hid (∀ r ∈ g.r, okP g.n.length r.t = true)) (ha : Hid (GBx w s g (.slice A N a1) (.slice A2 M a2))) (hl : (g.r.map (·.t)).length ≤ 1000) (hod : Hid (walkL g.n (g.r.map (·.t)) = od)) (hol : od.length ≤ 1000) (hoh : Hid (∀ p ∈ od, hasG g.n.length p = true)) (hon : Hid od.Nodup) (hsw : s < w.heap.size)
    (hsz : a0.tmps.size = 15) (h1 : a0.tmps.getD 1 undef = .pointer (some ⟨s, 0, none⟩))
    (fin : ∀ (v9 v10 : Value) (g' : Gv) (q b : Nat) V, Below w.heap.size w V → GO2 V w.heap.size g' → g'.n.map Nv.m = pickN g.n od od → g'.r = g.r.map (fun r => ⟨r.s, newO od r.t⟩) → Bk V b 32 #[g'.vn, g'.vr] → w.heap.size ≤ b → Q .normal (((((((((putA [(0, 6, .agg #[.slice A N a1, .slice A2 M a2]), (1, 7, .agg #[.slice A N a1, .slice A2 M a2]), (2, 8, .agg #[.slice A N a1, .slice A2 M a2])] a0).put (some 9) v9).put (some 10) v10).put (some 11) (.tuple #[g'.v, .slice (some ⟨q, 0, none⟩) N N])).put (some 5) (.tuple #[g'.v, .slice (some ⟨q, 0, none⟩) N N])).put (some 12) g'.v).put (some 13) (.slice (some ⟨q, 0, none⟩) N N)).put (some 3) (.pointer (some ⟨b, 0, none⟩))).put (some 4) (.slice (some ⟨q, 0, none⟩) N N)) V) :
    (Code.region 1 (regIn Try.f25 1) true).wp Try.prog Q a0 w := by
  have hP : ∀ V, Below w.heap.size w V → (fun W => W.cell? ⟨s, 0, none⟩ = some (.slice A N a1) ∧ W.cell? ⟨s, 1, none⟩ = some (.slice A2 M a2)) V := fun V hb => ⟨(ha.out V hb).1, (ha.out V hb).2.1⟩
  have hAt : Hid (∀ V, Below w.heap.size w V → g.At V V.heap.size) := Lib.hid fun V hb => (ha.out V hb).2.2
  have hNm : ∀ V, Below w.heap.size w V → Calls Try.prog 22 #[(.agg #[.slice A N a1, .slice A2 M a2])] V fun e w2 => ∃ u, e = .returned u ∧ Below V.heap.size V w2 ∧ IntsV (g.r.map (·.t)) u w2 := fun V hb => rnamed_k hv.out hf rfl (hAt.out V hb)
  have hWk : ∀ V v9, Below w.heap.size w V → IntsV (g.r.map (·.t)) v9 V → Calls Try.prog 14 #[(.agg #[.slice A N a1, .slice A2 M a2]), v9] V fun e w2 => ∃ u, e = .returned u ∧ Below V.heap.size V w2 ∧ IntsV od u w2 := fun V v9 hb h9 => walk_k hod.out hv.out hf hok.out (hAt.out V hb) hl h9
  have hPk : ∀ V v10, Below w.heap.size w V → IntsV od v10 V → Calls Try.prog 34 #[(.agg #[.slice A N a1, .slice A2 M a2]), v10] V fun e w2 => ∃ u, e = .returned u ∧ Below V.heap.size V w2 ∧ PkT w.heap.size N g.n g.r od u w2 := fun V v10 hb h10 => pick_k hN.out hv.out hf hok.out hrt.out (hAt.out V hb) hoh.out hon.out hol hb.size h10
  refine region_by_setV 10 [3, 4, 5, 6, 7, 8, 9, 10, 11] [(0, 6, .agg #[.slice A N a1, .slice A2 M a2]), (1, 7, .agg #[.slice A N a1, .slice A2 M a2]), (2, 8, .agg #[.slice A N a1, .slice A2 M a2])] (fun W => W.cell? ⟨s, 0, none⟩ = some (.slice A N a1) ∧ W.cell? ⟨s, 1, none⟩ = some (.slice A2 M a2)) (by kernel_rfl) (by rw [hsz]; kernel_rfl) (by kernel_rfl) (by kernel_rfl) (by kernel_rfl) (by kernel_rfl) (hP _ (Gw.drew _)) ?_ ?_
  · intro y hy V ρ hV hρ hcst
    have e1 : ρ (.tmp 1) = .pointer (some ⟨s, 0, none⟩) := (hρ 1).trans (by simp only [putA]; repeat (first | with_reducible exact put_same _ _ _ (by simp only [put_size, hsz]; decide) | with_reducible refine (put_other _ _ _ _ (by decide)).trans ?_ | with_reducible exact h1))
    clear hρ fin hNm hWk hPk
    obtain ⟨c1, c2⟩ := hV
    simp only [List.mem_cons, List.not_mem_nil, or_false] at hy
    rcases hy with rfl | rfl | rfl
    all_goals exact float_exec (op := .load 32 (.tmp 1)) (type := 32) (by kernel_rfl) (by go_simp)
  obtain ⟨A0, hA0⟩ : ∃ Z, Z = putA [(0, 6, .agg #[.slice A N a1, .slice A2 M a2]), (1, 7, .agg #[.slice A N a1, .slice A2 M a2]), (2, 8, .agg #[.slice A N a1, .slice A2 M a2])] a0 := ⟨_, rfl⟩
  have hs0 : A0.tmps.size = 15 := by rw [hA0]; simp only [putA, put_size, hsz]
  have g6 : A0.tmps.getD 6 undef = .agg #[.slice A N a1, .slice A2 M a2] := by rw [hA0]; simp only [putA]; repeat (first | with_reducible exact put_same _ _ _ (by simp only [put_size, hsz]; decide) | with_reducible refine (put_other _ _ _ _ (by decide)).trans ?_)
  have g7 : A0.tmps.getD 7 undef = .agg #[.slice A N a1, .slice A2 M a2] := by rw [hA0]; simp only [putA]; repeat (first | with_reducible exact put_same _ _ _ (by simp only [put_size, hsz]; decide) | with_reducible refine (put_other _ _ _ _ (by decide)).trans ?_)
  have g8 : A0.tmps.getD 8 undef = .agg #[.slice A N a1, .slice A2 M a2] := by rw [hA0]; simp only [putA]; repeat (first | with_reducible exact put_same _ _ _ (by simp only [put_size, hsz]; decide) | with_reducible refine (put_other _ _ _ _ (by decide)).trans ?_)
  rw [← hA0] at fin ⊢
  clear hA0 h1
  have hb0 : Below w.heap.size w w.drew := Gw.drew w
  generalize w.drew = V0 at hb0 ⊢
  have T3 : (regIn Try.f25 1)[3]?.map (fun o => (o.op, o.type)) = some (.call { callee := .value (.func 22), args := #[.tmp 8], argTypes := #[32] }, 26) := by kernel_rfl
  have T4 : (regIn Try.f25 1)[4]?.map (fun o => (o.op, o.type)) = some (.call { callee := .value (.func 14), args := #[.tmp 7, .tmp 9], argTypes := #[32, 26] }, 26) := by kernel_rfl
  have T5 : (regIn Try.f25 1)[5]?.map (fun o => (o.op, o.type)) = some (.call { callee := .value (.func 34), args := #[.tmp 6, .tmp 10], argTypes := #[32, 26] }, 42) := by kernel_rfl
  have T6 : (regIn Try.f25 1)[6]?.map (fun o => (o.op, o.type)) = some (.move (.tmp 11), 42) := by kernel_rfl
  have T7 : (regIn Try.f25 1)[7]?.map (fun o => (o.op, o.type)) = some (.extract (.tmp 5) 0, 32) := by kernel_rfl
  have T8 : (regIn Try.f25 1)[8]?.map (fun o => (o.op, o.type)) = some (.extract (.tmp 5) 1, 26) := by kernel_rfl
  have T9 : (regIn Try.f25 1)[9]?.map (fun o => (o.op, o.type)) = some (.alloc 32, 0) := by kernel_rfl
  have T10 : (regIn Try.f25 1)[10]?.map (fun o => (o.op, o.type)) = some (.store 32 (.tmp 3) (.tmp 12), 0) := by kernel_rfl
  have T11 : (regIn Try.f25 1)[11]?.map (fun o => (o.op, o.type)) = some (.assign (.tmp 13), 26) := by kernel_rfl
  have R3 : ∀ (ρ : Operand → Value) (V : World), ρ (.func 22) = .func (.func 22) #[] #[] → ρ (.tmp 8) = (.agg #[.slice A N a1, .slice A2 M a2]) → (execOp ρ { dst := some 9, op := .call { callee := .value (.func 22), args := #[.tmp 8], argTypes := #[32] }, type := 26, pos := "", after := #[], guard := none }).run Try.prog V = .ok (.enter 22 #[(.agg #[.slice A N a1, .slice A2 M a2])]) V := fun ρ V e0 e1 => by go_simp
  have R4 : ∀ (ρ : Operand → Value) (V : World) (v9 : Value), ρ (.func 14) = .func (.func 14) #[] #[] → ρ (.tmp 7) = (.agg #[.slice A N a1, .slice A2 M a2]) → ρ (.tmp 9) = v9 → (execOp ρ { dst := some 10, op := .call { callee := .value (.func 14), args := #[.tmp 7, .tmp 9], argTypes := #[32, 26] }, type := 26, pos := "", after := #[], guard := none }).run Try.prog V = .ok (.enter 14 #[(.agg #[.slice A N a1, .slice A2 M a2]), v9]) V := fun ρ V v9 e0 e1 e2 => by go_simp
  have R5 : ∀ (ρ : Operand → Value) (V : World) (v10 : Value), ρ (.func 34) = .func (.func 34) #[] #[] → ρ (.tmp 6) = (.agg #[.slice A N a1, .slice A2 M a2]) → ρ (.tmp 10) = v10 → (execOp ρ { dst := some 11, op := .call { callee := .value (.func 34), args := #[.tmp 6, .tmp 10], argTypes := #[32, 26] }, type := 42, pos := "", after := #[], guard := none }).run Try.prog V = .ok (.enter 34 #[(.agg #[.slice A N a1, .slice A2 M a2]), v10]) V := fun ρ V v10 e0 e1 e2 => by go_simp
  have R6 : ∀ (ρ : Operand → Value) (V : World) (v : Value), ρ (.tmp 11) = v → (execOp ρ { dst := some 5, op := .move (.tmp 11), type := 42, pos := "", after := #[], guard := none }).run Try.prog V = .ok (.value v) V := fun ρ V v e => by go_simp
  have R7 : ∀ (ρ : Operand → Value) (V : World) (u v : Value), ρ (.tmp 5) = .tuple #[u, v] → (execOp ρ { dst := some 12, op := .extract (.tmp 5) 0, type := 32, pos := "", after := #[], guard := none }).run Try.prog V = .ok (.value u) V := fun ρ V u v e => by go_simp
  have R8 : ∀ (ρ : Operand → Value) (V : World) (u v : Value), ρ (.tmp 5) = .tuple #[u, v] → (execOp ρ { dst := some 13, op := .extract (.tmp 5) 1, type := 26, pos := "", after := #[], guard := none }).run Try.prog V = .ok (.value v) V := fun ρ V u v e => by go_simp
  have R9 : ∀ (ρ : Operand → Value) (V : World), (execOp ρ { dst := some 3, op := .alloc 32, type := 0, pos := "", after := #[], guard := none }).run Try.prog V = .ok (.value (.pointer (some ⟨V.heap.size, 0, none⟩))) (V.alloc (.cells NilG 32)) := fun ρ V => by unfold NilG; go_simp
  have R11 : ∀ (ρ : Operand → Value) (V : World) (v : Value), ρ (.tmp 13) = v → (execOp ρ { dst := some 4, op := .assign (.tmp 13), type := 26, pos := "", after := #[], guard := none }).run Try.prog V = .ok (.value v) V := fun ρ V v e => by go_simp
  have E_11 : ∀ (v9 : Value) (v10 : Value) (g' : Gv) (q : Nat) (b : Nat) (Z : Act) (V : World), Z = (((((((A0.put (some 9) v9).put (some 10) v10).put (some 11) (.tuple #[g'.v, .slice (some ⟨q, 0, none⟩) N N])).put (some 5) (.tuple #[g'.v, .slice (some ⟨q, 0, none⟩) N N])).put (some 12) g'.v).put (some 13) (.slice (some ⟨q, 0, none⟩) N N)).put (some 3) (.pointer (some ⟨b, 0, none⟩))) → Below w.heap.size w V → GO2 V w.heap.size g' → g'.n.map Nv.m = pickN g.n od od → g'.r = g.r.map (fun r => (⟨r.s, newO od r.t⟩ : Rv)) → Bk V b 32 #[g'.vn, g'.vr] → w.heap.size ≤ b → SpineS Try.prog (regIn Try.f25 1) Q (fun W => W.cell? ⟨s, 0, none⟩ = some (.slice A N a1) ∧ W.cell? ⟨s, 1, none⟩ = some (.slice A2 M a2)) 1 [11] Z V := by
    intro v9 v10 g' q b Z V hA hb hg hm hr hk hs
    refine spineS_of [(11, [])] (by kernel_rfl) ?_
    intro x hx
    simp only [List.mem_cons, List.not_mem_nil, or_false] at hx
    subst hx
    · refine set_exec T11 (by kernel_rfl) (by kernel_rfl) (R11 _ V (.slice (some ⟨q, 0, none⟩) N N) (by show Array.getD _ 13 _ = _; rw [hA]; repeat (first | with_reducible exact put_same _ _ _ (by simp only [put_size, hs0]; decide) | with_reducible refine (put_other _ _ _ _ (by decide)).trans ?_))) (hP _ hb) ?_
      unfold SpineS
      rw [hA]
      exact fin v9 v10 g' q b V hb hg hm hr hk hs
  have E_10_11 : ∀ (v9 : Value) (v10 : Value) (g' : Gv) (q : Nat) (b : Nat) (Z : Act) (V : World), Z = (((((((A0.put (some 9) v9).put (some 10) v10).put (some 11) (.tuple #[g'.v, .slice (some ⟨q, 0, none⟩) N N])).put (some 5) (.tuple #[g'.v, .slice (some ⟨q, 0, none⟩) N N])).put (some 12) g'.v).put (some 13) (.slice (some ⟨q, 0, none⟩) N N)).put (some 3) (.pointer (some ⟨b, 0, none⟩))) → Below w.heap.size w V → GO2 V w.heap.size g' → g'.n.map Nv.m = pickN g.n od od → g'.r = g.r.map (fun r => (⟨r.s, newO od r.t⟩ : Rv)) → Bk V b 32 NilG → w.heap.size ≤ b → SpineS Try.prog (regIn Try.f25 1) Q (fun W => W.cell? ⟨s, 0, none⟩ = some (.slice A N a1) ∧ W.cell? ⟨s, 1, none⟩ = some (.slice A2 M a2)) 2 [10, 11] Z V := by
    intro v9 v10 g' q b Z V hA hb hg hm hr hk hs
    refine spineS_of [(10, [11])] (by kernel_rfl) ?_
    intro x hx
    simp only [List.mem_cons, List.not_mem_nil, or_false] at hx
    subst hx
    · refine set_list (d := none) T10 (by kernel_rfl) (by kernel_rfl) ?_
      refine wp_stR rfl 32 (.tmp 3) (.tmp 12) rfl b #[g'.vn, g'.vr] (by show Array.getD _ 3 _ = _; rw [hA]; repeat (first | with_reducible exact put_same _ _ _ (by simp only [put_size, hs0]; decide) | with_reducible refine (put_other _ _ _ _ (by decide)).trans ?_)) (by show Array.getD _ 12 _ = g'.v; rw [hA]; repeat (first | with_reducible exact put_same _ _ _ (by simp only [put_size, hs0]; decide) | with_reducible refine (put_other _ _ _ _ (by decide)).trans ?_)) 32 NilG hk (by kernel_rfl) rfl (by simp [Gv.vn, Gv.vr, Value.oneCell']) ?_
      intro w2 q2 _ o2
      have hb3 : Below w.heap.size w w2 := hb.trans (o2.below hb.size (fun c e => by rw [e]; exact hs))
      refine ⟨rfl, hP _ hb3, ?_⟩
      exact E_11 v9 v10 g' q b _ _ hA hb3 (hg.far (Kept.as_grown o2) hk) hm hr q2 hs
  have E_9_10_11 : ∀ (v9 : Value) (v10 : Value) (g' : Gv) (q : Nat) (Z : Act) (V : World), Z = ((((((A0.put (some 9) v9).put (some 10) v10).put (some 11) (.tuple #[g'.v, .slice (some ⟨q, 0, none⟩) N N])).put (some 5) (.tuple #[g'.v, .slice (some ⟨q, 0, none⟩) N N])).put (some 12) g'.v).put (some 13) (.slice (some ⟨q, 0, none⟩) N N)) → Below w.heap.size w V → GO2 V w.heap.size g' → g'.n.map Nv.m = pickN g.n od od → g'.r = g.r.map (fun r => (⟨r.s, newO od r.t⟩ : Rv)) → SpineS Try.prog (regIn Try.f25 1) Q (fun W => W.cell? ⟨s, 0, none⟩ = some (.slice A N a1) ∧ W.cell? ⟨s, 1, none⟩ = some (.slice A2 M a2)) 3 [9, 10, 11] Z V := by
    intro v9 v10 g' q Z V hA hb hg hm hr
    refine spineS_of [(9, [10, 11])] (by kernel_rfl) ?_
    intro x hx
    simp only [List.mem_cons, List.not_mem_nil, or_false] at hx
    subst hx
    · have b2 := Gw.alloc V (.cells NilG 32)
      refine set_exec T9 (by kernel_rfl) (by kernel_rfl) (R9 _ V) (hP _ (hb.trans (b2.mono hb.size))) ?_
      exact E_10_11 v9 v10 g' q V.heap.size _ _ (by rw [hA]) (hb.trans (b2.mono hb.size)) (hg.below b2) hm hr (Bk.new V 32 NilG) hb.size
  have E_8_11 : ∀ (v9 : Value) (v10 : Value) (g' : Gv) (q : Nat) (b : Nat) (Z : Act) (V : World), Z = ((((((A0.put (some 9) v9).put (some 10) v10).put (some 11) (.tuple #[g'.v, .slice (some ⟨q, 0, none⟩) N N])).put (some 5) (.tuple #[g'.v, .slice (some ⟨q, 0, none⟩) N N])).put (some 12) g'.v).put (some 3) (.pointer (some ⟨b, 0, none⟩))) → Below w.heap.size w V → GO2 V w.heap.size g' → g'.n.map Nv.m = pickN g.n od od → g'.r = g.r.map (fun r => (⟨r.s, newO od r.t⟩ : Rv)) → Bk V b 32 #[g'.vn, g'.vr] → w.heap.size ≤ b → SpineS Try.prog (regIn Try.f25 1) Q (fun W => W.cell? ⟨s, 0, none⟩ = some (.slice A N a1) ∧ W.cell? ⟨s, 1, none⟩ = some (.slice A2 M a2)) 2 [8, 11] Z V := by
    intro v9 v10 g' q b Z V hA hb hg hm hr hk hs
    refine spineS_of [(8, [11])] (by kernel_rfl) ?_
    intro x hx
    simp only [List.mem_cons, List.not_mem_nil, or_false] at hx
    subst hx
    · refine set_exec T8 (by kernel_rfl) (by kernel_rfl) (R8 _ V g'.v (.slice (some ⟨q, 0, none⟩) N N) (by show Array.getD _ 5 _ = _; rw [hA]; repeat (first | with_reducible exact put_same _ _ _ (by simp only [put_size, hs0]; decide) | with_reducible refine (put_other _ _ _ _ (by decide)).trans ?_))) (hP _ hb) ?_
      exact E_11 v9 v10 g' q b _ _ (by rw [hA, put_comm _ 3 13 _ _ (by decide)]) hb hg hm hr hk hs
  have E_8_10_11 : ∀ (v9 : Value) (v10 : Value) (g' : Gv) (q : Nat) (b : Nat) (Z : Act) (V : World), Z = ((((((A0.put (some 9) v9).put (some 10) v10).put (some 11) (.tuple #[g'.v, .slice (some ⟨q, 0, none⟩) N N])).put (some 5) (.tuple #[g'.v, .slice (some ⟨q, 0, none⟩) N N])).put (some 12) g'.v).put (some 3) (.pointer (some ⟨b, 0, none⟩))) → Below w.heap.size w V → GO2 V w.heap.size g' → g'.n.map Nv.m = pickN g.n od od → g'.r = g.r.map (fun r => (⟨r.s, newO od r.t⟩ : Rv)) → Bk V b 32 NilG → w.heap.size ≤ b → SpineS Try.prog (regIn Try.f25 1) Q (fun W => W.cell? ⟨s, 0, none⟩ = some (.slice A N a1) ∧ W.cell? ⟨s, 1, none⟩ = some (.slice A2 M a2)) 3 [8, 10, 11] Z V := by
    intro v9 v10 g' q b Z V hA hb hg hm hr hk hs
    refine spineS_of [(8, [10, 11]), (10, [8, 11])] (by kernel_rfl) ?_
    intro x hx
    simp only [List.mem_cons, List.not_mem_nil, or_false] at hx
    rcases hx with rfl | rfl
    · refine set_exec T8 (by kernel_rfl) (by kernel_rfl) (R8 _ V g'.v (.slice (some ⟨q, 0, none⟩) N N) (by show Array.getD _ 5 _ = _; rw [hA]; repeat (first | with_reducible exact put_same _ _ _ (by simp only [put_size, hs0]; decide) | with_reducible refine (put_other _ _ _ _ (by decide)).trans ?_))) (hP _ hb) ?_
      exact E_10_11 v9 v10 g' q b _ _ (by rw [hA, put_comm _ 3 13 _ _ (by decide)]) hb hg hm hr hk hs
    · refine set_list (d := none) T10 (by kernel_rfl) (by kernel_rfl) ?_
      refine wp_stR rfl 32 (.tmp 3) (.tmp 12) rfl b #[g'.vn, g'.vr] (by show Array.getD _ 3 _ = _; rw [hA]; repeat (first | with_reducible exact put_same _ _ _ (by simp only [put_size, hs0]; decide) | with_reducible refine (put_other _ _ _ _ (by decide)).trans ?_)) (by show Array.getD _ 12 _ = g'.v; rw [hA]; repeat (first | with_reducible exact put_same _ _ _ (by simp only [put_size, hs0]; decide) | with_reducible refine (put_other _ _ _ _ (by decide)).trans ?_)) 32 NilG hk (by kernel_rfl) rfl (by simp [Gv.vn, Gv.vr, Value.oneCell']) ?_
      intro w2 q2 _ o2
      have hb3 : Below w.heap.size w w2 := hb.trans (o2.below hb.size (fun c e => by rw [e]; exact hs))
      refine ⟨rfl, hP _ hb3, ?_⟩
      exact E_8_11 v9 v10 g' q b _ _ hA hb3 (hg.far (Kept.as_grown o2) hk) hm hr q2 hs
  have E_8_9_10_11 : ∀ (v9 : Value) (v10 : Value) (g' : Gv) (q : Nat) (Z : Act) (V : World), Z = (((((A0.put (some 9) v9).put (some 10) v10).put (some 11) (.tuple #[g'.v, .slice (some ⟨q, 0, none⟩) N N])).put (some 5) (.tuple #[g'.v, .slice (some ⟨q, 0, none⟩) N N])).put (some 12) g'.v) → Below w.heap.size w V → GO2 V w.heap.size g' → g'.n.map Nv.m = pickN g.n od od → g'.r = g.r.map (fun r => (⟨r.s, newO od r.t⟩ : Rv)) → SpineS Try.prog (regIn Try.f25 1) Q (fun W => W.cell? ⟨s, 0, none⟩ = some (.slice A N a1) ∧ W.cell? ⟨s, 1, none⟩ = some (.slice A2 M a2)) 4 [8, 9, 10, 11] Z V := by
    intro v9 v10 g' q Z V hA hb hg hm hr
    refine spineS_of [(8, [9, 10, 11]), (9, [8, 10, 11])] (by kernel_rfl) ?_
    intro x hx
    simp only [List.mem_cons, List.not_mem_nil, or_false] at hx
    rcases hx with rfl | rfl
    · refine set_exec T8 (by kernel_rfl) (by kernel_rfl) (R8 _ V g'.v (.slice (some ⟨q, 0, none⟩) N N) (by show Array.getD _ 5 _ = _; rw [hA]; repeat (first | with_reducible exact put_same _ _ _ (by simp only [put_size, hs0]; decide) | with_reducible refine (put_other _ _ _ _ (by decide)).trans ?_))) (hP _ hb) ?_
      exact E_9_10_11 v9 v10 g' q _ _ (by rw [hA]) hb hg hm hr
    · have b2 := Gw.alloc V (.cells NilG 32)
      refine set_exec T9 (by kernel_rfl) (by kernel_rfl) (R9 _ V) (hP _ (hb.trans (b2.mono hb.size))) ?_
      exact E_8_10_11 v9 v10 g' q V.heap.size _ _ (by rw [hA]) (hb.trans (b2.mono hb.size)) (hg.below b2) hm hr (Bk.new V 32 NilG) hb.size
  have E_7_10_11 : ∀ (v9 : Value) (v10 : Value) (g' : Gv) (q : Nat) (b : Nat) (Z : Act) (V : World), Z = ((((((A0.put (some 9) v9).put (some 10) v10).put (some 11) (.tuple #[g'.v, .slice (some ⟨q, 0, none⟩) N N])).put (some 5) (.tuple #[g'.v, .slice (some ⟨q, 0, none⟩) N N])).put (some 13) (.slice (some ⟨q, 0, none⟩) N N)).put (some 3) (.pointer (some ⟨b, 0, none⟩))) → Below w.heap.size w V → GO2 V w.heap.size g' → g'.n.map Nv.m = pickN g.n od od → g'.r = g.r.map (fun r => (⟨r.s, newO od r.t⟩ : Rv)) → Bk V b 32 NilG → w.heap.size ≤ b → SpineS Try.prog (regIn Try.f25 1) Q (fun W => W.cell? ⟨s, 0, none⟩ = some (.slice A N a1) ∧ W.cell? ⟨s, 1, none⟩ = some (.slice A2 M a2)) 3 [7, 10, 11] Z V := by
    intro v9 v10 g' q b Z V hA hb hg hm hr hk hs
    refine spineS_of [(7, [10, 11])] (by kernel_rfl) ?_
    intro x hx
    simp only [List.mem_cons, List.not_mem_nil, or_false] at hx
    subst hx
    · refine set_exec T7 (by kernel_rfl) (by kernel_rfl) (R7 _ V g'.v (.slice (some ⟨q, 0, none⟩) N N) (by show Array.getD _ 5 _ = _; rw [hA]; repeat (first | with_reducible exact put_same _ _ _ (by simp only [put_size, hs0]; decide) | with_reducible refine (put_other _ _ _ _ (by decide)).trans ?_))) (hP _ hb) ?_
      exact E_10_11 v9 v10 g' q b _ _ (by rw [hA, put_comm _ 3 12 _ _ (by decide), put_comm _ 13 12 _ _ (by decide)]) hb hg hm hr hk hs
  have E_7_9_10_11 : ∀ (v9 : Value) (v10 : Value) (g' : Gv) (q : Nat) (Z : Act) (V : World), Z = (((((A0.put (some 9) v9).put (some 10) v10).put (some 11) (.tuple #[g'.v, .slice (some ⟨q, 0, none⟩) N N])).put (some 5) (.tuple #[g'.v, .slice (some ⟨q, 0, none⟩) N N])).put (some 13) (.slice (some ⟨q, 0, none⟩) N N)) → Below w.heap.size w V → GO2 V w.heap.size g' → g'.n.map Nv.m = pickN g.n od od → g'.r = g.r.map (fun r => (⟨r.s, newO od r.t⟩ : Rv)) → SpineS Try.prog (regIn Try.f25 1) Q (fun W => W.cell? ⟨s, 0, none⟩ = some (.slice A N a1) ∧ W.cell? ⟨s, 1, none⟩ = some (.slice A2 M a2)) 4 [7, 9, 10, 11] Z V := by
    intro v9 v10 g' q Z V hA hb hg hm hr
    refine spineS_of [(7, [9, 10, 11]), (9, [7, 10, 11])] (by kernel_rfl) ?_
    intro x hx
    simp only [List.mem_cons, List.not_mem_nil, or_false] at hx
    rcases hx with rfl | rfl
    · refine set_exec T7 (by kernel_rfl) (by kernel_rfl) (R7 _ V g'.v (.slice (some ⟨q, 0, none⟩) N N) (by show Array.getD _ 5 _ = _; rw [hA]; repeat (first | with_reducible exact put_same _ _ _ (by simp only [put_size, hs0]; decide) | with_reducible refine (put_other _ _ _ _ (by decide)).trans ?_))) (hP _ hb) ?_
      exact E_9_10_11 v9 v10 g' q _ _ (by rw [hA, put_comm _ 13 12 _ _ (by decide)]) hb hg hm hr
    · have b2 := Gw.alloc V (.cells NilG 32)
      refine set_exec T9 (by kernel_rfl) (by kernel_rfl) (R9 _ V) (hP _ (hb.trans (b2.mono hb.size))) ?_
      exact E_7_10_11 v9 v10 g' q V.heap.size _ _ (by rw [hA]) (hb.trans (b2.mono hb.size)) (hg.below b2) hm hr (Bk.new V 32 NilG) hb.size
  have E_7_8_10_11 : ∀ (v9 : Value) (v10 : Value) (g' : Gv) (q : Nat) (b : Nat) (Z : Act) (V : World), Z = (((((A0.put (some 9) v9).put (some 10) v10).put (some 11) (.tuple #[g'.v, .slice (some ⟨q, 0, none⟩) N N])).put (some 5) (.tuple #[g'.v, .slice (some ⟨q, 0, none⟩) N N])).put (some 3) (.pointer (some ⟨b, 0, none⟩))) → Below w.heap.size w V → GO2 V w.heap.size g' → g'.n.map Nv.m = pickN g.n od od → g'.r = g.r.map (fun r => (⟨r.s, newO od r.t⟩ : Rv)) → Bk V b 32 NilG → w.heap.size ≤ b → SpineS Try.prog (regIn Try.f25 1) Q (fun W => W.cell? ⟨s, 0, none⟩ = some (.slice A N a1) ∧ W.cell? ⟨s, 1, none⟩ = some (.slice A2 M a2)) 4 [7, 8, 10, 11] Z V := by
    intro v9 v10 g' q b Z V hA hb hg hm hr hk hs
    refine spineS_of [(7, [8, 10, 11]), (8, [7, 10, 11])] (by kernel_rfl) ?_
    intro x hx
    simp only [List.mem_cons, List.not_mem_nil, or_false] at hx
    rcases hx with rfl | rfl
    · refine set_exec T7 (by kernel_rfl) (by kernel_rfl) (R7 _ V g'.v (.slice (some ⟨q, 0, none⟩) N N) (by show Array.getD _ 5 _ = _; rw [hA]; repeat (first | with_reducible exact put_same _ _ _ (by simp only [put_size, hs0]; decide) | with_reducible refine (put_other _ _ _ _ (by decide)).trans ?_))) (hP _ hb) ?_
      exact E_8_10_11 v9 v10 g' q b _ _ (by rw [hA, put_comm _ 3 12 _ _ (by decide)]) hb hg hm hr hk hs
    · refine set_exec T8 (by kernel_rfl) (by kernel_rfl) (R8 _ V g'.v (.slice (some ⟨q, 0, none⟩) N N) (by show Array.getD _ 5 _ = _; rw [hA]; repeat (first | with_reducible exact put_same _ _ _ (by simp only [put_size, hs0]; decide) | with_reducible refine (put_other _ _ _ _ (by decide)).trans ?_))) (hP _ hb) ?_
      exact E_7_10_11 v9 v10 g' q b _ _ (by rw [hA, put_comm _ 3 13 _ _ (by decide)]) hb hg hm hr hk hs
  have E_7_8_9_10_11 : ∀ (v9 : Value) (v10 : Value) (g' : Gv) (q : Nat) (Z : Act) (V : World), Z = ((((A0.put (some 9) v9).put (some 10) v10).put (some 11) (.tuple #[g'.v, .slice (some ⟨q, 0, none⟩) N N])).put (some 5) (.tuple #[g'.v, .slice (some ⟨q, 0, none⟩) N N])) → Below w.heap.size w V → GO2 V w.heap.size g' → g'.n.map Nv.m = pickN g.n od od → g'.r = g.r.map (fun r => (⟨r.s, newO od r.t⟩ : Rv)) → SpineS Try.prog (regIn Try.f25 1) Q (fun W => W.cell? ⟨s, 0, none⟩ = some (.slice A N a1) ∧ W.cell? ⟨s, 1, none⟩ = some (.slice A2 M a2)) 5 [7, 8, 9, 10, 11] Z V := by
    intro v9 v10 g' q Z V hA hb hg hm hr
    refine spineS_of [(7, [8, 9, 10, 11]), (8, [7, 9, 10, 11]), (9, [7, 8, 10, 11])] (by kernel_rfl) ?_
    intro x hx
    simp only [List.mem_cons, List.not_mem_nil, or_false] at hx
    rcases hx with rfl | rfl | rfl
    · refine set_exec T7 (by kernel_rfl) (by kernel_rfl) (R7 _ V g'.v (.slice (some ⟨q, 0, none⟩) N N) (by show Array.getD _ 5 _ = _; rw [hA]; repeat (first | with_reducible exact put_same _ _ _ (by simp only [put_size, hs0]; decide) | with_reducible refine (put_other _ _ _ _ (by decide)).trans ?_))) (hP _ hb) ?_
      exact E_8_9_10_11 v9 v10 g' q _ _ (by rw [hA]) hb hg hm hr
    · refine set_exec T8 (by kernel_rfl) (by kernel_rfl) (R8 _ V g'.v (.slice (some ⟨q, 0, none⟩) N N) (by show Array.getD _ 5 _ = _; rw [hA]; repeat (first | with_reducible exact put_same _ _ _ (by simp only [put_size, hs0]; decide) | with_reducible refine (put_other _ _ _ _ (by decide)).trans ?_))) (hP _ hb) ?_
      exact E_7_9_10_11 v9 v10 g' q _ _ (by rw [hA]) hb hg hm hr
    · have b2 := Gw.alloc V (.cells NilG 32)
      refine set_exec T9 (by kernel_rfl) (by kernel_rfl) (R9 _ V) (hP _ (hb.trans (b2.mono hb.size))) ?_
      exact E_7_8_10_11 v9 v10 g' q V.heap.size _ _ (by rw [hA]) (hb.trans (b2.mono hb.size)) (hg.below b2) hm hr (Bk.new V 32 NilG) hb.size
  have E_6_7_8_10_11 : ∀ (v9 : Value) (v10 : Value) (g' : Gv) (q : Nat) (b : Nat) (Z : Act) (V : World), Z = ((((A0.put (some 9) v9).put (some 10) v10).put (some 11) (.tuple #[g'.v, .slice (some ⟨q, 0, none⟩) N N])).put (some 3) (.pointer (some ⟨b, 0, none⟩))) → Below w.heap.size w V → GO2 V w.heap.size g' → g'.n.map Nv.m = pickN g.n od od → g'.r = g.r.map (fun r => (⟨r.s, newO od r.t⟩ : Rv)) → Bk V b 32 NilG → w.heap.size ≤ b → SpineS Try.prog (regIn Try.f25 1) Q (fun W => W.cell? ⟨s, 0, none⟩ = some (.slice A N a1) ∧ W.cell? ⟨s, 1, none⟩ = some (.slice A2 M a2)) 5 [6, 7, 8, 10, 11] Z V := by
    intro v9 v10 g' q b Z V hA hb hg hm hr hk hs
    refine spineS_of [(6, [7, 8, 10, 11])] (by kernel_rfl) ?_
    intro x hx
    simp only [List.mem_cons, List.not_mem_nil, or_false] at hx
    subst hx
    · refine set_exec T6 (by kernel_rfl) (by kernel_rfl) (R6 _ V (.tuple #[g'.v, .slice (some ⟨q, 0, none⟩) N N]) (by show Array.getD _ 11 _ = _; rw [hA]; repeat (first | with_reducible exact put_same _ _ _ (by simp only [put_size, hs0]; decide) | with_reducible refine (put_other _ _ _ _ (by decide)).trans ?_))) (hP _ hb) ?_
      exact E_7_8_10_11 v9 v10 g' q b _ _ (by rw [hA, put_comm _ 3 5 _ _ (by decide)]) hb hg hm hr hk hs
  have E_6_7_8_9_10_11 : ∀ (v9 : Value) (v10 : Value) (g' : Gv) (q : Nat) (Z : Act) (V : World), Z = (((A0.put (some 9) v9).put (some 10) v10).put (some 11) (.tuple #[g'.v, .slice (some ⟨q, 0, none⟩) N N])) → Below w.heap.size w V → GO2 V w.heap.size g' → g'.n.map Nv.m = pickN g.n od od → g'.r = g.r.map (fun r => (⟨r.s, newO od r.t⟩ : Rv)) → SpineS Try.prog (regIn Try.f25 1) Q (fun W => W.cell? ⟨s, 0, none⟩ = some (.slice A N a1) ∧ W.cell? ⟨s, 1, none⟩ = some (.slice A2 M a2)) 6 [6, 7, 8, 9, 10, 11] Z V := by
    intro v9 v10 g' q Z V hA hb hg hm hr
    refine spineS_of [(6, [7, 8, 9, 10, 11]), (9, [6, 7, 8, 10, 11])] (by kernel_rfl) ?_
    intro x hx
    simp only [List.mem_cons, List.not_mem_nil, or_false] at hx
    rcases hx with rfl | rfl
    · refine set_exec T6 (by kernel_rfl) (by kernel_rfl) (R6 _ V (.tuple #[g'.v, .slice (some ⟨q, 0, none⟩) N N]) (by show Array.getD _ 11 _ = _; rw [hA]; repeat (first | with_reducible exact put_same _ _ _ (by simp only [put_size, hs0]; decide) | with_reducible refine (put_other _ _ _ _ (by decide)).trans ?_))) (hP _ hb) ?_
      exact E_7_8_9_10_11 v9 v10 g' q _ _ (by rw [hA]) hb hg hm hr
    · have b2 := Gw.alloc V (.cells NilG 32)
      refine set_exec T9 (by kernel_rfl) (by kernel_rfl) (R9 _ V) (hP _ (hb.trans (b2.mono hb.size))) ?_
      exact E_6_7_8_10_11 v9 v10 g' q V.heap.size _ _ (by rw [hA]) (hb.trans (b2.mono hb.size)) (hg.below b2) hm hr (Bk.new V 32 NilG) hb.size
  have E_5_6_7_8_10_11 : ∀ (v9 : Value) (v10 : Value) (b : Nat) (Z : Act) (V : World), Z = (((A0.put (some 9) v9).put (some 10) v10).put (some 3) (.pointer (some ⟨b, 0, none⟩))) → Below w.heap.size w V → IntsV od v10 V → Bk V b 32 NilG → w.heap.size ≤ b → SpineS Try.prog (regIn Try.f25 1) Q (fun W => W.cell? ⟨s, 0, none⟩ = some (.slice A N a1) ∧ W.cell? ⟨s, 1, none⟩ = some (.slice A2 M a2)) 6 [5, 6, 7, 8, 10, 11] Z V := by
    intro v9 v10 b Z V hA hb h10 hk hs
    refine spineS_of [(5, [6, 7, 8, 10, 11])] (by kernel_rfl) ?_
    intro x hx
    simp only [List.mem_cons, List.not_mem_nil, or_false] at hx
    subst hx
    · refine set_call T5 (by kernel_rfl) (by kernel_rfl) (R5 _ V v10 rfl (by show Array.getD _ 6 _ = _; rw [hA]; repeat (first | with_reducible exact put_same _ _ _ (by simp only [put_size, hs0]; decide) | with_reducible refine (put_other _ _ _ _ (by decide)).trans ?_ | with_reducible exact g6)) (by show Array.getD _ 10 _ = _; rw [hA]; repeat (first | with_reducible exact put_same _ _ _ (by simp only [put_size, hs0]; decide) | with_reducible refine (put_other _ _ _ _ (by decide)).trans ?_))) ?_
      refine Calls.mono (hPk V v10 hb h10) ?_
      rintro e w2 ⟨u, rfl, b2, g', q, rfl, hg, hm, hr⟩
      refine ⟨_, rfl, hP _ (hb.trans (b2.mono hb.size)), ?_⟩
      exact E_6_7_8_10_11 v9 v10 g' q b _ _ (by rw [hA, put_comm _ 3 11 _ _ (by decide)]) (hb.trans (b2.mono hb.size)) hg hm hr (hk.below b2 hk.lt) hs
  have E_5_6_7_8_9_10_11 : ∀ (v9 : Value) (v10 : Value) (Z : Act) (V : World), Z = ((A0.put (some 9) v9).put (some 10) v10) → Below w.heap.size w V → IntsV od v10 V → SpineS Try.prog (regIn Try.f25 1) Q (fun W => W.cell? ⟨s, 0, none⟩ = some (.slice A N a1) ∧ W.cell? ⟨s, 1, none⟩ = some (.slice A2 M a2)) 7 [5, 6, 7, 8, 9, 10, 11] Z V := by
    intro v9 v10 Z V hA hb h10
    refine spineS_of [(5, [6, 7, 8, 9, 10, 11]), (9, [5, 6, 7, 8, 10, 11])] (by kernel_rfl) ?_
    intro x hx
    simp only [List.mem_cons, List.not_mem_nil, or_false] at hx
    rcases hx with rfl | rfl
    · refine set_call T5 (by kernel_rfl) (by kernel_rfl) (R5 _ V v10 rfl (by show Array.getD _ 6 _ = _; rw [hA]; repeat (first | with_reducible exact put_same _ _ _ (by simp only [put_size, hs0]; decide) | with_reducible refine (put_other _ _ _ _ (by decide)).trans ?_ | with_reducible exact g6)) (by show Array.getD _ 10 _ = _; rw [hA]; repeat (first | with_reducible exact put_same _ _ _ (by simp only [put_size, hs0]; decide) | with_reducible refine (put_other _ _ _ _ (by decide)).trans ?_))) ?_
      refine Calls.mono (hPk V v10 hb h10) ?_
      rintro e w2 ⟨u, rfl, b2, g', q, rfl, hg, hm, hr⟩
      refine ⟨_, rfl, hP _ (hb.trans (b2.mono hb.size)), ?_⟩
      exact E_6_7_8_9_10_11 v9 v10 g' q _ _ (by rw [hA]) (hb.trans (b2.mono hb.size)) hg hm hr
    · have b2 := Gw.alloc V (.cells NilG 32)
      refine set_exec T9 (by kernel_rfl) (by kernel_rfl) (R9 _ V) (hP _ (hb.trans (b2.mono hb.size))) ?_
      exact E_5_6_7_8_10_11 v9 v10 V.heap.size _ _ (by rw [hA]) (hb.trans (b2.mono hb.size)) (h10.mono b2) (Bk.new V 32 NilG) hb.size
  have E_4_5_6_7_8_10_11 : ∀ (v9 : Value) (b : Nat) (Z : Act) (V : World), Z = ((A0.put (some 9) v9).put (some 3) (.pointer (some ⟨b, 0, none⟩))) → Below w.heap.size w V → IntsV (g.r.map (·.t)) v9 V → Bk V b 32 NilG → w.heap.size ≤ b → SpineS Try.prog (regIn Try.f25 1) Q (fun W => W.cell? ⟨s, 0, none⟩ = some (.slice A N a1) ∧ W.cell? ⟨s, 1, none⟩ = some (.slice A2 M a2)) 7 [4, 5, 6, 7, 8, 10, 11] Z V := by
    intro v9 b Z V hA hb h9 hk hs
    refine spineS_of [(4, [5, 6, 7, 8, 10, 11])] (by kernel_rfl) ?_
    intro x hx
    simp only [List.mem_cons, List.not_mem_nil, or_false] at hx
    subst hx
    · refine set_call T4 (by kernel_rfl) (by kernel_rfl) (R4 _ V v9 rfl (by show Array.getD _ 7 _ = _; rw [hA]; repeat (first | with_reducible exact put_same _ _ _ (by simp only [put_size, hs0]; decide) | with_reducible refine (put_other _ _ _ _ (by decide)).trans ?_ | with_reducible exact g7)) (by show Array.getD _ 9 _ = _; rw [hA]; repeat (first | with_reducible exact put_same _ _ _ (by simp only [put_size, hs0]; decide) | with_reducible refine (put_other _ _ _ _ (by decide)).trans ?_))) ?_
      refine Calls.mono (hWk V v9 hb h9) ?_
      rintro e w2 ⟨u, rfl, b2, hu⟩
      refine ⟨_, rfl, hP _ (hb.trans (b2.mono hb.size)), ?_⟩
      exact E_5_6_7_8_10_11 v9 u b _ _ (by rw [hA, put_comm _ 3 10 _ _ (by decide)]) (hb.trans (b2.mono hb.size)) hu (hk.below b2 hk.lt) hs
  have E_4_5_6_7_8_9_10_11 : ∀ (v9 : Value) (Z : Act) (V : World), Z = (A0.put (some 9) v9) → Below w.heap.size w V → IntsV (g.r.map (·.t)) v9 V → SpineS Try.prog (regIn Try.f25 1) Q (fun W => W.cell? ⟨s, 0, none⟩ = some (.slice A N a1) ∧ W.cell? ⟨s, 1, none⟩ = some (.slice A2 M a2)) 8 [4, 5, 6, 7, 8, 9, 10, 11] Z V := by
    intro v9 Z V hA hb h9
    refine spineS_of [(4, [5, 6, 7, 8, 9, 10, 11]), (9, [4, 5, 6, 7, 8, 10, 11])] (by kernel_rfl) ?_
    intro x hx
    simp only [List.mem_cons, List.not_mem_nil, or_false] at hx
    rcases hx with rfl | rfl
    · refine set_call T4 (by kernel_rfl) (by kernel_rfl) (R4 _ V v9 rfl (by show Array.getD _ 7 _ = _; rw [hA]; repeat (first | with_reducible exact put_same _ _ _ (by simp only [put_size, hs0]; decide) | with_reducible refine (put_other _ _ _ _ (by decide)).trans ?_ | with_reducible exact g7)) (by show Array.getD _ 9 _ = _; rw [hA]; repeat (first | with_reducible exact put_same _ _ _ (by simp only [put_size, hs0]; decide) | with_reducible refine (put_other _ _ _ _ (by decide)).trans ?_))) ?_
      refine Calls.mono (hWk V v9 hb h9) ?_
      rintro e w2 ⟨u, rfl, b2, hu⟩
      refine ⟨_, rfl, hP _ (hb.trans (b2.mono hb.size)), ?_⟩
      exact E_5_6_7_8_9_10_11 v9 u _ _ (by rw [hA]) (hb.trans (b2.mono hb.size)) hu
    · have b2 := Gw.alloc V (.cells NilG 32)
      refine set_exec T9 (by kernel_rfl) (by kernel_rfl) (R9 _ V) (hP _ (hb.trans (b2.mono hb.size))) ?_
      exact E_4_5_6_7_8_10_11 v9 V.heap.size _ _ (by rw [hA]) (hb.trans (b2.mono hb.size)) (h9.mono b2) (Bk.new V 32 NilG) hb.size
  have E_3_4_5_6_7_8_10_11 : ∀ (b : Nat) (Z : Act) (V : World), Z = (A0.put (some 3) (.pointer (some ⟨b, 0, none⟩))) → Below w.heap.size w V → Bk V b 32 NilG → w.heap.size ≤ b → SpineS Try.prog (regIn Try.f25 1) Q (fun W => W.cell? ⟨s, 0, none⟩ = some (.slice A N a1) ∧ W.cell? ⟨s, 1, none⟩ = some (.slice A2 M a2)) 8 [3, 4, 5, 6, 7, 8, 10, 11] Z V := by
    intro b Z V hA hb hk hs
    refine spineS_of [(3, [4, 5, 6, 7, 8, 10, 11])] (by kernel_rfl) ?_
    intro x hx
    simp only [List.mem_cons, List.not_mem_nil, or_false] at hx
    subst hx
    · refine set_call T3 (by kernel_rfl) (by kernel_rfl) (R3 _ V rfl (by show Array.getD _ 8 _ = _; rw [hA]; repeat (first | with_reducible exact put_same _ _ _ (by simp only [put_size, hs0]; decide) | with_reducible refine (put_other _ _ _ _ (by decide)).trans ?_ | with_reducible exact g8))) ?_
      refine Calls.mono (hNm V hb) ?_
      rintro e w2 ⟨u, rfl, b2, hu⟩
      refine ⟨_, rfl, hP _ (hb.trans (b2.mono hb.size)), ?_⟩
      exact E_4_5_6_7_8_10_11 u b _ _ (by rw [hA, put_comm _ 3 9 _ _ (by decide)]) (hb.trans (b2.mono hb.size)) hu (hk.below b2 hk.lt) hs
  have E_3_4_5_6_7_8_9_10_11 : ∀  (Z : Act) (V : World), Z = A0 → Below w.heap.size w V → SpineS Try.prog (regIn Try.f25 1) Q (fun W => W.cell? ⟨s, 0, none⟩ = some (.slice A N a1) ∧ W.cell? ⟨s, 1, none⟩ = some (.slice A2 M a2)) 9 [3, 4, 5, 6, 7, 8, 9, 10, 11] Z V := by
    intro  Z V hA hb
    refine spineS_of [(3, [4, 5, 6, 7, 8, 9, 10, 11]), (9, [3, 4, 5, 6, 7, 8, 10, 11])] (by kernel_rfl) ?_
    intro x hx
    simp only [List.mem_cons, List.not_mem_nil, or_false] at hx
    rcases hx with rfl | rfl
    · refine set_call T3 (by kernel_rfl) (by kernel_rfl) (R3 _ V rfl (by show Array.getD _ 8 _ = _; rw [hA]; repeat (first | with_reducible exact put_same _ _ _ (by simp only [put_size, hs0]; decide) | with_reducible refine (put_other _ _ _ _ (by decide)).trans ?_ | with_reducible exact g8))) ?_
      refine Calls.mono (hNm V hb) ?_
      rintro e w2 ⟨u, rfl, b2, hu⟩
      refine ⟨_, rfl, hP _ (hb.trans (b2.mono hb.size)), ?_⟩
      exact E_4_5_6_7_8_9_10_11 u _ _ (by rw [hA]) (hb.trans (b2.mono hb.size)) hu
    · have b2 := Gw.alloc V (.cells NilG 32)
      refine set_exec T9 (by kernel_rfl) (by kernel_rfl) (R9 _ V) (hP _ (hb.trans (b2.mono hb.size))) ?_
      exact E_3_4_5_6_7_8_10_11 V.heap.size _ _ (by rw [hA]) (hb.trans (b2.mono hb.size)) (Bk.new V 32 NilG) hb.size
  exact E_3_4_5_6_7_8_9_10_11 A0 V0 rfl hb0
theorem canon_res {tmps : Array Value} {W : World} {g : Nat} {a b : Value} (hb : Bk W g 32 #[a, b]) (h2 : tmps.getD 2 undef = .pointer (some ⟨g, 0, none⟩)) :
    (results Try.f25 tmps).run Try.prog W = .ok (.agg #[a, b]) W := by
  have hl := run_loadVar_row (P := Try.prog) W g 32 32 #[a, b] (0, 0) _ hb Try.underlying32 rfl (by kernel_rfl)
  have h2' : tmps[2]?.getD undef = .pointer (some ⟨g, 0, none⟩) := by simpa using h2
  simp [results, Try.results25, h2', asAddr, hl]
theorem canon_c (w : World) (g : Gv) (hg : g.At w w.heap.size) (hs : FewP g) (hok : ∀ x ∈ g.n, ∀ p ∈ x.ps, okP g.n.length p = true) (hrt : ∀ r ∈ g.r, okP g.n.length r.t = true) :
    Calls Try.prog 25 #[g.v] w fun e w' => ∃ (g' : Gv), e = .returned g'.v ∧ g'.At w' w'.heap.size ∧ g'.n.map Nv.m = pickN g.n (walkL g.n (g.r.map (·.t))) (walkL g.n (g.r.map (·.t))) ∧ g'.r = g.r.map (fun r => ⟨r.s, newO (walkL g.n (g.r.map (·.t))) r.t⟩) ∧ Below w.heap.size w w' := by
  obtain ⟨N, M, hN, hM, hva⟩ := @gv_cut g
  have HVa := Lib.hid hva
  rw [hva]
  obtain ⟨A, hA⟩ : ∃ A, A = g.A := ⟨_, rfl⟩
  obtain ⟨A2, hA2⟩ : ∃ A2, A2 = g.A2 := ⟨_, rfl⟩
  obtain ⟨a1, ha1⟩ : ∃ a1, a1 = g.c := ⟨_, rfl⟩
  obtain ⟨a2, ha2⟩ : ∃ a2, a2 = g.c2 := ⟨_, rfl⟩
  rw [← hA, ← hA2, ← ha1, ← ha2] at HVa ⊢
  have HN := Lib.hid hN
  have HG := Lib.hid hg
  have HS := Lib.hid hs
  have HOk := Lib.hid hok
  have HRt := Lib.hid hrt
  obtain ⟨od, hod⟩ : ∃ od, walkL g.n (g.r.map (·.t)) = od := ⟨_, rfl⟩
  rw [hod]
  have HOd := Lib.hid hod
  have hnd := walkL_nd g.n (g.r.map (·.t))
  have hle := walkL_len g.n (g.r.map (·.t))
  rw [hod] at hnd hle
  have HNd := Lib.hid hnd.1
  have HHs := Lib.hid hnd.2
  have HLe := Lib.hid (show (g.r.map (·.t)).length ≤ 1000 ∧ od.length ≤ 1000 from ⟨by rw [List.length_map]; have := hs.2.1; omega, by have := hs.1; omega⟩)
  clear hva hA hA2 ha1 ha2 hN hM hg hs hok hrt hod hnd hle
  go_enter Try.func25, Try.ntmps25
  go_wp2_with fail
  obtain ⟨W0, hW0⟩ : ∃ W0, W0 = (w.alloc (.cells #[.slice A N a1, .slice A2 M a2] 32)).alloc (.cells #[.slice none 0 0, .slice none 0 0] 32) := ⟨_, rfl⟩
  have H0 := Lib.hid (show Bk W0 w.heap.size 32 #[.slice A N a1, .slice A2 M a2] ∧ Bk W0 (w.heap.size + 1) 32 #[.slice none 0 0, .slice none 0 0] ∧ Below w.heap.size w W0 from by
    rw [hW0]
    have k1 := Bk.new (w.alloc (.cells #[.slice A N a1, .slice A2 M a2] 32)) 32 #[.slice none 0 0, .slice none 0 0]
    simp only [World.size_alloc] at k1
    exact ⟨(Bk.new w _ _).alloc _, k1, (Gw.alloc w _).trans ((Gw.alloc _ _).mono (by simp))⟩)
  rw [← hW0]
  clear hW0
  have HGa := Lib.hid (GBx.of2 H0.out.1 (HG.out.up H0.out.2.2))
  have HVa2 := Lib.hid HVa.out
  refine canon_r _ _ _ w.heap.size N M a1 a2 A A2 g od HN HVa2 HS.out HOk HRt HGa HLe.out.1 HOd HLe.out.2 HHs HNd H0.out.1.lt rfl rfl ?_
  intro v9 v10 g' q k w2 hbw hgo hm hr hbz hk
  obtain ⟨N', M', hN', hM', hvb⟩ := @gv_cut g'
  have HVb := Lib.hid hvb
  obtain ⟨B, hB⟩ : ∃ A, A = g'.A := ⟨_, rfl⟩
  obtain ⟨B2, hB2⟩ : ∃ A2, A2 = g'.A2 := ⟨_, rfl⟩
  obtain ⟨b1, hb1⟩ : ∃ a1, a1 = g'.c := ⟨_, rfl⟩
  obtain ⟨b2, hb2⟩ : ∃ a2, a2 = g'.c2 := ⟨_, rfl⟩
  rw [← hB, ← hB2, ← hb1, ← hb2] at HVb
  have hvn : g'.vn = .slice B N' b1 := by rw [hB, hb1, hN']; rfl
  have hvr : g'.vr = .slice B2 M' b2 := by rw [hB2, hb2, hM']; rfl
  rw [hvn, hvr] at hbz
  rw [HVb.out]
  simp only [putA, putD, Act.put, List.setIfInBounds_toArray, List.set_cons_zero, List.set_cons_succ]
  have HM := Lib.hid (And.intro hm hr)
  have hr2 : Bk w2 (w.heap.size + 1) 32 #[.slice none 0 0, .slice none 0 0] := H0.out.2.1.below hbw H0.out.2.1.lt
  have hgf := hgo.mono (B' := w.heap.size) H0.out.2.2.size
  have hbl : Below w.heap.size w w2 := H0.out.2.2.trans (hbw.mono H0.out.2.2.size)
  have c0 := hbz.two.1
  have c1 := hbz.two.2
  have f0 := hr2.free 0
  have f1 := hr2.free 1
  have g0 := hr2.two.1
  have g1 := hr2.two.2
  have H2 := Lib.hid (And.intro hr2 (And.intro hgf hbl))
  clear hbz hgf hr2 hbl hbw hgo hm hr hvn hvr hN' hM' hvb hB hB2 hb1 hb2 hk
  go_wp2_with fail
  have hbf : Bk ((w2.setCell ⟨w.heap.size + 1, 0, none⟩ (.slice B N' b1)).setCell ⟨w.heap.size + 1, 1, none⟩ (.slice B2 M' b2)) (w.heap.size + 1) 32 #[.slice B N' b1, .slice B2 M' b2] := by
    have h := (H2.out.1.set 0 (.slice B N' b1)).set 1 (.slice B2 M' b2)
    simpa using h
  have hKf : Kept (fun b => b = w.heap.size + 1) w2 ((w2.setCell ⟨w.heap.size + 1, 0, none⟩ (.slice B N' b1)).setCell ⟨w.heap.size + 1, 1, none⟩ (.slice B2 M' b2)) := (Kept.set w2 _ 0 _).trans (Kept.set _ _ 1 _)
  have hgf := (H2.out.2.1.far (grown_set w2 ⟨w.heap.size + 1, 0, none⟩ (.slice B N' b1)) H2.out.1).far (grown_set _ ⟨w.heap.size + 1, 1, none⟩ (.slice B2 M' b2)) (H2.out.1.set 0 _)
  refine bodyPost_ret (v := .agg #[.slice B N' b1, .slice B2 M' b2]) (canon_res hbf rfl) rfl ⟨g', by rw [HVb.out], hgf.at_, HM.out.1, HM.out.2, H2.out.2.2.trans (hKf.below H2.out.2.2.size (fun c e => by rw [e]; omega))⟩
end Go.Proofs.Ytidaimcndbhefaa
/- What a trimmed graph is, and what it is trimmed again (pure). No conditions. -/
namespace Go.Proofs.Ytidaimcndbhefaa
set_option linter.unusedVariables false
set_option linter.unusedSimpArgs false
open Go.RowKit Go.Maps
theorem mem_ordB {p : Int} : ∀ (L : List Bool) (i : Nat), p ∈ ordB L i ↔ ∃ k : Nat, L[k]? = some true ∧ p = ((i + k : Nat) : Int) + 1
  | [], i => by simp [ordB]
  | b :: r, i => by
    have ih := mem_ordB (p := p) r (i + 1)
    have key : (∃ k : Nat, (b :: r)[k]? = some true ∧ p = ((i + k : Nat) : Int) + 1) ↔ (b = true ∧ p = (i : Int) + 1) ∨ ∃ k : Nat, r[k]? = some true ∧ p = ((i + 1 + k : Nat) : Int) + 1 := by
      constructor
      · rintro ⟨k, h1, h2⟩
        cases k with
        | zero => left; exact ⟨by simpa using h1, by simpa using h2⟩
        | succ k => right; exact ⟨k, by simpa using h1, by rw [h2]; congr 2; omega⟩
      · rintro (⟨h1, h2⟩ | ⟨k, h1, h2⟩)
        · exact ⟨0, by simp [h1], by simpa using h2⟩
        · exact ⟨k + 1, by simpa using h1, by rw [h2]; congr 2; omega⟩
    have e : ordB (b :: r) i = if b = true then ((i : Int) + 1) :: ordB r (i + 1) else ordB r (i + 1) := rfl
    rw [key, ← ih, e]
    cases b
    · rw [if_neg (by simp)]; simp
    · rw [if_pos rfl, List.mem_cons]; simp
theorem mem_ord {L : List Bool} {p : Int} : p ∈ ordB L 0 ↔ hasG L.length p = true ∧ seenG L p = true := by
  rw [mem_ordB, hasG_iff]
  constructor
  · rintro ⟨k, h1, h2⟩
    obtain ⟨hk, e⟩ := List.getElem?_eq_some_iff.1 h1
    refine ⟨by omega, ?_⟩
    unfold seenG
    rw [show (p - 1).toNat = k by omega, List.getD_eq_getElem?_getD, h1]; rfl
  · rintro ⟨h1, h2⟩
    unfold seenG at h2
    have hk : (p - 1).toNat < L.length := by omega
    rw [List.getD_eq_getElem?_getD, List.getElem?_eq_getElem hk] at h2
    exact ⟨(p - 1).toNat, by rw [List.getElem?_eq_getElem hk]; exact congrArg some h2, by omega⟩
theorem pk_of {ns tn : List Nv} {L : List Bool} {fr : List Int} (hl : L.length = ns.length) (hs : ∀ p, hasG ns.length p = true → (seenG L p = true ↔ Rch ns fr p)) (hok : ∀ x ∈ ns, ∀ p ∈ x.ps, okP ns.length p = true) (hm : tn.map Nv.m = trimN (pairsB L 0 0) ns L) : Pk ns (ordB L 0) tn := by
  have mem : ∀ p, p ∈ ordB L 0 ↔ Rch ns fr p := fun p => by
    rw [mem_ord, hl]
    constructor
    · rintro ⟨h1, h2⟩; exact (hs p h1).1 h2
    · intro h; exact ⟨h.has, (hs p h.has).2 h⟩
  refine ⟨fun p hp => ((mem p).1 hp).has, ordB_nodup _ _, fun p hp q hq => ?_, by rw [hm, pick_trim hl]⟩
  have hr := (mem p).1 hp
  have hqo : okP ns.length q = true := by
    unfold ptrsG at hq
    cases e : ns[(p - 1).toNat]? with
    | none => rw [e] at hq; cases hq
    | some x => rw [e] at hq; exact hok x (List.mem_of_getElem? e) q hq
  unfold okP at hqo
  rw [Bool.or_eq_true, beq_iff_eq] at hqo
  rcases hqo with h0 | h0
  · exact .inl h0
  · exact .inr ((mem q).2 (.step p q hr hq h0))
theorem pk_mem {ns : List Nv} {L : List Bool} {fr : List Int} (hl : L.length = ns.length) (hs : ∀ p, hasG ns.length p = true → (seenG L p = true ↔ Rch ns fr p)) (p : Int) : p ∈ ordB L 0 ↔ Rch ns fr p := by
  rw [mem_ord, hl]
  constructor
  · rintro ⟨h1, h2⟩; exact (hs p h1).1 h2
  · intro h; exact ⟨h.has, (hs p h.has).2 h⟩
theorem ckNodes_zero {N : Nat} : ∀ {l : List Nv}, (∀ x ∈ l, ckNode N x = 0) → ckNodes N l = 0
  | [], _ => rfl
  | x :: r, h => by
    unfold ckNodes
    rw [if_pos (h x List.mem_cons_self)]
    exact ckNodes_zero (fun y hy => h y (List.mem_cons_of_mem _ hy))
theorem ckNodes_each {N : Nat} : ∀ {l : List Nv}, ckNodes N l = 0 → ∀ x ∈ l, ckNode N x = 0
  | [], _, x, hx => by cases hx
  | y :: r, h, x, hx => by
    have h1 : ckNode N y = 0 := by
      unfold ckNodes at h
      by_cases c : ckNode N y = 0
      · exact c
      · rw [if_neg c] at h; exact h
    unfold ckNodes at h
    rw [if_pos h1] at h
    rcases List.mem_cons.1 hx with rfl | hx
    · exact h1
    · exact ckNodes_each h x hx
theorem ckRoots_map {N N' : Nat} {f : Int → Int} : ∀ {l : List Rv} {s : ByteArray}, ckRoots N s l = 0 → (∀ r ∈ l, okP N' (f r.t) = true) → ckRoots N' s (l.map fun r => (⟨r.s, f r.t⟩ : Rv)) = 0
  | [], _, _, _ => rfl
  | r :: l, s, h, h2 => by
    rw [List.map_cons]
    unfold ckRoots at h ⊢
    split at h
    · rename_i c
      rw [if_pos c, if_pos (h2 r List.mem_cons_self)]
      by_cases d : okP N r.t = true
      · rw [if_pos d] at h
        exact ckRoots_map h (fun q hq => h2 q (List.mem_cons_of_mem _ hq))
      · rw [if_neg d] at h; cases h
    · cases h
theorem ck_zero {g : Gv} (h : ckG g = 0) : ckNodes g.n.length g.n = 0 ∧ g.r.length ≤ 64 ∧ ckRoots g.n.length emptyS g.r = 0 := by
  unfold ckG at h
  by_cases c : ckNodes g.n.length g.n = 0
  · rw [if_pos c] at h
    by_cases d : 64 < g.r.length
    · rw [if_pos d] at h; cases h
    · rw [if_neg d] at h; exact ⟨c, by omega, h⟩
  · rw [if_neg c] at h; exact absurd h c
section
variable {ns tn : List Nv} {od : List Int}
theorem Pk.okp (h : Pk ns od tn) {q : Int} (hq : q = 0 ∨ q ∈ od) : okP tn.length (newO od q) = true := by
  unfold okP
  rw [Bool.or_eq_true, beq_iff_eq]
  rcases hq with rfl | hq
  · left; exact h.zero
  · right; exact h.hasN hq
theorem Pk.each (h : Pk ns od tn) {y : Nv} (hy : y ∈ tn) : ∃ p x, p ∈ od ∧ ns[(p - 1).toNat]? = some x ∧ y.ps = x.ps.map (newO od) ∧ y.bs = x.bs := by
  obtain ⟨i, hi, e⟩ := List.mem_iff_getElem.1 hy
  have hio : i < od.length := by rw [← h.len]; exact hi
  obtain ⟨x, z, h1, h2, h3, h4⟩ := h.node (List.getElem_mem hio)
  have e2 := newO_get h.nd (List.getElem?_eq_getElem hio)
  rw [e2, show ((i : Int) + 1 - 1).toNat = i by omega, List.getElem?_eq_getElem hi] at h2
  injection h2 with h2
  rw [← e, h2]
  exact ⟨_, x, List.getElem_mem hio, h1, h3, h4⟩
theorem Pk.okn (h : Pk ns od tn) : ∀ y ∈ tn, ∀ q ∈ y.ps, okP tn.length q = true := fun y hy q hq => by
  obtain ⟨p, x, hp, hx, e, _⟩ := h.each hy
  rw [e] at hq
  obtain ⟨r, hr, rfl⟩ := List.mem_map.1 hq
  exact h.okp (h.cl p hp r (by unfold ptrsG; rw [hx]; exact hr))
theorem Pk.ck (h : Pk ns od tn) (h0 : ckNodes ns.length ns = 0) : ckNodes tn.length tn = 0 := ckNodes_zero fun y hy => by
  obtain ⟨p, x, hp, hx, e1, e2⟩ := h.each hy
  have hc := ckNodes_each h0 x (List.mem_of_getElem? hx)
  unfold ckNode at hc ⊢
  rw [if_pos (List.all_eq_true.2 (fun q hq => h.okn y hy q hq)), e1, e2, List.length_map]
  split at hc
  · exact hc
  · cases hc
/-- Picked whole, in its own order, it is itself. -/
theorem Pk.self (h : ∀ y ∈ tn, ∀ q ∈ y.ps, okP tn.length q = true) {L : List Bool} (hl : L.length = tn.length) (hs : ∀ q, hasG tn.length q = true → seenG L q = true) : pickN tn (ordB L 0) (ordB L 0) = tn.map Nv.m ∧ ∀ q, okP tn.length q = true → newO (ordB L 0) q = q := by
  have ho : ∀ i : Nat, i < tn.length → (ordB L 0)[i]? = some ((i : Int) + 1) := by
    have gen : ∀ (M : List Bool) (c : Nat), (∀ b ∈ M, b = true) → ∀ i : Nat, i < M.length → (ordB M c)[i]? = some (((c + i : Nat) : Int) + 1) := by
      intro M
      induction M with
      | nil => intro c _ i hi; exact absurd hi (by simp)
      | cons b r ih =>
        intro c hb i hi
        unfold ordB
        rw [if_pos (hb b List.mem_cons_self)]
        cases i with
        | zero => simp
        | succ i =>
          rw [List.getElem?_cons_succ, ih (c + 1) (fun b hb2 => hb b (List.mem_cons_of_mem _ hb2)) i (by simpa using hi)]
          congr 2; omega
    intro i hi
    have := gen L 0 (fun b hb => by
      obtain ⟨k, hk, e⟩ := List.mem_iff_getElem.1 hb
      have := hs ((k : Int) + 1) (hasG_iff.2 (by omega))
      unfold seenG at this
      rw [show ((k : Int) + 1 - 1).toNat = k by omega, List.getD_eq_getElem?_getD, List.getElem?_eq_getElem hk] at this
      rw [← e]; exact this) i (by omega)
    simpa using this
  have hn : ∀ q, okP tn.length q = true → newO (ordB L 0) q = q := fun q hq => by
    have hq2 := okP_iff.1 hq
    by_cases e : q = 0
    · subst e; exact newO_zero (fun p hp => by have := (ordB_ge L 0 p hp).1; omega)
    · have := newO_get (ordB_nodup L 0) (ho (q - 1).toNat (by omega))
      rw [show (((q - 1).toNat : Nat) : Int) + 1 = q by omega] at this
      rw [this]
  have hlen : (ordB L 0).length = tn.length := by
    have a := ordB_len L 0
    rcases Nat.lt_or_ge (ordB L 0).length tn.length with b | b
    · have := ho _ b
      rw [List.getElem?_eq_none (Nat.le_refl _)] at this
      cases this
    · omega
  refine ⟨List.ext_getElem? fun i => ?_, hn⟩
  unfold pickN
  rw [List.getElem?_map, List.getElem?_map]
  by_cases hi : i < tn.length
  · rw [ho i hi, List.getElem?_eq_getElem hi]
    simp only [Option.map_some]
    rw [pick1_at hi]
    congr 1
    unfold Nv.m
    congr 1
    have : (tn[i]).ps.map (newO (ordB L 0)) = (tn[i]).ps.map id := List.map_congr_left fun q hq => hn q (h _ (List.getElem_mem hi) q hq)
    rw [this, List.map_id]
  · rw [List.getElem?_eq_none (by omega), List.getElem?_eq_none (by omega)]; rfl
end
def wordsM : List (List Int × List (BitVec 8)) → Int
  | [] => 0
  | x :: r => sizeH x.1.length x.2.length false 0 + wordsM r
theorem words_m : ∀ l : List Nv, wordsL l = wordsM (l.map Nv.m)
  | [] => rfl
  | x :: r => by
    rw [List.map_cons]
    show szN x + wordsL r = _ + wordsM _
    rw [words_m r]; rfl
theorem words_trim (now : List (Int × Int)) : ∀ (ns : List Nv) (L : List Bool), wordsM (trimN now ns L) ≤ wordsL ns
  | [], _ => by unfold trimN; exact Int.le_refl _
  | x :: r, [] => by unfold trimN; exact (wordsL_le _).1
  | x :: r, b :: l => by
    have ih := words_trim now r l
    have hz := szN_le x
    unfold trimN
    cases b
    · rw [if_neg (by simp)]
      show _ ≤ szN x + wordsL r
      omega
    · rw [if_pos rfl]
      show sizeH (x.ps.map (newP now)).length x.bs.length false 0 + wordsM (trimN now r l) ≤ szN x + wordsL r
      rw [List.length_map]
      have : sizeH x.ps.length x.bs.length false 0 = szN x := rfl
      omega
end Go.Proofs.Ytidaimcndbhefaa
/- GraphTrims: its last region. No conditions. -/
namespace Go.Proofs.Ytidaimcndbhefaa
set_option linter.unusedVariables false
set_option linter.unusedSimpArgs false
open Go.RowKit Go.Maps
def CnV (ms : List (List Int × List (BitVec 8))) (rs : List Rv) (v : Value) (w : World) : Prop := ∃ g' : Gv, v = g'.v ∧ g'.At w w.heap.size ∧ g'.n.map Nv.m = ms ∧ g'.r = rs
theorem CnV.mono {ms : List (List Int × List (BitVec 8))} {rs : List Rv} {v : Value} {a b : World} (h : CnV ms rs v a) (hb : Below a.heap.size a b) : CnV ms rs v b := by
  obtain ⟨g', e, h1, h2⟩ := h
  exact ⟨g', e, h1.up hb, h2⟩
theorem FewP.of_n {a c : Gv} (h : FewP a) (h1 : c.n = a.n) (h2 : c.r = a.r) : FewP c := h.same (by rw [h1]) h2
theorem can_k {W : World} {g : Gv} {v : Value} {ms : List (List Int × List (BitVec 8))} {rs : List Rv} (hf : FewP g) (hok : ∀ x ∈ g.n, ∀ p ∈ x.ps, okP g.n.length p = true) (hrt : ∀ r ∈ g.r, okP g.n.length r.t = true)
    (hms : pickN g.n (walkL g.n (g.r.map (·.t))) (walkL g.n (g.r.map (·.t))) = ms) (hrs : g.r.map (fun r => (⟨r.s, newO (walkL g.n (g.r.map (·.t))) r.t⟩ : Rv)) = rs) (h : OfV g v W) : Calls Try.prog 25 #[v] W fun e w2 => ∃ u, e = .returned u ∧ Below W.heap.size W w2 ∧ CnV ms rs u w2 := by
  obtain ⟨g1, rfl, h1, n1, r1⟩ := h
  refine (canon_c W g1 h1 (hf.of_n n1 r1) (by rw [n1]; exact hok) (by rw [n1, r1]; exact hrt)).mono ?_
  rintro e w2 ⟨g', rfl, ha, hm, hr, b2⟩
  rw [n1, r1] at hm hr
  exact ⟨_, rfl, b2, g', rfl, ha, hm.trans hms, hr.trans hrs⟩
theorem reqc_k {W : World} {u v : Value} {ms : List (List Int × List (BitVec 8))} {rs : List Rv} (hf : ∀ g' : Gv, g'.n.map Nv.m = ms → g'.r = rs → FewP g') (ha : CnV ms rs u W) (hb : CnV ms rs v W) : Calls Try.prog 17 #[u, v] W (RetP (.bool true) W) := by
  obtain ⟨g1, rfl, h1, m1, r1⟩ := ha
  obtain ⟨g2, rfl, h2, m2, r2⟩ := hb
  have k := req_c W g1 g2 h1 h2 (hf g1 m1 r1)
  rw [same_true (r1.trans r2.symm) (m1.trans m2.symm)] at k
  exact k
theorem check_k {W : World} {g : Gv} {v : Value} (hv : g.v = v) (hf : FewP g) (h0 : ckG g = 0) (h : g.At W W.heap.size) : Calls Try.prog 11 #[v] W (RetP (.int .i64 0) W) := by
  rw [← hv, ← h0]; exact check_c W g h hf.small
theorem words_k2 {W : World} {g : Gv} {v : Value} {k : Int} (hv : g.v = v) (hf : FewP g) (hk : wordsL g.n = k) (h : g.At W W.heap.size) : Calls Try.prog 19 #[v] W (RetP (.int .i64 k) W) := by
  rw [← hk]; exact words_k hv hf h
theorem FewP.pick {g t : Gv} {od : List Int} {f : Int → Int} (h : FewP g) (hh : ∀ p ∈ od, hasG g.n.length p = true) (hn : od.Nodup) (h1 : t.n.map Nv.m = pickN g.n od od) (h2 : t.r = g.r.map fun r => (⟨r.s, f r.t⟩ : Rv)) : FewP t := by
  have hl := congrArg List.length h1
  unfold pickN at hl
  rw [List.length_map, List.length_map] at hl
  have hle := nd_le hn hh
  refine ⟨by have := h.1; omega, by rw [h2, List.length_map]; exact h.2.1, fun x hx => ?_, fun r hr => ?_⟩
  · have hm : x.m ∈ t.n.map Nv.m := List.mem_map.2 ⟨x, hx, rfl⟩
    rw [h1] at hm
    unfold pickN at hm
    obtain ⟨p, hp, e⟩ := List.mem_map.1 hm
    unfold pick1 Nv.m at e
    cases ey : g.n[(p - 1).toNat]? with
    | none => rw [ey] at e; injection e with e1 e2; rw [← e1, ← e2]; exact ⟨by simp, by simp⟩
    | some y =>
      rw [ey] at e
      injection e with e1 e2
      have := h.2.2.1 y (List.mem_of_getElem? ey)
      rw [← e1, ← e2, List.length_map]
      exact this
  · rw [h2] at hr
    obtain ⟨s, hs, rfl⟩ := List.mem_map.1 hr
    exact h.2.2.2 s hs
set_option maxHeartbeats 4000000
set_option maxRecDepth 100000
theorem trims13_r (Q : Exit → Act → World → Prop) (a0 : Act) (w : World) (sa st su : Nat) (ga gt gu : Gv) (A A2 T T2 U U2 : Option Addr) (N M K L K' L' a1 a2 t1 t2 u1 u2 : Nat) (ms : List (List Int × List (BitVec 8))) (rs : List Rv) (wa wt : Int) (hga : ga.v = .agg #[.slice A N a1, .slice A2 M a2]) (hgt : gt.v = .agg #[.slice T K t1, .slice T2 L t2]) (hgu : gu.v = .agg #[.slice U K' u1, .slice U2 L' u2]) (hfa : FewP ga) (hft : FewP gt) (hfu : FewP gu) (ha : Hid (GBx w sa ga (.slice A N a1) (.slice A2 M a2))) (ht : Hid (GBx w st gt (.slice T K t1) (.slice T2 L t2))) (hu : Hid (GBx w su gu (.slice U K' u1) (.slice U2 L' u2))) (hck : Hid (ckG gt = 0)) (hsame : sameG gu gt = true) (hKN : (K : Int) ≤ (N : Int)) (hwa : Hid (wordsL ga.n = wa)) (hwt : Hid (wordsL gt.n = wt)) (hww : wt ≤ wa)
  (hoka : Hid ((∀ x ∈ ga.n, ∀ p ∈ x.ps, okP ga.n.length p = true) ∧ ∀ r ∈ ga.r, okP ga.n.length r.t = true)) (hokt : Hid ((∀ x ∈ gt.n, ∀ p ∈ x.ps, okP gt.n.length p = true) ∧ ∀ r ∈ gt.r, okP gt.n.length r.t = true))
  (hma : Hid (pickN ga.n (walkL ga.n (ga.r.map (·.t))) (walkL ga.n (ga.r.map (·.t))) = ms)) (hra : Hid (ga.r.map (fun r => (⟨r.s, newO (walkL ga.n (ga.r.map (·.t))) r.t⟩ : Rv)) = rs)) (hmt : Hid (pickN gt.n (walkL gt.n (gt.r.map (·.t))) (walkL gt.n (gt.r.map (·.t))) = ms)) (hrt : Hid (gt.r.map (fun r => (⟨r.s, newO (walkL gt.n (gt.r.map (·.t))) r.t⟩ : Rv)) = rs)) (hfc : Hid (∀ g' : Gv, g'.n.map Nv.m = ms → g'.r = rs → FewP g')) (hsz : a0.tmps.size = 102) (sl2 : a0.tmps.getD 2 undef = .pointer (some ⟨sa, 0, none⟩)) (sl5 : a0.tmps.getD 5 undef = .pointer (some ⟨st, 0, none⟩)) (sl9 : a0.tmps.getD 9 undef = .pointer (some ⟨su, 0, none⟩))
    (fin : ∀ (vals : Nat → Value) (w1 : World), Below w.heap.size w w1 → (IsV (.bool true)) (vals 33) w1 → Q .normal (putD vals [69, 70, 71, 72, 73, 74, 75, 76, 77, 78, 79, 80, 81, 82, 83, 84, 85, 86, 87, 88, 89, 90, 91, 92, 93, 94, 95, 96, 97, 98, 99, 100, 101, 4] 0 a0) w1) :
    (Code.region 13 (regIn Try.f5 13) true).wp Try.prog Q a0 w := by
  refine region_by (G := fun w w1 => Below w.heap.size w w1) [IsV (.agg #[.slice T K t1, .slice T2 L t2]),
    IsV (.int .i64 0),
    IsV (.bool true),
    IsV (.bool true),
    IsV (.agg #[.slice U K' u1, .slice U2 L' u2]),
    IsV (.agg #[.slice T K t1, .slice T2 L t2]),
    IsV (.bool true),
    IsV (.bool true),
    IsV (.bool true),
    IsV (.pointer (some ⟨st, 0, none⟩)),
    IsV (.slice T K t1),
    IsV (.int .i64 K),
    IsV (.pointer (some ⟨sa, 0, none⟩)),
    IsV (.slice A N a1),
    IsV (.int .i64 N),
    IsV (.bool true),
    IsV (.bool true),
    IsV (.bool true),
    IsV (.agg #[.slice T K t1, .slice T2 L t2]),
    IsV (.int .i64 wt),
    IsV (.agg #[.slice A N a1, .slice A2 M a2]),
    IsV (.int .i64 wa),
    IsV (.bool true),
    IsV (.bool true),
    IsV (.bool true),
    IsV (.agg #[.slice T K t1, .slice T2 L t2]),
    OfV gt,
    CnV ms rs,
    IsV (.agg #[.slice A N a1, .slice A2 M a2]),
    OfV ga,
    CnV ms rs,
    IsV (.bool true),
    IsV (.bool true),
    IsV (.bool true)]
    [69, 70, 71, 72, 73, 74, 75, 76, 77, 78, 79, 80, 81, 82, 83, 84, 85, 86, 87, 88, 89, 90, 91, 92, 93, 94, 95, 96, 97, 98, 99, 100, 101, 4] (by kernel_rfl) (Gw.drew _) Gw.trans (by rw [hsz]; kernel_rfl) (by kernel_rfl) ?_ ?_ ?_
  · intro f hf
    simp only [List.mem_cons, List.not_mem_nil, or_false] at hf
    rcases hf with rfl | rfl | rfl | rfl | rfl | rfl | rfl | rfl | rfl | rfl | rfl | rfl | rfl | rfl | rfl | rfl | rfl | rfl | rfl | rfl | rfl | rfl | rfl | rfl | rfl | rfl | rfl | rfl | rfl | rfl | rfl | rfl | rfl | rfl <;> intro v a b h g <;> first | exact IsV.mono h | exact OfV.mono h g | exact CnV.mono h g
  · refine ⟨?_, ?_, ?_, ?_, ?_, ?_, ?_, ?_, ?_, ?_, ?_, ?_, ?_, ?_, ?_, ?_, ?_, ?_, ?_, ?_, ?_, ?_, ?_, ?_, ?_, ?_, ?_, ?_, ?_, ?_, ?_, ?_, ?_, ?_, trivial⟩
    · refine owes_v (Go.Op.load 25 (Go.Operand.tmp 5)) 25 [] (by kernel_rfl) (by kernel_rfl) (by kernel_rfl) rfl fun vals w1 ρ hG hF hρ hcst hfun => ?_
      have e5 : ρ (.tmp 5) = .pointer (some ⟨st, 0, none⟩) := ((hρ 5).trans (slotO [] (by kernel_rfl))).trans sl5
      obtain ⟨d0, d1, _⟩ := ht.out w1 hG
      clear hρ hF hcst hfun sl2 sl5 sl9 fin
      exact opv_val (by go_simp <;> rfl) ⟨gw_self _, rfl⟩
    · refine owes_v (Go.Op.call { callee := Go.Callee.value (Go.Operand.func 11), args := #[Go.Operand.tmp 69], argTypes := #[25] }) 34 [0] (by kernel_rfl) (by kernel_rfl) (by kernel_rfl) rfl fun vals w1 ρ hG hF hρ hcst hfun => ?_
      have e69 : ρ (.tmp 69) = .agg #[.slice T K t1, .slice T2 L t2] := ((hρ 69).trans (slotJ [0] (by rw [hsz]; decide) (by kernel_rfl))).trans (hF 0 (by decide))
      clear hρ hF hcst sl2 sl5 sl9 fin
      exact opv_enter (by go_simp <;> rfl) (of_retK (check_k hgt hft hck.out (ht.out w1 hG).2.2))
    · refine owes_v (Go.Op.binOp Go.BinOp.eql 3 (Go.Operand.tmp 70) (Go.Operand.const (Go.Value.int Go.IntKind.i64 0)) 3) 4 [1] (by kernel_rfl) (by kernel_rfl) (by kernel_rfl) rfl fun vals w1 ρ hG hF hρ hcst hfun => ?_
      have e70 : ρ (.tmp 70) = .int .i64 0 := ((hρ 70).trans (slotJ [1] (by rw [hsz]; decide) (by kernel_rfl))).trans (hF 1 (by decide))
      clear hρ hF hfun sl2 sl5 sl9 fin
      exact opv_val (by go_simp <;> rfl) ⟨gw_self _, rfl⟩
    · exact owes_mvj 2 71 (by kernel_rfl) (by kernel_rfl) (by kernel_rfl) (by kernel_rfl) (by rw [hsz]; decide) (fun v w h => h)
    · refine owes_vt 3 true (Go.Op.load 25 (Go.Operand.tmp 9)) 25 [] (by kernel_rfl) (by kernel_rfl) (by kernel_rfl) (fun _ _ h => h) (by rw [hsz]; kernel_rfl) (by kernel_rfl) rfl fun vals w1 ρ hG hF hρ hcst hfun => ?_
      have e9 : ρ (.tmp 9) = .pointer (some ⟨su, 0, none⟩) := ((hρ 9).trans (slotO [] (by kernel_rfl))).trans sl9
      obtain ⟨d0, d1, _⟩ := hu.out w1 hG
      clear hρ hF hcst hfun sl2 sl5 sl9 fin
      exact opv_val (by go_simp <;> rfl) ⟨gw_self _, rfl⟩
    · refine owes_vt 3 true (Go.Op.load 25 (Go.Operand.tmp 5)) 25 [] (by kernel_rfl) (by kernel_rfl) (by kernel_rfl) (fun _ _ h => h) (by rw [hsz]; kernel_rfl) (by kernel_rfl) rfl fun vals w1 ρ hG hF hρ hcst hfun => ?_
      have e5 : ρ (.tmp 5) = .pointer (some ⟨st, 0, none⟩) := ((hρ 5).trans (slotO [] (by kernel_rfl))).trans sl5
      obtain ⟨d0, d1, _⟩ := ht.out w1 hG
      clear hρ hF hcst hfun sl2 sl5 sl9 fin
      exact opv_val (by go_simp <;> rfl) ⟨gw_self _, rfl⟩
    · refine owes_vt 3 true (Go.Op.call { callee := Go.Callee.value (Go.Operand.func 24), args := #[Go.Operand.tmp 73, Go.Operand.tmp 74], argTypes := #[25, 25] }) 4 [4, 5] (by kernel_rfl) (by kernel_rfl) (by kernel_rfl) (fun _ _ h => h) (by rw [hsz]; kernel_rfl) (by kernel_rfl) rfl fun vals w1 ρ hG hF hρ hcst hfun => ?_
      have e73 : ρ (.tmp 73) = .agg #[.slice U K' u1, .slice U2 L' u2] := ((hρ 73).trans (slotJ [4, 5] (by rw [hsz]; decide) (by kernel_rfl))).trans (hF 4 (by decide))
      have e74 : ρ (.tmp 74) = .agg #[.slice T K t1, .slice T2 L t2] := ((hρ 74).trans (slotJ [4, 5] (by rw [hsz]; decide) (by kernel_rfl))).trans (hF 5 (by decide))
      clear hρ hF hcst sl2 sl5 sl9 fin
      exact opv_enter (by go_simp <;> rfl) (of_retK (eq_k hgu hgt hfu hsame (hu.out w1 hG).2.2 (ht.out w1 hG).2.2))
    · refine owes_v (Go.Op.pick (Go.Operand.tmp 72) (Go.Operand.tmp 75) (Go.Operand.const (Go.Value.bool false))) 4 [3, 6] (by kernel_rfl) (by kernel_rfl) (by kernel_rfl) rfl fun vals w1 ρ hG hF hρ hcst hfun => ?_
      have e72 : ρ (.tmp 72) = .bool true := ((hρ 72).trans (slotJ [3, 6] (by rw [hsz]; decide) (by kernel_rfl))).trans (hF 3 (by decide))
      have e75 : ρ (.tmp 75) = .bool true := ((hρ 75).trans (slotJ [3, 6] (by rw [hsz]; decide) (by kernel_rfl))).trans (hF 6 (by decide))
      clear hρ hF hfun sl2 sl5 sl9 fin
      exact opv_val (by go_simp <;> rfl) ⟨gw_self _, rfl⟩
    · exact owes_mvj 7 76 (by kernel_rfl) (by kernel_rfl) (by kernel_rfl) (by kernel_rfl) (by rw [hsz]; decide) (fun v w h => h)
    · refine owes_vt 8 true (Go.Op.fieldAddr 25 (Go.Operand.tmp 5) 0) 0 [] (by kernel_rfl) (by kernel_rfl) (by kernel_rfl) (fun _ _ h => h) (by rw [hsz]; kernel_rfl) (by kernel_rfl) rfl fun vals w1 ρ hG hF hρ hcst hfun => ?_
      have e5 : ρ (.tmp 5) = .pointer (some ⟨st, 0, none⟩) := ((hρ 5).trans (slotO [] (by kernel_rfl))).trans sl5
      clear hρ hF hcst hfun sl2 sl5 sl9 fin
      exact opv_val (by go_simp <;> rfl) ⟨gw_self _, rfl⟩
    · refine owes_vt 8 true (Go.Op.load 22 (Go.Operand.tmp 78)) 22 [9] (by kernel_rfl) (by kernel_rfl) (by kernel_rfl) (fun _ _ h => h) (by rw [hsz]; kernel_rfl) (by kernel_rfl) rfl fun vals w1 ρ hG hF hρ hcst hfun => ?_
      have e78 : ρ (.tmp 78) = .pointer (some ⟨st, 0, none⟩) := ((hρ 78).trans (slotJ [9] (by rw [hsz]; decide) (by kernel_rfl))).trans (hF 9 (by decide))
      obtain ⟨d0, d1, _⟩ := ht.out w1 hG
      clear hρ hF hcst hfun sl2 sl5 sl9 fin
      exact opv_val (by go_simp <;> rfl) ⟨gw_self _, rfl⟩
    · refine owes_vt 8 true (Go.Op.call { callee := Go.Callee.builtin Go.Builtin.len, args := #[Go.Operand.tmp 79], argTypes := #[22] }) 3 [10] (by kernel_rfl) (by kernel_rfl) (by kernel_rfl) (fun _ _ h => h) (by rw [hsz]; kernel_rfl) (by kernel_rfl) rfl fun vals w1 ρ hG hF hρ hcst hfun => ?_
      have e79 : ρ (.tmp 79) = .slice T K t1 := ((hρ 79).trans (slotJ [10] (by rw [hsz]; decide) (by kernel_rfl))).trans (hF 10 (by decide))
      clear hρ hF hcst hfun sl2 sl5 sl9 fin
      exact opv_val (by go_simp <;> rfl) ⟨gw_self _, rfl⟩
    · refine owes_vt 8 true (Go.Op.fieldAddr 25 (Go.Operand.tmp 2) 0) 0 [] (by kernel_rfl) (by kernel_rfl) (by kernel_rfl) (fun _ _ h => h) (by rw [hsz]; kernel_rfl) (by kernel_rfl) rfl fun vals w1 ρ hG hF hρ hcst hfun => ?_
      have e2 : ρ (.tmp 2) = .pointer (some ⟨sa, 0, none⟩) := ((hρ 2).trans (slotO [] (by kernel_rfl))).trans sl2
      clear hρ hF hcst hfun sl2 sl5 sl9 fin
      exact opv_val (by go_simp <;> rfl) ⟨gw_self _, rfl⟩
    · refine owes_vt 8 true (Go.Op.load 22 (Go.Operand.tmp 81)) 22 [12] (by kernel_rfl) (by kernel_rfl) (by kernel_rfl) (fun _ _ h => h) (by rw [hsz]; kernel_rfl) (by kernel_rfl) rfl fun vals w1 ρ hG hF hρ hcst hfun => ?_
      have e81 : ρ (.tmp 81) = .pointer (some ⟨sa, 0, none⟩) := ((hρ 81).trans (slotJ [12] (by rw [hsz]; decide) (by kernel_rfl))).trans (hF 12 (by decide))
      obtain ⟨d0, d1, _⟩ := ha.out w1 hG
      clear hρ hF hcst hfun sl2 sl5 sl9 fin
      exact opv_val (by go_simp <;> rfl) ⟨gw_self _, rfl⟩
    · refine owes_vt 8 true (Go.Op.call { callee := Go.Callee.builtin Go.Builtin.len, args := #[Go.Operand.tmp 82], argTypes := #[22] }) 3 [13] (by kernel_rfl) (by kernel_rfl) (by kernel_rfl) (fun _ _ h => h) (by rw [hsz]; kernel_rfl) (by kernel_rfl) rfl fun vals w1 ρ hG hF hρ hcst hfun => ?_
      have e82 : ρ (.tmp 82) = .slice A N a1 := ((hρ 82).trans (slotJ [13] (by rw [hsz]; decide) (by kernel_rfl))).trans (hF 13 (by decide))
      clear hρ hF hcst hfun sl2 sl5 sl9 fin
      exact opv_val (by go_simp <;> rfl) ⟨gw_self _, rfl⟩
    · refine owes_vt 8 true (Go.Op.binOp Go.BinOp.leq 3 (Go.Operand.tmp 80) (Go.Operand.tmp 83) 3) 4 [11, 14] (by kernel_rfl) (by kernel_rfl) (by kernel_rfl) (fun _ _ h => h) (by rw [hsz]; kernel_rfl) (by kernel_rfl) rfl fun vals w1 ρ hG hF hρ hcst hfun => ?_
      have e80 : ρ (.tmp 80) = .int .i64 K := ((hρ 80).trans (slotJ [11, 14] (by rw [hsz]; decide) (by kernel_rfl))).trans (hF 11 (by decide))
      have e83 : ρ (.tmp 83) = .int .i64 N := ((hρ 83).trans (slotJ [11, 14] (by rw [hsz]; decide) (by kernel_rfl))).trans (hF 14 (by decide))
      have k := hKN
      clear hρ hF hcst hfun sl2 sl5 sl9 fin
      exact opv_val (by go_simp <;> rfl) ⟨gw_self _, rfl⟩
    · refine owes_v (Go.Op.pick (Go.Operand.tmp 77) (Go.Operand.tmp 84) (Go.Operand.const (Go.Value.bool false))) 4 [8, 15] (by kernel_rfl) (by kernel_rfl) (by kernel_rfl) rfl fun vals w1 ρ hG hF hρ hcst hfun => ?_
      have e77 : ρ (.tmp 77) = .bool true := ((hρ 77).trans (slotJ [8, 15] (by rw [hsz]; decide) (by kernel_rfl))).trans (hF 8 (by decide))
      have e84 : ρ (.tmp 84) = .bool true := ((hρ 84).trans (slotJ [8, 15] (by rw [hsz]; decide) (by kernel_rfl))).trans (hF 15 (by decide))
      clear hρ hF hfun sl2 sl5 sl9 fin
      exact opv_val (by go_simp <;> rfl) ⟨gw_self _, rfl⟩
    · exact owes_mvj 16 85 (by kernel_rfl) (by kernel_rfl) (by kernel_rfl) (by kernel_rfl) (by rw [hsz]; decide) (fun v w h => h)
    · refine owes_vt 17 true (Go.Op.load 25 (Go.Operand.tmp 5)) 25 [] (by kernel_rfl) (by kernel_rfl) (by kernel_rfl) (fun _ _ h => h) (by rw [hsz]; kernel_rfl) (by kernel_rfl) rfl fun vals w1 ρ hG hF hρ hcst hfun => ?_
      have e5 : ρ (.tmp 5) = .pointer (some ⟨st, 0, none⟩) := ((hρ 5).trans (slotO [] (by kernel_rfl))).trans sl5
      obtain ⟨d0, d1, _⟩ := ht.out w1 hG
      clear hρ hF hcst hfun sl2 sl5 sl9 fin
      exact opv_val (by go_simp <;> rfl) ⟨gw_self _, rfl⟩
    · refine owes_vt 17 true (Go.Op.call { callee := Go.Callee.value (Go.Operand.func 19), args := #[Go.Operand.tmp 87], argTypes := #[25] }) 3 [18] (by kernel_rfl) (by kernel_rfl) (by kernel_rfl) (fun _ _ h => h) (by rw [hsz]; kernel_rfl) (by kernel_rfl) rfl fun vals w1 ρ hG hF hρ hcst hfun => ?_
      have e87 : ρ (.tmp 87) = .agg #[.slice T K t1, .slice T2 L t2] := ((hρ 87).trans (slotJ [18] (by rw [hsz]; decide) (by kernel_rfl))).trans (hF 18 (by decide))
      clear hρ hF hcst sl2 sl5 sl9 fin
      exact opv_enter (by go_simp <;> rfl) (of_retK (words_k2 hgt hft hwt.out (ht.out w1 hG).2.2))
    · refine owes_vt 17 true (Go.Op.load 25 (Go.Operand.tmp 2)) 25 [] (by kernel_rfl) (by kernel_rfl) (by kernel_rfl) (fun _ _ h => h) (by rw [hsz]; kernel_rfl) (by kernel_rfl) rfl fun vals w1 ρ hG hF hρ hcst hfun => ?_
      have e2 : ρ (.tmp 2) = .pointer (some ⟨sa, 0, none⟩) := ((hρ 2).trans (slotO [] (by kernel_rfl))).trans sl2
      obtain ⟨d0, d1, _⟩ := ha.out w1 hG
      clear hρ hF hcst hfun sl2 sl5 sl9 fin
      exact opv_val (by go_simp <;> rfl) ⟨gw_self _, rfl⟩
    · refine owes_vt 17 true (Go.Op.call { callee := Go.Callee.value (Go.Operand.func 19), args := #[Go.Operand.tmp 89], argTypes := #[25] }) 3 [20] (by kernel_rfl) (by kernel_rfl) (by kernel_rfl) (fun _ _ h => h) (by rw [hsz]; kernel_rfl) (by kernel_rfl) rfl fun vals w1 ρ hG hF hρ hcst hfun => ?_
      have e89 : ρ (.tmp 89) = .agg #[.slice A N a1, .slice A2 M a2] := ((hρ 89).trans (slotJ [20] (by rw [hsz]; decide) (by kernel_rfl))).trans (hF 20 (by decide))
      clear hρ hF hcst sl2 sl5 sl9 fin
      exact opv_enter (by go_simp <;> rfl) (of_retK (words_k2 hga hfa hwa.out (ha.out w1 hG).2.2))
    · refine owes_vt 17 true (Go.Op.binOp Go.BinOp.leq 3 (Go.Operand.tmp 88) (Go.Operand.tmp 90) 3) 4 [19, 21] (by kernel_rfl) (by kernel_rfl) (by kernel_rfl) (fun _ _ h => h) (by rw [hsz]; kernel_rfl) (by kernel_rfl) rfl fun vals w1 ρ hG hF hρ hcst hfun => ?_
      have e88 : ρ (.tmp 88) = .int .i64 wt := ((hρ 88).trans (slotJ [19, 21] (by rw [hsz]; decide) (by kernel_rfl))).trans (hF 19 (by decide))
      have e90 : ρ (.tmp 90) = .int .i64 wa := ((hρ 90).trans (slotJ [19, 21] (by rw [hsz]; decide) (by kernel_rfl))).trans (hF 21 (by decide))
      have k := hww
      clear hρ hF hcst hfun sl2 sl5 sl9 fin
      exact opv_val (by go_simp <;> rfl) ⟨gw_self _, rfl⟩
    · refine owes_v (Go.Op.pick (Go.Operand.tmp 86) (Go.Operand.tmp 91) (Go.Operand.const (Go.Value.bool false))) 4 [17, 22] (by kernel_rfl) (by kernel_rfl) (by kernel_rfl) rfl fun vals w1 ρ hG hF hρ hcst hfun => ?_
      have e86 : ρ (.tmp 86) = .bool true := ((hρ 86).trans (slotJ [17, 22] (by rw [hsz]; decide) (by kernel_rfl))).trans (hF 17 (by decide))
      have e91 : ρ (.tmp 91) = .bool true := ((hρ 91).trans (slotJ [17, 22] (by rw [hsz]; decide) (by kernel_rfl))).trans (hF 22 (by decide))
      clear hρ hF hfun sl2 sl5 sl9 fin
      exact opv_val (by go_simp <;> rfl) ⟨gw_self _, rfl⟩
    · exact owes_mvj 23 92 (by kernel_rfl) (by kernel_rfl) (by kernel_rfl) (by kernel_rfl) (by rw [hsz]; decide) (fun v w h => h)
    · refine owes_vt 24 true (Go.Op.load 25 (Go.Operand.tmp 5)) 25 [] (by kernel_rfl) (by kernel_rfl) (by kernel_rfl) (fun _ _ h => h) (by rw [hsz]; kernel_rfl) (by kernel_rfl) rfl fun vals w1 ρ hG hF hρ hcst hfun => ?_
      have e5 : ρ (.tmp 5) = .pointer (some ⟨st, 0, none⟩) := ((hρ 5).trans (slotO [] (by kernel_rfl))).trans sl5
      obtain ⟨d0, d1, _⟩ := ht.out w1 hG
      clear hρ hF hcst hfun sl2 sl5 sl9 fin
      exact opv_val (by go_simp <;> rfl) ⟨gw_self _, rfl⟩
    · refine owes_vt 24 true (Go.Op.call { callee := Go.Callee.value (Go.Operand.func 10), args := #[Go.Operand.tmp 94], argTypes := #[25] }) 32 [25] (by kernel_rfl) (by kernel_rfl) (by kernel_rfl) (fun _ _ h => h) (by rw [hsz]; kernel_rfl) (by kernel_rfl) rfl fun vals w1 ρ hG hF hρ hcst hfun => ?_
      have e94 : ρ (.tmp 94) = .agg #[.slice T K t1, .slice T2 L t2] := ((hρ 94).trans (slotJ [25] (by rw [hsz]; decide) (by kernel_rfl))).trans (hF 25 (by decide))
      clear hρ hF hcst sl2 sl5 sl9 fin
      exact opv_enter (by go_simp <;> rfl) (of_k hgt hft (ht.out w1 hG).2.2)
    · refine owes_vt 24 true (Go.Op.call { callee := Go.Callee.value (Go.Operand.func 25), args := #[Go.Operand.tmp 95], argTypes := #[32] }) 32 [26] (by kernel_rfl) (by kernel_rfl) (by kernel_rfl) (fun _ _ h => h) (by rw [hsz]; kernel_rfl) (by kernel_rfl) rfl fun vals w1 ρ hG hF hρ hcst hfun => ?_
      have f95 : (OfV gt) (vals 26) w1 := hF 26 (by decide)
      have e95 : ρ (.tmp 95) = vals 26 := (hρ 95).trans (slotJ [26] (by rw [hsz]; decide) (by kernel_rfl))
      clear hρ hF hcst sl2 sl5 sl9 fin
      exact opv_enter (by go_simp <;> rfl) (can_k hft hokt.out.1 hokt.out.2 hmt.out hrt.out f95)
    · refine owes_vt 24 true (Go.Op.load 25 (Go.Operand.tmp 2)) 25 [] (by kernel_rfl) (by kernel_rfl) (by kernel_rfl) (fun _ _ h => h) (by rw [hsz]; kernel_rfl) (by kernel_rfl) rfl fun vals w1 ρ hG hF hρ hcst hfun => ?_
      have e2 : ρ (.tmp 2) = .pointer (some ⟨sa, 0, none⟩) := ((hρ 2).trans (slotO [] (by kernel_rfl))).trans sl2
      obtain ⟨d0, d1, _⟩ := ha.out w1 hG
      clear hρ hF hcst hfun sl2 sl5 sl9 fin
      exact opv_val (by go_simp <;> rfl) ⟨gw_self _, rfl⟩
    · refine owes_vt 24 true (Go.Op.call { callee := Go.Callee.value (Go.Operand.func 10), args := #[Go.Operand.tmp 97], argTypes := #[25] }) 32 [28] (by kernel_rfl) (by kernel_rfl) (by kernel_rfl) (fun _ _ h => h) (by rw [hsz]; kernel_rfl) (by kernel_rfl) rfl fun vals w1 ρ hG hF hρ hcst hfun => ?_
      have e97 : ρ (.tmp 97) = .agg #[.slice A N a1, .slice A2 M a2] := ((hρ 97).trans (slotJ [28] (by rw [hsz]; decide) (by kernel_rfl))).trans (hF 28 (by decide))
      clear hρ hF hcst sl2 sl5 sl9 fin
      exact opv_enter (by go_simp <;> rfl) (of_k hga hfa (ha.out w1 hG).2.2)
    · refine owes_vt 24 true (Go.Op.call { callee := Go.Callee.value (Go.Operand.func 25), args := #[Go.Operand.tmp 98], argTypes := #[32] }) 32 [29] (by kernel_rfl) (by kernel_rfl) (by kernel_rfl) (fun _ _ h => h) (by rw [hsz]; kernel_rfl) (by kernel_rfl) rfl fun vals w1 ρ hG hF hρ hcst hfun => ?_
      have f98 : (OfV ga) (vals 29) w1 := hF 29 (by decide)
      have e98 : ρ (.tmp 98) = vals 29 := (hρ 98).trans (slotJ [29] (by rw [hsz]; decide) (by kernel_rfl))
      clear hρ hF hcst sl2 sl5 sl9 fin
      exact opv_enter (by go_simp <;> rfl) (can_k hfa hoka.out.1 hoka.out.2 hma.out hra.out f98)
    · refine owes_vt 24 true (Go.Op.call { callee := Go.Callee.value (Go.Operand.func 17), args := #[Go.Operand.tmp 96, Go.Operand.tmp 99], argTypes := #[32, 32] }) 4 [27, 30] (by kernel_rfl) (by kernel_rfl) (by kernel_rfl) (fun _ _ h => h) (by rw [hsz]; kernel_rfl) (by kernel_rfl) rfl fun vals w1 ρ hG hF hρ hcst hfun => ?_
      have f96 : (CnV ms rs) (vals 27) w1 := hF 27 (by decide)
      have e96 : ρ (.tmp 96) = vals 27 := (hρ 96).trans (slotJ [27, 30] (by rw [hsz]; decide) (by kernel_rfl))
      have f99 : (CnV ms rs) (vals 30) w1 := hF 30 (by decide)
      have e99 : ρ (.tmp 99) = vals 30 := (hρ 99).trans (slotJ [27, 30] (by rw [hsz]; decide) (by kernel_rfl))
      clear hρ hF hcst sl2 sl5 sl9 fin
      exact opv_enter (by go_simp <;> rfl) (of_retK (reqc_k hfc.out f96 f99))
    · refine owes_v (Go.Op.pick (Go.Operand.tmp 93) (Go.Operand.tmp 100) (Go.Operand.const (Go.Value.bool false))) 4 [24, 31] (by kernel_rfl) (by kernel_rfl) (by kernel_rfl) rfl fun vals w1 ρ hG hF hρ hcst hfun => ?_
      have e93 : ρ (.tmp 93) = .bool true := ((hρ 93).trans (slotJ [24, 31] (by rw [hsz]; decide) (by kernel_rfl))).trans (hF 24 (by decide))
      have e100 : ρ (.tmp 100) = .bool true := ((hρ 100).trans (slotJ [24, 31] (by rw [hsz]; decide) (by kernel_rfl))).trans (hF 31 (by decide))
      clear hρ hF hfun sl2 sl5 sl9 fin
      exact opv_val (by go_simp <;> rfl) ⟨gw_self _, rfl⟩
    · exact owes_mvj 32 101 (by kernel_rfl) (by kernel_rfl) (by kernel_rfl) (by kernel_rfl) (by rw [hsz]; decide) (fun v w h => h)
  · intro vals w1 hG hF
    exact fin vals w1 hG (hF 33 (by decide +kernel))
end Go.Proofs.Ytidaimcndbhefaa
/- GraphTrims, without memory. No conditions. -/
namespace Go.Proofs.Ytidaimcndbhefaa
set_option linter.unusedVariables false
set_option linter.unusedSimpArgs false
open Go.RowKit Go.Maps
theorem trims_pure {g gt gu : Gv} {L1 L2 : List Bool} {fr : List Int} (hf : FewP g) (h0 : ckG g = 0) (hpk : Pk g.n (ordB L1 0) gt.n) (hT4 : gt.n.map Nv.m = trimN (pairsB L1 0 0) g.n L1) (hr : gt.r = g.r.map (fun r => (⟨r.s, newO (ordB L1 0) r.t⟩ : Rv))) (hmem : ∀ p, p ∈ ordB L1 0 ↔ Rch g.n (g.r.map (·.t) ++ fr) p)
    (hU4 : gu.n.map Nv.m = trimN (pairsB L2 0 0) gt.n L2) (hU5 : gu.r = gt.r.map fun r => (⟨r.s, newP (pairsB L2 0 0) r.t⟩ : Rv)) (hU6 : L2.length = gt.n.length) (hU7 : ∀ p, hasG gt.n.length p = true → (seenG L2 p = true ↔ Rch gt.n (gt.r.map (·.t) ++ (fr.filter (hasG g.n.length)).map (newO (ordB L1 0))) p)) :
    ckG gt = 0 ∧ sameG gu gt = true ∧ gt.n.length ≤ g.n.length ∧ wordsL gt.n ≤ wordsL g.n ∧ ((∀ x ∈ gt.n, ∀ p ∈ x.ps, okP gt.n.length p = true) ∧ ∀ r ∈ gt.r, okP gt.n.length r.t = true) ∧
      pickN gt.n (walkL gt.n (gt.r.map (·.t))) (walkL gt.n (gt.r.map (·.t))) = pickN g.n (walkL g.n (g.r.map (·.t))) (walkL g.n (g.r.map (·.t))) ∧
      gt.r.map (fun r => (⟨r.s, newO (walkL gt.n (gt.r.map (·.t))) r.t⟩ : Rv)) = g.r.map (fun r => (⟨r.s, newO (walkL g.n (g.r.map (·.t))) r.t⟩ : Rv)) ∧
      (∀ g' : Gv, g'.n.map Nv.m = pickN g.n (walkL g.n (g.r.map (·.t))) (walkL g.n (g.r.map (·.t))) → g'.r = g.r.map (fun r => (⟨r.s, newO (walkL g.n (g.r.map (·.t))) r.t⟩ : Rv)) → FewP g') := by
  obtain ⟨hok, hrt⟩ := ck_ok h0
  obtain ⟨z1, z2, z3⟩ := ck_zero h0
  have root : ∀ r ∈ g.r, r.t = 0 ∨ r.t ∈ ordB L1 0 := fun r hr => by
    have h5 := okP_iff.1 (hrt r hr)
    by_cases e : r.t = 0
    · exact .inl e
    · exact .inr ((hmem _).2 (.base _ (List.mem_append.2 (.inl (List.mem_map.2 ⟨r, hr, rfl⟩))) (hasG_iff.2 (by omega))))
  have hrt2 : ∀ r ∈ gt.r, okP gt.n.length r.t = true := fun r h => by
    rw [hr] at h
    obtain ⟨s, hs, rfl⟩ := List.mem_map.1 h
    exact hpk.okp (root s hs)
  have hmt : gt.r.map (·.t) = (g.r.map (·.t)).map (newO (ordB L1 0)) := by rw [hr, List.map_map, List.map_map]; rfl
  -- all of it is reached
  have hall : ∀ q, hasG gt.n.length q = true → seenG L2 q = true := fun q hq => by
    rw [hU7 q hq]
    have hq2 := hasG_iff.1 hq
    have hi : (q - 1).toNat < (ordB L1 0).length := by rw [← hpk.len]; omega
    have e := newO_get hpk.nd (List.getElem?_eq_getElem hi)
    rw [show (((q - 1).toNat : Nat) : Int) + 1 = q by omega] at e
    have := hpk.rch (fr := g.r.map (·.t) ++ fr) (fr' := gt.r.map (·.t) ++ (fr.filter (hasG g.n.length)).map (newO (ordB L1 0))) (fun p hp hg => by
      have hin : p ∈ ordB L1 0 := (hmem p).2 (.base p hp hg)
      refine ⟨hin, ?_⟩
      rw [hmt]
      rcases List.mem_append.1 hp with hp | hp
      · exact List.mem_append.2 (.inl (List.mem_map.2 ⟨p, hp, rfl⟩))
      · exact List.mem_append.2 (.inr (List.mem_map.2 ⟨p, List.mem_filter.2 ⟨hp, hg⟩, rfl⟩))) ((hmem _).1 (List.getElem_mem hi))
    rw [e] at this
    exact this.2
  obtain ⟨s1, s2⟩ := Pk.self hpk.okn hU6 hall
  have hsame : sameG gu gt = true := by
    refine same_true ?_ ?_
    · rw [hU5]
      have : gt.r.map (fun r => (⟨r.s, newP (pairsB L2 0 0) r.t⟩ : Rv)) = gt.r.map id := List.map_congr_left fun r h => by
        rw [← newO_pairs, s2 r.t (hrt2 r h)]; rfl
      rw [this, List.map_id]
    · rw [hU4, ← pick_trim hU6, s1]
  obtain ⟨w1, w2⟩ := hpk.walk (fr := g.r.map (·.t)) (fun p hp => by
    obtain ⟨r, h, rfl⟩ := List.mem_map.1 hp
    exact root r h)
  obtain ⟨a1, a2⟩ := hpk.again w2
  refine ⟨?_, hsame, by rw [hpk.len]; exact nd_le hpk.nd hpk.has, ?_, ⟨hpk.okn, hrt2⟩, ?_, ?_, fun g' h1 h2 => ?_⟩
  · unfold ckG
    rw [if_pos (hpk.ck z1), hr, List.length_map, if_neg (by omega)]
    exact ckRoots_map z3 (fun r h => hpk.okp (root r h))
  · rw [words_m, hT4]; exact words_trim _ _ _
  · rw [hmt, w1]; exact a2
  · rw [hmt, w1, hr, List.map_map]
    exact List.map_congr_left fun r h => by
      show (⟨r.s, newO _ (newO (ordB L1 0) r.t)⟩ : Rv) = _
      rw [a1 r.t (root r h)]
  · exact hf.pick (walkL_nd _ _).2 (walkL_nd _ _).1 h1 h2
end Go.Proofs.Ytidaimcndbhefaa
