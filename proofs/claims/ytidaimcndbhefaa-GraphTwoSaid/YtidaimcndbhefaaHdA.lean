/- A table of handles as a row of pairs: what it is, what is left as it was; New, Get. Conditions: lengths. -/
import Derived.Test.YtidaimcndbhefaaMapA
import Derived.Test.YtidaimcndbhefaaRegV
import Derived.WalkSpells
import Derived.Test.YtidaimcndbhefaaChecked
import Derived.Test.YtidaimcndbhefaaBel
import Derived.Lib.Hide
import Derived.IntWalk
import Derived.Maps.OwnSet
namespace Go.Proofs.Ytidaimcndbhefaa
set_option linter.unusedVariables false
set_option linter.unusedSimpArgs false
open Go.RowKit Go.Maps
/-- All blocks but those of S are as they were. -/
structure Kept (S : Nat → Prop) (w w' : World) : Prop where
  os : w'.os = w.os
  tape : w'.tape = w.tape
  output : w'.output = w.output
  size : w.heap.size ≤ w'.heap.size
  block : ∀ k, k < w.heap.size → ¬ S k → w'.heap[k]? = w.heap[k]?
section
variable {S S' : Nat → Prop} {w w' w'' : World}
theorem Kept.refl (S : Nat → Prop) (w : World) : Kept S w w := ⟨rfl, rfl, rfl, Nat.le_refl _, fun _ _ _ => rfl⟩
theorem Kept.trans (h : Kept S w w') (k : Kept S w' w'') : Kept S w w'' :=
  ⟨k.os.trans h.os, k.tape.trans h.tape, k.output.trans h.output, Nat.le_trans h.size k.size, fun i hi hS => (k.block i (Nat.lt_of_lt_of_le hi h.size) hS).trans (h.block i hi hS)⟩
theorem Kept.more (h : Kept S w w') (hS : ∀ k, S k → S' k) : Kept S' w w' := ⟨h.os, h.tape, h.output, h.size, fun i hi hn => h.block i hi (fun hs => hn (hS i hs))⟩
theorem Kept.of_below (h : Below w.heap.size w w') (S : Nat → Prop) : Kept S w w' := ⟨h.os, h.tape, h.output, h.size, fun i hi _ => h.block i hi⟩
theorem Kept.below {B : Nat} (h : Kept S w w') (hB : B ≤ w.heap.size) (hS : ∀ k, S k → B ≤ k) : Below B w w' := ⟨h.os, h.tape, h.output, h.size, fun i hi => h.block i (by omega) (fun hs => by have := hS i hs; omega)⟩
theorem Kept.grown {row : Option Nat} (h : w.grownBy w' row) : Kept (fun k => row = some k) w w' := ⟨h.os, h.tape, h.output, h.size, fun i hi hn => h.block i hi (fun e => hn e.symm)⟩
theorem Kept.set (w : World) (g i : Nat) (u : Value) : Kept (fun k => k = g) w (w.setCell ⟨g, i, none⟩ u) := ⟨rfl, rfl, rfl, by simp [World.setCell], fun k _ hn => Below.heap_setCell _ _ _ _ hn⟩
theorem Kept.alloc (S : Nat → Prop) (w : World) (o : Obj) : Kept S w (w.alloc o) := Kept.of_below (Gw.alloc w o) S
theorem Kept.bk {g : Nat} {E : TypeId} {cs : Array Value} (h : Kept S w w') (hb : Bk w g E cs) (hn : ¬ S g) : Bk w' g E cs := (h.block g hb.lt hn).trans hb
theorem Kept.cell (h : Kept S w w') {p : Addr} (hp : p.block < w.heap.size) (hn : ¬ S p.block) : w'.cell? p = w.cell? p := World.cell?_of_block (w := w) (h.block p.block hp hn)
theorem Kept.ow {α : Type} {f : α → Value} {E : TypeId} {base : Nat} {v : Value} {xs : List α} (h : Kept S w w') (ho : Ow f E w base v xs) (hn : ∀ k, v.ownBlock = some k → ¬ S k) : Ow f E w' base v xs := by
  obtain ⟨h1, h2⟩ := ho
  refine ⟨h1, ?_⟩
  rcases h2 with h2 | ⟨g, cap, cur, e, hg, hh, r⟩
  · exact .inl h2
  · refine .inr ⟨g, cap, cur, e, hg, ?_, r⟩
    have hl : g < w.heap.size := by
      rcases Nat.lt_or_ge g w.heap.size with hl | hl
      · exact hl
      · rw [Array.getElem?_eq_none hl] at hh; cases hh
    rw [h.block g hl (hn g (by rw [e]; rfl))]; exact hh
theorem Kept.map {P : Program} {k : TypeId} {H : Type} {R : Value → Option (DataW H × List MemPlace)} {b n : Nat} {D : DataW H} (h : Kept S w w') (ho : w.ownsMap P k R b n D) (hn : ¬ S b) : w'.ownsMap P k R b n D := by
  have hl := ho.lt
  obtain ⟨es, clock, hb, r⟩ := ho
  exact ⟨es, clock, (h.block b hl hn).trans hb, r⟩
end
theorem zeroI (w : World) : (zeroValue 3).run Try.prog w = .ok (.int .i64 0) w := by kernel_rfl
theorem lawI : Keyed Try.prog 3 := int_keyed Try.underlying3
theorem keyI {k : Int} (h : (Lit.int .i64 k).wf = true) : keyOf Try.prog 3 (.int .i64 k) = some (kI k) := keyOf_int_mk Try.underlying3 h
/-- A map's word mb stands for the row l. -/
def MapIs (w : World) : Option Nat → List (Int × Int) → Prop
  | none, l => l = []
  | some b, l => w.ownsMap Try.prog 3 (plainElem Try.prog 3) b l.length (mD l)
section
variable {w w' : World} {mb : Option Nat} {l : List (Int × Int)}
theorem tighten {b n : Nat} (h : w.ownsMap Try.prog 3 (plainElem Try.prog 3) b n (mD l)) : MapIs w (some b) l := by
  obtain ⟨es, clock, hb, F, hs, hD⟩ := h
  refine ⟨es, clock, hb, F, ?_, hD⟩
  have := congrArg size hD
  rw [size_mD] at this
  simp [size, length_sorted] at this
  omega
theorem MapIs.kept {S : Nat → Prop} (h : MapIs w mb l) (hk : Kept S w w') (hn : ∀ b, mb = some b → ¬ S b) : MapIs w' mb l := by
  cases mb with
  | none => exact h
  | some b => exact hk.map h (hn b rfl)
theorem MapIs.lt (h : MapIs w mb l) : ∀ b, mb = some b → b < w.heap.size := by
  rintro b rfl; exact World.ownsMap.lt h
theorem MapIs.look (h : MapIs w mb l) {k : Int} (hk : (Lit.int .i64 k).wf = true) : (Instr.lookup 66 (.map mb) (.int .i64 k) false).run Try.prog w = .ok (.int .i64 ((lookI l k).getD 0)) w := by
  cases mb with
  | none =>
    have e : l = [] := h
    subst e
    exact look_nil false lawI Try.underlying66 (zeroI w) (keyI hk)
  | some b =>
    obtain ⟨c, hrun, hat, _⟩ := World.ownsMap.lookup_int h lawI Try.underlying66 Try.underlying3 (zeroI w) (keyI hk)
    have e := at_mD_z l k 0
    have e2 : vI ((lookI l k).getD 0) = DataW.lit (.int .i64 c) := e.symm.trans hat
    injection e2 with e2
    injection e2 with _ e2
    rw [e2]; exact hrun
theorem MapIs.look_ok (h : MapIs w mb l) {k : Int} (hk : (Lit.int .i64 k).wf = true) : (Instr.lookup 66 (.map mb) (.int .i64 k) true).run Try.prog w = .ok (.tuple #[.int .i64 ((lookI l k).getD 0), .bool (lookI l k).isSome]) w := by
  cases mb with
  | none =>
    have e : l = [] := h
    subst e
    exact look_nil true lawI Try.underlying66 (zeroI w) (keyI hk)
  | some b =>
    obtain ⟨v, ps, hrun, hv⟩ := World.ownsMap.look_ok h lawI Try.underlying66 (zeroI w) (plainElem_int Try.underlying3 (by decide)) (keyI hk)
    obtain ⟨c, rfl, hc, _⟩ := plainElem_int_inv Try.underlying3 hv
    have hc1 := congrArg Prod.fst hc
    have e2 : vI ((lookI l k).getD 0) = DataW.lit (.int .i64 c) := (at_mD_z l k 0).symm.trans hc1
    injection e2 with e2
    injection e2 with _ e2
    rw [e2, ← has_mD]; exact hrun
theorem MapIs.len (h : MapIs w mb l) (ty : TypeId) : (Builtin.len_ #[66] ty #[.map mb]).run Try.prog w = .ok (.int .i64 l.length) w := by
  cases mb with
  | none =>
    have e : l = [] := h
    subst e
    exact len_nil Try.underlying66 ty
  | some b =>
    have := World.ownsMap.len h Try.underlying66 ty
    rw [size_mD] at this; exact this
theorem MapIs.isnil (mb : Option Nat) (W : World) : (binOp .eql 66 (.map mb) (.map none)).run Try.prog W = .ok (.bool mb.isNone) W := run_eql_map_nil W 66 _ _ mb Try.underlying66
theorem MapIs.drop (h : MapIs w mb l) {k : Int} (hk : (Lit.int .i64 k).wf = true) (ty : TypeId) :
    ∃ w', (Builtin.delete_ #[66, 3] ty #[.map mb, .int .i64 k]).run Try.prog w = .ok (.tuple #[]) w' ∧ MapIs w' mb (offI l k) ∧ Kept (fun b => mb = some b) w w' := by
  cases mb with
  | none =>
    have e : l = [] := h
    subst e
    exact ⟨w, drop_nil lawI Try.underlying66 (keyI hk) ty, rfl, Kept.refl _ _⟩
  | some b =>
    obtain ⟨w', hrun, ho, ht⟩ := World.ownsMap.drop h lawI Try.underlying66 (keyI hk) ty
    rw [del_mD] at ho
    exact ⟨w', hrun, tighten ho, Kept.grown ht.grown⟩
theorem MapIs.put {b : Nat} (h : MapIs w (some b) l) {k v : Int} (hk : (Lit.int .i64 k).wf = true) (hv : (Lit.int .i64 v).wf = true) (hl : l.length ≤ 1000000) :
    ∃ w', (Instr.mapUpdate 66 (.map (some b)) (.int .i64 k) (.int .i64 v)).run Try.prog w = .ok () w' ∧ MapIs w' (some b) (putI l k v) ∧ Kept (fun c => some b = some c) w w' := by
  obtain ⟨w', hrun, ho, ht⟩ := World.ownsMap.update h lawI Try.underlying66 (by unfold maxLen; omega) (keyI hk) (plainElem_int Try.underlying3 hv)
  have ho' : w'.ownsMap Try.prog 3 (plainElem Try.prog 3) b (l.length + 1) (mD (putI l k v)) := (put_mD l k v) ▸ ho
  exact ⟨w', hrun, tighten ho', Kept.grown ht⟩
end
section
variable {w : World} {mb : Option Nat} {l : List (Int × Int)} {ops : Array Oper} {rest : List Oper} {o : Oper} {a : Act} {Q : Exit → Act → World → Prop}
theorem wp_drop_is (hg : o.guard = none) (m x : Operand) (hop : o.op = Op.call { callee := Callee.builtin Builtin.delete, args := #[m, x], argTypes := #[66, 3] })
    (hm : a.eval m = .map mb) (h : MapIs w mb l) (k : Int) (hx : a.eval x = .int .i64 k) (hk : (Lit.int .i64 k).wf = true)
    (hK : ∀ w', MapIs w' mb (offI l k) → Kept (fun b => mb = some b) w w' → wpList Try.prog ops Q rest (a.put o.dst (.tuple #[])) w') : wpList Try.prog ops Q (o :: rest) a w := by
  refine wpList_plain hg fun K' hK' => ?_
  obtain ⟨w', hrun, r1, r2⟩ := h.drop hk o.type
  unfold Oper.wp execOp
  simp only [hop, resolve, invoke, builtin, Sem.run_bind, Sem.run_pure, Result.andThen_ok, List.map_toArray, List.map_cons, List.map_nil, hm, hx, hrun]
  exact hK' _ _ (hK w' r1 r2)
theorem wp_put_is {b : Nat} (hg : o.guard = none) (m x v : Operand) (hop : o.op = Op.mapUpdate 66 m x v)
    (hm : a.eval m = .map (some b)) (h : MapIs w (some b) l) (k z : Int) (hx : a.eval x = .int .i64 k) (hv : a.eval v = .int .i64 z) (hk : (Lit.int .i64 k).wf = true) (hz : (Lit.int .i64 z).wf = true) (hl : l.length ≤ 1000000)
    (hK : ∀ w', MapIs w' (some b) (putI l k z) → Kept (fun c => some b = some c) w w' → wpList Try.prog ops Q rest (a.put o.dst undef) w') : wpList Try.prog ops Q (o :: rest) a w := by
  refine wpList_plain hg fun K' hK' => ?_
  obtain ⟨w', hrun, r1, r2⟩ := h.put hk hz hl
  unfold Oper.wp
  simp [execOp, hop, hm, hx, hv, hrun, Result.andThen]
  exact hK' _ _ (hK w' r1 r2)
end
end Go.Proofs.Ytidaimcndbhefaa
