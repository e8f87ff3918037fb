/- Maps from numbers to numbers in memory (as HdA, upon HdK). No conditions. -/
import Derived.Test.YtkkjnahjmomjgaaHdK
namespace Go.Proofs.Ytkkjnahjmomjgaa
set_option linter.unusedVariables false
set_option linter.unusedSimpArgs false
open Go.RowKit Go.Maps
set_option maxHeartbeats 400000
set_option maxRecDepth 100000
/-- A map's word mb stands for the row l. -/
def MapIs (w : World) : Option Nat → List (Int × Int) → Prop
  | none, l => l = []
  | some b, l => w.ownsMap Try.prog 3 (plainElem Try.prog 3) b l.length (mD l)
section
variable {w w' : World} {mb : Option Nat} {l : List (Int × Int)}
theorem tighten {b n : Nat} (h : w.ownsMap Try.prog 3 (plainElem Try.prog 3) b n (mD l)) : MapIs w (some b) l := by
  obtain ⟨es, clock, hb, F, hs, hD⟩ := h
  refine ⟨es, clock, hb, F, ?_, hD⟩
  have := congrArg size hD
  rw [size_mD] at this
  simp [size, length_sorted] at this
  omega
theorem MapIs.kept {S : Nat → Prop} (h : MapIs w mb l) (hk : Kept S w w') (hn : ∀ b, mb = some b → ¬ S b) : MapIs w' mb l := by
  cases mb with
  | none => exact h
  | some b => exact hk.map h (hn b rfl)
theorem MapIs.lt (h : MapIs w mb l) : ∀ b, mb = some b → b < w.heap.size := by
  rintro b rfl; exact World.ownsMap.lt h
theorem MapIs.look (h : MapIs w mb l) {k : Int} (hk : (Lit.int .i64 k).wf = true) : (Instr.lookup 97 (.map mb) (.int .i64 k) false).run Try.prog w = .ok (.int .i64 ((lookI l k).getD 0)) w := by
  cases mb with
  | none =>
    have e : l = [] := h
    subst e
    exact look_nil false lawI Try.underlying97 (zeroI w) (keyI hk)
  | some b =>
    obtain ⟨c, hrun, hat, _⟩ := World.ownsMap.lookup_int h lawI Try.underlying97 Try.underlying3 (zeroI w) (keyI hk)
    have e := at_mD_z l k 0
    have e2 : vI ((lookI l k).getD 0) = DataW.lit (.int .i64 c) := e.symm.trans hat
    injection e2 with e2
    injection e2 with _ e2
    rw [e2]; exact hrun
theorem MapIs.look_ok (h : MapIs w mb l) {k : Int} (hk : (Lit.int .i64 k).wf = true) : (Instr.lookup 97 (.map mb) (.int .i64 k) true).run Try.prog w = .ok (.tuple #[.int .i64 ((lookI l k).getD 0), .bool (lookI l k).isSome]) w := by
  cases mb with
  | none =>
    have e : l = [] := h
    subst e
    exact look_nil true lawI Try.underlying97 (zeroI w) (keyI hk)
  | some b =>
    obtain ⟨v, ps, hrun, hv⟩ := World.ownsMap.look_ok h lawI Try.underlying97 (zeroI w) (plainElem_int Try.underlying3 (by decide)) (keyI hk)
    obtain ⟨c, rfl, hc, _⟩ := plainElem_int_inv Try.underlying3 hv
    have hc1 := congrArg Prod.fst hc
    have e2 : vI ((lookI l k).getD 0) = DataW.lit (.int .i64 c) := (at_mD_z l k 0).symm.trans hc1
    injection e2 with e2
    injection e2 with _ e2
    rw [e2, ← has_mD]; exact hrun
theorem MapIs.len (h : MapIs w mb l) (ty : TypeId) : (Builtin.len_ #[97] ty #[.map mb]).run Try.prog w = .ok (.int .i64 l.length) w := by
  cases mb with
  | none =>
    have e : l = [] := h
    subst e
    exact len_nil Try.underlying97 ty
  | some b =>
    have := World.ownsMap.len h Try.underlying97 ty
    rw [size_mD] at this; exact this
theorem MapIs.isnil (mb : Option Nat) (W : World) : (binOp .eql 97 (.map mb) (.map none)).run Try.prog W = .ok (.bool mb.isNone) W := run_eql_map_nil W 97 _ _ mb Try.underlying97
theorem MapIs.drop (h : MapIs w mb l) {k : Int} (hk : (Lit.int .i64 k).wf = true) (ty : TypeId) :
    ∃ w', (Builtin.delete_ #[97, 3] ty #[.map mb, .int .i64 k]).run Try.prog w = .ok (.tuple #[]) w' ∧ MapIs w' mb (offI l k) ∧ Kept (fun b => mb = some b) w w' := by
  cases mb with
  | none =>
    have e : l = [] := h
    subst e
    exact ⟨w, drop_nil lawI Try.underlying97 (keyI hk) ty, rfl, Kept.refl _ _⟩
  | some b =>
    obtain ⟨w', hrun, ho, ht⟩ := World.ownsMap.drop h lawI Try.underlying97 (keyI hk) ty
    rw [del_mD] at ho
    exact ⟨w', hrun, tighten ho, Kept.grown ht.grown⟩
theorem MapIs.put {b : Nat} (h : MapIs w (some b) l) {k v : Int} (hk : (Lit.int .i64 k).wf = true) (hv : (Lit.int .i64 v).wf = true) (hl : l.length ≤ 1000000) :
    ∃ w', (Instr.mapUpdate 97 (.map (some b)) (.int .i64 k) (.int .i64 v)).run Try.prog w = .ok () w' ∧ MapIs w' (some b) (putI l k v) ∧ Kept (fun c => some b = some c) w w' := by
  obtain ⟨w', hrun, ho, ht⟩ := World.ownsMap.update h lawI Try.underlying97 (by unfold maxLen; omega) (keyI hk) (plainElem_int Try.underlying3 hv)
  have ho' : w'.ownsMap Try.prog 3 (plainElem Try.prog 3) b (l.length + 1) (mD (putI l k v)) := (put_mD l k v) ▸ ho
  exact ⟨w', hrun, tighten ho', Kept.grown ht⟩
end
section
variable {w : World} {mb : Option Nat} {l : List (Int × Int)} {ops : Array Oper} {rest : List Oper} {o : Oper} {a : Act} {Q : Exit → Act → World → Prop}
theorem wp_drop_is (hg : o.guard = none) (m x : Operand) (hop : o.op = Op.call { callee := Callee.builtin Builtin.delete, args := #[m, x], argTypes := #[97, 3] })
    (hm : a.eval m = .map mb) (h : MapIs w mb l) (k : Int) (hx : a.eval x = .int .i64 k) (hk : (Lit.int .i64 k).wf = true)
    (hK : ∀ w', MapIs w' mb (offI l k) → Kept (fun b => mb = some b) w w' → wpList Try.prog ops Q rest (a.put o.dst (.tuple #[])) w') : wpList Try.prog ops Q (o :: rest) a w := by
  refine wpList_plain hg fun K' hK' => ?_
  obtain ⟨w', hrun, r1, r2⟩ := h.drop hk o.type
  unfold Oper.wp execOp
  simp only [hop, resolve, invoke, builtin, Sem.run_bind, Sem.run_pure, Result.andThen_ok, List.map_toArray, List.map_cons, List.map_nil, hm, hx, hrun]
  exact hK' _ _ (hK w' r1 r2)
theorem wp_put_is {b : Nat} (hg : o.guard = none) (m x v : Operand) (hop : o.op = Op.mapUpdate 97 m x v)
    (hm : a.eval m = .map (some b)) (h : MapIs w (some b) l) (k z : Int) (hx : a.eval x = .int .i64 k) (hv : a.eval v = .int .i64 z) (hk : (Lit.int .i64 k).wf = true) (hz : (Lit.int .i64 z).wf = true) (hl : l.length ≤ 1000000)
    (hK : ∀ w', MapIs w' (some b) (putI l k z) → Kept (fun c => some b = some c) w w' → wpList Try.prog ops Q rest (a.put o.dst undef) w') : wpList Try.prog ops Q (o :: rest) a w := by
  refine wpList_plain hg fun K' hK' => ?_
  obtain ⟨w', hrun, r1, r2⟩ := h.put hk hz hl
  unfold Oper.wp
  simp [execOp, hop, hm, hx, hv, hrun, Result.andThen]
  exact hK' _ _ (hK w' r1 r2)
end
end Go.Proofs.Ytkkjnahjmomjgaa
