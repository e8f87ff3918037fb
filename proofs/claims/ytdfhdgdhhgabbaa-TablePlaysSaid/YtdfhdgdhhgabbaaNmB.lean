/- A map from names to numbers as a table. No conditions. -/
import Derived.Test.YtdfhdgdhhgabbaaNmA
import Derived.Test.YtdfhdgdhhgabbaaRegT
namespace Go.Proofs.Ytdfhdgdhhgabbaa
set_option linter.unusedVariables false
set_option linter.unusedSimpArgs false
open Go.RowKit Go.Maps
def NmIs (w : World) (b : Nat) (m : Tb) : Prop := ∃ D : DataW Unit, w.ownsMap Try.prog 24 (plainElem Try.prog 3) b m.length D ∧ size D = m.length ∧
  (∀ k, nW k → has D (keyN k) = (vOf m k).isSome ∧ D.atKey (keyN k) (.lit (.int .i64 0)) = .lit (.int .i64 ((vOf m k).getD 0))) ∧ (∀ p ∈ m, nW p.1) ∧ (m.map Prod.fst).Nodup
section
variable {w w' : World} {b : Nat} {m : Tb}
theorem NmIs.lt (h : NmIs w b m) : b < w.heap.size := by obtain ⟨D, h, _⟩ := h; exact h.lt
theorem NmIs.kept {S : Nat → Prop} (h : NmIs w b m) (hk : Kept S w w') (hn : ¬ S b) : NmIs w' b m := by
  obtain ⟨D, h1, h2⟩ := h
  exact ⟨D, hk.map h1 hn, h2⟩
theorem NmIs.below (h : NmIs w b m) (hb : Below w.heap.size w w') : NmIs w' b m := h.kept (Kept.of_below hb (fun _ => False)) (fun f => f)
theorem NmIs.made (w : World) : NmIs (w.alloc (.map #[] 0)) w.heap.size [] :=
  ⟨.map [], World.ownsMap_made _ _ _ _, rfl, fun p _ => ⟨by simp [has, vOf], rfl⟩, fun _ h => (by cases h), List.nodup_nil⟩
theorem NmIs.put (h : NmIs w b m) {k : Nm} (hk : nW k) {v : Int} (hv : (Lit.int .i64 v).wf = true) (hn : m.length < maxLen) :
    ∃ w', (Instr.mapUpdate 32 (.map (some b)) (nV k) (.int .i64 v)).run Try.prog w = .ok () w' ∧ NmIs w' b (setN m k v) ∧ Kept (fun c => some b = some c) w w' := by
  obtain ⟨D, h1, h2, h3, h4, h5⟩ := h
  obtain ⟨w', hrun, ho, hg⟩ := World.ownsMap.update h1 lawN Try.underlying32 hn (keyOfN hk) (plainElem_int (H := Unit) Try.underlying3 hv)
  have hT := h1.tidy lawN
  have hsz : size (D.put (keyN k) (.lit (.int .i64 v))) = (setN m k v).length := by
    rw [size_put hT, (h3 k hk).1, h2, set_len]
  refine ⟨w', hrun, ⟨_, by rw [← hsz]; exact own_tight ho, hsz, fun q hq => ?_, fun q hq => ?_, ?_⟩, Kept.grown hg⟩
  · rw [vOf_set]
    by_cases e : q = k
    · subst e
      rw [if_pos rfl, has_put_same h1.isMap (keyN_key hk)]
      exact ⟨rfl, atKey_put_same h1.isMap (by trivial) _ _⟩
    · rw [if_neg e, has_put_other (fun x => e (keyN_inj hq hk x)), (h3 q hq).1]
      exact ⟨rfl, (atKey_put_other (fun x => e (keyN_inj hq hk x)) _ _).trans (h3 q hq).2⟩
  · rcases mem_set m hq with rfl | e
    · exact hk
    · exact h4 q e
  · rw [keys_set]
    cases e : (vOf m k).isSome with
    | true => simpa using h5
    | false =>
      simp only [Bool.false_eq_true, if_false]
      refine List.nodup_append.2 ⟨h5, by simp, fun a ha c hc => ?_⟩
      rw [List.mem_singleton] at hc
      subst hc
      intro e2
      subst e2
      rw [(vOf_mem m).2 ha] at e
      cases e
theorem NmIs.del (h : NmIs w b m) {k : Nm} (hk : nW k) (ty : TypeId) :
    ∃ w', (Builtin.delete_ #[32, 24] ty #[.map (some b), nV k]).run Try.prog w = .ok (.tuple #[]) w' ∧ NmIs w' b (delN m k) ∧ Kept (fun c => some b = some c) w w' := by
  obtain ⟨D, h1, h2, h3, h4, h5⟩ := h
  obtain ⟨w', hrun, ho, hg⟩ := World.ownsMap.drop h1 lawN Try.underlying32 (keyOfN hk) ty
  have hT := h1.tidy lawN
  have hlen := del_len k m h5
  have hsz : size (D.del (keyN k)) = (delN m k).length := by
    have := size_del (k := keyN k) hT
    rw [(h3 k hk).1, h2] at this
    cases e : (vOf m k).isSome <;> simp [e] at this hlen <;> omega
  refine ⟨w', hrun, ⟨_, by rw [← hsz]; exact own_tight ho, hsz, fun q hq => ?_, fun q hq => h4 q ((List.mem_filter.1 hq).1), ?_⟩, Kept.grown hg.grown⟩
  · rw [vOf_del]
    by_cases e : q = k
    · subst e
      rw [if_pos rfl, has_del_same]
      exact ⟨rfl, atKey_del_same _⟩
    · rw [if_neg e, has_del_other (fun x => e (keyN_inj hq hk x)), (h3 q hq).1]
      exact ⟨rfl, (atKey_del_other (fun x => e (keyN_inj hq hk x)) _).trans (h3 q hq).2⟩
  · exact (List.filter_sublist.map Prod.fst).nodup h5
theorem NmIs.look (h : NmIs w b m) {k : Nm} (hk : nW k) : (Instr.lookup 32 (.map (some b)) (nV k) true).run Try.prog w = .ok (.tuple #[.int .i64 ((vOf m k).getD 0), .bool (vOf m k).isSome]) w := by
  obtain ⟨D, h1, h2, h3, h4, h5⟩ := h
  obtain ⟨v, ps, hrun, hR⟩ := h1.look_ok lawN Try.underlying32 (zeroI w) (plainElem_int (H := Unit) Try.underlying3 (wfI (by decide) (by decide))) (keyOfN hk)
  obtain ⟨a, rfl, ha, _⟩ := plainElem_int_inv Try.underlying3 hR
  have e : DataW.lit (H := Unit) (.int .i64 ((vOf m k).getD 0)) = .lit (.int .i64 a) := (h3 k hk).2.symm.trans (congrArg Prod.fst ha)
  injection e with e
  injection e with _ e
  rw [hrun, (h3 k hk).1, e]
theorem NmIs.look1 (h : NmIs w b m) {k : Nm} (hk : nW k) : (Instr.lookup 32 (.map (some b)) (nV k) false).run Try.prog w = .ok (.int .i64 ((vOf m k).getD 0)) w := by
  obtain ⟨D, h1, h2, h3, h4, h5⟩ := h
  obtain ⟨c, hrun, hat, _⟩ := World.ownsMap.lookup_int h1 lawN Try.underlying32 Try.underlying3 (zeroI w) (keyOfN hk)
  have e : DataW.lit (H := Unit) (.int .i64 ((vOf m k).getD 0)) = .lit (.int .i64 c) := (h3 k hk).2.symm.trans hat
  injection e with e
  injection e with _ e
  rw [e]; exact hrun
theorem NmIs.len (h : NmIs w b m) (ty : TypeId) : (Builtin.len_ #[32] ty #[.map (some b)]).run Try.prog w = .ok (.int .i64 m.length) w := by
  obtain ⟨D, h1, h2, h3, h4, h5⟩ := h
  rw [h1.len Try.underlying32 ty, h2]
end
/-- A table's map: no block while nothing has come. -/
def NmO (w : World) (mb : Option Nat) (m : Tb) : Prop := match mb with | none => m = [] | some b => NmIs w b m
section
variable {w w' : World} {mb : Option Nat} {m : Tb}
theorem NmO.kept {S : Nat → Prop} (h : NmO w mb m) (hk : Kept S w w') (hn : ∀ b, mb = some b → ¬ S b) : NmO w' mb m := by
  cases mb with
  | none => exact h
  | some b => exact NmIs.kept h hk (hn b rfl)
theorem NmO.lt (h : NmO w mb m) : ∀ b, mb = some b → b < w.heap.size := fun b e => by subst e; exact NmIs.lt h
theorem NmO.len (h : NmO w mb m) (ty : TypeId) : (Builtin.len_ #[32] ty #[.map mb]).run Try.prog w = .ok (.int .i64 m.length) w := by
  cases mb with
  | none =>
    have e : m = [] := h
    subst e
    exact Maps.len_nil Try.underlying32 ty
  | some b => exact NmIs.len h ty
theorem NmO.look (h : NmO w mb m) {k : Nm} (hk : nW k) : (Instr.lookup 32 (.map mb) (nV k) true).run Try.prog w = .ok (.tuple #[.int .i64 ((vOf m k).getD 0), .bool (vOf m k).isSome]) w := by
  cases mb with
  | none =>
    have e : m = [] := h
    subst e
    exact Maps.look_nil (w := w) true lawN Try.underlying32 (zeroI w) (keyOfN hk)
  | some b => exact NmIs.look h hk
theorem NmO.del (h : NmO w mb m) {k : Nm} (hk : nW k) (ty : TypeId) :
    ∃ w', (Builtin.delete_ #[32, 24] ty #[.map mb, nV k]).run Try.prog w = .ok (.tuple #[]) w' ∧ NmO w' mb (delN m k) ∧ Kept (fun c => mb = some c) w w' := by
  cases mb with
  | none =>
    have e : m = [] := h
    subst e
    exact ⟨w, Maps.drop_nil lawN Try.underlying32 (keyOfN hk) ty, rfl, Kept.refl _ _⟩
  | some b => exact NmIs.del h hk ty
variable {b : Nat} {ops : Array Oper} {rest : List Oper} {o : Oper} {a : Act} {Q : Exit → Act → World → Prop}
theorem wp_putN (hg : o.guard = none) (mm x v : Operand) (hop : o.op = Op.mapUpdate 32 mm x v)
    (hm : a.eval mm = .map (some b)) (h : NmIs w b m) (k : Nm) (hx : a.eval x = nV k) (z : Int) (hv : a.eval v = .int .i64 z) (hk : nW k) (hz : (Lit.int .i64 z).wf = true) (hl : m.length ≤ 1000000)
    (hK : ∀ w', NmIs w' b (setN m k z) → Kept (fun c => some b = some c) w w' → wpList Try.prog ops Q rest (a.put o.dst undef) w') : wpList Try.prog ops Q (o :: rest) a w := by
  refine wpList_plain hg fun K' hK' => ?_
  obtain ⟨w', hrun, r1, r2⟩ := h.put hk hz (by unfold maxLen; omega)
  unfold Oper.wp
  simp [execOp, hop, hm, hx, hv, hrun, Result.andThen]
  exact hK' _ _ (hK w' r1 r2)
theorem wp_delN (hg : o.guard = none) (mm x : Operand) (hop : o.op = Op.call { callee := Callee.builtin Builtin.delete, args := #[mm, x], argTypes := #[32, 24] })
    (hm : a.eval mm = .map mb) (h : NmO w mb m) (k : Nm) (hx : a.eval x = nV k) (hk : nW k)
    (hK : ∀ w', NmO w' mb (delN m k) → Kept (fun c => mb = some c) w w' → wpList Try.prog ops Q rest (a.put o.dst (.tuple #[])) w') : wpList Try.prog ops Q (o :: rest) a w := by
  refine wpList_plain hg fun K' hK' => ?_
  obtain ⟨w', hrun, r1, r2⟩ := h.del hk o.type
  unfold Oper.wp execOp
  simp only [hop, resolve, invoke, builtin, Sem.run_bind, Sem.run_pure, Result.andThen_ok, List.map_toArray, List.map_cons, List.map_nil, hm, hx, hrun]
  exact hK' _ _ (hK w' r1 r2)
theorem wp_lookN (hg : o.guard = none) (mm x : Operand) (hop : o.op = Op.lookup 32 mm x true)
    (hm : a.eval mm = .map mb) (h : NmO w mb m) (k : Nm) (hx : a.eval x = nV k) (hk : nW k)
    (hK : wpList Try.prog ops Q rest (a.put o.dst (.tuple #[.int .i64 ((vOf m k).getD 0), .bool (vOf m k).isSome])) w) : wpList Try.prog ops Q (o :: rest) a w := by
  refine wpList_plain hg fun K' hK' => ?_
  have hrun := h.look hk
  unfold Oper.wp
  simp [execOp, hop, hm, hx, hrun, Result.andThen]
  exact hK' _ _ hK
end
end Go.Proofs.Ytdfhdgdhhgabbaa
