/- A map from keys (two numbers each) to numbers as a table. No conditions. -/
import Derived.Test.YthmaofbnhfgfaaaKyA
import Derived.Test.YthmaofbnhfgfaaaRegT
namespace Go.Proofs.Ythmaofbnhfgfaaa
set_option linter.unusedVariables false
set_option linter.unusedSimpArgs false
open Go.RowKit Go.Maps
theorem zeroI (w : World) : (zeroValue 3).run Try.prog w = .ok (.int .i64 0) w := by kernel_rfl
/-- A table: names and what they are for. -/
abbrev Tk := List ((Int × Int) × Int)
def vOf : Tk → (Int × Int) → Option Int
  | [], _ => none
  | p :: m, k => if p.1 = k then some p.2 else vOf m k
def setK : Tk → (Int × Int) → Int → Tk
  | [], k, v => [(k, v)]
  | p :: m, k, v => if p.1 = k then (k, v) :: m else p :: setK m k v
def delK (m : Tk) (k : (Int × Int)) : Tk := m.filter fun p => decide (p.1 ≠ k)
theorem vOf_set (k q : (Int × Int)) (v : Int) : ∀ m : Tk, vOf (setK m k v) q = if q = k then some v else vOf m q
  | [] => by
    by_cases h : q = k
    · subst h; simp [setK, vOf]
    · simp [setK, vOf, h, show ¬ k = q from fun e => h e.symm]
  | p :: m => by
    unfold setK
    by_cases h : p.1 = k
    · rw [if_pos h]
      subst h
      by_cases h2 : q = p.1
      · subst h2; simp [vOf]
      · simp [vOf, h2, show ¬ p.1 = q from fun e => h2 e.symm]
    · rw [if_neg h]
      unfold vOf
      rw [vOf_set k q v m]
      by_cases h2 : p.1 = q
      · rw [if_pos h2, if_pos h2, if_neg (fun e => h (h2.trans e))]
      · rw [if_neg h2, if_neg h2]
theorem set_len (k : (Int × Int)) (v : Int) : ∀ m : Tk, (setK m k v).length = if (vOf m k).isSome then m.length else m.length + 1
  | [] => rfl
  | p :: m => by
    unfold setK vOf
    by_cases h : p.1 = k
    · simp [h]
    · rw [if_neg h, if_neg h, List.length_cons, set_len k v m]
      cases (vOf m k).isSome <;> simp
theorem mem_set {k : (Int × Int)} {v : Int} {p : (Int × Int) × Int} : ∀ m : Tk, p ∈ setK m k v → p = (k, v) ∨ p ∈ m
  | [], h => by simpa [setK] using h
  | q :: m, h => by
    unfold setK at h
    split at h
    · rcases List.mem_cons.1 h with e | e
      · exact .inl e
      · exact .inr (List.mem_cons_of_mem _ e)
    · rcases List.mem_cons.1 h with e | e
      · exact .inr (e ▸ List.mem_cons_self)
      · rcases mem_set m e with e | e
        · exact .inl e
        · exact .inr (List.mem_cons_of_mem _ e)
theorem keys_set {k : (Int × Int)} {v : Int} : ∀ m : Tk, (setK m k v).map Prod.fst = if (vOf m k).isSome then m.map Prod.fst else m.map Prod.fst ++ [k]
  | [] => rfl
  | q :: m => by
    unfold setK vOf
    by_cases h : q.1 = k
    · simp [h]
    · rw [if_neg h, if_neg h, List.map_cons, keys_set m]
      cases (vOf m k).isSome <;> simp
theorem vOf_mem {k : (Int × Int)} : ∀ m : Tk, (vOf m k).isSome = true ↔ k ∈ m.map Prod.fst
  | [] => by simp [vOf]
  | q :: m => by
    unfold vOf
    by_cases h : q.1 = k
    · simp [h]
    · rw [if_neg h, vOf_mem m, List.map_cons, List.mem_cons]
      constructor
      · exact .inr
      · rintro (e | e)
        · exact absurd e.symm h
        · exact e
theorem vOf_del (k q : (Int × Int)) : ∀ m : Tk, vOf (delK m k) q = if q = k then none else vOf m q
  | [] => by simp [delK, vOf]
  | p :: m => by
    have ih := vOf_del k q m
    unfold delK at ih ⊢
    rw [List.filter_cons]
    by_cases h : p.1 = k
    · simp only [h, ne_eq, not_true, decide_false, Bool.false_eq_true, if_false]
      rw [ih, show vOf (p :: m) q = if p.1 = q then some p.2 else vOf m q from rfl]
      by_cases h2 : q = k
      · rw [if_pos h2, if_pos h2]
      · rw [if_neg h2, if_neg h2, if_neg (fun e => h2 (e.symm.trans h))]
    · simp only [ne_eq, h, not_false_eq_true, decide_true, if_true]
      unfold vOf
      rw [ih]
      by_cases h2 : p.1 = q
      · rw [if_pos h2, if_pos h2, if_neg (fun e => h (h2.trans e))]
      · rw [if_neg h2, if_neg h2]
theorem del_len (k : (Int × Int)) : ∀ m : Tk, (m.map Prod.fst).Nodup → (delK m k).length + (if (vOf m k).isSome then 1 else 0) = m.length
  | [], _ => rfl
  | p :: m, hn => by
    rw [List.map_cons, List.nodup_cons] at hn
    have ih := del_len k m hn.2
    unfold delK at ih ⊢
    rw [List.filter_cons]
    by_cases h : p.1 = k
    · have h2 : (vOf m k).isSome = false := by
        cases hh : (vOf m k).isSome with
        | false => rfl
        | true => exact absurd ((vOf_mem m).1 hh) (h ▸ hn.1)
      rw [h2] at ih
      simp only [h, ne_eq, not_true, decide_false, Bool.false_eq_true, if_false, vOf, if_true, Option.isSome_some, List.length_cons] at ih ⊢
      omega
    · simp only [ne_eq, h, not_false_eq_true, decide_true, if_true, List.length_cons, vOf, if_false] at ih ⊢
      omega
def KmIs (w : World) (b : Nat) (m : Tk) : Prop := ∃ D : DataW Unit, w.ownsMap Try.prog 29 (plainElem Try.prog 3) b m.length D ∧ size D = m.length ∧
  (∀ k, kW k → has D (keyL k) = (vOf m k).isSome ∧ D.atKey (keyL k) (.lit (.int .i64 0)) = .lit (.int .i64 ((vOf m k).getD 0))) ∧ (∀ p ∈ m, kW p.1) ∧ (m.map Prod.fst).Nodup
section
variable {w w' : World} {b : Nat} {m : Tk}
theorem KmIs.lt (h : KmIs w b m) : b < w.heap.size := by obtain ⟨D, h, _⟩ := h; exact h.lt
theorem KmIs.kept {S : Nat → Prop} (h : KmIs w b m) (hk : Kept S w w') (hn : ¬ S b) : KmIs w' b m := by
  obtain ⟨D, h1, h2⟩ := h
  exact ⟨D, hk.map h1 hn, h2⟩
theorem KmIs.below (h : KmIs w b m) (hb : Below w.heap.size w w') : KmIs w' b m := h.kept (Kept.of_below hb (fun _ => False)) (fun f => f)
theorem KmIs.made (w : World) : KmIs (w.alloc (.map #[] 0)) w.heap.size [] :=
  ⟨.map [], World.ownsMap_made _ _ _ _, rfl, fun p _ => ⟨by simp [has, vOf], rfl⟩, fun _ h => (by cases h), List.nodup_nil⟩
theorem KmIs.put (h : KmIs w b m) {k : (Int × Int)} (hk : kW k) {v : Int} (hv : (Lit.int .i64 v).wf = true) (hn : m.length < maxLen) :
    ∃ w', (Instr.mapUpdate 45 (.map (some b)) (kV k) (.int .i64 v)).run Try.prog w = .ok () w' ∧ KmIs w' b (setK m k v) ∧ Kept (fun c => some b = some c) w w' := by
  obtain ⟨D, h1, h2, h3, h4, h5⟩ := h
  obtain ⟨w', hrun, ho, hg⟩ := World.ownsMap.update h1 lawK Try.underlying45 hn (keyK hk) (plainElem_int (H := Unit) Try.underlying3 hv)
  have hT := h1.tidy lawK
  have hsz : size (D.put (keyL k) (.lit (.int .i64 v))) = (setK m k v).length := by
    rw [size_put hT, (h3 k hk).1, h2, set_len]
  refine ⟨w', hrun, ⟨_, by rw [← hsz]; exact own_tight ho, hsz, fun q hq => ?_, fun q hq => ?_, ?_⟩, Kept.grown hg⟩
  · rw [vOf_set]
    by_cases e : q = k
    · subst e
      rw [if_pos rfl, has_put_same h1.isMap (keyL_key hk)]
      exact ⟨rfl, atKey_put_same h1.isMap (by trivial) _ _⟩
    · rw [if_neg e, has_put_other (fun x => e (keyL_inj hq hk x)), (h3 q hq).1]
      exact ⟨rfl, (atKey_put_other (fun x => e (keyL_inj hq hk x)) _ _).trans (h3 q hq).2⟩
  · rcases mem_set m hq with rfl | e
    · exact hk
    · exact h4 q e
  · rw [keys_set]
    cases e : (vOf m k).isSome with
    | true => simpa using h5
    | false =>
      simp only [Bool.false_eq_true, if_false]
      refine List.nodup_append.2 ⟨h5, by simp, fun a ha c hc => ?_⟩
      rw [List.mem_singleton] at hc
      subst hc
      intro e2
      subst e2
      rw [(vOf_mem m).2 ha] at e
      cases e
theorem KmIs.del (h : KmIs w b m) {k : (Int × Int)} (hk : kW k) (ty : TypeId) :
    ∃ w', (Builtin.delete_ #[45, 29] ty #[.map (some b), kV k]).run Try.prog w = .ok (.tuple #[]) w' ∧ KmIs w' b (delK m k) ∧ Kept (fun c => some b = some c) w w' := by
  obtain ⟨D, h1, h2, h3, h4, h5⟩ := h
  obtain ⟨w', hrun, ho, hg⟩ := World.ownsMap.drop h1 lawK Try.underlying45 (keyK hk) ty
  have hT := h1.tidy lawK
  have hlen := del_len k m h5
  have hsz : size (D.del (keyL k)) = (delK m k).length := by
    have := size_del (k := keyL k) hT
    rw [(h3 k hk).1, h2] at this
    cases e : (vOf m k).isSome <;> simp [e] at this hlen <;> omega
  refine ⟨w', hrun, ⟨_, by rw [← hsz]; exact own_tight ho, hsz, fun q hq => ?_, fun q hq => h4 q ((List.mem_filter.1 hq).1), ?_⟩, Kept.grown hg.grown⟩
  · rw [vOf_del]
    by_cases e : q = k
    · subst e
      rw [if_pos rfl, has_del_same]
      exact ⟨rfl, atKey_del_same _⟩
    · rw [if_neg e, has_del_other (fun x => e (keyL_inj hq hk x)), (h3 q hq).1]
      exact ⟨rfl, (atKey_del_other (fun x => e (keyL_inj hq hk x)) _).trans (h3 q hq).2⟩
  · exact (List.filter_sublist.map Prod.fst).nodup h5
theorem KmIs.look (h : KmIs w b m) {k : (Int × Int)} (hk : kW k) : (Instr.lookup 45 (.map (some b)) (kV k) true).run Try.prog w = .ok (.tuple #[.int .i64 ((vOf m k).getD 0), .bool (vOf m k).isSome]) w := by
  obtain ⟨D, h1, h2, h3, h4, h5⟩ := h
  obtain ⟨v, ps, hrun, hR⟩ := h1.look_ok lawK Try.underlying45 (zeroI w) (plainElem_int (H := Unit) Try.underlying3 (wfI (by decide) (by decide))) (keyK hk)
  obtain ⟨a, rfl, ha, _⟩ := plainElem_int_inv Try.underlying3 hR
  have e : DataW.lit (H := Unit) (.int .i64 ((vOf m k).getD 0)) = .lit (.int .i64 a) := (h3 k hk).2.symm.trans (congrArg Prod.fst ha)
  injection e with e
  injection e with _ e
  rw [hrun, (h3 k hk).1, e]
theorem KmIs.look1 (h : KmIs w b m) {k : (Int × Int)} (hk : kW k) : (Instr.lookup 45 (.map (some b)) (kV k) false).run Try.prog w = .ok (.int .i64 ((vOf m k).getD 0)) w := by
  obtain ⟨D, h1, h2, h3, h4, h5⟩ := h
  obtain ⟨c, hrun, hat, _⟩ := World.ownsMap.lookup_int h1 lawK Try.underlying45 Try.underlying3 (zeroI w) (keyK hk)
  have e : DataW.lit (H := Unit) (.int .i64 ((vOf m k).getD 0)) = .lit (.int .i64 c) := (h3 k hk).2.symm.trans hat
  injection e with e
  injection e with _ e
  rw [e]; exact hrun
theorem KmIs.len (h : KmIs w b m) (ty : TypeId) : (Builtin.len_ #[45] ty #[.map (some b)]).run Try.prog w = .ok (.int .i64 m.length) w := by
  obtain ⟨D, h1, h2, h3, h4, h5⟩ := h
  rw [h1.len Try.underlying45 ty, h2]
end
section
variable {w w' : World} {m : Tk} {b : Nat} {ops : Array Oper} {rest : List Oper} {o : Oper} {a : Act} {Q : Exit → Act → World → Prop}
theorem wp_putK (hg : o.guard = none) (mm x v : Operand) (hop : o.op = Op.mapUpdate 45 mm x v)
    (hm : a.eval mm = .map (some b)) (h : KmIs w b m) (k : (Int × Int)) (hx : a.eval x = kV k) (z : Int) (hv : a.eval v = .int .i64 z) (hk : kW k) (hz : (Lit.int .i64 z).wf = true) (hl : m.length ≤ 1000000)
    (hK : ∀ w', KmIs w' b (setK m k z) → Kept (fun c => some b = some c) w w' → wpList Try.prog ops Q rest (a.put o.dst undef) w') : wpList Try.prog ops Q (o :: rest) a w := by
  refine wpList_plain hg fun K' hK' => ?_
  obtain ⟨w', hrun, r1, r2⟩ := h.put hk hz (by unfold maxLen; omega)
  unfold Oper.wp
  simp [execOp, hop, hm, hx, hv, hrun, Result.andThen]
  exact hK' _ _ (hK w' r1 r2)
theorem wp_delK (hg : o.guard = none) (mm x : Operand) (hop : o.op = Op.call { callee := Callee.builtin Builtin.delete, args := #[mm, x], argTypes := #[45, 29] })
    (hm : a.eval mm = .map (some b)) (h : KmIs w b m) (k : (Int × Int)) (hx : a.eval x = kV k) (hk : kW k)
    (hK : ∀ w', KmIs w' b (delK m k) → Kept (fun c => some b = some c) w w' → wpList Try.prog ops Q rest (a.put o.dst (.tuple #[])) w') : wpList Try.prog ops Q (o :: rest) a w := by
  refine wpList_plain hg fun K' hK' => ?_
  obtain ⟨w', hrun, r1, r2⟩ := h.del hk o.type
  unfold Oper.wp execOp
  simp only [hop, resolve, invoke, builtin, Sem.run_bind, Sem.run_pure, Result.andThen_ok, List.map_toArray, List.map_cons, List.map_nil, hm, hx, hrun]
  exact hK' _ _ (hK w' r1 r2)
theorem wp_lookK (hg : o.guard = none) (mm x : Operand) (hop : o.op = Op.lookup 45 mm x true)
    (hm : a.eval mm = .map (some b)) (h : KmIs w b m) (k : (Int × Int)) (hx : a.eval x = kV k) (hk : kW k)
    (hK : wpList Try.prog ops Q rest (a.put o.dst (.tuple #[.int .i64 ((vOf m k).getD 0), .bool (vOf m k).isSome])) w) : wpList Try.prog ops Q (o :: rest) a w := by
  refine wpList_plain hg fun K' hK' => ?_
  have hrun := h.look hk
  unfold Oper.wp
  simp [execOp, hop, hm, hx, hrun, Result.andThen]
  exact hK' _ _ hK
end
end Go.Proofs.Ythmaofbnhfgfaaa
