/- Names of 32 bytes: as keys of a map, as what is compared; a map of such to numbers. No conditions. -/
import Derived.Test.YtdfhdgdhhgabbaaKep
import Derived.Test.YtdfhdgdhhgabbaaNmX
import Derived.Test.YtdfhdgdhhgabbaaBitsB
import Derived.Test.YtdfhdgdhhgabbaaStr
import Derived.Test.YtdfhdgdhhgabbaaChecked
import Derived.Maps.Ext
import Derived.DeepKeys5
import Derived.Sort.KeysCollected
namespace Go.Proofs.Ytdfhdgdhhgabbaa
set_option linter.unusedVariables false
set_option linter.unusedSimpArgs false
open Go.RowKit Go.Maps
theorem laidA : laidOutB Try.prog = true := by kernel_rfl
theorem lawN : Keyed Try.prog 24 := Keyed.of_law (deep_law_gate laidA (of_decide_eq_true (by kernel_rfl)) (of_decide_eq_true (by kernel_rfl)) (by kernel_rfl) (by kernel_rfl))
theorem keyT : ∃ m, Try.prog.types.size + 1 = m + 2 := ⟨Try.prog.types.size - 1, by kernel_rfl⟩
theorem keyOfN {k : Nm} (h : nW k) : keyOf Try.prog 24 (nV k) = some (keyN k) := by
  obtain ⟨m, hm⟩ := keyT
  have hk : Try.prog.keyType 24 = true := by kernel_rfl
  have hf : (nV k).formed Try.prog 24 = true := by
    unfold nV Value.formed
    rw [Try.underlying24]
    simp only [cells32]
    have : (nC k).size = 32 := by unfold nC; simp; exact h
    simp [this]
  unfold keyOf
  rw [Try.underlying24]
  simp only [hk, hf, Bool.and_self, if_true]
  rw [hm, show (nV k).cells.toList = k.map b8 from by unfold nV nC Value.cells; simp, lits_nm m k h]
  rfl
theorem of_cells : ∀ cs : List Value, (∀ i, i < cs.length → ∃ m l, Try.prog.keyLits (m + 1) 5 ((cs.drop i).take 1) = some l) → ∃ k : Nm, cs = k.map b8
  | [], _ => ⟨[], rfl⟩
  | c :: cs, h => by
    obtain ⟨k, rfl⟩ := of_cells cs (fun i hi => h (i + 1) (by simp; omega))
    obtain ⟨m, l, e⟩ := h 0 (by simp)
    rw [show ((c :: k.map b8).drop 0).take 1 = [c] from rfl, lits_u8] at e
    cases c with
    | int q n =>
      by_cases h1 : q = .u8 ∧ (Lit.int .u8 n).wf = true
      · obtain ⟨rfl, h1⟩ := h1
        have h2 : 0 ≤ n ∧ n < 2 ^ 8 := by
          simp [Lit.wf, IntKind.min, IntKind.max, IntKind.signed, IntKind.bits] at h1
          omega
        exact ⟨BitVec.ofInt 8 n :: k, by rw [List.map_cons, b8, ← U8_of h2.1 h2.2]⟩
      · simp [h1] at e
    | _ => simp at e
theorem name_inv {v : Value} {kl : Lit} (h : keyOf Try.prog 24 v = some kl) : ∃ k, v = nV k ∧ nW k ∧ kl = keyN k := by
  have h0 := h
  obtain ⟨m, hm⟩ := keyT
  unfold keyOf at h
  rw [Try.underlying24] at h
  simp only at h
  split at h
  · rename_i hf
    rw [Bool.and_eq_true] at hf
    have hf2 := hf.2
    cases v with
    | agg cs =>
      unfold Value.formed at hf2
      rw [Try.underlying24] at hf2
      simp only [cells32] at hf2
      have hs : cs.size = 32 := by simpa using hf2
      rw [hm, show (Value.agg cs).cells.toList = cs.toList from rfl, lits_name m _ (by simpa using hs)] at h
      cases hM : (List.range 32).mapM fun i => Try.prog.keyLits (m + 1) 5 ((cs.toList.drop i).take 1) with
      | none => rw [hM] at h; cases h
      | some r =>
        obtain ⟨k, hk⟩ := of_cells cs.toList (fun i hi => by
          obtain ⟨y, hy⟩ := mapM_each _ _ hM i (List.mem_range.2 (by rw [← hs]; simpa using hi))
          exact ⟨m, y, hy⟩)
        have hv : Value.agg cs = nV k := by unfold nV nC; rw [← hk]
        have hw : nW k := by
          have := congrArg List.length hk
          rw [List.length_map] at this
          unfold nW
          rw [← this, ← hs]
          simp
        refine ⟨k, hv, hw, ?_⟩
        rw [hv, keyOfN hw] at h0
        injection h0 with h0
        exact h0.symm
    | _ => (unfold Value.formed at hf2; rw [Try.underlying24] at hf2; simp at hf2)
  · cases h
theorem keyN_inj {p q : Nm} (hp : nW p) (hq : nW q) (h : keyN p = keyN q) : p = q := by
  have h1 := keyOfN hp
  have h2 := keyOfN hq
  rw [h] at h1
  exact nV_inj (lawN.inj h1 h2)
theorem keyN_key {p : Nm} (hp : nW p) : WideAt.IsKeyLit (keyN p) := lawN.key (keyOfN hp)
theorem wfI {n : Int} (h1 : -9223372036854775808 ≤ n) (h2 : n ≤ 9223372036854775807) : (Lit.int .i64 n).wf = true := by
  simp [Lit.wf, IntKind.min, IntKind.max, IntKind.signed, IntKind.bits]; omega
theorem zeroI (w : World) : (zeroValue 3).run Try.prog w = .ok (.int .i64 0) w := by kernel_rfl
theorem own_tight {P : Program} {k : TypeId} {H : Type} {R : Value → Option (DataW H × List MemPlace)} {w : World} {b n : Nat} {D : DataW H} (h : w.ownsMap P k R b n D) : w.ownsMap P k R b (size D) D := by
  obtain ⟨es, clock, hb, F, hs, rfl⟩ := h
  exact ⟨es, clock, hb, F, by simp [Maps.size, length_sorted], rfl⟩
/-- A table: names and what they are for. -/
abbrev Tb := List (Nm × Int)
def vOf : Tb → Nm → Option Int
  | [], _ => none
  | p :: m, k => if p.1 = k then some p.2 else vOf m k
def setN : Tb → Nm → Int → Tb
  | [], k, v => [(k, v)]
  | p :: m, k, v => if p.1 = k then (k, v) :: m else p :: setN m k v
def delN (m : Tb) (k : Nm) : Tb := m.filter fun p => decide (p.1 ≠ k)
theorem vOf_set (k q : Nm) (v : Int) : ∀ m : Tb, vOf (setN m k v) q = if q = k then some v else vOf m q
  | [] => by
    by_cases h : q = k
    · subst h; simp [setN, vOf]
    · simp [setN, vOf, h, show ¬ k = q from fun e => h e.symm]
  | p :: m => by
    unfold setN
    by_cases h : p.1 = k
    · rw [if_pos h]
      subst h
      by_cases h2 : q = p.1
      · subst h2; simp [vOf]
      · simp [vOf, h2, show ¬ p.1 = q from fun e => h2 e.symm]
    · rw [if_neg h]
      unfold vOf
      rw [vOf_set k q v m]
      by_cases h2 : p.1 = q
      · rw [if_pos h2, if_pos h2, if_neg (fun e => h (h2.trans e))]
      · rw [if_neg h2, if_neg h2]
theorem set_len (k : Nm) (v : Int) : ∀ m : Tb, (setN m k v).length = if (vOf m k).isSome then m.length else m.length + 1
  | [] => rfl
  | p :: m => by
    unfold setN vOf
    by_cases h : p.1 = k
    · simp [h]
    · rw [if_neg h, if_neg h, List.length_cons, set_len k v m]
      cases (vOf m k).isSome <;> simp
theorem mem_set {k : Nm} {v : Int} {p : Nm × Int} : ∀ m : Tb, p ∈ setN m k v → p = (k, v) ∨ p ∈ m
  | [], h => by simpa [setN] using h
  | q :: m, h => by
    unfold setN at h
    split at h
    · rcases List.mem_cons.1 h with e | e
      · exact .inl e
      · exact .inr (List.mem_cons_of_mem _ e)
    · rcases List.mem_cons.1 h with e | e
      · exact .inr (e ▸ List.mem_cons_self)
      · rcases mem_set m e with e | e
        · exact .inl e
        · exact .inr (List.mem_cons_of_mem _ e)
theorem keys_set {k : Nm} {v : Int} : ∀ m : Tb, (setN m k v).map Prod.fst = if (vOf m k).isSome then m.map Prod.fst else m.map Prod.fst ++ [k]
  | [] => rfl
  | q :: m => by
    unfold setN vOf
    by_cases h : q.1 = k
    · simp [h]
    · rw [if_neg h, if_neg h, List.map_cons, keys_set m]
      cases (vOf m k).isSome <;> simp
theorem vOf_mem {k : Nm} : ∀ m : Tb, (vOf m k).isSome = true ↔ k ∈ m.map Prod.fst
  | [] => by simp [vOf]
  | q :: m => by
    unfold vOf
    by_cases h : q.1 = k
    · simp [h]
    · rw [if_neg h, vOf_mem m, List.map_cons, List.mem_cons]
      constructor
      · exact .inr
      · rintro (e | e)
        · exact absurd e.symm h
        · exact e
theorem vOf_del (k q : Nm) : ∀ m : Tb, vOf (delN m k) q = if q = k then none else vOf m q
  | [] => by simp [delN, vOf]
  | p :: m => by
    have ih := vOf_del k q m
    unfold delN at ih ⊢
    rw [List.filter_cons]
    by_cases h : p.1 = k
    · simp only [h, ne_eq, not_true, decide_false, Bool.false_eq_true, if_false]
      rw [ih, show vOf (p :: m) q = if p.1 = q then some p.2 else vOf m q from rfl]
      by_cases h2 : q = k
      · rw [if_pos h2, if_pos h2]
      · rw [if_neg h2, if_neg h2, if_neg (fun e => h2 (e.symm.trans h))]
    · simp only [ne_eq, h, not_false_eq_true, decide_true, if_true]
      unfold vOf
      rw [ih]
      by_cases h2 : p.1 = q
      · rw [if_pos h2, if_pos h2, if_neg (fun e => h (h2.trans e))]
      · rw [if_neg h2, if_neg h2]
theorem del_len (k : Nm) : ∀ m : Tb, (m.map Prod.fst).Nodup → (delN m k).length + (if (vOf m k).isSome then 1 else 0) = m.length
  | [], _ => rfl
  | p :: m, hn => by
    rw [List.map_cons, List.nodup_cons] at hn
    have ih := del_len k m hn.2
    unfold delN at ih ⊢
    rw [List.filter_cons]
    by_cases h : p.1 = k
    · have h2 : (vOf m k).isSome = false := by
        cases hh : (vOf m k).isSome with
        | false => rfl
        | true => exact absurd ((vOf_mem m).1 hh) (h ▸ hn.1)
      rw [h2] at ih
      simp only [h, ne_eq, not_true, decide_false, Bool.false_eq_true, if_false, vOf, if_true, Option.isSome_some, List.length_cons] at ih ⊢
      omega
    · simp only [ne_eq, h, not_false_eq_true, decide_true, if_true, List.length_cons, vOf, if_false] at ih ⊢
      omega
end Go.Proofs.Ytdfhdgdhhgabbaa
