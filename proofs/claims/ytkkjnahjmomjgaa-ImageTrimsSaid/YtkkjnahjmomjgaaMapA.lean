/- Maps from numbers to numbers read as rising rows of pairs. No conditions. -/
import Derived.Maps.OwnSet
import Derived.Maps.Ext
import Derived.Lib.SlKeysI
namespace Go.Proofs.Ytkkjnahjmomjgaa
set_option linter.unusedVariables false
set_option linter.unusedSimpArgs false
open Go.RowKit Go.Maps
abbrev kI (k : Int) : Lit := .int .i64 k
abbrev vI (k : Int) : DataW Unit := .lit (.int .i64 k)
def enP (p : Int × Int) : Lit × DataW Unit := (kI p.1, vI p.2)
def mD (l : List (Int × Int)) : DataW Unit := .map (l.map enP)
def Rise (l : List (Int × Int)) : Prop := l.Pairwise (fun p q => p.1 < q.1)
def lookI : List (Int × Int) → Int → Option Int
  | [], _ => none
  | p :: r, k => if p.1 = k then some p.2 else lookI r k
def offI (l : List (Int × Int)) (k : Int) : List (Int × Int) := l.filter fun p => decide (p.1 ≠ k)
theorem same_kI (a b : Int) : (kI a).sameKey (kI b) = decide (a = b) := by simp [Lit.sameKey]
theorem before_kI (a b : Int) : (kI a).before (kI b) = decide (a < b) := rfl
theorem isKey_kI {k : Int} (h : (Lit.int .i64 k).wf = true) : WideAt.IsKeyLit (kI k) := by
  simp [WideAt.IsKeyLit]
theorem has_mD (l : List (Int × Int)) (k : Int) : has (mD l) (kI k) = (lookI l k).isSome := by
  induction l with
  | nil => rfl
  | cons p r ih =>
    show ((kI p.1).sameKey (kI k) || (r.map enP).any (fun p => p.1.sameKey (kI k))) = _
    rw [same_kI]
    unfold lookI
    by_cases h : p.1 = k
    · simp [h]
    · simp only [h, decide_false, Bool.false_or, if_false]; exact ih
theorem at_mD (l : List (Int × Int)) (k : Int) (z : DataW Unit) : (mD l).atKey (kI k) z = match lookI l k with | some v => vI v | none => z := by
  induction l with
  | nil => rfl
  | cons p r ih =>
    have e : (enP p).1.sameKey (kI k) = decide (p.1 = k) := same_kI _ _
    unfold mD DataW.atKey at ih ⊢
    unfold lookI
    simp only at ih ⊢
    rw [List.map_cons, List.find?_cons]
    by_cases h : p.1 = k
    · simp only [e, h, decide_true, if_true]; rfl
    · simp only [e, h, decide_false, if_false]
      exact ih
theorem at_mD_z (l : List (Int × Int)) (k z : Int) : (mD l).atKey (kI k) (vI z) = vI ((lookI l k).getD z) := by
  rw [at_mD]; cases lookI l k <;> rfl
theorem strike_mD (l : List (Int × Int)) (k : Int) : (l.map enP).filter (fun p => !p.1.sameKey (kI k)) = (offI l k).map enP := by
  unfold offI
  rw [List.filter_map]
  congr 1
  apply List.filter_congr
  intro p _
  show (!(kI p.1).sameKey (kI k)) = _
  rw [same_kI]; simp
theorem del_mD (l : List (Int × Int)) (k : Int) : (mD l).del (kI k) = mD (offI l k) := by
  show DataW.map _ = _
  rw [strike_mD]; rfl
def putI (l : List (Int × Int)) (k v : Int) : List (Int × Int) := insI (k, v) (offI l k)
where insI (x : Int × Int) : List (Int × Int) → List (Int × Int)
  | [] => [x]
  | y :: r => if x.1 < y.1 then x :: y :: r else y :: insI x r
theorem ins_mD (x : Int × Int) (l : List (Int × Int)) : DataW.insert (enP x) (l.map enP) = (putI.insI x l).map enP := by
  induction l with
  | nil => rfl
  | cons y r ih =>
    have e : (enP x).1.before (enP y).1 = decide (x.1 < y.1) := rfl
    simp only [List.map_cons, DataW.insert, e, putI.insI]
    by_cases h : x.1 < y.1
    · simp [h]
    · simp [h, ih]
theorem put_mD (l : List (Int × Int)) (k v : Int) : (mD l).put (kI k) (vI v) = mD (putI l k v) := by
  show DataW.map (DataW.insert (enP (k, v)) ((l.map enP).filter (fun p => !p.1.sameKey (kI k)))) = _
  rw [strike_mD, ins_mD]; rfl
theorem size_mD (l : List (Int × Int)) : size (mD l) = l.length := by simp [mD, size]
theorem keys_mD (l : List (Int × Int)) : intKeys (mD l) = l.map (·.1) := by
  simp only [mD, intKeys, List.map_map]; rfl
theorem ins_end (x : Int × Int) (l : List (Int × Int)) (h : ∀ p ∈ l, p.1 < x.1) : putI.insI x l = l ++ [x] := by
  induction l with
  | nil => rfl
  | cons y r ih =>
    have := h y (by simp)
    simp only [putI.insI, if_neg (show ¬ x.1 < y.1 by omega)]
    rw [ih (fun p hp => h p (by simp [hp]))]; rfl
theorem ins_mid (x : Int × Int) (a b : List (Int × Int)) (ha : ∀ p ∈ a, p.1 < x.1) (hb : ∀ p ∈ b, x.1 < p.1) : putI.insI x (a ++ b) = a ++ x :: b := by
  induction a with
  | nil =>
    cases b with
    | nil => rfl
    | cons y r => simp [putI.insI, hb y (by simp)]
  | cons y r ih =>
    have := ha y (by simp)
    simp only [List.cons_append, putI.insI, if_neg (show ¬ x.1 < y.1 by omega)]
    rw [ih (fun p hp => ha p (by simp [hp]))]
theorem off_none (l : List (Int × Int)) (k : Int) (h : ∀ p ∈ l, p.1 ≠ k) : offI l k = l := List.filter_eq_self.2 (fun p hp => by simpa using h p hp)
theorem put_end (l : List (Int × Int)) (k v : Int) (h : ∀ p ∈ l, p.1 < k) : putI l k v = l ++ [(k, v)] := by
  unfold putI
  rw [off_none l k (fun p hp => by have := h p hp; omega), ins_end _ _ h]
theorem off_mid (a b : List (Int × Int)) (k x : Int) (ha : ∀ p ∈ a, p.1 < k) (hb : ∀ p ∈ b, k < p.1) : offI (a ++ (k, x) :: b) k = a ++ b := by
  unfold offI
  rw [List.filter_append]
  congr 1
  · exact List.filter_eq_self.2 (fun p hp => by have := ha p hp; simp; omega)
  · rw [List.filter_cons]
    simp only [ne_eq, not_true, decide_false, Bool.false_eq_true, if_false]
    exact List.filter_eq_self.2 (fun p hp => by have := hb p hp; simp; omega)
theorem put_mid (a b : List (Int × Int)) (k x v : Int) (ha : ∀ p ∈ a, p.1 < k) (hb : ∀ p ∈ b, k < p.1) : putI (a ++ (k, x) :: b) k v = a ++ (k, v) :: b := by
  unfold putI
  rw [off_mid a b k x ha hb, ins_mid _ _ _ ha hb]
theorem Rise.mid {a b : List (Int × Int)} {x : Int × Int} (h : Rise (a ++ x :: b)) : (∀ p ∈ a, p.1 < x.1) ∧ (∀ p ∈ b, x.1 < p.1) := by
  obtain ⟨_, h2, h3⟩ := List.pairwise_append.1 h
  obtain ⟨h4, _⟩ := List.pairwise_cons.1 h2
  exact ⟨fun p hp => h3 p hp x (by simp), h4⟩
theorem Rise.snoc {l : List (Int × Int)} {x : Int × Int} (h : Rise l) (hx : ∀ p ∈ l, p.1 < x.1) : Rise (l ++ [x]) :=
  List.pairwise_append.2 ⟨h, by simp, fun p hp q hq => by simp at hq; subst hq; exact hx p hp⟩
theorem Rise.off {l : List (Int × Int)} (h : Rise l) (k : Int) : Rise (offI l k) := h.filter _
theorem Rise.mid_off {a b : List (Int × Int)} {x : Int × Int} (h : Rise (a ++ x :: b)) : Rise (a ++ b) :=
  List.Pairwise.sublist (List.Sublist.append (List.Sublist.refl a) (List.sublist_cons_self x b)) h
theorem Rise.mid_put {a b : List (Int × Int)} {k x : Int} (h : Rise (a ++ (k, x) :: b)) (v : Int) : Rise (a ++ (k, v) :: b) := by
  obtain ⟨h1, h2, h3⟩ := List.pairwise_append.1 h
  obtain ⟨h4, h5⟩ := List.pairwise_cons.1 h2
  refine List.pairwise_append.2 ⟨h1, List.pairwise_cons.2 ⟨fun p hp => h4 p hp, h5⟩, fun p hp q hq => ?_⟩
  rcases List.mem_cons.1 hq with rfl | hq
  · exact h3 p hp (k, x) (by simp)
  · exact h3 p hp q (by simp [hq])
theorem look_mid (a b : List (Int × Int)) (k x : Int) (ha : ∀ p ∈ a, p.1 < k) : lookI (a ++ (k, x) :: b) k = some x := by
  induction a with
  | nil => simp [lookI]
  | cons y r ih =>
    have := ha y (by simp)
    simp only [List.cons_append, lookI, if_neg (show ¬ y.1 = k by omega)]
    exact ih (fun p hp => ha p (by simp [hp]))
theorem look_none (l : List (Int × Int)) (k : Int) (h : ∀ p ∈ l, p.1 ≠ k) : lookI l k = none := by
  induction l with
  | nil => rfl
  | cons y r ih => simp only [lookI, if_neg (h y (by simp))]; exact ih (fun p hp => h p (by simp [hp]))
theorem look_mem {l : List (Int × Int)} {k v : Int} (h : lookI l k = some v) : (k, v) ∈ l := by
  induction l with
  | nil => cases h
  | cons y r ih =>
    unfold lookI at h
    split at h
    · rename_i e; cases h; subst e; simp
    · exact List.mem_cons_of_mem _ (ih h)
theorem look_off (l : List (Int × Int)) (k j : Int) : lookI (offI l k) j = if j = k then none else lookI l j := by
  induction l with
  | nil => simp [offI, lookI]
  | cons y r ih =>
    unfold offI at ih ⊢
    rw [List.filter_cons]
    by_cases h : y.1 = k
    · simp only [h, ne_eq, not_true, decide_false, Bool.false_eq_true, if_false]
      rw [ih]
      by_cases hj : j = k
      · simp [hj]
      · simp [hj, lookI, h, show ¬ k = j by omega]
    · simp only [ne_eq, h, not_false_eq_true, decide_true, if_true, lookI]
      by_cases hy : y.1 = j
      · simp [hy, show ¬ j = k by omega]
      · simp only [hy, if_false]; simpa using ih
/-- A rising row is what its keys sort to. -/
theorem sorted_keys (l : List (Int × Int)) (h : Rise l) {ss : List Int} (hp : ss.Perm (intKeys (mD l))) : ss.mergeSort (fun x y => decide (x ≤ y)) = l.map (·.1) := by
  rw [keys_mD] at hp
  have e : ss.mergeSort leI = (l.map (·.1)).mergeSort leI := mergeSort_of_perm_i hp
  show ss.mergeSort leI = _
  rw [e]
  refine List.mergeSort_of_pairwise ?_
  refine List.pairwise_map.2 (h.imp fun {p q} hpq => ?_)
  simp only [leI, decide_eq_true_eq]; omega
end Go.Proofs.Ytkkjnahjmomjgaa
