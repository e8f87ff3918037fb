/- A row of numbers in the order of their coming, and a map of their places. No conditions. -/
import Derived.Test.YtkkjnahjmomjgaaGvA
import Derived.Test.YtkkjnahjmomjgaaHdL
namespace Go.Proofs.Ytkkjnahjmomjgaa
set_option linter.unusedVariables false
set_option linter.unusedSimpArgs false
open Go.RowKit Go.Maps
theorem look_ins (x : Int × Int) (j : Int) : ∀ l : List (Int × Int), (∀ p ∈ l, p.1 ≠ x.1) → lookI (putI.insI x l) j = if x.1 = j then some x.2 else lookI l j
  | [], _ => rfl
  | y :: r, h => by
    unfold putI.insI
    split
    · rfl
    · unfold lookI
      rw [look_ins x j r (fun p hp => h p (List.mem_cons_of_mem _ hp))]
      have := h y List.mem_cons_self
      by_cases e : y.1 = j
      · rw [if_pos e, if_neg (by omega), if_pos e]
      · rw [if_neg e, if_neg e]
theorem look_put (l : List (Int × Int)) (k v j : Int) : lookI (putI l k v) j = if k = j then some v else lookI l j := by
  unfold putI
  rw [look_ins (k, v) j (offI l k) (fun p hp => by
    unfold offI at hp
    have := (List.mem_filter.1 hp).2
    simpa using this)]
  by_cases e : k = j
  · rw [if_pos e, if_pos e]
  · rw [if_neg e, if_neg e, look_off, if_neg (by omega)]
theorem ins_len (x : Int × Int) : ∀ l : List (Int × Int), (putI.insI x l).length = l.length + 1
  | [] => rfl
  | y :: r => by
    unfold putI.insI
    split
    · rfl
    · rw [List.length_cons, ins_len x r, List.length_cons]
theorem put_len (l : List (Int × Int)) (k v : Int) : (putI l k v).length ≤ l.length + 1 := by
  unfold putI
  rw [ins_len]
  have : (offI l k).length ≤ l.length := List.length_filter_le _ _
  omega
/-- The map of places. -/
structure CM (od : List Int) (l : List (Int × Int)) : Prop where
  len : l.length ≤ od.length
  at_ : ∀ p, (lookI l p).getD 0 = newO od p
theorem CM.nil : CM [] [] := ⟨Nat.le_refl _, fun _ => rfl⟩
theorem CM.put {od : List Int} {l : List (Int × Int)} {p : Int} (h : CM od l) (hp : p ∉ od) : CM (od ++ [p]) (putI l p ((od.length : Int) + 1)) := by
  refine ⟨by have := put_len l p ((od.length : Int) + 1); rw [List.length_append, List.length_singleton]; have := h.len; omega, fun j => ?_⟩
  rw [look_put]
  unfold newO
  by_cases e : p = j
  · subst e
    rw [if_pos rfl, posO_end od 0 hp]; simp
  · rw [if_neg e, posO_old e]
    exact h.at_ j
theorem newO_pos {od : List Int} {p : Int} : (0 < newO od p ↔ p ∈ od) := by
  constructor
  · intro h
    by_cases c : p ∈ od
    · exact c
    · rw [newO_no c] at h; omega
  · intro h
    obtain ⟨i, _, e⟩ := newO_at h
    omega
theorem newO_le {od : List Int} {p : Int} : 0 ≤ newO od p ∧ newO od p ≤ (od.length : Int) := by
  by_cases c : p ∈ od
  · obtain ⟨i, h, e⟩ := newO_at c
    have := (List.getElem?_eq_some_iff.1 h).1
    omega
  · rw [newO_no c]; omega
theorem stepW_no' {N : Nat} {out : List Int} {p : Int} (h : ¬ (hasG N p = true ∧ p ∉ out)) : stepW N out p = out := by unfold stepW; rw [if_neg h]
theorem stepW_yes' {N : Nat} {out : List Int} {p : Int} (h : hasG N p = true) (h2 : p ∉ out) : stepW N out p = out ++ [p] := by unfold stepW; rw [if_pos ⟨h, h2⟩]
theorem feedW_len {N : Nat} (l : List Int) {out : List Int} (h : out.Nodup) (h2 : ∀ p ∈ out, hasG N p = true) : (feedW N out l).length ≤ N := by
  obtain ⟨a, b⟩ := feed_nd l out h h2
  exact nd_le a b
theorem feedW_take {N : Nat} {out ps : List Int} {k : Nat} (h : k < ps.length) : feedW N out (ps.take (k + 1)) = stepW N (feedW N out (ps.take k)) ps[k] := by
  rw [List.take_succ_eq_append_getElem h, feedW_snoc]
theorem CM.map_new {od : List Int} {l : List (Int × Int)} (h : CM od l) (ps : List Int) : ps.map (newP l) = ps.map (newO od) := List.map_congr_left fun p _ => h.at_ p
end Go.Proofs.Ytkkjnahjmomjgaa
