/- Picks, walks, renumberings: what a graph keeps when nodes are picked (pure). No conditions. -/
import Derived.Test.YtkkjnahjmomjgaaGuH
namespace Go.Proofs.Ytkkjnahjmomjgaa
set_option linter.unusedVariables false
set_option linter.unusedSimpArgs false
open Go.RowKit Go.Maps
def stepW (N : Nat) (out : List Int) (p : Int) : List Int := if hasG N p = true ∧ p ∉ out then out ++ [p] else out
def feedW (N : Nat) (out l : List Int) : List Int := l.foldl (stepW N) out
def iterW (ns : List Nv) (o : List Int) : Nat → List Int
  | 0 => o
  | i + 1 => match (iterW ns o i)[i]? with
    | some p => feedW ns.length (iterW ns o i) (ptrsG ns p)
    | none => iterW ns o i
theorem feedW_snoc (N : Nat) (out l : List Int) (p : Int) : feedW N out (l ++ [p]) = stepW N (feedW N out l) p := by
  unfold feedW; rw [List.foldl_append]; rfl
theorem iterW_some {ns : List Nv} {o : List Int} {i : Nat} {p : Int} (h : (iterW ns o i)[i]? = some p) : iterW ns o (i + 1) = feedW ns.length (iterW ns o i) (ptrsG ns p) := by
  show (match (iterW ns o i)[i]? with | some p => feedW ns.length (iterW ns o i) (ptrsG ns p) | none => iterW ns o i) = _
  rw [h]
theorem iterW_none {ns : List Nv} {o : List Int} {i : Nat} (h : (iterW ns o i)[i]? = none) : iterW ns o (i + 1) = iterW ns o i := by
  show (match (iterW ns o i)[i]? with | some p => feedW ns.length (iterW ns o i) (ptrsG ns p) | none => iterW ns o i) = _
  rw [h]
theorem iterW_end {ns : List Nv} {o : List Int} {i : Nat} (h : (iterW ns o i).length ≤ i) : ∀ k, iterW ns o (i + k) = iterW ns o i
  | 0 => rfl
  | k + 1 => by
    have ih := iterW_end h k
    show iterW ns o (i + k + 1) = _
    rw [iterW_none (by rw [ih]; exact List.getElem?_eq_none (by omega)), ih]
/-- The nodes in the order of the walk. -/
def walkL (ns : List Nv) (fr : List Int) : List Int := iterW ns (feedW ns.length [] fr) (ns.length + 1)
theorem walkL_of {ns : List Nv} {fr out : List Int} {i : Nat} (h : out = iterW ns (feedW ns.length [] fr) i) (hi : out.length ≤ i) (hn : i ≤ ns.length + 1) : out = walkL ns fr := by
  subst h
  unfold walkL
  obtain ⟨k, hk⟩ : ∃ k, ns.length + 1 = i + k := ⟨ns.length + 1 - i, by omega⟩
  rw [hk, iterW_end hi]
theorem posO_at {p : Int} : ∀ (l : List Int) (c : Nat), p ∈ l → ∃ i : Nat, l[i]? = some p ∧ posO l p c = ((c + i : Nat) : Int) + 1
  | [], _, h => by cases h
  | x :: r, c, h => by
    unfold posO
    by_cases e : x = p
    · rw [if_pos e]; exact ⟨0, by simp [e], by simp⟩
    · rw [if_neg e]
      obtain ⟨i, h1, h2⟩ := posO_at r (c + 1) (by rcases List.mem_cons.1 h with h | h; exact absurd h.symm e; exact h)
      exact ⟨i + 1, by simpa using h1, by rw [h2]; congr 2; omega⟩
theorem newO_at {l : List Int} {p : Int} (h : p ∈ l) : ∃ i : Nat, l[i]? = some p ∧ newO l p = (i : Int) + 1 := by
  obtain ⟨i, h1, h2⟩ := posO_at l 0 h
  exact ⟨i, h1, by unfold newO; rw [h2]; simp⟩
theorem newO_no {l : List Int} {p : Int} (h : p ∉ l) : newO l p = 0 := posO_no h 0
theorem newO_inj {l : List Int} {p q : Int} (hp : p ∈ l) (hq : q ∈ l) (h : newO l p = newO l q) : p = q := by
  obtain ⟨i, h1, h2⟩ := newO_at hp
  obtain ⟨j, h3, h4⟩ := newO_at hq
  have : i = j := by rw [h2, h4] at h; omega
  subst this
  rw [h1] at h3; injection h3
theorem newO_get {l : List Int} (hn : l.Nodup) {i : Nat} {p : Int} (h : l[i]? = some p) : newO l p = (i : Int) + 1 := by
  obtain ⟨j, h1, h2⟩ := newO_at (List.mem_of_getElem? h)
  obtain ⟨hi, e1⟩ := List.getElem?_eq_some_iff.1 h
  obtain ⟨hj, e2⟩ := List.getElem?_eq_some_iff.1 h1
  have : i = j := by
    rcases Nat.lt_trichotomy i j with h5 | h5 | h5
    · exact absurd (e1.trans e2.symm) (List.pairwise_iff_getElem.1 hn i j hi hj h5)
    · exact h5
    · exact absurd (e2.trans e1.symm) (List.pairwise_iff_getElem.1 hn j i hj hi h5)
  rw [h2, this]
/-- Picked nodes: in od, each once; what they point at is among them. -/
structure Pk (ns : List Nv) (od : List Int) (tn : List Nv) : Prop where
  has : ∀ p ∈ od, hasG ns.length p = true
  nd : od.Nodup
  cl : ∀ p ∈ od, ∀ q ∈ ptrsG ns p, q = 0 ∨ q ∈ od
  m : tn.map Nv.m = pickN ns od od
section
variable {ns tn : List Nv} {od : List Int}
theorem Pk.len (h : Pk ns od tn) : tn.length = od.length := by
  have := congrArg List.length h.m
  unfold pickN at this
  rwa [List.length_map, List.length_map] at this
theorem Pk.zero (h : Pk ns od tn) : newO od 0 = 0 := newO_zero (fun p hp => by have := hasG_iff.1 (h.has p hp); omega)
theorem Pk.hasN (h : Pk ns od tn) {p : Int} (hp : p ∈ od) : hasG tn.length (newO od p) = true := by
  obtain ⟨i, h1, h2⟩ := newO_at hp
  obtain ⟨hi, _⟩ := List.getElem?_eq_some_iff.1 h1
  rw [h.len, hasG_iff, h2]; omega
theorem Pk.node (h : Pk ns od tn) {p : Int} (hp : p ∈ od) : ∃ x y, ns[(p - 1).toNat]? = some x ∧ tn[(newO od p - 1).toNat]? = some y ∧ y.ps = x.ps.map (newO od) ∧ y.bs = x.bs := by
  obtain ⟨i, h1, h2⟩ := newO_at hp
  obtain ⟨hi, e1⟩ := List.getElem?_eq_some_iff.1 h1
  have hg := hasG_iff.1 (h.has p hp)
  have hx : (p - 1).toNat < ns.length := by omega
  have hy : i < tn.length := by rw [h.len]; exact hi
  have hm := congrArg (fun l => l[i]?) h.m
  unfold pickN at hm
  simp only [List.getElem?_map, h1, List.getElem?_eq_getElem hy, Option.map_some] at hm
  injection hm with hm
  have e2 : (newO od p - 1).toNat = i := by rw [h2]; omega
  refine ⟨ns[(p - 1).toNat], tn[i], List.getElem?_eq_getElem hx, by rw [e2]; exact List.getElem?_eq_getElem hy, ?_, ?_⟩
  · unfold pick1 Nv.m at hm
    rw [List.getElem?_eq_getElem hx] at hm
    injection hm
  · unfold pick1 Nv.m at hm
    rw [List.getElem?_eq_getElem hx] at hm
    injection hm
theorem Pk.ptrs (h : Pk ns od tn) {p : Int} (hp : p ∈ od) : ptrsG tn (newO od p) = (ptrsG ns p).map (newO od) := by
  obtain ⟨x, y, h1, h2, h3, _⟩ := h.node hp
  unfold ptrsG
  rw [h1, h2]; exact h3
theorem Pk.step (h : Pk ns od tn) {out : List Int} (ho : ∀ p ∈ out, p ∈ od) {p : Int} (hp : p = 0 ∨ p ∈ od) : stepW tn.length (out.map (newO od)) (newO od p) = (stepW ns.length out p).map (newO od) ∧ ∀ q ∈ stepW ns.length out p, q ∈ od := by
  rcases hp with rfl | hp
  · rw [h.zero]
    unfold stepW
    rw [if_neg (fun e => by have := hasG_iff.1 e.1; omega), if_neg (fun e => by have := hasG_iff.1 e.1; omega)]
    exact ⟨rfl, ho⟩
  · unfold stepW
    have e : (newO od p ∉ out.map (newO od)) ↔ p ∉ out := by
      rw [List.mem_map]
      constructor
      · intro h1 h2; exact h1 ⟨p, h2, rfl⟩
      · rintro h1 ⟨q, h2, h3⟩
        rw [newO_inj (ho q h2) hp h3] at h2
        exact h1 h2
    by_cases c : p ∈ out
    · rw [if_neg (fun k => (e.1 k.2) c), if_neg (fun k => k.2 c)]
      exact ⟨rfl, ho⟩
    · rw [if_pos ⟨h.hasN hp, e.2 c⟩, if_pos ⟨h.has p hp, c⟩]
      refine ⟨by simp, fun q hq => ?_⟩
      rcases List.mem_append.1 hq with hq | hq
      · exact ho q hq
      · rw [List.mem_singleton.1 hq]; exact hp
theorem Pk.feed (h : Pk ns od tn) : ∀ (l out : List Int), (∀ p ∈ out, p ∈ od) → (∀ p ∈ l, p = 0 ∨ p ∈ od) → feedW tn.length (out.map (newO od)) (l.map (newO od)) = (feedW ns.length out l).map (newO od) ∧ ∀ q ∈ feedW ns.length out l, q ∈ od
  | [], out, ho, _ => ⟨rfl, ho⟩
  | p :: r, out, ho, hl => by
    obtain ⟨h1, h2⟩ := h.step ho (hl p List.mem_cons_self)
    have := h.feed r (stepW ns.length out p) h2 (fun q hq => hl q (List.mem_cons_of_mem _ hq))
    unfold feedW at this ⊢
    rw [List.map_cons, List.foldl_cons, List.foldl_cons, h1]
    exact this
theorem Pk.iter (h : Pk ns od tn) {o : List Int} (ho : ∀ p ∈ o, p ∈ od) : ∀ i, iterW tn (o.map (newO od)) i = (iterW ns o i).map (newO od) ∧ ∀ q ∈ iterW ns o i, q ∈ od
  | 0 => ⟨rfl, ho⟩
  | i + 1 => by
    obtain ⟨h1, h2⟩ := h.iter ho i
    cases e : (iterW ns o i)[i]? with
    | none =>
      rw [iterW_none e, iterW_none (by rw [h1, List.getElem?_map, e]; rfl)]
      exact ⟨h1, h2⟩
    | some p =>
      have hp := h2 p (List.mem_of_getElem? e)
      rw [iterW_some e, iterW_some (p := newO od p) (by rw [h1, List.getElem?_map, e]; rfl), h1, h.ptrs hp]
      exact h.feed _ _ h2 (h.cl p hp)
theorem feed_nd {N : Nat} : ∀ (l out : List Int), out.Nodup → (∀ p ∈ out, hasG N p = true) → (feedW N out l).Nodup ∧ ∀ p ∈ feedW N out l, hasG N p = true
  | [], out, h, h2 => ⟨h, h2⟩
  | p :: r, out, h, h2 => by
    unfold feedW
    rw [List.foldl_cons]
    refine feed_nd r _ ?_ ?_
    · unfold stepW
      split
      · rename_i c
        rw [List.nodup_append]
        exact ⟨h, by simp, fun a ha b hb e => by rw [List.mem_singleton] at hb; subst hb; subst e; exact c.2 ha⟩
      · exact h
    · unfold stepW
      split
      · rename_i c
        intro q hq
        rcases List.mem_append.1 hq with hq | hq
        · exact h2 q hq
        · rw [List.mem_singleton.1 hq]; exact c.1
      · exact h2
theorem iter_nd {ns : List Nv} {o : List Int} (h : o.Nodup) (h2 : ∀ p ∈ o, hasG ns.length p = true) : ∀ i, (iterW ns o i).Nodup ∧ ∀ p ∈ iterW ns o i, hasG ns.length p = true
  | 0 => ⟨h, h2⟩
  | i + 1 => by
    obtain ⟨a, b⟩ := iter_nd h h2 i
    cases e : (iterW ns o i)[i]? with
    | none => rw [iterW_none e]; exact ⟨a, b⟩
    | some p => rw [iterW_some e]; exact feed_nd _ _ a b
theorem walkL_nd (ns : List Nv) (fr : List Int) : (walkL ns fr).Nodup ∧ ∀ p ∈ walkL ns fr, hasG ns.length p = true := by
  obtain ⟨a, b⟩ := feed_nd (N := ns.length) fr [] List.nodup_nil (fun p hp => by cases hp)
  exact iter_nd a b _
theorem nd_le {l : List Int} {N : Nat} (h : l.Nodup) (h2 : ∀ p ∈ l, hasG N p = true) : l.length ≤ N := by
  have := List.Nodup.length_le_of_subset (l₁ := l) (l₂ := (List.range N).map fun (i : Nat) => (i : Int) + 1) h (fun p hp => by
    have h3 := hasG_iff.1 (h2 p hp)
    exact List.mem_map.2 ⟨(p - 1).toNat, List.mem_range.2 (by omega), by omega⟩)
  simpa using this
theorem walkL_len (ns : List Nv) (fr : List Int) : (walkL ns fr).length ≤ ns.length := by
  obtain ⟨a, b⟩ := walkL_nd ns fr
  exact nd_le a b
/-- A walk long enough is the walk. -/
theorem walkL_more (ns : List Nv) (fr : List Int) {M : Nat} (h : ns.length + 1 ≤ M) : iterW ns (feedW ns.length [] fr) M = walkL ns fr := by
  obtain ⟨k, rfl⟩ : ∃ k, M = ns.length + 1 + k := ⟨M - (ns.length + 1), by omega⟩
  exact iterW_end (by have := walkL_len ns fr; unfold walkL at this; omega) k
theorem iter_short {ns : List Nv} {o : List Int} (h : o.Nodup) (h2 : ∀ p ∈ o, hasG ns.length p = true) {i : Nat} (hi : ns.length ≤ i) : ∀ k, iterW ns o (i + k) = iterW ns o i :=
  iterW_end (by obtain ⟨a, b⟩ := iter_nd h h2 i; have := nd_le a b; omega)
theorem Pk.walk (h : Pk ns od tn) {fr : List Int} (hf : ∀ p ∈ fr, p = 0 ∨ p ∈ od) : walkL tn (fr.map (newO od)) = (walkL ns fr).map (newO od) ∧ ∀ q ∈ walkL ns fr, q ∈ od := by
  obtain ⟨a, b⟩ := h.feed fr [] (fun p hp => by cases hp) hf
  have hM := h.iter b (ns.length + 1 + (tn.length + 1))
  rw [walkL_more ns fr (by omega)] at hM
  refine ⟨?_, hM.2⟩
  rw [← hM.1, ← a]
  exact (walkL_more tn (fr.map (newO od)) (by omega)).symm
theorem Pk.again (h : Pk ns od tn) {l : List Int} (hl : ∀ p ∈ l, p ∈ od) : (∀ q, q = 0 ∨ q ∈ od → newO (l.map (newO od)) (newO od q) = newO l q) ∧ pickN tn (l.map (newO od)) (l.map (newO od)) = pickN ns l l := by
  have key : ∀ q, q = 0 ∨ q ∈ od → newO (l.map (newO od)) (newO od q) = newO l q := by
    intro q hq
    have gen : ∀ (m : List Int) (c : Nat), (∀ p ∈ m, p ∈ od) → posO (m.map (newO od)) (newO od q) c = posO m q c := by
      intro m
      induction m with
      | nil => intro c _; rfl
      | cons x r ih =>
        intro c hm
        rw [List.map_cons]
        unfold posO
        have hx := hm x List.mem_cons_self
        have e : newO od x = newO od q ↔ x = q := by
          refine ⟨fun e => ?_, fun e => by rw [e]⟩
          rcases hq with rfl | hq
          · rw [h.zero] at e
            have := hasG_iff.1 (h.hasN hx)
            omega
          · exact newO_inj hx hq e
        by_cases c1 : x = q
        · rw [if_pos (e.2 c1), if_pos c1]
        · rw [if_neg (fun k => c1 (e.1 k)), if_neg c1]
          exact ih (c + 1) (fun p hp => hm p (List.mem_cons_of_mem _ hp))
    exact gen l 0 hl
  refine ⟨key, ?_⟩
  unfold pickN
  rw [List.map_map]
  refine List.map_congr_left fun p hp => ?_
  have hpo := hl p hp
  obtain ⟨x, y, h1, h2, h3, h4⟩ := h.node hpo
  show pick1 tn (l.map (newO od)) (newO od p) = pick1 ns l p
  unfold pick1
  rw [h1, h2]
  simp only [Prod.mk.injEq]
  refine ⟨?_, h4⟩
  rw [h3, List.map_map]
  refine List.map_congr_left fun q hq => ?_
  refine key q (h.cl p hpo q ?_)
  unfold ptrsG
  rw [h1]; exact hq
/-- All that is picked is reached where it was. -/
theorem Pk.rch (h : Pk ns od tn) {fr fr' : List Int} (hf : ∀ p ∈ fr, hasG ns.length p = true → p ∈ od ∧ newO od p ∈ fr') {p : Int} (hr : Rch ns fr p) : p ∈ od ∧ Rch tn fr' (newO od p) := by
  induction hr with
  | base p h1 h2 =>
    obtain ⟨a, b⟩ := hf p h1 h2
    exact ⟨a, .base _ b (h.hasN a)⟩
  | step p q h1 h2 h3 ih =>
    have hq : q ∈ od := by
      rcases h.cl p ih.1 q h2 with rfl | hq
      · have := hasG_iff.1 h3; omega
      · exact hq
    exact ⟨hq, .step _ _ ih.2 (by rw [h.ptrs ih.1]; exact List.mem_map.2 ⟨q, h2, rfl⟩) (h.hasN hq)⟩
end
end Go.Proofs.Ytkkjnahjmomjgaa
