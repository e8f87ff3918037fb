/- Texts joined: GuE GuH GvA CaA GrU GrV GrX RegS. -/
import Derived.Test.YtdppnggchpchgaaDoorCe1
import Derived.Test.YtdppnggchpchgaaDoorGrG
import Derived.Test.YtdppnggchpchgaaDoorGrP
import Derived.Test.YtdppnggchpchgaaDoorMmA
import Derived.Deep.LoopGhost
import Derived.Test.YtdppnggchpchgaaDoorRegT
import Derived.Test.YtdppnggchpchgaaDoorRegV
/- The reference's Pick: what it makes (pure); that it makes Trim's rows of what is seen in rising order. No conditions. -/
namespace Go.Proofs.YtdppnggchpchgaaDoor
set_option linter.unusedVariables false
set_option linter.unusedSimpArgs false
open Go.RowKit Go.Maps
theorem okP_iff {N : Nat} {p : Int} : okP N p = true ↔ 0 ≤ p ∧ p ≤ (N : Int) := by
  unfold okP hasG
  simp
  omega
/-- The place of p in a list, counted from 1; 0 where it is not. -/
def posO : List Int → Int → Nat → Int
  | [], _, _ => 0
  | x :: r, p, c => if x = p then (c : Int) + 1 else posO r p (c + 1)
def newO (order : List Int) (p : Int) : Int := posO order p 0
theorem posO_no {l : List Int} {p : Int} (h : p ∉ l) : ∀ c, posO l p c = 0 := by
  induction l with
  | nil => intro c; rfl
  | cons x r ih =>
    intro c
    unfold posO
    rw [if_neg (fun e => h (by simp [e])), ih (fun e => h (by simp [e]))]
theorem posO_end {p : Int} : ∀ (l : List Int) (c : Nat), p ∉ l → posO (l ++ [p]) p c = ((c + l.length : Nat) : Int) + 1
  | [], c, _ => by simp [posO]
  | x :: r, c, h => by
    have h1 : ¬ x = p := fun e => h (by simp [e])
    show (if x = p then _ else posO (r ++ [p]) p (c + 1)) = _
    rw [if_neg h1, posO_end r (c + 1) (fun e => h (by simp [e])), List.length_cons]
    congr 1
    omega
theorem posO_old {p y : Int} (hy : y ≠ p) : ∀ (l : List Int) (c : Nat), posO (l ++ [y]) p c = posO l p c
  | [], c => by simp [posO, hy]
  | x :: r, c => by
    show (if x = p then _ else posO (r ++ [y]) p (c + 1)) = (if x = p then _ else posO r p (c + 1))
    rw [posO_old hy r (c + 1)]
theorem newO_zero {l : List Int} (h : ∀ p ∈ l, 1 ≤ p) : newO l 0 = 0 := posO_no (fun e => by have := h 0 e; omega) 0
def toO (N : Nat) (order : List Int) : List Int := (List.range N).map fun (i : Nat) => newO order ((i : Int) + 1)
theorem toO_len (N : Nat) (l : List Int) : (toO N l).length = N := by simp [toO]
theorem toO_nil (N : Nat) : toO N [] = List.replicate N 0 := by
  refine List.ext_getElem (by simp [toO]) fun i h1 h2 => ?_
  simp [toO, newO, posO]
theorem toO_get {N : Nat} {l : List Int} {n : Nat} (h : n < N) : (toO N l)[n]? = some (newO l ((n : Int) + 1)) := by
  simp [toO, h]
theorem toO_step {N : Nat} {l : List Int} {n : Nat} (hn : n < N) (h : ((n : Int) + 1) ∉ l) : (toO N l).set n ((l.length : Int) + 1) = toO N (l ++ [(n : Int) + 1]) := by
  refine List.ext_getElem (by simp [toO]) fun i h1 h2 => ?_
  rw [List.getElem_set]
  have e2 : (toO N (l ++ [(n : Int) + 1]))[i] = newO (l ++ [(n : Int) + 1]) ((i : Int) + 1) := by simp [toO]
  rw [e2]
  unfold newO
  by_cases e : n = i
  · subst e
    rw [if_pos rfl, posO_end l 0 h]; simp
  · rw [if_neg e, posO_old (by omega)]
    simp [toO, newO]
/-- A node by its number, under the order's numbers. -/
def pick1 (ns : List Nv) (order : List Int) (p : Int) : List Int × List (BitVec 8) := match ns[(p - 1).toNat]? with | some x => (x.ps.map (newO order), x.bs) | none => ([], [])
def pickN (ns : List Nv) (order part : List Int) : List (List Int × List (BitVec 8)) := part.map (pick1 ns order)
theorem pick1_at {ns : List Nv} {order : List Int} {n : Nat} (h : n < ns.length) : pick1 ns order ((n : Int) + 1) = ((ns[n]).ps.map (newO order), (ns[n]).bs) := by
  unfold pick1
  rw [show ((n : Int) + 1 - 1).toNat = n by omega, List.getElem?_eq_getElem h]
/-- What is seen, in rising order. -/
def ordB : List Bool → Nat → List Int
  | [], _ => []
  | b :: r, i => if b = true then ((i : Int) + 1) :: ordB r (i + 1) else ordB r (i + 1)
end Go.Proofs.YtdppnggchpchgaaDoor
/- What a graph that is checked has; a list of numbers as bools. No conditions. -/
namespace Go.Proofs.YtdppnggchpchgaaDoor
set_option linter.unusedVariables false
set_option linter.unusedSimpArgs false
open Go.RowKit Go.Maps
theorem ckNodes_ok {N : Nat} : ∀ {l : List Nv}, ckNodes N l = 0 → ∀ x ∈ l, ∀ p ∈ x.ps, okP N p = true
  | [], _, x, hx => by cases hx
  | y :: r, h, x, hx => by
    have h1 : ckNode N y = 0 := by
      unfold ckNodes at h
      by_cases c : ckNode N y = 0
      · exact c
      · rw [if_neg c] at h; exact h
    have h2 : ckNodes N r = 0 := by
      unfold ckNodes at h
      rw [if_pos h1] at h; exact h
    rcases List.mem_cons.1 hx with rfl | hx
    · intro p hp
      unfold ckNode at h1
      by_cases c : x.ps.all (okP N) = true
      · rw [List.all_eq_true] at c; exact c p hp
      · rw [if_neg c] at h1; cases h1
    · exact ckNodes_ok h2 x hx
theorem ckRoots_ok {N : Nat} : ∀ {l : List Rv} {s : ByteArray}, ckRoots N s l = 0 → ∀ r ∈ l, okP N r.t = true
  | [], _, _, r, hr => by cases hr
  | y :: l, s, h, r, hr => by
    unfold ckRoots at h
    split at h
    · by_cases c : okP N y.t = true
      · rw [if_pos c] at h
        rcases List.mem_cons.1 hr with rfl | hr
        · exact c
        · exact ckRoots_ok h r hr
      · rw [if_neg c] at h; cases h
    · cases h
theorem ck_ok {g : Gv} (h : ckG g = 0) : (∀ x ∈ g.n, ∀ p ∈ x.ps, okP g.n.length p = true) ∧ ∀ r ∈ g.r, okP g.n.length r.t = true := by
  unfold ckG at h
  by_cases c : ckNodes g.n.length g.n = 0
  · rw [if_pos c] at h
    by_cases d : 64 < g.r.length
    · rw [if_pos d] at h; cases h
    · rw [if_neg d] at h
      exact ⟨ckNodes_ok c, ckRoots_ok h⟩
  · rw [if_neg c] at h; exact absurd h c
/-- Which numbers a list has. -/
def inL (N : Nat) (out : List Int) : List Bool := (List.range N).map fun (i : Nat) => decide (((i : Int) + 1) ∈ out)
theorem gv_cut {g : Gv} : ∃ (N M : Nat), N = g.n.length ∧ M = g.r.length ∧ g.v = .agg #[.slice g.A N g.c, .slice g.A2 M g.c2] := ⟨_, _, rfl, rfl, rfl⟩
end Go.Proofs.YtdppnggchpchgaaDoor
/- Picks, walks, renumberings: what a graph keeps when nodes are picked (pure). No conditions. -/
namespace Go.Proofs.YtdppnggchpchgaaDoor
set_option linter.unusedVariables false
set_option linter.unusedSimpArgs false
open Go.RowKit Go.Maps
def stepW (N : Nat) (out : List Int) (p : Int) : List Int := if hasG N p = true ∧ p ∉ out then out ++ [p] else out
def feedW (N : Nat) (out l : List Int) : List Int := l.foldl (stepW N) out
def iterW (ns : List Nv) (o : List Int) : Nat → List Int
  | 0 => o
  | i + 1 => match (iterW ns o i)[i]? with
    | some p => feedW ns.length (iterW ns o i) (ptrsG ns p)
    | none => iterW ns o i
theorem feedW_snoc (N : Nat) (out l : List Int) (p : Int) : feedW N out (l ++ [p]) = stepW N (feedW N out l) p := by
  unfold feedW; rw [List.foldl_append]; rfl
theorem iterW_some {ns : List Nv} {o : List Int} {i : Nat} {p : Int} (h : (iterW ns o i)[i]? = some p) : iterW ns o (i + 1) = feedW ns.length (iterW ns o i) (ptrsG ns p) := by
  show (match (iterW ns o i)[i]? with | some p => feedW ns.length (iterW ns o i) (ptrsG ns p) | none => iterW ns o i) = _
  rw [h]
theorem iterW_none {ns : List Nv} {o : List Int} {i : Nat} (h : (iterW ns o i)[i]? = none) : iterW ns o (i + 1) = iterW ns o i := by
  show (match (iterW ns o i)[i]? with | some p => feedW ns.length (iterW ns o i) (ptrsG ns p) | none => iterW ns o i) = _
  rw [h]
theorem iterW_end {ns : List Nv} {o : List Int} {i : Nat} (h : (iterW ns o i).length ≤ i) : ∀ k, iterW ns o (i + k) = iterW ns o i
  | 0 => rfl
  | k + 1 => by
    have ih := iterW_end h k
    show iterW ns o (i + k + 1) = _
    rw [iterW_none (by rw [ih]; exact List.getElem?_eq_none (by omega)), ih]
/-- The nodes in the order of the walk. -/
def walkL (ns : List Nv) (fr : List Int) : List Int := iterW ns (feedW ns.length [] fr) (ns.length + 1)
theorem walkL_of {ns : List Nv} {fr out : List Int} {i : Nat} (h : out = iterW ns (feedW ns.length [] fr) i) (hi : out.length ≤ i) (hn : i ≤ ns.length + 1) : out = walkL ns fr := by
  subst h
  unfold walkL
  obtain ⟨k, hk⟩ : ∃ k, ns.length + 1 = i + k := ⟨ns.length + 1 - i, by omega⟩
  rw [hk, iterW_end hi]
theorem posO_at {p : Int} : ∀ (l : List Int) (c : Nat), p ∈ l → ∃ i : Nat, l[i]? = some p ∧ posO l p c = ((c + i : Nat) : Int) + 1
  | [], _, h => by cases h
  | x :: r, c, h => by
    unfold posO
    by_cases e : x = p
    · rw [if_pos e]; exact ⟨0, by simp [e], by simp⟩
    · rw [if_neg e]
      obtain ⟨i, h1, h2⟩ := posO_at r (c + 1) (by rcases List.mem_cons.1 h with h | h; exact absurd h.symm e; exact h)
      exact ⟨i + 1, by simpa using h1, by rw [h2]; congr 2; omega⟩
theorem newO_at {l : List Int} {p : Int} (h : p ∈ l) : ∃ i : Nat, l[i]? = some p ∧ newO l p = (i : Int) + 1 := by
  obtain ⟨i, h1, h2⟩ := posO_at l 0 h
  exact ⟨i, h1, by unfold newO; rw [h2]; simp⟩
theorem newO_no {l : List Int} {p : Int} (h : p ∉ l) : newO l p = 0 := posO_no h 0
theorem newO_inj {l : List Int} {p q : Int} (hp : p ∈ l) (hq : q ∈ l) (h : newO l p = newO l q) : p = q := by
  obtain ⟨i, h1, h2⟩ := newO_at hp
  obtain ⟨j, h3, h4⟩ := newO_at hq
  have : i = j := by rw [h2, h4] at h; omega
  subst this
  rw [h1] at h3; injection h3
theorem newO_get {l : List Int} (hn : l.Nodup) {i : Nat} {p : Int} (h : l[i]? = some p) : newO l p = (i : Int) + 1 := by
  obtain ⟨j, h1, h2⟩ := newO_at (List.mem_of_getElem? h)
  obtain ⟨hi, e1⟩ := List.getElem?_eq_some_iff.1 h
  obtain ⟨hj, e2⟩ := List.getElem?_eq_some_iff.1 h1
  have : i = j := by
    rcases Nat.lt_trichotomy i j with h5 | h5 | h5
    · exact absurd (e1.trans e2.symm) (List.pairwise_iff_getElem.1 hn i j hi hj h5)
    · exact h5
    · exact absurd (e2.trans e1.symm) (List.pairwise_iff_getElem.1 hn j i hj hi h5)
  rw [h2, this]
/-- Picked nodes: in od, each once; what they point at is among them. -/
structure Pk (ns : List Nv) (od : List Int) (tn : List Nv) : Prop where
  has : ∀ p ∈ od, hasG ns.length p = true
  nd : od.Nodup
  cl : ∀ p ∈ od, ∀ q ∈ ptrsG ns p, q = 0 ∨ q ∈ od
  m : tn.map Nv.m = pickN ns od od
section
variable {ns tn : List Nv} {od : List Int}
theorem Pk.len (h : Pk ns od tn) : tn.length = od.length := by
  have := congrArg List.length h.m
  unfold pickN at this
  rwa [List.length_map, List.length_map] at this
theorem Pk.zero (h : Pk ns od tn) : newO od 0 = 0 := newO_zero (fun p hp => by have := hasG_iff.1 (h.has p hp); omega)
theorem Pk.hasN (h : Pk ns od tn) {p : Int} (hp : p ∈ od) : hasG tn.length (newO od p) = true := by
  obtain ⟨i, h1, h2⟩ := newO_at hp
  obtain ⟨hi, _⟩ := List.getElem?_eq_some_iff.1 h1
  rw [h.len, hasG_iff, h2]; omega
theorem Pk.node (h : Pk ns od tn) {p : Int} (hp : p ∈ od) : ∃ x y, ns[(p - 1).toNat]? = some x ∧ tn[(newO od p - 1).toNat]? = some y ∧ y.ps = x.ps.map (newO od) ∧ y.bs = x.bs := by
  obtain ⟨i, h1, h2⟩ := newO_at hp
  obtain ⟨hi, e1⟩ := List.getElem?_eq_some_iff.1 h1
  have hg := hasG_iff.1 (h.has p hp)
  have hx : (p - 1).toNat < ns.length := by omega
  have hy : i < tn.length := by rw [h.len]; exact hi
  have hm := congrArg (fun l => l[i]?) h.m
  unfold pickN at hm
  simp only [List.getElem?_map, h1, List.getElem?_eq_getElem hy, Option.map_some] at hm
  injection hm with hm
  have e2 : (newO od p - 1).toNat = i := by rw [h2]; omega
  refine ⟨ns[(p - 1).toNat], tn[i], List.getElem?_eq_getElem hx, by rw [e2]; exact List.getElem?_eq_getElem hy, ?_, ?_⟩
  · unfold pick1 Nv.m at hm
    rw [List.getElem?_eq_getElem hx] at hm
    injection hm
  · unfold pick1 Nv.m at hm
    rw [List.getElem?_eq_getElem hx] at hm
    injection hm
theorem Pk.ptrs (h : Pk ns od tn) {p : Int} (hp : p ∈ od) : ptrsG tn (newO od p) = (ptrsG ns p).map (newO od) := by
  obtain ⟨x, y, h1, h2, h3, _⟩ := h.node hp
  unfold ptrsG
  rw [h1, h2]; exact h3
theorem Pk.step (h : Pk ns od tn) {out : List Int} (ho : ∀ p ∈ out, p ∈ od) {p : Int} (hp : p = 0 ∨ p ∈ od) : stepW tn.length (out.map (newO od)) (newO od p) = (stepW ns.length out p).map (newO od) ∧ ∀ q ∈ stepW ns.length out p, q ∈ od := by
  rcases hp with rfl | hp
  · rw [h.zero]
    unfold stepW
    rw [if_neg (fun e => by have := hasG_iff.1 e.1; omega), if_neg (fun e => by have := hasG_iff.1 e.1; omega)]
    exact ⟨rfl, ho⟩
  · unfold stepW
    have e : (newO od p ∉ out.map (newO od)) ↔ p ∉ out := by
      rw [List.mem_map]
      constructor
      · intro h1 h2; exact h1 ⟨p, h2, rfl⟩
      · rintro h1 ⟨q, h2, h3⟩
        rw [newO_inj (ho q h2) hp h3] at h2
        exact h1 h2
    by_cases c : p ∈ out
    · rw [if_neg (fun k => (e.1 k.2) c), if_neg (fun k => k.2 c)]
      exact ⟨rfl, ho⟩
    · rw [if_pos ⟨h.hasN hp, e.2 c⟩, if_pos ⟨h.has p hp, c⟩]
      refine ⟨by simp, fun q hq => ?_⟩
      rcases List.mem_append.1 hq with hq | hq
      · exact ho q hq
      · rw [List.mem_singleton.1 hq]; exact hp
theorem Pk.feed (h : Pk ns od tn) : ∀ (l out : List Int), (∀ p ∈ out, p ∈ od) → (∀ p ∈ l, p = 0 ∨ p ∈ od) → feedW tn.length (out.map (newO od)) (l.map (newO od)) = (feedW ns.length out l).map (newO od) ∧ ∀ q ∈ feedW ns.length out l, q ∈ od
  | [], out, ho, _ => ⟨rfl, ho⟩
  | p :: r, out, ho, hl => by
    obtain ⟨h1, h2⟩ := h.step ho (hl p List.mem_cons_self)
    have := h.feed r (stepW ns.length out p) h2 (fun q hq => hl q (List.mem_cons_of_mem _ hq))
    unfold feedW at this ⊢
    rw [List.map_cons, List.foldl_cons, List.foldl_cons, h1]
    exact this
theorem Pk.iter (h : Pk ns od tn) {o : List Int} (ho : ∀ p ∈ o, p ∈ od) : ∀ i, iterW tn (o.map (newO od)) i = (iterW ns o i).map (newO od) ∧ ∀ q ∈ iterW ns o i, q ∈ od
  | 0 => ⟨rfl, ho⟩
  | i + 1 => by
    obtain ⟨h1, h2⟩ := h.iter ho i
    cases e : (iterW ns o i)[i]? with
    | none =>
      rw [iterW_none e, iterW_none (by rw [h1, List.getElem?_map, e]; rfl)]
      exact ⟨h1, h2⟩
    | some p =>
      have hp := h2 p (List.mem_of_getElem? e)
      rw [iterW_some e, iterW_some (p := newO od p) (by rw [h1, List.getElem?_map, e]; rfl), h1, h.ptrs hp]
      exact h.feed _ _ h2 (h.cl p hp)
theorem feed_nd {N : Nat} : ∀ (l out : List Int), out.Nodup → (∀ p ∈ out, hasG N p = true) → (feedW N out l).Nodup ∧ ∀ p ∈ feedW N out l, hasG N p = true
  | [], out, h, h2 => ⟨h, h2⟩
  | p :: r, out, h, h2 => by
    unfold feedW
    rw [List.foldl_cons]
    refine feed_nd r _ ?_ ?_
    · unfold stepW
      split
      · rename_i c
        rw [List.nodup_append]
        exact ⟨h, by simp, fun a ha b hb e => by rw [List.mem_singleton] at hb; subst hb; subst e; exact c.2 ha⟩
      · exact h
    · unfold stepW
      split
      · rename_i c
        intro q hq
        rcases List.mem_append.1 hq with hq | hq
        · exact h2 q hq
        · rw [List.mem_singleton.1 hq]; exact c.1
      · exact h2
theorem iter_nd {ns : List Nv} {o : List Int} (h : o.Nodup) (h2 : ∀ p ∈ o, hasG ns.length p = true) : ∀ i, (iterW ns o i).Nodup ∧ ∀ p ∈ iterW ns o i, hasG ns.length p = true
  | 0 => ⟨h, h2⟩
  | i + 1 => by
    obtain ⟨a, b⟩ := iter_nd h h2 i
    cases e : (iterW ns o i)[i]? with
    | none => rw [iterW_none e]; exact ⟨a, b⟩
    | some p => rw [iterW_some e]; exact feed_nd _ _ a b
theorem walkL_nd (ns : List Nv) (fr : List Int) : (walkL ns fr).Nodup ∧ ∀ p ∈ walkL ns fr, hasG ns.length p = true := by
  obtain ⟨a, b⟩ := feed_nd (N := ns.length) fr [] List.nodup_nil (fun p hp => by cases hp)
  exact iter_nd a b _
theorem nd_le {l : List Int} {N : Nat} (h : l.Nodup) (h2 : ∀ p ∈ l, hasG N p = true) : l.length ≤ N := by
  have := List.Nodup.length_le_of_subset (l₁ := l) (l₂ := (List.range N).map fun (i : Nat) => (i : Int) + 1) h (fun p hp => by
    have h3 := hasG_iff.1 (h2 p hp)
    exact List.mem_map.2 ⟨(p - 1).toNat, List.mem_range.2 (by omega), by omega⟩)
  simpa using this
theorem walkL_len (ns : List Nv) (fr : List Int) : (walkL ns fr).length ≤ ns.length := by
  obtain ⟨a, b⟩ := walkL_nd ns fr
  exact nd_le a b
/-- A walk long enough is the walk. -/
theorem walkL_more (ns : List Nv) (fr : List Int) {M : Nat} (h : ns.length + 1 ≤ M) : iterW ns (feedW ns.length [] fr) M = walkL ns fr := by
  obtain ⟨k, rfl⟩ : ∃ k, M = ns.length + 1 + k := ⟨M - (ns.length + 1), by omega⟩
  exact iterW_end (by have := walkL_len ns fr; unfold walkL at this; omega) k
theorem Pk.walk (h : Pk ns od tn) {fr : List Int} (hf : ∀ p ∈ fr, p = 0 ∨ p ∈ od) : walkL tn (fr.map (newO od)) = (walkL ns fr).map (newO od) ∧ ∀ q ∈ walkL ns fr, q ∈ od := by
  obtain ⟨a, b⟩ := h.feed fr [] (fun p hp => by cases hp) hf
  have hM := h.iter b (ns.length + 1 + (tn.length + 1))
  rw [walkL_more ns fr (by omega)] at hM
  refine ⟨?_, hM.2⟩
  rw [← hM.1, ← a]
  exact (walkL_more tn (fr.map (newO od)) (by omega)).symm
theorem Pk.again (h : Pk ns od tn) {l : List Int} (hl : ∀ p ∈ l, p ∈ od) : (∀ q, q = 0 ∨ q ∈ od → newO (l.map (newO od)) (newO od q) = newO l q) ∧ pickN tn (l.map (newO od)) (l.map (newO od)) = pickN ns l l := by
  have key : ∀ q, q = 0 ∨ q ∈ od → newO (l.map (newO od)) (newO od q) = newO l q := by
    intro q hq
    have gen : ∀ (m : List Int) (c : Nat), (∀ p ∈ m, p ∈ od) → posO (m.map (newO od)) (newO od q) c = posO m q c := by
      intro m
      induction m with
      | nil => intro c _; rfl
      | cons x r ih =>
        intro c hm
        rw [List.map_cons]
        unfold posO
        have hx := hm x List.mem_cons_self
        have e : newO od x = newO od q ↔ x = q := by
          refine ⟨fun e => ?_, fun e => by rw [e]⟩
          rcases hq with rfl | hq
          · rw [h.zero] at e
            have := hasG_iff.1 (h.hasN hx)
            omega
          · exact newO_inj hx hq e
        by_cases c1 : x = q
        · rw [if_pos (e.2 c1), if_pos c1]
        · rw [if_neg (fun k => c1 (e.1 k)), if_neg c1]
          exact ih (c + 1) (fun p hp => hm p (List.mem_cons_of_mem _ hp))
    exact gen l 0 hl
  refine ⟨key, ?_⟩
  unfold pickN
  rw [List.map_map]
  refine List.map_congr_left fun p hp => ?_
  have hpo := hl p hp
  obtain ⟨x, y, h1, h2, h3, h4⟩ := h.node hpo
  show pick1 tn (l.map (newO od)) (newO od p) = pick1 ns l p
  unfold pick1
  rw [h1, h2]
  simp only [Prod.mk.injEq]
  refine ⟨?_, h4⟩
  rw [h3, List.map_map]
  refine List.map_congr_left fun q hq => ?_
  refine key q (h.cl p hpo q ?_)
  unfold ptrsG
  rw [h1]; exact hq
end
end Go.Proofs.YtdppnggchpchgaaDoor
/- A row of numbers in the order of their coming, and a map of their places. No conditions. -/
namespace Go.Proofs.YtdppnggchpchgaaDoor
set_option linter.unusedVariables false
set_option linter.unusedSimpArgs false
open Go.RowKit Go.Maps
theorem look_ins (x : Int × Int) (j : Int) : ∀ l : List (Int × Int), (∀ p ∈ l, p.1 ≠ x.1) → lookI (putI.insI x l) j = if x.1 = j then some x.2 else lookI l j
  | [], _ => rfl
  | y :: r, h => by
    unfold putI.insI
    split
    · rfl
    · unfold lookI
      rw [look_ins x j r (fun p hp => h p (List.mem_cons_of_mem _ hp))]
      have := h y List.mem_cons_self
      by_cases e : y.1 = j
      · rw [if_pos e, if_neg (by omega), if_pos e]
      · rw [if_neg e, if_neg e]
theorem look_put (l : List (Int × Int)) (k v j : Int) : lookI (putI l k v) j = if k = j then some v else lookI l j := by
  unfold putI
  rw [look_ins (k, v) j (offI l k) (fun p hp => by
    unfold offI at hp
    have := (List.mem_filter.1 hp).2
    simpa using this)]
  by_cases e : k = j
  · rw [if_pos e, if_pos e]
  · rw [if_neg e, if_neg e, look_off, if_neg (by omega)]
theorem ins_len (x : Int × Int) : ∀ l : List (Int × Int), (putI.insI x l).length = l.length + 1
  | [] => rfl
  | y :: r => by
    unfold putI.insI
    split
    · rfl
    · rw [List.length_cons, ins_len x r, List.length_cons]
theorem put_len (l : List (Int × Int)) (k v : Int) : (putI l k v).length ≤ l.length + 1 := by
  unfold putI
  rw [ins_len]
  have : (offI l k).length ≤ l.length := List.length_filter_le _ _
  omega
/-- The map of places. -/
structure CM (od : List Int) (l : List (Int × Int)) : Prop where
  len : l.length ≤ od.length
  at_ : ∀ p, (lookI l p).getD 0 = newO od p
theorem CM.nil : CM [] [] := ⟨Nat.le_refl _, fun _ => rfl⟩
theorem CM.put {od : List Int} {l : List (Int × Int)} {p : Int} (h : CM od l) (hp : p ∉ od) : CM (od ++ [p]) (putI l p ((od.length : Int) + 1)) := by
  refine ⟨by have := put_len l p ((od.length : Int) + 1); rw [List.length_append, List.length_singleton]; have := h.len; omega, fun j => ?_⟩
  rw [look_put]
  unfold newO
  by_cases e : p = j
  · subst e
    rw [if_pos rfl, posO_end od 0 hp]; simp
  · rw [if_neg e, posO_old e]
    exact h.at_ j
theorem newO_pos {od : List Int} {p : Int} : (0 < newO od p ↔ p ∈ od) := by
  constructor
  · intro h
    by_cases c : p ∈ od
    · exact c
    · rw [newO_no c] at h; omega
  · intro h
    obtain ⟨i, _, e⟩ := newO_at h
    omega
theorem newO_le {od : List Int} {p : Int} : 0 ≤ newO od p ∧ newO od p ≤ (od.length : Int) := by
  by_cases c : p ∈ od
  · obtain ⟨i, h, e⟩ := newO_at c
    have := (List.getElem?_eq_some_iff.1 h).1
    omega
  · rw [newO_no c]; omega
theorem stepW_no' {N : Nat} {out : List Int} {p : Int} (h : ¬ (hasG N p = true ∧ p ∉ out)) : stepW N out p = out := by unfold stepW; rw [if_neg h]
theorem stepW_yes' {N : Nat} {out : List Int} {p : Int} (h : hasG N p = true) (h2 : p ∉ out) : stepW N out p = out ++ [p] := by unfold stepW; rw [if_pos ⟨h, h2⟩]
theorem feedW_take {N : Nat} {out ps : List Int} {k : Nat} (h : k < ps.length) : feedW N out (ps.take (k + 1)) = stepW N (feedW N out (ps.take k)) ps[k] := by
  rw [List.take_succ_eq_append_getElem h, feedW_snoc]
theorem CM.map_new {od : List Int} {l : List (Int × Int)} (h : CM od l) (ps : List Int) : ps.map (newP l) = ps.map (newO od) := List.map_congr_left fun p _ => h.at_ p
end Go.Proofs.YtdppnggchpchgaaDoor
/- The closure of graph.Reach. Conditions: lengths. -/
namespace Go.Proofs.YtdppnggchpchgaaDoor
set_option linter.unusedVariables false
set_option linter.unusedSimpArgs false
open Go.RowKit
def tV (b : Bool) : Value := .bool b
/-- What Reach works on: the graph's box, what is seen, the work. -/
structure RS (W : World) (s q sb wb : Nat) (vn vr : Value) (N : Nat) (seen : List Bool) (work : List Int) : Prop where
  gb : Bk W s 25 #[vn, vr]
  sbk : Bk W sb 74 #[.slice (some ⟨q, 0, none⟩) N N]
  sn : Ow tV 4 W (s + 1) (.slice (some ⟨q, 0, none⟩) N N) seen
  wk : ∃ v, Bk W wb 40 #[v] ∧ Ow iV 3 W (wb + 1) v work
  ord : s < q ∧ q < sb ∧ sb < wb
theorem RS.below {W W' : World} {s q sb wb : Nat} {vn vr : Value} {N : Nat} {seen : List Bool} {work : List Int} (h : RS W s q sb wb vn vr N seen work) (hb : Below W.heap.size W W') : RS W' s q sb wb vn vr N seen work := by
  obtain ⟨v, h1, h2⟩ := h.wk
  exact ⟨h.gb.below hb h.gb.lt, h.sbk.below hb h.sbk.lt, h.sn.below hb, ⟨v, h1.below hb h1.lt, h2.below hb⟩, h.ord⟩
set_option maxHeartbeats 2000000
set_option maxRecDepth 100000
end Go.Proofs.YtdppnggchpchgaaDoor
/- graph.Reach. Conditions: lengths. -/
namespace Go.Proofs.YtdppnggchpchgaaDoor
set_option linter.unusedVariables false
set_option linter.unusedSimpArgs false
open Go.RowKit
set_option maxHeartbeats 2000000
set_option maxRecDepth 100000
end Go.Proofs.YtdppnggchpchgaaDoor
/- The first region of graph.Trim that draws its order. Conditions: lengths. -/
namespace Go.Proofs.YtdppnggchpchgaaDoor
set_option linter.unusedVariables false
set_option linter.unusedSimpArgs false
open Go.RowKit Go.Maps
/-- A slice of numbers of the call's own. -/
def IntsV (xs : List Int) (v : Value) (w : World) : Prop := ∃ A c, v = .slice A xs.length c ∧ Rd iV w w.heap.size A xs
theorem IntsV.mono {xs : List Int} {v : Value} {a b : World} (h : IntsV xs v a) (g : Below a.heap.size a b) : IntsV xs v b := by
  obtain ⟨A, c, e, hr⟩ := h
  exact ⟨A, c, e, (hr.below g).more g.size⟩
/-- A row of two slices. -/
def CatV (xs : List Int) (u : Value) (v : Value) (w : World) : Prop := ∃ b A c, v = .slice (some ⟨b, 0, none⟩) 2 2 ∧ Bk w b 40 #[.slice A xs.length c, u] ∧ Rd iV w w.heap.size A xs
theorem CatV.mono {xs : List Int} {u v : Value} {a b : World} (h : CatV xs u v a) (g : Below a.heap.size a b) : CatV xs u v b := by
  obtain ⟨k, A, c, e, hb, hr⟩ := h
  exact ⟨k, A, c, e, hb.below g hb.lt, (hr.below g).more g.size⟩
/-- What Reach answers. -/
def ReV (B : Nat) (ns : List Nv) (N : Nat) (fr : List Int) (v : Value) (w : World) : Prop := ∃ q L, v = .slice (some ⟨q, 0, none⟩) N N ∧ Ow tV 4 w B (.slice (some ⟨q, 0, none⟩) N N) L ∧ L.length = N ∧ ∀ p, hasG N p = true → (seenG L p = true ↔ Rch ns fr p)
theorem ReV.mono {B : Nat} {ns : List Nv} {N : Nat} {fr : List Int} {v : Value} {a b : World} (h : ReV B ns N fr v a) (g : Below a.heap.size a b) : ReV B ns N fr v b := by
  obtain ⟨q, L, e, ho, r⟩ := h
  exact ⟨q, L, e, ho.below g, r⟩
set_option maxHeartbeats 1000000
set_option maxRecDepth 100000
end Go.Proofs.YtdppnggchpchgaaDoor
/- A region whose operations are loads and reckonings, which float, and a row of others (calls, appends, stores) that wait for each other: the floating ones have known values, the row is straight code. No conditions. -/
namespace Go.Proofs.YtdppnggchpchgaaDoor
set_option linter.unusedVariables false
set_option linter.unusedSimpArgs false
open Go.RowKit
section
variable {P : Program} {ops : Array Oper} {Q : Exit → Act → World → Prop} {a0 : Act} {w0 : World}
/-- Operations one behind the other; W holds of each world between. -/
def SpineW (P : Program) (ops : Array Oper) (Q : Exit → Act → World → Prop) (W : World → Prop) : List Nat → Act → World → Prop
  | [], a, w => Q .normal a w
  | i :: is, a, w => ∃ o, ops[i]? = some o ∧ o.guard = none ∧ Oper.wp P o a w (fun a' w' => a'.defers = a.defers ∧ W w' ∧ SpineW P ops Q W is a' w') NoQ
def operandsOf (ops : Array Oper) (i : Nat) : List Tmp := match ops[i]? with
  | none => []
  | some o => o.op.operands.toList.filterMap fun | .tmp t => some t | _ => none
def chainB (ops : Array Oper) : List Nat → Bool
  | x :: y :: l => waitsB ops y x && chainB ops (y :: l)
  | _ => true
def slotsB (ops : Array Oper) (fl : List Nat) (j : Nat) : Bool := match dstOf ops j with
  | none => false
  | some d => slotB ops fl j d
def spineB (ops : Array Oper) (sp fl : List Nat) : Bool :=
  chainB ops sp && ((List.range ops.size).all fun i => sp.contains i || fl.contains i) && (fl.all fun j => !sp.contains j && decide (j < ops.size) && ((ops[j]?).bind (·.guard)).isNone && slotsB ops fl j) && (sp.all fun i => decide (i < ops.size)) && decide (sp.Nodup) &&
  (fl.all fun i => (operandsOf ops i).all fun t => (fl.any fun j => waitsB ops i j && dstOf ops j == some t) || ((fl.all fun j => dstOf ops j != some t) && sp.all fun j => dstOf ops j != some t || waitsB ops j i)) &&
  (sp.all fun i => (operandsOf ops i).all fun t => fl.all fun j => dstOf ops j != some t || waitsB ops i j)
theorem wp_two {o : Oper} {A a : Act} {w : World} {K K2 : Act → World → Prop} (he : execOp A.eval o = execOp a.eval o)
    (h : Oper.wp P o A w (fun a' w' => a'.defers = A.defers ∧ K a' w') NoQ) (hk : ∀ v w', K (A.put o.dst v) w' → K2 (a.put o.dst v) w') : Oper.wp P o a w K2 Q := by
  unfold Oper.wp at *
  rw [← he]
  generalize (execOp A.eval o).run P w = r at *
  cases r with
  | ok n w' =>
    cases n <;> simp only [Oper.upon] at h ⊢
    case value u => exact hk _ _ h.2
    case skip => exact hk _ _ h.2
    case defer d =>
      exfalso
      have := h.1
      cases hd : o.dst <;> simp [Act.put, hd] at this
    case enter f args =>
      refine Calls.mono h fun e w'' he => ?_
      cases e with
      | returned u => exact hk _ _ he.2
      | panicked c => exact he.elim
      | outgrown => obtain ⟨_, _, hf⟩ := he; exact hf.elim
    case row row args => exact Rows.mono h fun u w'' he => hk _ _ he.2
  | halt x w' =>
    cases x <;> simp only [Oper.upon] at h ⊢
    case panic u => exact h.elim
def SpineQ (df : List Deferred) (W : World → Prop) (next : Act → World → Prop) : Exit → Act → World → Prop
  | .normal, a, w => a.defers = df ∧ W w ∧ next a w
  | _, _, _ => False
/-- One of the row, as straight code. -/
theorem spine_list {i : Nat} {is : List Nat} {W : World → Prop} {d : Option Tmp} {op : Op} {type : TypeId} {a : Act} {w : World} (ho : (ops[i]?).map (fun o => (o.op, o.type)) = some (op, type)) (hdo : (ops[i]?).map (·.dst) = some d) (hg : (ops[i]?).bind (·.guard) = none)
    (h : wpList P #[{ dst := d, op, type, pos := "", after := #[], guard := none }] (SpineQ a.defers W (SpineW P ops Q W is)) [{ dst := d, op, type, pos := "", after := #[], guard := none }] a w) : SpineW P ops Q W (i :: is) a w := by
  cases hi : ops[i]? with
  | none => rw [hi] at ho; cases ho
  | some o =>
    rw [hi] at ho hdo hg
    obtain ⟨dst, op', type', pos, after, guard⟩ := o
    simp only [Option.map_some, Option.some.injEq, Prod.mk.injEq] at ho hdo
    obtain ⟨rfl, rfl⟩ := ho
    subst hdo
    simp only [Option.bind_some] at hg
    subst hg
    refine ⟨_, hi, rfl, ?_⟩
    unfold wpList at h
    simp only [Region.wanted, if_true] at h
    have he : execOp a.eval { dst, op := op', type := type', pos, after, guard := none } = execOp a.eval { dst, op := op', type := type', pos := "", after := #[], guard := none } := by
      cases op' <;> rfl
    rcases h with h | ⟨_, h2⟩
    · unfold Oper.wp at h ⊢
      rw [he]
      generalize (execOp a.eval { dst, op := op', type := type', pos := "", after := #[], guard := none }).run P w = r at *
      cases r with
      | ok n w' =>
        cases n <;> simp only [Oper.upon, wpList] at h ⊢
        case value u => exact h
        case skip => exact h
        case defer u => exact h
        case enter f args =>
          refine Calls.mono h fun e w'' he => ?_
          cases e with
          | returned u => exact he
          | panicked c => exact he.elim
          | outgrown => obtain ⟨_, _, hf⟩ := he; exact hf.elim
        case row row args => exact h
      | halt x w' =>
        cases x <;> simp only [Oper.upon] at h ⊢
        case panic u => exact h.elim
    · obtain ⟨_, _, h3⟩ := h2
      exact h3.elim
theorem regB_plain {size : Nat} (h : regB ops size = true) {i : Nat} {o : Oper} (ho : ops[i]? = some o) : match o.op with | .defer _ => False | .select .. => False | _ => True := by
  unfold regB at h
  rw [List.all_eq_true] at h
  have h1 := h i (List.mem_range.2 (Array.getElem?_eq_some_iff.1 ho).1)
  rw [ho] at h1
  simp only [Bool.and_eq_true] at h1
  have h2 := h1.2
  revert h2
  cases o.op <;> simp
theorem chain_at {l : List Nat} : ∀ {d : List Nat} {x y : Nat}, chainB ops (d ++ x :: y :: l) = true → waitsB ops y x = true := by
  intro d
  induction d with
  | nil => intro x y h; unfold chainB at h; rw [List.nil_append] at h; simp only [Bool.and_eq_true] at h; exact h.1
  | cons z d ih =>
    intro x y h
    apply ih (x := x) (y := y)
    cases d with
    | nil => simp only [List.cons_append, List.nil_append, chainB, Bool.and_eq_true] at h ⊢; exact h.2
    | cons u d => simp only [List.cons_append, chainB, Bool.and_eq_true] at h ⊢; exact h.2
theorem region_spine {id : Nat} (sp fl : List Nat) (c : Nat → Value) (W : World → Prop) (hm : P.follows .mixedOrders = true) (hreg : regB ops a0.tmps.size = true) (hsp : spineB ops sp fl = true) (hW : W w0.drew)
    (hF : ∀ i ∈ fl, ∀ w, W w → ∃ o, ops[i]? = some o ∧ (execOp (putL ops c fl a0).eval o).run P w = .ok (.value (c i)) w)
    (fin : SpineW P ops Q W sp (putL ops c fl a0) w0.drew) : (Code.region id ops true).wp P Q a0 w0 := by
  unfold spineB at hsp
  simp only [Bool.and_eq_true, List.all_eq_true, List.mem_range, decide_eq_true_eq, Bool.or_eq_true, List.contains_iff_mem, Bool.not_eq_true', Bool.not_eq_eq_eq_not, Bool.not_true] at hsp
  obtain ⟨⟨⟨⟨⟨⟨hch, hcov⟩, hfl⟩, hspl⟩, hnd⟩, hfo⟩, hso⟩ := hsp
  have hflsp : ∀ j ∈ fl, j ∉ sp := fun j hj h => by
    have := (hfl j hj).1.1.1
    rw [List.contains_eq_mem] at this
    simp [h] at this
  have getT : ∀ (l : Array Bool) (k : Nat) (b c : Bool), k < l.size → l.getD k b = l.getD k c := by
    intro l k b c hk
    rw [Array.getD_eq_getD_getElem?, Array.getD_eq_getD_getElem?, Array.getElem?_eq_getElem hk]; rfl
  have hdst : ∀ i, i < ops.size → ∃ d, dstOf ops i = some d ∧ d < a0.tmps.size ∧ ∀ j, j < ops.size → j ≠ i → dstOf ops j ≠ some d := by
    intro i hi
    obtain ⟨o2, d, ho2, hd2, hdl, hdd, _⟩ := regB_at hreg hi
    exact ⟨d, by unfold dstOf; rw [ho2]; exact hd2, hdl, hdd⟩
  have hA0 : ∀ j ∈ fl, valAt ops (putL ops c fl a0) j = c j := by
    intro j hj
    obtain ⟨d, hd, hdl, _⟩ := hdst j (hfl j hj).1.1.2
    have hs := (hfl j hj).2
    unfold slotsB at hs
    rw [hd] at hs
    unfold valAt
    rw [hd]
    exact slotJ fl hdl hs
  have hout : ∀ t, (∀ j ∈ fl, dstOf ops j ≠ some t) → (putL ops c fl a0).tmps.getD t undef = a0.tmps.getD t undef := by
    intro t ht
    exact slotO fl (List.all_eq_true.2 fun k hk => by simpa using ht k hk)
  have main : ∀ (fuel : Nat) (listed : Array Bool) (a : Act) (w : World) (dn rest : List Nat) (A : Act), listed.size = ops.size →
      ((List.range ops.size).filter fun j => !listed.getD j true).length ≤ fuel →
      W w → SpineW P ops Q W rest A w → sp = dn ++ rest → (∀ i ∈ dn, listed.getD i true = true) → (∀ i ∈ rest, listed.getD i true = false) → a.defers = A.defers → a.tmps.size = A.tmps.size → A.tmps.size = a0.tmps.size →
      (∀ j ∈ fl, valAt ops A j = c j) → (∀ t, (∀ j ∈ dn, dstOf ops j ≠ some t) → (∀ j ∈ fl, dstOf ops j ≠ some t) → A.tmps.getD t undef = a0.tmps.getD t undef) → (∀ j ∈ dn, ∀ k, waitsB ops j k = true → listed.getD k true = true) →
      (∀ t, a.tmps.getD t undef = A.tmps.getD t undef ∨ ∃ j ∈ fl, listed.getD j true = false ∧ dstOf ops j = some t) →
      wpAny P .any ops Q fuel listed a w := by
    intro fuel
    have allUp : ∀ (listed : Array Bool), listed.size = ops.size → Region.ready .any ops listed = [] → ∀ j, j < ops.size → listed.getD j true = true := by
      intro listed hsz hr j
      induction j using Nat.strongRecOn with
      | ind j ih =>
        intro hj
        cases hl : listed.getD j true with
        | true => rfl
        | false =>
          exfalso
          obtain ⟨o, d, ho, _, _, _, he⟩ := regB_at hreg hj
          have : j ∈ Region.ready .any ops listed := mem_ready.2 ⟨hl, o, ho, fun e hem hb => by
            have hlt := he e hem hb
            have := ih e.on hlt (by omega)
            rw [Array.getD_eq_getD_getElem?] at this ⊢
            rw [Array.getElem?_eq_getElem (by omega)] at this ⊢
            exact this⟩
          rw [hr] at this
          cases this
    have done : ∀ (listed : Array Bool) (a : Act) (w : World) (dn rest : List Nat) (A : Act), (∀ j, j < ops.size → listed.getD j true = true) → SpineW P ops Q W rest A w → sp = dn ++ rest → (∀ i ∈ rest, listed.getD i true = false) →
        a.defers = A.defers → a.tmps.size = A.tmps.size → (∀ t, a.tmps.getD t undef = A.tmps.getD t undef ∨ ∃ j ∈ fl, listed.getD j true = false ∧ dstOf ops j = some t) → Q .normal a w := by
      intro listed a w dn rest A hall hS hdn hrest hd hs hrel
      cases rest with
      | cons i is =>
        have h1 := hrest i (.head _)
        rw [hall i (hspl i (by rw [hdn]; simp))] at h1
        cases h1
      | nil =>
        have h1 := putL_whole (ops := ops) A [] a hs hd (fun t => by
          rcases hrel t with h | ⟨j, hj, h1, _⟩
          · exact .inl h
          · rw [hall j (hfl j hj).1.1.2] at h1; cases h1)
        unfold putL at h1
        rw [h1]
        exact hS
    induction fuel with
    | zero =>
      intro listed a w dn rest A hsz hcnt hw hS hdn hdl hrest hd hs hs0 hv ho hC hrel
      have hall : ∀ j, j < ops.size → listed.getD j true = true := by
        intro j hj
        cases hl : listed.getD j true with
        | true => rfl
        | false =>
          have : j ∈ (List.range ops.size).filter fun j => !listed.getD j true := List.mem_filter.2 ⟨List.mem_range.2 hj, by simp only [hl]; rfl⟩
          rw [List.eq_nil_of_length_eq_zero (Nat.le_zero.1 hcnt)] at this
          cases this
      refine ⟨?_, done listed a w dn rest A hall hS hdn hrest hd hs hrel⟩
      apply List.eq_nil_iff_forall_not_mem.2
      intro j hj
      obtain ⟨h1, o, ho, _⟩ := mem_ready.1 hj
      have hlt : j < ops.size := (Array.getElem?_eq_some_iff.1 ho).1
      rw [hall j hlt] at h1
      cases h1
    | succ fuel ih =>
      intro listed a w dn rest A hsz hcnt hw hS hdn hdl hrest hd hs hs0 hv ho hC hrel
      refine ⟨fun hr => done listed a w dn rest A (allUp listed hsz hr) hS hdn hrest hd hs hrel, fun i hi => ?_⟩
      obtain ⟨hui, o, hoi, hall⟩ := mem_ready.1 hi
      have hlt : i < ops.size := (Array.getElem?_eq_some_iff.1 hoi).1
      have hlz : i < listed.size := by omega
      have hwt : ∀ j, waitsB ops i j = true → listed.getD j true = true := by
        intro j hj
        obtain ⟨o', ho', e, he, hb, rfl⟩ := waits_some hj
        rw [hoi] at ho'
        injection ho' with ho'
        subst ho'
        have h1 := hall e he hb
        rcases Nat.lt_or_ge e.on listed.size with hl | hl
        · rw [getT _ _ true false hl]
          exact h1
        · rw [Array.getD_eq_getD_getElem?, Array.getElem?_eq_none hl] at h1; cases h1
      have hset : ∀ j b, (listed.setIfInBounds i true).getD j b = if j = i then true else listed.getD j b := by
        intro j b
        rw [Array.getD_eq_getD_getElem?, Array.getD_eq_getD_getElem?, Array.getElem?_setIfInBounds]
        by_cases e : i = j
        · subst e; simp [hlz]
        · rw [if_neg e, if_neg (fun h => e h.symm)]
      have hcnt' : ((List.range ops.size).filter fun j => !(listed.setIfInBounds i true).getD j true).length ≤ fuel := by
        have := filter_less (p := fun j => !listed.getD j true) (q := fun j => !(listed.setIfInBounds i true).getD j true) (i := i) (l := List.range ops.size) (fun x hx => by
          rw [hset] at hx
          by_cases e : x = i
          · rw [if_pos e] at hx; cases hx
          · rw [if_neg e] at hx; exact hx) (List.mem_range.2 hlt) (by rw [hui]; rfl) (by rw [hset, if_pos rfl]; rfl)
        omega
      obtain ⟨d, hdo, hdlt, hdd⟩ := hdst i hlt
      have hops : operandsOf ops i = o.op.operands.toList.filterMap fun | .tmp t => some t | _ => none := by unfold operandsOf; rw [hoi]
      have hndf : match o.op with | .defer _ => False | .select .. => False | _ => True := regB_plain hreg hoi
      have hdo' : o.dst = some d := by unfold dstOf at hdo; rw [hoi] at hdo; exact hdo
      have hcong : ∀ B : Act, (∀ t ∈ operandsOf ops i, B.tmps.getD t undef = a.tmps.getD t undef) → execOp B.eval o = execOp a.eval o := by
        intro B hB
        refine execOp_congr o (fun cs b e => by rw [e] at hndf; exact hndf) fun x hx => ?_
        cases x with
        | tmp t => exact hB t (by rw [hops]; exact List.mem_filterMap.2 ⟨.tmp t, by simpa using hx, rfl⟩)
        | _ => rfl
      have hval : ∀ (B : Act) (v : Value), B.tmps.size = a0.tmps.size → valAt ops (B.put o.dst v) i = v := by
        intro B v hB
        unfold valAt
        rw [hdo, hdo']
        exact put_same _ _ _ (by rw [hB]; exact hdlt)
      by_cases hf1 : i ∈ fl
      · -- one that floats
        have hg := (hfl i hf1).1.2
        rw [hoi, Option.bind_some, Option.isNone_iff_eq_none] at hg
        obtain ⟨o3, ho3, hrun⟩ := hF i hf1 w hw
        rw [hoi] at ho3
        injection ho3 with ho3
        subst ho3
        have hA0a : ∀ t ∈ operandsOf ops i, (putL ops c fl a0).tmps.getD t undef = a.tmps.getD t undef := by
          intro t ht
          rcases hfo i hf1 t ht with h | h
          · rw [List.any_eq_true] at h
            obtain ⟨j, hj, h⟩ := h
            rw [Bool.and_eq_true, beq_iff_eq] at h
            have h1 := hA0 j hj
            have h2 := hv j hj
            unfold valAt at h1 h2
            rw [h.2] at h1 h2
            rcases hrel t with h3 | ⟨k, hk, h3, h4⟩
            · rw [h3]; exact h1.trans h2.symm
            · exfalso
              obtain ⟨dj, hdj, _, hdd2⟩ := hdst j (hfl j hj).1.1.2
              rw [h.2] at hdj
              injection hdj with hdj
              subst hdj
              have hkj : k = j := by
                apply Classical.byContradiction
                intro hne
                exact hdd2 k (hfl k hk).1.1.2 hne h4
              rw [hkj, hwt j h.1] at h3
              cases h3
          · have h' : ∀ j ∈ fl, dstOf ops j ≠ some t := fun j hj => by simpa using h.1 j hj
            rw [hout t h', ← ho t (fun j hj e => by
              rcases h.2 j (by rw [hdn]; exact List.mem_append_left _ hj) with h5 | h5
              · exact absurd e (by simpa using h5)
              · have := hC j hj i h5
                rw [hui] at this
                cases this) h']
            rcases hrel t with h3 | ⟨k, hk, _, h4⟩
            · exact h3.symm
            · exact absurd h4 (h' k hk)
        have hrun' : (execOp a.eval o).run P w = .ok (.value (c i)) w := by rw [← hcong _ hA0a]; exact hrun
        unfold wpOp
        rw [hoi]
        simp only [Region.wanted, hg, if_true]
        left
        unfold Oper.wp
        rw [hrun']
        simp only [Oper.upon]
        refine ih (listed.setIfInBounds i true) (a.put o.dst (c i)) w dn rest A (by simp [hsz]) hcnt' hw hS hdn (fun x hx => by rw [hset]; split; rfl; exact hdl x hx) ?_ ?_ (by rw [put_size, hs]) hs0 hv ho (fun j hj k hk => by rw [hset]; split; rfl; exact hC j hj k hk) ?_
        · intro x hx
          rw [hset, if_neg (fun e => hflsp i hf1 (by rw [hdn, ← e]; exact List.mem_append_right _ hx))]
          exact hrest x hx
        · rw [← hd]; cases o.dst <;> rfl
        · intro t
          by_cases e : dstOf ops i = some t
          · left
            have h2 := hv i hf1
            unfold valAt at h2
            rw [e] at h2
            rw [hdo] at e
            injection e with e
            subst e
            rw [hdo', put_same _ _ _ (by rw [hs, hs0]; exact hdlt)]
            exact h2.symm
          · rw [put_other _ _ _ _ (by rw [hdo', ← hdo]; exact e)]
            rcases hrel t with h3 | ⟨k, hk, h3, h4⟩
            · exact .inl h3
            · refine .inr ⟨k, hk, ?_, h4⟩
              rw [hset, if_neg (fun e2 => e (by rw [← e2]; exact h4))]
              exact h3
      · -- one of the row
        have hs1 : i ∈ sp := by
          rcases hcov i hlt with h | h
          · exact h
          · exact absurd h hf1
        have hhead : ∃ is, rest = i :: is := by
          have hmem : i ∈ dn ++ rest := by rw [← hdn]; exact hs1
          rcases List.mem_append.1 hmem with h | h
          · rw [hdl i h] at hui; cases hui
          · cases rest with
            | nil => cases h
            | cons x is =>
              by_cases e : i = x
              · exact ⟨is, by rw [e]⟩
              · exfalso
                have hmi : i ∈ is := by
                  rcases List.mem_cons.1 h with h | h
                  · exact absurd h e
                  · exact h
                obtain ⟨u, t, hut⟩ := List.append_of_mem hmi
                obtain ⟨pre, y, hy⟩ : ∃ pre y, x :: u = pre ++ [y] := ⟨(x :: u).dropLast, (x :: u).getLast (by simp), (List.dropLast_concat_getLast (by simp)).symm⟩
                have hsp2 : sp = (dn ++ pre) ++ y :: i :: t := by
                  rw [hdn, hut, ← List.cons_append, hy]
                  simp
                have hwy : waitsB ops i y = true := chain_at (d := dn ++ pre) (l := t) (by rw [← hsp2]; exact hch)
                have hyr : y ∈ x :: is := by
                  rw [hut, ← List.cons_append, hy]
                  simp
                have := hrest y hyr
                rw [hwt y hwy] at this
                cases this
        obtain ⟨is, rfl⟩ := hhead
        obtain ⟨o3, ho3, hg, hwp⟩ := hS
        rw [hoi] at ho3
        injection ho3 with ho3
        subst ho3
        have hAa : ∀ t ∈ operandsOf ops i, A.tmps.getD t undef = a.tmps.getD t undef := by
          intro t ht
          rcases hrel t with h3 | ⟨k, hk, h3, h4⟩
          · exact h3.symm
          · exfalso
            rcases hso i hs1 t ht k hk with h | h
            · exact absurd h4 (by simpa using h)
            · rw [hwt k h] at h3; cases h3
        unfold wpOp
        rw [hoi]
        simp only [Region.wanted, hg, if_true]
        left
        refine wp_two (hcong A hAa) hwp ?_
        rintro v w' ⟨hw', hS'⟩
        refine ih (listed.setIfInBounds i true) (a.put o.dst v) w' (dn ++ [i]) is (A.put o.dst v) (by simp [hsz]) hcnt' hw' hS' (by rw [hdn]; simp) (fun x hx => by
          rw [hset]
          split
          · rfl
          · rename_i hne
            rcases List.mem_append.1 hx with h | h
            · exact hdl x h
            · exact absurd (by simpa using h) hne) ?_ ?_ (by rw [put_size, put_size, hs]) (by rw [put_size, hs0]) ?_ ?_ ?_ ?_
        · intro x hx
          have hne : x ≠ i := by
            intro e
            subst e
            rw [hdn] at hnd
            have := (List.nodup_append.1 hnd).2.1
            exact (List.nodup_cons.1 this).1 hx
          rw [hset, if_neg hne]
          exact hrest x (.tail _ hx)
        · cases o.dst <;> exact hd
        · intro j hj
          rw [← hv j hj]
          unfold valAt
          cases hjd : dstOf ops j with
          | none => rfl
          | some dj =>
            simp only
            refine put_other _ _ _ _ ?_
            rw [hdo']
            intro e
            have hji : j ≠ i := fun e2 => hf1 (by rw [← e2]; exact hj)
            exact hdd j (hfl j hj).1.1.2 hji (by rw [hjd]; exact e.symm)
        · intro t ht ht2
          rw [put_other _ _ _ _ (by rw [hdo', ← hdo]; exact ht i (by simp))]
          exact ho t (fun j hj => ht j (List.mem_append_left _ hj)) ht2
        · intro j hj k hk
          rw [hset]
          split
          · rfl
          · rcases List.mem_append.1 hj with h | h
            · exact hC j h k hk
            · have : j = i := by simpa using h
              subst this
              exact hwt k hk
        · intro t
          by_cases e : o.dst = some t
          · left
            rw [e]
            rw [hdo'] at e
            injection e with e
            subst e
            rw [put_same _ _ _ (by rw [hs, hs0]; exact hdlt), put_same _ _ _ (by rw [hs0]; exact hdlt)]
          · rw [put_other _ _ _ _ e, put_other _ _ _ _ e]
            rcases hrel t with h3 | ⟨k, hk, h3, h4⟩
            · exact .inl h3
            · refine .inr ⟨k, hk, ?_, h4⟩
              rw [hset, if_neg (fun e2 => hf1 (by rw [← e2]; exact hk))]
              exact h3
  refine wp_region_any hm ?_
  refine main ops.size (Array.replicate ops.size false) a0 w0.drew [] sp (putL ops c fl a0) (by simp) ?_ hW fin rfl (fun x hx => by cases hx) ?_ (putL_defers c fl a0).symm (putL_size c fl a0).symm (putL_size c fl a0) hA0 (fun t _ h => hout t h) (fun j hj => by cases hj) ?_
  · exact Nat.le_trans (List.length_filter_le _ _) (by simp)
  · intro i hi
    rw [Array.getD_eq_getD_getElem?, Array.getElem?_eq_getElem (by simpa using hspl i hi)]
    simp
  · intro t
    by_cases e : ∃ j ∈ fl, dstOf ops j = some t
    · obtain ⟨j, hj, hjd⟩ := e
      refine .inr ⟨j, hj, ?_, hjd⟩
      rw [Array.getD_eq_getD_getElem?, Array.getElem?_eq_getElem (by simpa using (hfl j hj).1.1.2)]
      simp
    · left
      exact (slotO fl (List.all_eq_true.2 fun k hk => by
        have : dstOf ops k ≠ some t := fun h => e ⟨k, hk, h⟩
        simpa using this)).symm
def putA : List (Nat × Tmp × Value) → Act → Act
  | [], a => a
  | x :: l, a => putA l (a.put (some x.2.1) x.2.2)
def valOf (fl : List (Nat × Tmp × Value)) (i : Nat) : Value := ((fl.find? fun y => y.1 == i).map (·.2.2)).getD undef
theorem valOf_mem : ∀ (fl : List (Nat × Tmp × Value)), (fl.map (·.1)).Nodup → ∀ x ∈ fl, valOf fl x.1 = x.2.2
  | [], _, x, h => by cases h
  | y :: l, hn, x, h => by
    rw [List.map_cons, List.nodup_cons] at hn
    unfold valOf
    rw [List.find?_cons]
    by_cases e : y.1 = x.1
    · have hx : x = y := by
        rcases List.mem_cons.1 h with h | h
        · exact h
        · exact absurd (by rw [e]; exact List.mem_map_of_mem h) hn.1
      subst hx
      simp
    · have e2 : (y.1 == x.1) = false := by simpa using e
      rw [e2]
      simp only
      rcases List.mem_cons.1 h with h | h
      · exact absurd (by rw [h]) e
      · exact valOf_mem l hn.2 x h
theorem putL_putA (c : Nat → Value) : ∀ (fl : List (Nat × Tmp × Value)) (a : Act), (∀ x ∈ fl, c x.1 = x.2.2 ∧ dstOf ops x.1 = some x.2.1) → putL ops c (fl.map (·.1)) a = putA fl a
  | [], a, _ => rfl
  | x :: l, a, h => by
    rw [List.map_cons]
    unfold putL putA
    rw [(h x (.head _)).1, (h x (.head _)).2]
    exact putL_putA c l _ fun y hy => h y (.tail _ hy)
/-- region_spine, by a list of places, slots and values. -/
theorem region_by_spine {id : Nat} (sp : List Nat) (fl : List (Nat × Tmp × Value)) (W : World → Prop) (hm : P.follows .mixedOrders = true) (hreg : regB ops a0.tmps.size = true) (hsp : spineB ops sp (fl.map (·.1)) = true)
    (hd : (fl.map fun x => dstOf ops x.1) = fl.map fun x => some x.2.1) (hn : decide ((fl.map (·.1)).Nodup) = true) (hW : W w0.drew)
    (hF : ∀ x ∈ fl, ∀ w ρ, W w → (∀ t, ρ (.tmp t) = (putA fl a0).tmps.getD t undef) → (∀ c, ρ (.const c) = c) → ∃ o, ops[x.1]? = some o ∧ (execOp ρ o).run P w = .ok (.value x.2.2) w)
    (fin : SpineW P ops Q W sp (putA fl a0) w0.drew) : (Code.region id ops true).wp P Q a0 w0 := by
  have hall : ∀ x ∈ fl, valOf fl x.1 = x.2.2 ∧ dstOf ops x.1 = some x.2.1 := fun x hx => ⟨valOf_mem fl (of_decide_eq_true hn) x hx, by
    obtain ⟨k, hk, rfl⟩ := List.getElem_of_mem hx
    have := congrArg (fun l => l[k]?) hd
    simpa [hk] using this⟩
  have he := putL_putA (ops := ops) (valOf fl) fl a0 hall
  refine region_spine sp (fl.map (·.1)) (valOf fl) W hm hreg hsp hW ?_ (by rw [he]; exact fin)
  intro i hi w hw
  obtain ⟨x, hx, rfl⟩ := List.mem_map.1 hi
  rw [(hall x hx).1, he]
  exact hF x hx w _ hw (fun t => rfl) (fun c => rfl)
end
end Go.Proofs.YtdppnggchpchgaaDoor
