/- What is reached: steps over seen and work. No conditions. -/
import Derived.Test.YtkkjnahjmomjgaaGrA
namespace Go.Proofs.Ytkkjnahjmomjgaa
set_option linter.unusedVariables false
set_option linter.unusedSimpArgs false
open Go.RowKit
theorem hasG_iff {N : Nat} {p : Int} : hasG N p = true ↔ 1 ≤ p ∧ p ≤ (N : Int) := decide_eq_true_iff
def seenG (s : List Bool) (p : Int) : Bool := s.getD (p - 1).toNat true
def stepS (N : Nat) (s : List Bool × List Int) (p : Int) : List Bool × List Int := if (hasG N p && !seenG s.1 p) = true then (s.1.set (p - 1).toNat true, s.2 ++ [p]) else s
/-- The pointers of a node. -/
def ptrsG (ns : List Nv) (p : Int) : List Int := match ns[(p - 1).toNat]? with | some x => x.ps | none => []
inductive Rch (ns : List Nv) (fr : List Int) : Int → Prop
  | base (p : Int) : p ∈ fr → hasG ns.length p = true → Rch ns fr p
  | step (p q : Int) : Rch ns fr p → q ∈ ptrsG ns p → hasG ns.length q = true → Rch ns fr q
theorem Rch.has {ns : List Nv} {fr : List Int} {p : Int} (h : Rch ns fr p) : hasG ns.length p = true := by cases h <;> assumption
/-- Seen: all that is seen is reached; what is seen is in the work, or what it points at is seen (but for what is behind t). -/
structure Inv (ns : List Nv) (fr : List Int) (seen : List Bool) (work : List Int) (open_ : Int → Prop) : Prop where
  len : seen.length = ns.length
  ok : ∀ p, hasG ns.length p = true → seenG seen p = true → Rch ns fr p
  next : ∀ p, hasG ns.length p = true → seenG seen p = true → p ∈ work ∨ open_ p ∨ ∀ q ∈ ptrsG ns p, hasG ns.length q = true → seenG seen q = true
  has : ∀ p ∈ work, hasG ns.length p = true ∧ seenG seen p = true
theorem seen_set {N : Nat} {s : List Bool} (hs : s.length = N) {p q : Int} (hp : hasG N p = true) (hq : hasG N q = true) : seenG (s.set (p - 1).toNat true) q = if q = p then true else seenG s q := by
  have h1 := hasG_iff.1 hp
  have h2 := hasG_iff.1 hq
  unfold seenG
  rw [List.getD_eq_getElem?_getD, List.getElem?_set, List.getD_eq_getElem?_getD]
  by_cases e : q = p
  · subst e
    rw [if_pos rfl, if_pos (by omega), if_pos rfl]; rfl
  · rw [if_neg (by omega), if_neg e]
theorem step_len {N : Nat} {s : List Bool × List Int} {p : Int} : (stepS N s p).1.length = s.1.length := by
  unfold stepS; split
  · rw [List.length_set]
  · rfl
theorem steps_len {N : Nat} (l : List Int) : ∀ (s : List Bool × List Int), (l.foldl (stepS N) s).1.length = s.1.length := by
  induction l with
  | nil => intro s; rfl
  | cons p r ih => intro s; rw [List.foldl_cons, ih, step_len]
/-- How much is left: nodes that are not seen count twice. -/
def leftG (s : List Bool × List Int) : Nat := 2 * s.1.count false + s.2.length
theorem count_set (s : List Bool) (i : Nat) (h : s[i]? = some false) : (s.set i true).count false + 1 = s.count false := by
  induction s generalizing i with
  | nil => cases h
  | cons x r ih =>
    cases i with
    | zero =>
      have : x = false := by simpa using h
      subst this
      simp
    | succ i =>
      have := ih i (by simpa using h)
      rw [List.set_cons_succ, List.count_cons, List.count_cons]
      omega
theorem step_left {N : Nat} {s : List Bool × List Int} (hs : s.1.length = N) (p : Int) : leftG (stepS N s p) ≤ leftG s := by
  unfold stepS
  split
  · rename_i h
    rw [Bool.and_eq_true] at h
    have h1 := hasG_iff.1 h.1
    have h2 : seenG s.1 p = false := by simpa using h.2
    unfold seenG at h2
    rw [List.getD_eq_getElem?_getD, List.getElem?_eq_getElem (by omega)] at h2
    have h3 := count_set s.1 (p - 1).toNat (by rw [List.getElem?_eq_getElem (by omega)]; exact congrArg some h2)
    unfold leftG
    simp only [List.length_append, List.length_cons, List.length_nil]
    omega
  · exact Nat.le_refl _
theorem steps_left {N : Nat} (l : List Int) : ∀ (s : List Bool × List Int), s.1.length = N → leftG (l.foldl (stepS N) s) ≤ leftG s := by
  induction l with
  | nil => intro s _; exact Nat.le_refl _
  | cons p r ih =>
    intro s hs
    rw [List.foldl_cons]
    exact Nat.le_trans (ih _ (by rw [step_len]; exact hs)) (step_left hs p)
theorem steps_inv {ns : List Nv} {fr : List Int} {op : Int → Prop} : ∀ (l : List Int) (s : List Bool × List Int), Inv ns fr s.1 s.2 op → (∀ q ∈ l, hasG ns.length q = true → Rch ns fr q) →
    Inv ns fr (l.foldl (stepS ns.length) s).1 (l.foldl (stepS ns.length) s).2 op ∧ (∀ q ∈ l, hasG ns.length q = true → seenG (l.foldl (stepS ns.length) s).1 q = true) ∧ (∀ q, hasG ns.length q = true → seenG s.1 q = true → seenG (l.foldl (stepS ns.length) s).1 q = true)
  | [], s, h, _ => ⟨h, fun q hq => (by cases hq), fun q _ h => h⟩
  | p :: r, s, h, hr => by
    rw [List.foldl_cons]
    have key : Inv ns fr (stepS ns.length s p).1 (stepS ns.length s p).2 op ∧ (hasG ns.length p = true → seenG (stepS ns.length s p).1 p = true) ∧ (∀ q, hasG ns.length q = true → seenG s.1 q = true → seenG (stepS ns.length s p).1 q = true) := by
      unfold stepS
      by_cases c : (hasG ns.length p && !seenG s.1 p) = true
      · rw [if_pos c]
        rw [Bool.and_eq_true] at c
        have hset : ∀ q, hasG ns.length q = true → seenG (s.1.set (p - 1).toNat true) q = if q = p then true else seenG s.1 q := fun q hq => seen_set h.len c.1 hq
        have hold : ∀ q, hasG ns.length q = true → seenG s.1 q = true → seenG (s.1.set (p - 1).toNat true) q = true := fun q h1 h2 => by rw [hset q h1]; split <;> simp [*]
        refine ⟨⟨by rw [List.length_set]; exact h.len, fun q hq hs => ?_, fun q hq hs => ?_, fun q hq => ?_⟩, fun _ => by rw [hset p c.1, if_pos rfl], hold⟩
        · rw [hset q hq] at hs
          by_cases e : q = p
          · rw [e]; exact hr p (by simp) c.1
          · rw [if_neg e] at hs; exact h.ok q hq hs
        · rw [hset q hq] at hs
          by_cases e : q = p
          · exact .inl (by simp [e])
          · rw [if_neg e] at hs
            rcases h.next q hq hs with h1 | h1 | h1
            · exact .inl (by simp [h1])
            · exact .inr (.inl h1)
            · exact .inr (.inr (fun u hu hhu => hold u hhu (h1 u hu hhu)))
        · rcases List.mem_append.1 hq with h1 | h1
          · obtain ⟨g1, g2⟩ := h.has q h1
            exact ⟨g1, hold q g1 g2⟩
          · obtain rfl : q = p := by simpa using h1
            exact ⟨c.1, by rw [hset q c.1, if_pos rfl]⟩
      · rw [if_neg c]
        refine ⟨h, fun hp => ?_, fun q _ h => h⟩
        rw [Bool.and_eq_true, not_and] at c
        have := c hp
        simpa using this
    obtain ⟨k1, k2, k3⟩ := key
    obtain ⟨i1, i2, i3⟩ := steps_inv r (stepS ns.length s p) k1 (fun q hq => hr q (by simp [hq]))
    refine ⟨i1, fun q hq hh => ?_, fun q hh hs => i3 q hh (k3 q hh hs)⟩
    rcases List.mem_cons.1 hq with e | hq
    · subst e; exact i3 q hh (k2 hh)
    · exact i2 q hq hh
/-- At the end. -/
theorem inv_end {ns : List Nv} {fr : List Int} {seen : List Bool} (h : Inv ns fr seen [] (fun _ => False)) (hf : ∀ q ∈ fr, hasG ns.length q = true → seenG seen q = true) : ∀ p, hasG ns.length p = true → (seenG seen p = true ↔ Rch ns fr p) := by
  intro p hp
  refine ⟨h.ok p hp, fun hr => ?_⟩
  induction hr with
  | base p h1 h2 => exact hf p h1 h2
  | step p q h1 h2 h3 ih =>
    rcases h.next p h1.has (ih h1.has) with e | e | e
    · cases e
    · exact e.elim
    · exact e q h2 h3
theorem inv_start (ns : List Nv) (fr : List Int) : Inv ns fr (List.replicate ns.length false) [] (fun _ => False) := by
  have hno : ∀ p, hasG ns.length p = true → seenG (List.replicate ns.length false) p = false := fun p hp => by
    have := hasG_iff.1 hp
    unfold seenG
    rw [List.getD_eq_getElem?_getD, List.getElem?_replicate, if_pos (by omega)]; rfl
  refine ⟨List.length_replicate, fun p hp h => ?_, fun p hp h => ?_, fun p h => by cases h⟩
  · rw [hno p hp] at h; cases h
  · rw [hno p hp] at h; cases h
/-- One is taken off the work. -/
theorem inv_pop {ns : List Nv} {fr : List Int} {seen : List Bool} {work : List Int} {p : Int} (h : Inv ns fr seen (work ++ [p]) (fun _ => False)) : Inv ns fr seen work (fun q => q = p) :=
  ⟨h.len, h.ok, fun q hq hs => by
    rcases h.next q hq hs with e | e | e
    · rcases List.mem_append.1 e with e | e
      · exact .inl e
      · exact .inr (.inl (by simpa using e))
    · exact e.elim
    · exact .inr (.inr e), fun q hq => h.has q (by simp [hq])⟩
theorem inv_round {ns : List Nv} {fr : List Int} {seen : List Bool} {work : List Int} {p : Int} (h : Inv ns fr seen (work ++ [p]) (fun _ => False)) :
    Inv ns fr ((ptrsG ns p).foldl (stepS ns.length) (seen, work)).1 ((ptrsG ns p).foldl (stepS ns.length) (seen, work)).2 (fun _ => False) ∧ (∀ q, hasG ns.length q = true → seenG seen q = true → seenG ((ptrsG ns p).foldl (stepS ns.length) (seen, work)).1 q = true) := by
  have hp := h.has p (by simp)
  have hrp := h.ok p hp.1 hp.2
  obtain ⟨i1, i2, i3⟩ := steps_inv (ptrsG ns p) (seen, work) (inv_pop h) (fun q hq hh => .step p q hrp hq hh)
  refine ⟨⟨i1.len, i1.ok, fun q hq hs => ?_, i1.has⟩, i3⟩
  rcases i1.next q hq hs with e | e | e
  · exact .inl e
  · subst e
    exact .inr (.inr (fun u hu hh => i2 u hu hh))
  · exact .inr (.inr e)
end Go.Proofs.Ytkkjnahjmomjgaa
