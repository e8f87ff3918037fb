/- The reference's Pick: what it makes (pure); that it makes Trim's rows of what is seen in rising order. No conditions. -/
import Derived.Test.YtkkjnahjmomjgaaGrW
import Derived.Test.YtkkjnahjmomjgaaGrC
import Derived.Test.YtkkjnahjmomjgaaGrG
import Derived.Test.YtkkjnahjmomjgaaGrT
namespace Go.Proofs.Ytkkjnahjmomjgaa
set_option linter.unusedVariables false
set_option linter.unusedSimpArgs false
open Go.RowKit Go.Maps
theorem okP_iff {N : Nat} {p : Int} : okP N p = true ↔ 0 ≤ p ∧ p ≤ (N : Int) := by
  unfold okP hasG
  simp
  omega
/-- The place of p in a list, counted from 1; 0 where it is not. -/
def posO : List Int → Int → Nat → Int
  | [], _, _ => 0
  | x :: r, p, c => if x = p then (c : Int) + 1 else posO r p (c + 1)
def newO (order : List Int) (p : Int) : Int := posO order p 0
theorem posO_no {l : List Int} {p : Int} (h : p ∉ l) : ∀ c, posO l p c = 0 := by
  induction l with
  | nil => intro c; rfl
  | cons x r ih =>
    intro c
    unfold posO
    rw [if_neg (fun e => h (by simp [e])), ih (fun e => h (by simp [e]))]
theorem posO_end {p : Int} : ∀ (l : List Int) (c : Nat), p ∉ l → posO (l ++ [p]) p c = ((c + l.length : Nat) : Int) + 1
  | [], c, _ => by simp [posO]
  | x :: r, c, h => by
    have h1 : ¬ x = p := fun e => h (by simp [e])
    show (if x = p then _ else posO (r ++ [p]) p (c + 1)) = _
    rw [if_neg h1, posO_end r (c + 1) (fun e => h (by simp [e])), List.length_cons]
    congr 1
    omega
theorem posO_old {p y : Int} (hy : y ≠ p) : ∀ (l : List Int) (c : Nat), posO (l ++ [y]) p c = posO l p c
  | [], c => by simp [posO, hy]
  | x :: r, c => by
    show (if x = p then _ else posO (r ++ [y]) p (c + 1)) = (if x = p then _ else posO r p (c + 1))
    rw [posO_old hy r (c + 1)]
theorem newO_zero {l : List Int} (h : ∀ p ∈ l, 1 ≤ p) : newO l 0 = 0 := posO_no (fun e => by have := h 0 e; omega) 0
def toO (N : Nat) (order : List Int) : List Int := (List.range N).map fun (i : Nat) => newO order ((i : Int) + 1)
theorem toO_len (N : Nat) (l : List Int) : (toO N l).length = N := by simp [toO]
theorem toO_nil (N : Nat) : toO N [] = List.replicate N 0 := by
  refine List.ext_getElem (by simp [toO]) fun i h1 h2 => ?_
  simp [toO, newO, posO]
theorem toO_get {N : Nat} {l : List Int} {n : Nat} (h : n < N) : (toO N l)[n]? = some (newO l ((n : Int) + 1)) := by
  simp [toO, h]
theorem toO_step {N : Nat} {l : List Int} {n : Nat} (hn : n < N) (h : ((n : Int) + 1) ∉ l) : (toO N l).set n ((l.length : Int) + 1) = toO N (l ++ [(n : Int) + 1]) := by
  refine List.ext_getElem (by simp [toO]) fun i h1 h2 => ?_
  rw [List.getElem_set]
  have e2 : (toO N (l ++ [(n : Int) + 1]))[i] = newO (l ++ [(n : Int) + 1]) ((i : Int) + 1) := by simp [toO]
  rw [e2]
  unfold newO
  by_cases e : n = i
  · subst e
    rw [if_pos rfl, posO_end l 0 h]; simp
  · rw [if_neg e, posO_old (by omega)]
    simp [toO, newO]
/-- A node by its number, under the order's numbers. -/
def pick1 (ns : List Nv) (order : List Int) (p : Int) : List Int × List (BitVec 8) := match ns[(p - 1).toNat]? with | some x => (x.ps.map (newO order), x.bs) | none => ([], [])
def pickN (ns : List Nv) (order part : List Int) : List (List Int × List (BitVec 8)) := part.map (pick1 ns order)
theorem pick1_at {ns : List Nv} {order : List Int} {n : Nat} (h : n < ns.length) : pick1 ns order ((n : Int) + 1) = ((ns[n]).ps.map (newO order), (ns[n]).bs) := by
  unfold pick1
  rw [show ((n : Int) + 1 - 1).toNat = n by omega, List.getElem?_eq_getElem h]
/-- What is seen, in rising order. -/
def ordB : List Bool → Nat → List Int
  | [], _ => []
  | b :: r, i => if b = true then ((i : Int) + 1) :: ordB r (i + 1) else ordB r (i + 1)
theorem ordB_ge : ∀ (L : List Bool) (i : Nat), ∀ p ∈ ordB L i, (i : Int) + 1 ≤ p ∧ p ≤ ((i + L.length : Nat) : Int)
  | [], _, p, h => by cases h
  | b :: r, i, p, h => by
    unfold ordB at h
    cases b
    · rw [if_neg (by simp)] at h
      have := ordB_ge r (i + 1) p h
      simp only [List.length_cons]; omega
    · rw [if_pos rfl] at h
      rcases List.mem_cons.1 h with rfl | h
      · simp only [List.length_cons]; omega
      · have := ordB_ge r (i + 1) p h
        simp only [List.length_cons]; omega
theorem ordB_nodup : ∀ (L : List Bool) (i : Nat), (ordB L i).Nodup
  | [], _ => List.nodup_nil
  | b :: r, i => by
    unfold ordB
    cases b
    · rw [if_neg (by simp)]; exact ordB_nodup r (i + 1)
    · rw [if_pos rfl, List.nodup_cons]
      exact ⟨fun h => by have := ordB_ge r (i + 1) _ h; omega, ordB_nodup r (i + 1)⟩
theorem ordB_snoc (b : Bool) : ∀ (L : List Bool) (i : Nat), ordB (L ++ [b]) i = ordB L i ++ (if b = true then [((i + L.length : Nat) : Int) + 1] else [])
  | [], i => by cases b <;> simp [ordB]
  | a :: r, i => by
    simp only [List.cons_append, ordB]
    rw [ordB_snoc b r (i + 1), List.length_cons]
    have e : i + 1 + r.length = i + (r.length + 1) := by omega
    rw [e]
    cases a <;> simp
/-- Its places are Trim's new numbers. -/
theorem ordB_pairs (p : Int) : ∀ (L : List Bool) (i c : Nat), posO (ordB L i) p c = (lookI (pairsB L i c) p).getD 0
  | [], _, _ => rfl
  | b :: r, i, c => by
    unfold ordB pairsB
    cases b
    · rw [if_neg (by simp), if_neg (by simp)]; exact ordB_pairs p r (i + 1) c
    · rw [if_pos rfl, if_pos rfl]
      unfold posO lookI
      by_cases e : (i : Int) + 1 = p
      · rw [if_pos e]; simp [e]
      · rw [if_neg e, ordB_pairs p r (i + 1) (c + 1)]; simp [e]
theorem ordB_toB : ∀ (L : List Bool) (i c k : Nat), k < L.length → (toB L c)[k]? = some (posO (ordB L i) ((i : Int) + k + 1) c)
  | [], _, _, _, h => absurd h (by simp)
  | b :: r, i, c, 0, _ => by
    unfold toB ordB
    cases b
    · rw [if_neg (by simp), if_neg (by simp), posO_no (fun h => by have := ordB_ge r (i + 1) _ h; omega)]; rfl
    · rw [if_pos rfl, if_pos rfl]
      unfold posO
      rw [if_pos (by omega)]; rfl
  | b :: r, i, c, k + 1, h => by
    have hk : k < r.length := by simpa using h
    have e1 : (i : Int) + ((k + 1 : Nat) : Int) + 1 = ((i + 1 : Nat) : Int) + (k : Int) + 1 := by omega
    unfold toB ordB
    cases b
    · rw [if_neg (by simp), if_neg (by simp), e1]
      exact ordB_toB r (i + 1) c k hk
    · rw [if_pos rfl, if_pos rfl, e1]
      unfold posO
      rw [if_neg (by omega)]
      exact ordB_toB r (i + 1) (c + 1) k hk
theorem toO_ordB {N : Nat} {L : List Bool} (h : L.length = N) : toO N (ordB L 0) = toB L 0 := by
  refine List.ext_getElem? fun k => ?_
  by_cases hk : k < N
  · rw [toO_get hk, ordB_toB L 0 0 k (by omega)]
    unfold newO
    congr 2
    omega
  · rw [List.getElem?_eq_none (by rw [toO_len]; omega), List.getElem?_eq_none (by rw [toB_len]; omega)]
theorem trim_pick (now : List (Int × Int)) (ns : List Nv) : ∀ (L : List Bool) (i : Nat), (ns.drop i).length = L.length → trimN now (ns.drop i) L = (ordB L i).map fun p => match ns[(p - 1).toNat]? with | some x => (x.ps.map (newP now), x.bs) | none => ([], [])
  | [], i, h => by
    have : ns.drop i = [] := List.eq_nil_of_length_eq_zero (by simpa using h)
    rw [this]; rfl
  | b :: r, i, h => by
    have hi : i < ns.length := by rw [List.length_drop, List.length_cons] at h; omega
    have hd : ns.drop i = ns[i] :: ns.drop (i + 1) := List.drop_eq_getElem_cons hi
    have ih := trim_pick now ns r (i + 1) (by rw [hd, List.length_cons, List.length_cons] at h; omega)
    rw [hd]
    unfold trimN ordB
    cases b
    · rw [if_neg (by simp), if_neg (by simp), ih]
    · rw [if_pos rfl, if_pos rfl, ih, List.map_cons]
      rw [show ((i : Int) + 1 - 1).toNat = i by omega, List.getElem?_eq_getElem hi]
theorem newO_pairs (L : List Bool) (p : Int) : newO (ordB L 0) p = newP (pairsB L 0 0) p := ordB_pairs p L 0 0
theorem pick_trim {ns : List Nv} {L : List Bool} (h : L.length = ns.length) : pickN ns (ordB L 0) (ordB L 0) = trimN (pairsB L 0 0) ns L := by
  have := trim_pick (pairsB L 0 0) ns L 0 (by simp [h])
  rw [List.drop_zero] at this
  rw [this]
  unfold pickN
  refine List.map_congr_left fun p _ => ?_
  unfold pick1
  cases ns[(p - 1).toNat]? with
  | none => rfl
  | some x =>
    simp only [Prod.mk.injEq, and_true]
    exact List.map_congr_left fun q _ => newO_pairs L q
theorem ordB_len : ∀ (L : List Bool) (i : Nat), (ordB L i).length ≤ L.length
  | [], _ => Nat.le_refl _
  | b :: r, i => by
    have h := ordB_len r (i + 1)
    unfold ordB
    split
    · simp only [List.length_cons]; omega
    · simp only [List.length_cons]; omega
end Go.Proofs.Ytkkjnahjmomjgaa
