/- What Trim makes of a row of bools. No conditions. -/
import Derived.Test.YtkkjnahjmomjgaaGrS
namespace Go.Proofs.Ytkkjnahjmomjgaa
set_option linter.unusedVariables false
set_option linter.unusedSimpArgs false
open Go.RowKit Go.Maps
/-- Old numbers and new ones of what is reached. -/
def pairsB : List Bool → Nat → Nat → List (Int × Int)
  | [], _, _ => []
  | b :: r, i, c => if b = true then ((i : Int) + 1, (c : Int) + 1) :: pairsB r (i + 1) (c + 1) else pairsB r (i + 1) c
def toB : List Bool → Nat → List Int
  | [], _ => []
  | b :: r, c => if b = true then ((c : Int) + 1) :: toB r (c + 1) else 0 :: toB r c
def trimN (now : List (Int × Int)) : List Nv → List Bool → List (List Int × List (BitVec 8))
  | x :: r, b :: l => if b = true then (x.ps.map (newP now), x.bs) :: trimN now r l else trimN now r l
  | _, _ => []
theorem pairs_len (L : List Bool) : ∀ i c, (pairsB L i c).length = L.count true := by
  induction L with
  | nil => intro i c; rfl
  | cons b r ih =>
    intro i c
    unfold pairsB
    cases b
    · rw [if_neg (by simp), ih]; simp
    · rw [if_pos rfl, List.length_cons, ih]; simp
theorem pairs_snoc (b : Bool) (L : List Bool) : ∀ i c, pairsB (L ++ [b]) i c = pairsB L i c ++ (if b = true then [(((i + L.length : Nat) : Int) + 1, ((c + L.count true : Nat) : Int) + 1)] else []) := by
  induction L with
  | nil => intro i c; cases b <;> simp [pairsB]
  | cons a r ih =>
    intro i c
    simp only [List.cons_append, pairsB]
    cases a
    · simp only [Bool.false_eq_true, if_false]
      rw [ih]
      simp only [List.length_cons, List.count_cons]
      have e : i + 1 + r.length = i + (r.length + 1) := by omega
      rw [e]
      simp
    · simp only [if_true]
      rw [ih]
      simp only [List.length_cons, List.count_cons, List.cons_append]
      have e : i + 1 + r.length = i + (r.length + 1) := by omega
      have e2 : c + 1 + r.count true = c + (r.count true + 1) := by omega
      rw [e, e2]
      simp
theorem pairs_keys (L : List Bool) : ∀ i c, ∀ p ∈ pairsB L i c, (i : Int) + 1 ≤ p.1 ∧ p.1 ≤ ((i + L.length : Nat) : Int) ∧ 1 ≤ p.2 ∧ p.2 ≤ ((c + L.length : Nat) : Int) := by
  induction L with
  | nil => intro i c p h; cases h
  | cons b r ih =>
    intro i c p h
    unfold pairsB at h
    cases b
    · rw [if_neg (by simp)] at h
      have := ih _ _ p h
      simp only [List.length_cons]
      omega
    · rw [if_pos rfl] at h
      rcases List.mem_cons.1 h with rfl | h
      · simp only [List.length_cons]; omega
      · have := ih _ _ p h
        simp only [List.length_cons]
        omega
theorem toB_len (L : List Bool) : ∀ c, (toB L c).length = L.length := by
  induction L with
  | nil => intro c; rfl
  | cons b r ih => intro c; unfold toB; cases b <;> simp [ih]
theorem toB_snoc (b : Bool) (L : List Bool) : ∀ c, toB (L ++ [b]) c = toB L c ++ [if b = true then ((c + L.count true : Nat) : Int) + 1 else 0] := by
  induction L with
  | nil => intro c; cases b <;> simp [toB]
  | cons a r ih =>
    intro c
    simp only [List.cons_append, toB]
    cases a
    · simp only [Bool.false_eq_true, if_false]
      rw [ih]; simp
    · simp only [if_true]
      rw [ih]
      have e2 : c + 1 + r.count true = c + (r.count true + 1) := by omega
      simp [e2]
theorem toB_get (L : List Bool) (k : Nat) (h : k < L.length) : ∀ c, (toB L c)[k]? = some (if L[k] = true then ((c + (L.take k).count true : Nat) : Int) + 1 else 0) := by
  intro c
  have e : L = L.take k ++ [L[k]] ++ L.drop (k + 1) := by rw [List.append_assoc, List.singleton_append, List.getElem_cons_drop, List.take_append_drop]
  have app : ∀ (a b : List Bool) c, toB (a ++ b) c = toB a c ++ toB b (c + a.count true) := by
    intro a b
    induction a with
    | nil => intro c; simp [toB]
    | cons x r ih =>
      intro c
      simp only [List.cons_append, toB]
      cases x
      · simp only [Bool.false_eq_true, if_false]
        rw [ih]; simp
      · simp only [if_true]
        rw [ih]
        have e2 : c + 1 + r.count true = c + (r.count true + 1) := by omega
        simp [e2]
  have h1 : toB L c = toB (L.take k) c ++ [if L[k] = true then ((c + (L.take k).count true : Nat) : Int) + 1 else 0] ++ toB (L.drop (k + 1)) (c + (L.take k ++ [L[k]]).count true) := by
    conv => lhs; rw [e]
    rw [app, toB_snoc]
  rw [h1, List.append_assoc, List.getElem?_append_right (by rw [toB_len, List.length_take]; omega), toB_len, List.length_take, show k - min k L.length = 0 by omega]
  rfl
theorem trimN_snoc (now : List (Int × Int)) (x : Nv) (b : Bool) : ∀ (ns : List Nv) (L : List Bool), ns.length = L.length → trimN now (ns ++ [x]) (L ++ [b]) = trimN now ns L ++ (if b = true then [(x.ps.map (newP now), x.bs)] else [])
  | [], [], _ => by cases b <;> simp [trimN]
  | y :: r, a :: l, h => by
    simp only [List.cons_append, trimN]
    rw [trimN_snoc now x b r l (by simpa using h)]
    cases a <;> simp
  | [], a :: l, h => by simp at h
  | y :: r, [], h => by simp at h
theorem put_pairs (L : List Bool) (k : Nat) (hk : k < L.length) (h : L[k] = true) : putI (pairsB (L.take k) 0 0) ((k : Int) + 1) (((pairsB (L.take k) 0 0).length : Int) + 1) = pairsB (L.take (k + 1)) 0 0 := by
  have hlen : (L.take k).length = k := by rw [List.length_take]; omega
  rw [List.take_succ_eq_append_getElem hk, pairs_snoc, h, if_pos rfl, pairs_len, hlen]
  rw [put_end _ _ _ (fun p hp => by
    have := pairs_keys (L.take k) 0 0 p hp
    rw [hlen] at this
    omega)]
  simp
theorem look_pairs (L : List Bool) (k : Nat) (hk : k < L.length) (h : L[k] = true) : (lookI (pairsB (L.take (k + 1)) 0 0) ((k : Int) + 1)).getD 0 = (((L.take k).count true : Nat) : Int) + 1 := by
  have hlen : (L.take k).length = k := by rw [List.length_take]; omega
  rw [List.take_succ_eq_append_getElem hk, pairs_snoc, h, if_pos rfl, hlen]
  rw [show (0 + k : Nat) = k by omega, look_mid _ [] _ _ (fun p hp => by
    have := pairs_keys (L.take k) 0 0 p hp
    rw [hlen] at this
    omega)]
  simp
end Go.Proofs.Ytkkjnahjmomjgaa
