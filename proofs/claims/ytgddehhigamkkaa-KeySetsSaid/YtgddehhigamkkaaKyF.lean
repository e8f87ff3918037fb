/- slices.SortFunc at rows of keys; slices.SortedFunc of a map's keys; slices.Clone. Conditions: lengths. -/
import Derived.Test.YtgddehhigamkkaaKyE
namespace Go.Proofs.Ytgddehhigamkkaa
set_option linter.unusedVariables false
set_option linter.unusedSimpArgs false
open Go.RowKit Go.Maps Go.Sort Go.Shelf
set_option maxRecDepth 100000
set_option maxHeartbeats 2000000
theorem cmpN_lt (p q : Int × Int) : cmpN p q < 0 ↔ p.1 < q.1 ∨ (p.1 = q.1 ∧ p.2 < q.2) := by
  unfold cmpN Lib.compareInt
  repeat' split
  all_goals omega
theorem ltN (p q : Int × Int) : ltOf cmpN p q = decide (p.1 < q.1 ∨ (p.1 = q.1 ∧ p.2 < q.2)) := by
  unfold ltOf
  rw [decide_eq_decide]
  exact cmpN_lt p q
theorem swoN : SWO (ltOf cmpN) where
  irrefl x := by rw [ltN]; simp
  trans x y z h1 h2 := by rw [ltN] at *; simp only [decide_eq_true_eq] at *; omega
  ntrans x y z h1 h2 := by rw [ltN] at *; simp only [decide_eq_false_iff_not] at *; omega
theorem totN : ∀ x y, ltOf cmpN x y = false → ltOf cmpN y x = false → x = y := by
  intro x y h1 h2
  rw [ltN] at h1 h2
  simp only [decide_eq_false_iff_not] at h1 h2
  exact Prod.ext (by omega) (by omega)
def kLe (x y : Int × Int) : Bool := !(ltOf cmpN) y x
def sortN (l : List (Int × Int)) : List (Int × Int) := l.mergeSort kLe
theorem kLe_iff (x y : Int × Int) : kLe x y = true ↔ ¬ (y.1 < x.1 ∨ (y.1 = x.1 ∧ y.2 < x.2)) := by
  unfold kLe
  rw [ltN, Bool.not_eq_true', decide_eq_false_iff_not]
theorem kLe_trans (a b c : Int × Int) (h1 : kLe a b = true) (h2 : kLe b c = true) : kLe a c = true := by
  rw [kLe_iff] at *; omega
theorem kLe_total (a b : Int × Int) : (kLe a b || kLe b a) = true := by
  rw [Bool.or_eq_true, kLe_iff, kLe_iff]; omega
theorem sortN_len (l : List (Int × Int)) : (sortN l).length = l.length := by unfold sortN; simp
theorem sortN_sorted (l : List (Int × Int)) : (sortN l).Pairwise (fun a b => kLe a b = true) := List.pairwise_mergeSort kLe_trans kLe_total l
theorem sortN_of {l l' : List (Int × Int)} (h : l'.Perm l) (hs : l'.Pairwise (fun a b => kLe a b = true)) : l' = sortN l := by
  refine List.Perm.eq_of_pairwise (le := fun a b => kLe a b = true) (fun a b _ _ h1 h2 => ?_) hs (sortN_sorted l) (h.trans (List.mergeSort_perm l kLe).symm)
  rw [kLe_iff] at h1 h2
  exact Prod.ext (by omega) (by omega)
theorem sortN_perm {l l' : List (Int × Int)} (h : l'.Perm l) : sortN l' = sortN l := sortN_of ((List.mergeSort_perm l' kLe).trans h) (sortN_sorted l')
theorem flat_eq (l : List (Int × Int)) : (Go.Sort.flatK cK 2 l.toArray).toList = flatK l := by
  apply List.ext_getElem?
  intro t
  by_cases ht : t < l.length * 2
  · have hj : t / 2 < l.length := by omega
    obtain ⟨f0, f1⟩ := flatK_at l (t / 2) hj
    have e : (Go.Sort.flatK cK 2 l.toArray).toList[t]? = some ((cK l[t / 2])[t % 2]!) := by
      simp [Go.Sort.flatK, ht, hj]
    rw [e]
    rcases Nat.mod_two_eq_zero_or_one t with h | h
    · rw [show 2 * (t / 2) = t from by omega] at f0
      rw [h, f0]; rfl
    · rw [show 2 * (t / 2) + 1 = t from by omega] at f1
      rw [h, f1]; rfl
  · rw [List.getElem?_eq_none (by simp; omega), List.getElem?_eq_none (by rw [flatK_len]; omega)]
theorem heap_sorted_v {w : World} {g n : Nat} {os : Array Obj} {cur : Array Value} {e : TypeId} {fr : Nat × Nat} (d : Array Value) (hb : w.heap[g]? = some (.cells cur e fr)) :
    (grow (putRow id (Sort.ahead w n) g 0 d) os).heap[g]? = some (.cells (putCells id 0 d cur) e fr) := by
  have hg : g < w.heap.size := (Array.getElem?_eq_some_iff.1 hb).1
  rw [heap_grow_old _ _ (by simpa using hg)]
  simp [putRow, mapBlock, Sort.ahead, Array.getElem?_modify, hb, onCells]
theorem grownBy_sorted_v {w : World} {g n : Nat} {os : Array Obj} (d : Array Value) : w.grownBy (grow (putRow id (Sort.ahead w n) g 0 d) os) (some g) := by
  refine ⟨rfl, rfl, rfl, by simp, fun k hk hne => ?_⟩
  rw [heap_grow_old _ _ (by simpa using hk)]
  have : g ≠ k := fun e => hne (by rw [e])
  simp [putRow, mapBlock, Sort.ahead, Array.getElem?_modify, this]
theorem take_putCells_v (cur : Array Value) (d : Array Value) (h : d.size ≤ cur.size) : (putCells id 0 d cur).toList.take d.size = d.toList := by
  apply List.ext_getElem?
  intro j
  by_cases hj : j < d.size
  · rw [List.getElem?_take_of_lt hj, Array.getElem?_toList]
    simp [putCells, hj, show j < cur.size by omega]
  · rw [List.getElem?_take_eq_none (by omega), List.getElem?_eq_none (by simp; omega)]
/-- slices.SortFunc at a row of keys of one's own. -/
theorem sortK_c (w : World) (base : Nat) (A : Option Addr) (c : Nat) (l : List (Int × Int)) (hr : KR w base (.slice A l.length c) l) (hl : l.length ≤ 100000) (hb : base ≤ w.heap.size) :
    Calls Try.prog 28 #[.slice A l.length c, .func (.func 9) #[] #[]] w fun e w' => e = .returned (.tuple #[]) ∧ KR w' base (.slice A l.length c) (sortN l) ∧ Below base w w' ∧ w.grownBy w' (Value.slice A l.length c).ownBlock := by
  by_cases h0 : l = []
  · subst h0
    have := AnyF.slices_SortFunc_none (P := Try.prog) (ρ := sortK_ren) { sortK with } A c (.func (.func 9) #[] #[]) w
    change Calls Try.prog 28 #[.slice A 0 c, .func (.func 9) #[] #[]] w _ at this
    refine this.mono ?_
    rintro e w' ⟨rfl, rfl⟩
    rw [show sortN [] = [] from by simp [sortN]]
    exact ⟨rfl, hr, Below.refl _ _, World.grownBy.refl _ _⟩
  · rcases hr.2 with ⟨_, hn⟩ | ⟨q, cap, cur, e, hq, hh, h1, h2, h3, h4⟩
    · exact absurd (List.eq_nil_of_length_eq_zero hn) h0
    · injection e with e1 e2 e3
      subst e1
      subst e3
      have hH : HoldsK cK 2 w q 0 l.toArray := by
        intro j hj
        have hj' : j < l.length * 2 := by simpa using hj
        refine ⟨?_, by simp [World.frozen?, hh]⟩
        have h5 : (cur.toList.take (l.length * 2))[j]? = (flatK l)[j]? := by rw [h4]
        rw [List.getElem?_take_of_lt hj', ← flat_eq] at h5
        simp only [World.cell?, hh, Nat.zero_add]
        simp only [Option.isSome_none, Bool.false_eq_true, if_false]
        rw [← Array.getElem?_toList, h5]
        simp [hj']
      have hcon := AnyQ.slices_SortFunc_total (P := Try.prog) (ρ := sortK_ren) sortK 2 Try.isAgg23 Try.sizeOf23 cK (fun _ => rfl) (fun x v hv => by simp [cK] at hv; rcases hv with rfl | rfl <;> rfl) cmpN swoN 9 #[] q 0 c l.toArray w
        (enters_of Try.func9 (by kernel_rfl) rfl) (fun _ _ _ _ x y => compare_c x y _) hH (Array.getElem?_eq_some_iff.1 hh).1 (by simp; omega) totN
      change Calls Try.prog 28 #[.slice (some ⟨q, 0, none⟩) l.toArray.size c, .func (.func 9) #[] #[]] w _ at hcon
      rw [List.size_toArray] at hcon
      refine hcon.mono ?_
      rintro e w' ⟨rfl, n, os, rfl⟩
      have hsort : (l.toArray.toList.mergeSort fun x y => !(ltOf cmpN) y x) = sortN l := rfl
      rw [hsort]
      have hflat := flat_eq (sortN l)
      have hsz : (Go.Sort.flatK cK 2 (sortN l).toArray).size = l.length * 2 := by simp [sortN_len]
      have hg : w.grownBy (sortWorldK cK 2 w q 0 n (sortN l).toArray os) (some q) := grownBy_sorted_v _
      refine ⟨rfl, ⟨by rw [flatK_len, sortN_len], .inr ⟨q, c, putCells id 0 (Go.Sort.flatK cK 2 (sortN l).toArray) cur, by rw [sortN_len], hq, heap_sorted_v _ hh, by rw [sortN_len]; exact h1, h2, by simp [putCells, h3], ?_⟩⟩, (Below.refl _ _).grown hg hb (fun k e => by cases e; exact hq), hg⟩
      rw [sortN_len, ← hflat, ← hsz]
      refine take_putCells_v cur _ ?_
      rw [hsz, h3]
      omega
end Go.Proofs.Ytgddehhigamkkaa
