/- A region that keeps its order, by a fact for each of its operations. No conditions. -/
import Derived.Test.YtkkjnahjmomjgaaRegT
namespace Go.Proofs.Ytkkjnahjmomjgaa
set_option linter.unusedVariables false
set_option linter.unusedSimpArgs false
open Go.RowKit
section
variable {P : Program} {ops : Array Oper} {Q : Exit → Act → World → Prop} {G : World → World → Prop} {F : Nat → Value → World → Prop} {a0 : Act} {w0 : World}
theorem list_facts0 (hrefl : G w0 w0) (htrans : ∀ a b c, G a b → G b c → G a c) (hmono : ∀ j, j < ops.size → ∀ v a b, F j v a → G a b → F j v b)
    (hreg : regB ops a0.tmps.size = true) (howes : ∀ i, i < ops.size → Owes P ops Q G F a0 w0 i)
    (fin : ∀ (vals : Nat → Value) (w : World), G w0 w → (∀ j, j < ops.size → F j (vals j) w) → Q .normal (putL ops vals (List.range ops.size) a0) w) :
    wpList P ops Q ops.toList a0 w0 := by
  have main : ∀ (n k : Nat) (a : Act) (w : World), k + n = ops.size → G w0 w → a.defers = a0.defers → a.tmps.size = a0.tmps.size →
      (∀ j, j < k → F j (valAt ops a j) w) → (∀ t, (∀ j, j < k → dstOf ops j ≠ some t) → a.tmps.getD t undef = a0.tmps.getD t undef) →
      wpOps P ops Q (List.range' k n) a w := by
    intro n
    induction n with
    | zero =>
      intro k a w hk hG hd hs hF hR
      obtain rfl : k = ops.size := by omega
      show Q .normal a w
      have := fin (valAt ops a) w hG hF
      rw [putL_whole a (List.range ops.size) a0 hs.symm hd.symm] at this
      · exact this
      · intro t
        by_cases e : ∃ j, j < ops.size ∧ dstOf ops j = some t
        · obtain ⟨j, hj, hjd⟩ := e
          exact .inr ⟨j, List.mem_range.2 hj, hjd⟩
        · left
          exact (hR t fun j hj he => e ⟨j, hj, he⟩).symm
    | succ n ih =>
      intro k a w hk hG hd hs hF hR
      have hlt : k < ops.size := by omega
      rw [List.range'_succ, wpOps_cons]
      have hw : ∀ i j, i < ops.size → waitsB ops i j = true → j < i := by
        intro i j hi hj
        obtain ⟨o', ho', e, he, hb, rfl⟩ := waits_some hj
        obtain ⟨o, d, ho, _, _, _, hh⟩ := regB_at hreg hi
        rw [ho] at ho'
        injection ho' with ho'
        subst ho'
        exact hh e he hb
      have hlt2 : ∀ j t, dstOf ops j = some t → j < ops.size := by
        intro j t h
        rcases Nat.lt_or_ge j ops.size with hl | hl
        · exact hl
        · unfold dstOf at h; rw [Array.getElem?_eq_none hl] at h; cases h
      have hstep := howes k hlt a w hG hd hs (fun j hj => hF j (hw k j hlt hj)) (fun t ht => hR t fun j hj he => by
        have h1 := ht j he
        have := hw j k (hlt2 j t he) h1
        omega)
      refine wpOp_mono ?_ hstep
      rintro a' w' ⟨v, rfl, hg, hf⟩
      obtain ⟨o2, d, ho2, hd2, hdl, hdd, _⟩ := regB_at hreg hlt
      have hdo : dstOf ops k = some d := by unfold dstOf; rw [ho2]; exact hd2
      rw [hdo]
      refine ih (k + 1) (a.put (some d) v) w' (by omega) (htrans _ _ _ hG hg) (by exact hd) (by rw [put_size, hs]) ?_ ?_
      · intro j hj
        by_cases e : j = k
        · subst e
          unfold valAt
          rw [hdo]
          simp only
          rw [put_same _ _ _ (by rw [hs]; exact hdl)]
          exact hf
        · have h1 := hmono j (by omega) _ _ _ (hF j (by omega)) hg
          have h2 : valAt ops (a.put (some d) v) j = valAt ops a j := by
            unfold valAt
            have hne := hdd j (by omega) e
            cases hjd : dstOf ops j with
            | none => rfl
            | some dj =>
              simp only
              exact put_other _ _ _ _ (fun h => hne (by rw [hjd]; exact h.symm))
          rw [h2]
          exact h1
      · intro t ht
        have h1 : some d ≠ some t := fun h => ht k (by omega) (by rw [hdo]; exact h)
        rw [put_other _ _ _ _ h1]
        exact hR t fun j hj => ht j (by omega)
  rw [← wpOps_eq_wpList ops.toList 0 (by simp), Array.length_toList]
  exact main ops.size 0 a0 w0 (by omega) hrefl rfl rfl (fun j hj => absurd hj (by omega)) (fun t _ => rfl)
end
section
variable {P : Program} {ops : Array Oper} {Q : Exit → Act → World → Prop} {F : Nat → Value → World → Prop} {a0 : Act} {w0 : World}
/-- An operation under a guard that itself was left out. -/
theorem owes_un {i : Nat} (k : Nat) (want : Bool) (hg : (ops[i]?).bind (·.guard) = some (k, want)) (hk : waitsB ops i k = true) (hc : ∀ v w, F k v w → v = undef)
    (hsz : ((dstOf ops k).map fun d => decide (d < a0.tmps.size)) = some true) (hF : ∀ w, F i undef w) : Owes P ops Q (fun w w' => Below w.heap.size w w') F a0 w0 i := by
  cases hi : ops[i]? with
  | none => rw [hi] at hg; cases hg
  | some o =>
    rw [hi] at hg
    intro a w hG hd hs hF' hR
    have hy : yielded ops a.tmps k = none := by
      have h1 := hc _ _ (hF' k hk)
      unfold valAt at h1
      unfold yielded
      cases hkd : dstOf ops k with
      | none => rw [hkd] at hsz; cases hsz
      | some d =>
        rw [hkd] at hsz h1
        have hl : d < a.tmps.size := by rw [hs]; simpa using hsz
        unfold dstOf at hkd
        rw [hkd]
        simp only [Option.bind_some] at h1 ⊢
        rw [Array.getD_eq_getD_getElem?, Array.getElem?_eq_getElem hl] at h1
        rw [Array.getElem?_eq_getElem hl]
        simp only [Option.getD_some] at h1
        rw [h1]
        rfl
    unfold wpOp
    rw [hi]
    have hw : Region.wanted o (yielded ops a.tmps) = false := by
      unfold Region.wanted
      rw [show o.guard = some (k, want) from hg]
      simp only [hy]
      cases want <;> rfl
    simp only [hw, Bool.false_eq_true, if_false]
    exact ⟨undef, by unfold dstOf; rw [hi]; rfl, Below.refl _ _, hF _⟩
end
/-- A region's operations from the k-th on, each of which waits for all that stand ahead of it. -/
def cutOps (k : Nat) (ops : Array Oper) : List Oper := ops.toList.drop k
def fullO (k : Nat) (p : Oper × Nat) : Oper := { p.1 with guard := p.1.guard.map fun g => (g.1 - k, g.2), after := ((List.range p.2).map fun j => ({ on := j, ground := .data } : Edge)).toArray }
def fullOps (k : Nat) (ops : Array Oper) : Array Oper := ((cutOps k ops).zipIdx.map (fullO k)).toArray
def cutB (k : Nat) (ops : Array Oper) : Bool := (cutOps k ops).all fun o => match o.guard with | none => true | some g => decide (k ≤ g.1)
theorem fullO_wp {P : Program} {k i : Nat} {o : Oper} {a : Act} {w : World} {K : Act → World → Prop} {Q : Exit → Act → World → Prop} (h : (fullO k (o, i)).wp P a w K Q) : o.wp P a w K Q := by
  cases o
  exact h
theorem fullO_asks {P : Program} {k i : Nat} {o : Oper} {a : Act} {w : World} (h : (fullO k (o, i)).asks P a w) : o.asks P a w := by
  cases o
  exact h
theorem fullO_dst (k i : Nat) (o : Oper) : (fullO k (o, i)).dst = o.dst := rfl
theorem full_get {ops : Array Oper} {k j : Nat} (h : k ≤ j) : ((fullOps k ops)[j - k]?).bind (·.dst) = (ops[j]?).bind (·.dst) := by
  unfold fullOps cutOps
  rw [List.getElem?_toArray, List.getElem?_map, List.getElem?_zipIdx, List.getElem?_drop]
  rw [show k + (j - k) = j by omega, Array.getElem?_toList]
  cases ops[j]? with
  | none => rfl
  | some o => rfl
theorem full_list {P : Program} {ops : Array Oper} {Q : Exit → Act → World → Prop} {k : Nat} : ∀ (l : List Oper) (i : Nat), (l.all fun o => match o.guard with | none => true | some g => decide (k ≤ g.1)) = true →
    ∀ a w, wpList P (fullOps k ops) Q ((l.zipIdx i).map (fullO k)) a w → wpList P ops Q l a w
  | [], _, _, _, _, h => h
  | o :: l, i, hg, a, w, h => by
    rw [List.all_cons, Bool.and_eq_true] at hg
    have hw : Region.wanted (fullO k (o, i)) (yielded (fullOps k ops) a.tmps) = Region.wanted o (yielded ops a.tmps) := by
      unfold Region.wanted fullO
      cases hgd : o.guard with
      | none => rfl
      | some g =>
        have hk : k ≤ g.1 := by have := hg.1; rw [hgd] at this; simpa using this
        have : yielded (fullOps k ops) a.tmps (g.1 - k) = yielded ops a.tmps g.1 := by unfold yielded; rw [full_get hk]
        obtain ⟨g1, g2⟩ := g
        simp only [Option.map_some] at this ⊢
        rw [this]
    rw [List.zipIdx_cons, List.map_cons] at h
    unfold wpList at h ⊢
    rw [hw] at h
    split
    · rename_i hy
      rw [if_pos hy] at h
      rcases h with h | h
      · exact .inl (Oper.wp_mono (fun a w h => full_list l (i + 1) hg.2 a w h) (fullO_wp h))
      · exact .inr ⟨fullO_asks h.1, h.2⟩
    · rename_i hy
      rw [if_neg hy] at h
      exact full_list l (i + 1) hg.2 _ _ h
/-- The rest of a region, from the k-th operation on, by a fact for each of its operations. -/
theorem list_by0 {P : Program} {ops0 ops : Array Oper} {Q : Exit → Act → World → Prop} {G : World → World → Prop} {a0 : Act} {w0 : World} {k : Nat} {rest : List Oper} (Fs : List (Value → World → Prop)) (ds : List Tmp)
    (ho : fullOps k ops0 = ops) (hr : rest = cutOps k ops0) (hc : cutB k ops0 = true)
    (hrefl : G w0 w0) (htrans : ∀ a b c, G a b → G b c → G a c)
    (hreg : regB ops a0.tmps.size = true) (hds : (List.range' 0 ops.size).map (dstOf ops) = ds.map some)
    (hmono : ∀ f ∈ Fs, ∀ v a b, f v a → G a b → f v b)
    (howes : AllN (Owes P ops Q G (fun j => Fs.getD j fun _ _ => True) a0 w0) ops.size 0)
    (fin : ∀ (vals : Nat → Value) (w : World), G w0 w → (∀ j, j < ops.size → (Fs.getD j fun _ _ => True) (vals j) w) → Q .normal (putD vals ds 0 a0) w) :
    wpList P ops0 Q rest a0 w0 := by
  subst hr
  have h : wpList P ops Q ops.toList a0 w0 := by
    refine list_facts0 hrefl htrans ?_ hreg (fun i hi => howes.at_ _ _ i (by omega) (by omega)) ?_
    · intro j _ v a b h g
      rw [List.getD_eq_getElem?_getD] at h ⊢
      cases hj : Fs[j]? with
      | none => rw [hj] at h; exact trivial
      | some f => rw [hj] at h; exact hmono f (List.mem_of_getElem? hj) v a b h g
    · intro vals w hG hF
      rw [List.range_eq_range', putD_eq vals ds ops.size 0 a0 hds]
      exact fin vals w hG hF
  subst ho
  exact full_list _ 0 hc a0 w0 h
end Go.Proofs.Ytkkjnahjmomjgaa
