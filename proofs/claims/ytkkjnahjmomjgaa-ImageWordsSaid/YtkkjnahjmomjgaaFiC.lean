/- Rows of findings: the cells (pure). No conditions. -/
import Derived.Test.YtkkjnahjmomjgaaHdL
namespace Go.Proofs.Ytkkjnahjmomjgaa
set_option linter.unusedVariables false
set_option linter.unusedSimpArgs false
open Go.RowKit Go.Maps
set_option maxHeartbeats 4000000
set_option maxRecDepth 100000
theorem add_off (b o k : Nat) : ((⟨b, o, none⟩ : Addr).add k) = ⟨b, o + k, none⟩ := by unfold Addr.add; split <;> simp_all
def fiC (p : Nat × ByteArray) : List Value := [.int .i64 (p.1 : Int), .string p.2]
def flatF (l : List (Nat × ByteArray)) : List Value := l.flatMap fiC
theorem flatF_len (l : List (Nat × ByteArray)) : (flatF l).length = l.length * 2 := by
  induction l with
  | nil => rfl
  | cons p l ih => rw [show flatF (p :: l) = fiC p ++ flatF l from rfl, List.length_append, ih, List.length_cons]; show 2 + _ = _; omega
theorem flatF_app (a b : List (Nat × ByteArray)) : flatF (a ++ b) = flatF a ++ flatF b := List.flatMap_append ..
theorem flatF_drop (l : List (Nat × ByteArray)) : ∀ k, (flatF l).drop (2 * k) = flatF (l.drop k) := by
  induction l with
  | nil => intro k; simp [flatF]
  | cons p l ih =>
    intro k
    cases k with
    | zero => rfl
    | succ k =>
      rw [show flatF (p :: l) = fiC p ++ flatF l from rfl, show 2 * (k + 1) = 2 * k + 1 + 1 from by omega]
      show ((flatF l)).drop (2 * k) = _
      exact ih k
theorem flatF_at (l : List (Nat × ByteArray)) (j : Nat) (hj : j < l.length) : (flatF l)[2 * j]? = some (.int .i64 (l[j].1 : Int)) ∧ (flatF l)[2 * j + 1]? = some (.string l[j].2) := by
  have h0 : (flatF l).drop (2 * j) = flatF (l.drop j) := flatF_drop l j
  rw [List.drop_eq_getElem_cons hj] at h0
  have h1 := congrArg (fun L => L[0]?) h0
  have h2 := congrArg (fun L => L[1]?) h0
  simp only [List.getElem?_drop, Nat.add_zero] at h1 h2
  exact ⟨h1, h2⟩
theorem flatF_one (l : List (Nat × ByteArray)) : ∀ u ∈ flatF l, u.oneCell' = true := by
  intro u hu
  obtain ⟨p, _, hp⟩ := List.mem_flatMap.1 hu
  simp only [fiC, List.mem_cons, List.not_mem_nil, or_false] at hp
  rcases hp with rfl | rfl <;> rfl
theorem info_parts {o : Option TypeInfo} {z : Option Value} {s b : Nat} (h : o.map (fun i => (i.zero, i.size, i.bytes)) = some (z, s, b)) : ∃ i, o = some i ∧ i.zero = z ∧ i.size = s ∧ i.bytes = b := by
  cases o with
  | none => cases h
  | some i => simp at h; exact ⟨i, rfl, h.1, h.2.1, h.2.2⟩
theorem Kept.rowF {S : Nat → Prop} {w w' : World} {E : TypeId} {K base n : Nat} {v : Value} {xs : List Value} (h : Kept S w w') (ho : w.ownsRow base E K v n xs) (hn : ∀ k, v.ownBlock = some k → ¬ S k) : w'.ownsRow base E K v n xs := by
  obtain ⟨h1, h2⟩ := ho
  refine ⟨h1, ?_⟩
  rcases h2 with h2 | ⟨g, cap, cur, e, hg, hh, r⟩
  · exact .inl h2
  · refine .inr ⟨g, cap, cur, e, hg, ?_, r⟩
    have hl : g < w.heap.size := by
      rcases Nat.lt_or_ge g w.heap.size with hl | hl
      · exact hl
      · rw [Array.getElem?_eq_none hl] at hh; cases hh
    rw [h.block g hl (hn g (by rw [e]; rfl))]; exact hh
theorem Bk.grownK {w w' : World} {g : Nat} {E : TypeId} {cs : Array Value} {row : Option Nat} (h : Bk w g E cs) (hg : w.grownBy w' row) (hne : some g ≠ row) : Bk w' g E cs := (hg.block g h.lt hne).trans h
end Go.Proofs.Ytkkjnahjmomjgaa
