/- Rows of loamlaw3.pend: what an append takes of them, what it leaves. No conditions. -/
import Derived.Test.YtfcbmdmkdjaoaaaMdD
import Derived.Test.YtfcbmdmkdjaoaaaAppS
namespace Go.Proofs.Ytfcbmdmkdjaoaaa
set_option linter.unusedVariables false
set_option linter.unusedSimpArgs false
open Go.RowKit Go.Maps
set_option maxRecDepth 100000
set_option maxHeartbeats 2000000
def wc2 (p : PW) : List Value := [.int .i64 p.1, .string (strB p.2)]
theorem wc2_get : ∀ (l : List PW) (k : Nat) (h : k < l.length), (l.flatMap wc2)[k * 2]? = some (.int .i64 l[k].1) ∧ (l.flatMap wc2)[k * 2 + 1]? = some (.string (strB l[k].2))
  | [], k, h => absurd h (by simp)
  | p :: l, 0, _ => ⟨rfl, rfl⟩
  | p :: l, k + 1, h => by
    have e : ((p :: l).flatMap wc2) = .int .i64 p.1 :: .string (strB p.2) :: l.flatMap wc2 := rfl
    rw [e, show (k + 1) * 2 = k * 2 + 1 + 1 by omega, List.getElem?_cons_succ, List.getElem?_cons_succ, List.getElem?_cons_succ, List.getElem?_cons_succ]
    exact wc2_get l k (by simpa using h)
theorem wc2_len : ∀ l : List PW, (l.flatMap wc2).length = l.length * 2
  | [] => rfl
  | p :: l => by
    have e : ((p :: l).flatMap wc2) = .int .i64 p.1 :: .string (strB p.2) :: l.flatMap wc2 := rfl
    rw [e, List.length_cons, List.length_cons, wc2_len l, List.length_cons]; omega
theorem wc2_one (l : List PW) : ∀ u ∈ l.flatMap wc2, u.oneCell' = true := fun u hu => by
  obtain ⟨p, _, hp⟩ := List.mem_flatMap.1 hu
  simp [wc2] at hp
  rcases hp with rfl | rfl <;> rfl
theorem WRow.news {W : World} {B : Nat} {ad : Addr} {l : List PW} (h : WRow W B (some ad) l) : ∀ j u, (l.flatMap wc2)[j]? = some u → W.cell? (ad.add j) = some u := fun j u hj => by
  have hjl : j < l.length * 2 := by rw [← wc2_len]; exact (List.getElem?_eq_some_iff.1 hj).1
  obtain ⟨ad', e, _, h1, h2⟩ := h (j / 2) (by omega)
  injection e with e
  subst e
  obtain ⟨g1, g2⟩ := wc2_get l (j / 2) (by omega)
  rcases (show j = j / 2 * 2 ∨ j = j / 2 * 2 + 1 by omega) with e | e
  · rw [e] at hj ⊢
    rw [g1] at hj
    injection hj with hj
    rw [← hj]; exact h1
  · rw [e] at hj ⊢
    rw [g2] at hj
    injection hj with hj
    rw [← hj, ← add_add']
    exact h2
theorem WRow.of_owns {W : World} {base : Nat} {E : TypeId} {A : Option Addr} {n c : Nat} {l : List PW} (h : W.ownsRow base E 2 (.slice A n c) l.length (l.flatMap wc2)) : WRow W W.heap.size A l := by
  rcases h.2 with ⟨e, hn⟩ | ⟨g, cap, cur, e, _, hh, _, _, hs, ht⟩
  · exact fun k hk => absurd hk (by omega)
  · injection e with e1 e2 e3
    subst e1
    have hg : g < W.heap.size := (Array.getElem?_eq_some_iff.1 hh).1
    intro i hi
    have hcell : ∀ j, j < 2 → W.cell? ⟨g, i * 2 + j, none⟩ = (l.flatMap wc2)[i * 2 + j]? := by
      intro j hj
      rw [cell_of_row W g _ cur _ _ hh, ← ht, List.getElem?_take_of_lt (by omega), Array.getElem?_toList]
    obtain ⟨g1, g2⟩ := wc2_get l i hi
    have e0 : ((⟨g, 0, none⟩ : Addr).add (i * 2)) = ⟨g, i * 2, none⟩ := by unfold Addr.add; by_cases k : i * 2 = 0 <;> simp [k]
    refine ⟨⟨g, 0, none⟩, rfl, hg, ?_, ?_⟩
    all_goals rw [e0]
    · exact (hcell 0 (by decide)).trans g1
    · exact (hcell 1 (by decide)).trans g2
theorem owns_empty2 (w : World) (E : TypeId) (base : Nat) (hb : base ≤ w.heap.size) : (w.alloc (.cells #[] E)).ownsRow base E 2 (.slice (some ⟨w.heap.size, 0, none⟩) 0 0) 0 [] :=
  World.ownsRow_lit w #[] 0 hb (by simp [maxLen]) rfl
end Go.Proofs.Ytfcbmdmkdjaoaaa
