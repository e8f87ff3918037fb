/- The bridge between the program's disk (one row of bytes) and the document's (a list of sectors): numbers and lists alone. No conditions. -/
import Derived.Test.YtfcbmdmkdjaoaaaMdD
import Derived.Test.YtfcbmdmkdjaoaaaDkF
import Derived.Test.YtfcbmdmkdjaoaaaDkG
namespace Go.Proofs.Ytfcbmdmkdjaoaaa
set_option linter.unusedVariables false
set_option linter.unusedSimpArgs false
open Go.RowKit Go.Maps
theorem fl_take {α : Type} (S : Nat) : ∀ (ks : List (List α)), (∀ x ∈ ks, x.length = S) → ∀ s, s ≤ ks.length → ks.flatten.take (s * S) = (ks.take s).flatten
  | _, _, 0, _ => by simp
  | [], _, s + 1, hs => absurd hs (by simp)
  | x :: ks, h, s + 1, hs => by
    have hx : x.length = S := h x (by simp)
    rw [List.flatten_cons, List.take_succ_cons, List.flatten_cons, List.take_append, List.take_of_length_le (by rw [hx, Nat.succ_mul]; omega), hx, show (s + 1) * S - S = s * S by rw [Nat.succ_mul]; omega, fl_take S ks (fun y hy => h y (by simp [hy])) s (by simpa using hs)]
theorem fl_drop {α : Type} (S : Nat) : ∀ (ks : List (List α)), (∀ x ∈ ks, x.length = S) → ∀ s, s ≤ ks.length → ks.flatten.drop (s * S) = (ks.drop s).flatten
  | _, _, 0, _ => by simp
  | [], _, s + 1, hs => absurd hs (by simp)
  | x :: ks, h, s + 1, hs => by
    have hx : x.length = S := h x (by simp)
    rw [List.flatten_cons, List.drop_succ_cons, List.drop_append, List.drop_of_length_le (by rw [hx, Nat.succ_mul]; omega), List.nil_append, hx, show (s + 1) * S - S = s * S by rw [Nat.succ_mul]; omega, fl_drop S ks (fun y hy => h y (by simp [hy])) s (by simpa using hs)]
theorem fl_get {α : Type} (S : Nat) (ks : List (List α)) (h : ∀ x ∈ ks, x.length = S) (s : Nat) (hs : s < ks.length) : (ks.flatten.drop (s * S)).take S = ks[s] := by
  rw [fl_drop S ks h s (by omega), List.drop_eq_getElem_cons hs, List.flatten_cons]
  have hx : ks[s].length = S := h _ (List.getElem_mem hs)
  rw [List.take_append_of_le_length (by omega), List.take_of_length_le (by omega)]
theorem fl_set {α : Type} (S : Nat) (ks : List (List α)) (h : ∀ x ∈ ks, x.length = S) (s : Nat) (hs : s < ks.length) (b : List α) (_hb : b.length = S) : ks.flatten.take (s * S) ++ b ++ ks.flatten.drop (s * S + S) = (ks.set s b).flatten := by
  rw [fl_take S ks h s (by omega), show s * S + S = (s + 1) * S by rw [Nat.succ_mul], fl_drop S ks h (s + 1) (by omega), List.set_eq_take_append_cons_drop, if_pos hs]
  simp
theorem fl_len {α : Type} (S : Nat) : ∀ (ks : List (List α)), (∀ x ∈ ks, x.length = S) → ks.flatten.length = ks.length * S
  | [], _ => by simp
  | x :: ks, h => by
    rw [List.flatten_cons, List.length_append, fl_len S ks (fun y hy => h y (by simp [hy])), h x (by simp), List.length_cons, Nat.succ_mul]; omega
theorem layA_set (S : Nat) (ks : List (List (BitVec 8))) (h : ∀ x ∈ ks, x.length = S) (s : Nat) (hs : s < ks.length) (b : List (BitVec 8)) (hb : b.length = S) : layA ks.flatten (s * S) b = (ks.set s b).flatten := by
  unfold layA
  rw [hb, ← List.append_assoc]
  exact fl_set S ks h s hs b hb
theorem cutK_all (S : Nat) (kp : List Bool) (L : List PW) (ks : List (List (BitVec 8))) (h : ∀ x ∈ ks, x.length = S) (hL : ∀ p ∈ L, p.2.length = S) : ∀ k, k ≤ L.length → ∀ x ∈ cutK kp L ks k, x.length = S
  | 0, _ => h
  | k + 1, hk => by
    rw [cutK]
    have hg : L.getD k (0, []) = L[k]'(by omega) := by rw [List.getD_eq_getElem?_getD, List.getElem?_eq_getElem (by omega)]; rfl
    split
    · intro x hx
      rcases List.mem_or_eq_of_mem_set hx with hx | hx
      · exact cutK_all S kp L ks h hL k (by omega) x hx
      · rw [hx, hg]; exact hL _ (List.getElem_mem _)
    · exact cutK_all S kp L ks h hL k (by omega)
/-- What a cut leaves, both ways. -/
theorem lay_cut (S : Nat) (kp : List Bool) (L : List PW) (ks : List (List (BitVec 8))) (h : ∀ x ∈ ks, x.length = S) (hL : ∀ p ∈ L, p.2.length = S ∧ p.1 < ks.length) : ∀ k, k ≤ L.length → layL S (fun i => kp.getD i false) (L.take k) 0 ks.flatten = (cutK kp L ks k).flatten
  | 0, _ => rfl
  | k + 1, hk => by
    have hlt : k < L.length := by omega
    have hg : L.getD k (0, []) = L[k] := by rw [List.getD_eq_getElem?_getD, List.getElem?_eq_getElem hlt]; rfl
    have hp := hL L[k] (List.getElem_mem hlt)
    rw [List.take_add_one, List.getElem?_eq_getElem hlt, Option.toList_some, layL_snoc, lay_cut S kp L ks h hL k (by omega), List.length_take, Nat.min_eq_left (by omega), Nat.zero_add, cutK]
    by_cases hb : kp.getD k false = true
    · rw [if_pos hb, if_pos hb, hg]
      exact layA_set S _ (cutK_all S kp L ks h (fun p hp => (hL p hp).1) k (by omega)) _ (by rw [cutK_len]; exact hp.2) _ hp.1
    · rw [if_neg hb, if_neg hb]
theorem last_new (s : Nat) (b : List (BitVec 8)) (L : List PW) : ∀ k, k ≤ L.length → (newF (L.take k) s = 0 ∧ lastW s b (L.take k) = b) ∨ ∃ j, ∃ h : j < L.length, newF (L.take k) s = ((j + 1 : Nat) : Int) ∧ lastW s b (L.take k) = L[j].2
  | 0, _ => .inl ⟨rfl, rfl⟩
  | k + 1, hk => by
    have hlt : k < L.length := by omega
    have e : newF (L.take (k + 1)) s = if (s : Int) = (L[k].1 : Int) then ((k + 1 : Nat) : Int) else newF (L.take k) s := by
      unfold newF
      rw [List.take_add_one, List.getElem?_eq_getElem hlt, Option.toList_some, newG_snoc, List.length_take, Nat.min_eq_left (by omega), Nat.zero_add]
    rw [e, lastW_succ s b L k hlt]
    by_cases hq : L[k].1 = s
    · rw [if_pos (by omega), if_pos hq]
      exact .inr ⟨k, hlt, rfl, rfl⟩
    · rw [if_neg (by omega), if_neg hq]
      exact last_new s b L k (by omega)
/-- What is read, both ways. -/
theorem cur_last (d : DK) (ks : List (List (BitVec 8))) (h : ∀ x ∈ ks, x.length = d.size) (hk : d.kept = ks.flatten) (s : Nat) (hs : s < ks.length) : curL d s = lastW s ks[s] d.pend := by
  have hsec : secL d s = ks[s] := by unfold secL; rw [hk]; exact fl_get d.size ks h s hs
  have := last_new s ks[s] d.pend d.pend.length (Nat.le_refl _)
  rw [List.take_length] at this
  unfold curL
  rcases this with ⟨e1, e2⟩ | ⟨j, hj, e1, e2⟩
  · rw [if_pos e1, e2, hsec]
  · rw [if_neg (by omega), e1, e2, show (((j + 1 : Nat) : Int) - 1).toNat = j by omega, List.getD_eq_getElem?_getD, List.getElem?_eq_getElem hj]
    rfl
end Go.Proofs.Ytfcbmdmkdjaoaaa
