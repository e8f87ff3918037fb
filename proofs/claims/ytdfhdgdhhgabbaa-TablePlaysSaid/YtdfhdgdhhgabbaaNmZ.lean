/- Which names may be; table.Fix. No conditions. -/
import Derived.Test.YtdfhdgdhhgabbaaNmD
namespace Go.Proofs.Ytdfhdgdhhgabbaa
set_option linter.unusedVariables false
set_option linter.unusedSimpArgs false
open Go.RowKit Go.Maps
set_option maxRecDepth 100000
set_option maxHeartbeats 800000
/-- May a name be? -/
def goodN (bs : Nm) : Prop := 1 ≤ bs.length ∧ bs.length ≤ 32 ∧ ∀ x ∈ bs, x ≠ 0#8
instance decGood (bs : Nm) : Decidable (goodN bs) := inferInstanceAs (Decidable (1 ≤ bs.length ∧ bs.length ≤ 32 ∧ ∀ x ∈ bs, x ≠ 0#8))
theorem cut_app : ∀ (bs : Nm) (n : Nat), (∀ x ∈ bs, x ≠ 0#8) → cutN (bs ++ List.replicate n 0#8) = bs
  | [], 0, _ => rfl
  | [], n + 1, _ => by
    unfold cutN
    rw [List.nil_append, List.replicate_succ, List.takeWhile_cons]
    simp
  | x :: bs, n, h => by
    have ih := cut_app bs n (fun y hy => h y (List.mem_cons_of_mem _ hy))
    have hx := h x List.mem_cons_self
    unfold cutN at ih ⊢
    rw [List.cons_append, List.takeWhile_cons, if_pos (by simpa using hx), ih]
theorem good_cut {bs : Nm} (h : goodN bs) : cutN (padNm bs) = bs := cut_app bs _ h.2.2
theorem cut_mem : ∀ (k : Nm), ∀ x ∈ cutN k, x ≠ 0#8
  | [], x, h => by cases h
  | y :: k, x, h => by
    unfold cutN at h
    rw [List.takeWhile_cons] at h
    split at h
    · rename_i hy
      rcases List.mem_cons.1 h with rfl | h
      · simpa using hy
      · exact cut_mem k x h
    · cases h
theorem cut_zero : cutN zN = [] := by decide +kernel
theorem good_ne {bs : Nm} (h : goodN bs) : padNm bs ≠ zN := fun e => by
  have h1 := good_cut h
  rw [e, cut_zero] at h1
  have h2 := h.1
  rw [← h1] at h2
  simp at h2
theorem bad_res {bs : Nm} (hl : bs.length ≤ 32) (h : ¬ goodN bs) : padNm bs = zN ∨ cutN (padNm bs) ≠ bs := by
  by_cases h0 : 1 ≤ bs.length
  · right
    intro e
    exact h ⟨h0, hl, fun x hx => cut_mem (padNm bs) x (by rw [e]; exact hx)⟩
  · left
    have : bs = [] := List.eq_nil_of_length_eq_zero (by omega)
    subst this
    rfl
theorem fix_ok (bs : Nm) (w : World) (h : goodN bs) : Calls Try.prog 8 #[.string (strB bs)] w (RetP (.tuple #[nV (padNm bs), .int .i64 0]) w) :=
  fix_c bs w h.2.1 false true (by symm; rw [decide_eq_false_iff_not]; exact good_ne h) (by symm; rw [decide_eq_true_eq]; exact good_cut h)
theorem fix_bad (bs : Nm) (w : World) (h : ¬ goodN bs) : Calls Try.prog 8 #[.string (strB bs)] w (RetP (.tuple #[nV zN, .int .i64 4]) w) := by
  by_cases hl : bs.length ≤ 32
  · have := fix_c bs w hl _ _ rfl rfl
    rcases bad_res hl h with e | e
    · rw [show decide (padNm bs = zN) = true from by rw [decide_eq_true_eq]; exact e] at this
      rwa [show fixR bs true (decide (cutN (padNm bs) = bs)) = .tuple #[nV zN, .int .i64 4] from by cases decide (cutN (padNm bs) = bs) <;> rfl] at this
    · rw [show decide (cutN (padNm bs) = bs) = false from by rw [decide_eq_false_iff_not]; exact e] at this
      rwa [show fixR bs (decide (padNm bs = zN)) false = .tuple #[nV zN, .int .i64 4] from by cases decide (padNm bs = zN) <;> rfl] at this
  · exact fix_long bs w (by omega)
end Go.Proofs.Ytdfhdgdhhgabbaa
