/- Operations that wait for each other in part: those that may come next, listed. No conditions. -/
import Derived.Test.YtdfhdgdhhgabbaaRegW
namespace Go.Proofs.Ytdfhdgdhhgabbaa
set_option linter.unusedVariables false
set_option linter.unusedSimpArgs false
open Go.RowKit
section
variable {P : Program} {ops : Array Oper} {Q : Exit → Act → World → Prop}
/-- One step: nx lists which of rest may come next, and what is left then. -/
theorem spineS_of {W : World → Prop} {n : Nat} {rest : List Nat} {a : Act} {w : World} (nx : List (Nat × List Nat))
    (hcov : (rest.all fun i => (rest.any fun j => waitsB ops i j) || nx.any (fun x => x.1 == i && x.2 == rest.erase i)) = true)
    (H : ∀ x ∈ nx, ∃ o, ops[x.1]? = some o ∧ o.guard = none ∧ Oper.wp P o a w (fun a' w' => a'.defers = a.defers ∧ W w' ∧ SpineS P ops Q W n x.2 a' w') NoQ) : SpineS P ops Q W (n + 1) rest a w := by
  intro i hi hfree
  rw [List.all_eq_true] at hcov
  have h := hcov i hi
  rw [Bool.or_eq_true] at h
  rcases h with h | h
  · rw [List.any_eq_true] at h
    obtain ⟨j, hj, hw⟩ := h
    rw [List.all_eq_true] at hfree
    have := hfree j hj
    rw [hw] at this
    cases this
  · rw [List.any_eq_true] at h
    obtain ⟨x, hx, hxe⟩ := h
    rw [Bool.and_eq_true, beq_iff_eq, beq_iff_eq] at hxe
    obtain ⟨rfl, e⟩ := hxe
    have := H x hx
    rw [e] at this
    exact this
/-- The next one is settled. -/
theorem spineS_one {W : World → Prop} {n : Nat} {rest : List Nat} {a : Act} {w : World} (i : Nat) (is : List Nat)
    (hcov : (rest.all fun k => (rest.any fun j => waitsB ops k j) || [(i, is)].any (fun x => x.1 == k && x.2 == rest.erase k)) = true)
    (H : ∃ o, ops[i]? = some o ∧ o.guard = none ∧ Oper.wp P o a w (fun a' w' => a'.defers = a.defers ∧ W w' ∧ SpineS P ops Q W n is a' w') NoQ) : SpineS P ops Q W (n + 1) rest a w := by
  refine spineS_of [(i, is)] hcov ?_
  intro x hx
  rw [List.mem_singleton] at hx
  subst hx
  exact H
/-- Two may come next. -/
theorem spineS_two {W : World → Prop} {n : Nat} {rest : List Nat} {a : Act} {w : World} (i k : Nat) (is ks : List Nat)
    (hcov : (rest.all fun m => (rest.any fun j => waitsB ops m j) || [(i, is), (k, ks)].any (fun x => x.1 == m && x.2 == rest.erase m)) = true)
    (H1 : ∃ o, ops[i]? = some o ∧ o.guard = none ∧ Oper.wp P o a w (fun a' w' => a'.defers = a.defers ∧ W w' ∧ SpineS P ops Q W n is a' w') NoQ)
    (H2 : ∃ o, ops[k]? = some o ∧ o.guard = none ∧ Oper.wp P o a w (fun a' w' => a'.defers = a.defers ∧ W w' ∧ SpineS P ops Q W n ks a' w') NoQ) : SpineS P ops Q W (n + 1) rest a w := by
  refine spineS_of [(i, is), (k, ks)] hcov ?_
  intro x hx
  simp only [List.mem_cons, List.not_mem_nil, or_false] at hx
  rcases hx with rfl | rfl
  · exact H1
  · exact H2
/-- Several ways that meet. -/
theorem meet {α : Type} {F G : α → Prop} {goal : Prop} (h2 : (∀ x, F x → G x) → goal) (h1 : ∀ x, F x → G x) : goal := h2 h1
end
end Go.Proofs.Ytdfhdgdhhgabbaa
