/- How an argument of type [][]byte is opened. No conditions. -/
import Derived.Test.YtfodefgihicafaaDoorFrame
import Derived.Test.YtfodefgihicafaaDoorCrcB
import Derived.Deep.Matrix
namespace Go.Proofs.YtfodefgihicafaaDoor
set_option linter.unusedVariables false
set_option linter.unusedSimpArgs false
open Go.ChangeShapes Go.WideShapes Go.ChangeAt Go.RowKit
theorem bytes_rd {W : World} {y : Option Addr} {l c : Nat} {Z : List Int} (hl : l ≤ c) (hz : Z.length = c) (hwf : ∀ n ∈ Z, (Lit.int .u8 n).wf = true) (hn : y = none → c = 0)
    (h : ∀ a', y = some a' → ∀ k, k < c → W.cell? (a'.add k) = some (.int .u8 (Z.getD k 0))) : ∃ bs : List (BitVec 8), bs.length = l ∧ Rd b8 W W.heap.size y bs := by
  refine ⟨(Z.take l).map (BitVec.ofInt 8), by simp; omega, fun j hj => ?_⟩
  have hj' : j < l := by simp at hj; omega
  rcases y with _ | a'
  · have := hn rfl; omega
  · have hc := h a' rfl j (by omega)
    have hb := cell_lt hc
    rw [add_block] at hb
    refine ⟨a', rfl, hb, ?_⟩
    rw [hc]
    have hw := hwf (Z.getD j 0) (by rw [List.getD_eq_getElem?_getD, List.getElem?_eq_getElem (by omega)]; exact List.getElem_mem _)
    rw [wfu8 hw]
    have e : Z.getD j 0 = Z[j]'(by omega) := by rw [List.getD_eq_getElem?_getD, List.getElem?_eq_getElem (by omega)]; rfl
    rw [e]
    simp [b8]
theorem choose_list {α : Type} {p : Nat → α → Prop} : ∀ n : Nat, (∀ r, r < n → ∃ x, p r x) → ∃ l : List α, l.length = n ∧ ∀ r (h : r < l.length), p r l[r]
  | 0, _ => ⟨[], rfl, fun r h => absurd h (by simp)⟩
  | n + 1, h => by
    obtain ⟨l, hl, hp⟩ := choose_list n fun r hr => h r (by omega)
    obtain ⟨x, hx⟩ := h n (by omega)
    refine ⟨l ++ [x], by simp [hl], fun r hr => ?_⟩
    rw [List.getElem_append]
    split
    · exact hp r _
    · have : r = n := by simp at hr; omega
      subst this
      simpa using hx
theorem open_parts {H : Type} {enc : TypeId × Value → H} {P : Program} {W : World} {base : Nat} {hd : Bool} {r : Reach} {b0 : Nat} {t e q : TypeId} {v : Value} {d : DataW H} {p : List MemPlace}
    (ht : P.underlying t = some (.slice e)) (he : P.underlying e = some (.slice q)) (hq : P.underlying q = some (.int .u8)) (ce : P.cellsOf e = 1) (cq : P.cellsOf q = 1)
    (hv : Value.okWide P W r b0 t v) (h : DataW.Trod enc P W base (fun _ => true) hd t v d p) :
    ∃ (A : Option Addr) (ps : List Pt) (c : Nat), v = .slice A ps.length c ∧ ps.length ≤ c ∧ c ≤ maxLen ∧ Rd Pt.v W W.heap.size A ps ∧ ∀ x ∈ ps, x.2.1.length ≤ x.2.2 ∧ Rd b8 W W.heap.size x.1 x.2.1 := by
  obtain ⟨a0, len, cap, rfl⟩ := okWide_slice ht hv
  obtain ⟨fuel, hf⟩ := h
  rcases Go.Deep.open_int_rows ht he hq ce cq hf with ⟨hcs, _⟩ | ⟨a, l, c, A, L, C, Z, hcs, _, hl, hm, _, hrow⟩
  · simp [Value.cells] at hcs
    obtain ⟨rfl, rfl, rfl⟩ := hcs
    exact ⟨none, [], 0, rfl, Nat.le_refl _, by simp [maxLen], Rd.nil, fun x hx => by cases hx⟩
  · simp [Value.cells] at hcs
    obtain ⟨rfl, rfl, rfl⟩ := hcs
    obtain ⟨ps, hps, hp⟩ := choose_list (α := Pt) (p := fun i x => x.1 = A i ∧ x.2.1.length = L i ∧ x.2.2 = C i ∧ L i ≤ C i ∧ Rd b8 W W.heap.size x.1 x.2.1 ∧ W.cell? (a.add i) = some x.v) len (fun i hi => by
      obtain ⟨h1, h2, h3, h4, h5, h6, h7⟩ := hrow i (by omega)
      obtain ⟨bs, hb, hr⟩ := bytes_rd (W := W) (y := A i) h2 h4 h5 h6 (fun a' ha => (h7 a' ha).2)
      exact ⟨(A i, bs, C i), rfl, hb, rfl, h2, hr, by rw [h1]; show _ = some (Value.slice (A i) bs.length (C i)); rw [hb]⟩)
    subst hps
    refine ⟨some a, ps, cap, rfl, hl, hm, fun j hj => ?_, fun x hx => ?_⟩
    · obtain ⟨_, _, _, _, _, h6⟩ := hp j hj
      have hb := cell_lt h6
      rw [add_block] at hb
      exact ⟨a, rfl, hb, h6⟩
    · obtain ⟨j, hj, rfl⟩ := List.getElem_of_mem hx
      obtain ⟨_, h2, h3, h4, h5, _⟩ := hp j hj
      exact ⟨by rw [h2, h3]; exact h4, h5⟩
end Go.Proofs.YtfodefgihicafaaDoor
