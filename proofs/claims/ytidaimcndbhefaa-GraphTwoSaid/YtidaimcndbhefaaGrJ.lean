/- The graph of loamlaw17.known: three nodes, one that nobody reaches. No conditions. -/
import Derived.Test.YtidaimcndbhefaaGrY
import Derived.Test.YtidaimcndbhefaaGrC
namespace Go.Proofs.Ytidaimcndbhefaa
set_option linter.unusedVariables false
set_option linter.unusedSimpArgs false
open Go.RowKit Go.Maps
def kN (s : Nat) : List Nv := [⟨some ⟨s, 0, none⟩, 1, none, 0, [2], []⟩, ⟨none, 0, some ⟨s + 1, 0, none⟩, 1, [], [120#8]⟩, ⟨none, 0, none, 0, [], []⟩]
def kR : List Rv := [⟨⟨#[97]⟩, 1⟩]
def kG (s : Nat) : Gv := ⟨some ⟨s + 1 + 1, 0, none⟩, 3, some ⟨s + 1 + 1 + 1, 0, none⟩, 1, kN s, kR⟩
/-- Behind the literal. -/
def kW (w : World) : World := (((((w.alloc (.cells #[.int .i64 2] 3)).alloc (.cells #[.int .u8 120] 5 (1, 2))).alloc
              (.cells #[.slice (some ⟨w.heap.size, 0, none⟩) 1 1, .slice none 0 0, .slice none 0 0, .slice (some ⟨w.heap.size + 1, 0, none⟩) 1 1, .slice none 0 0, .slice none 0 0] 53)).alloc
          (.cells #[.string ⟨#[97]⟩, .int .i64 1] 58)).alloc
      (.cells #[.slice (some ⟨w.heap.size + 1 + 1, 0, none⟩) 3 3, .slice (some ⟨w.heap.size + 1 + 1 + 1, 0, none⟩) 1 1] 25))
theorem at_new (w : World) (o : Obj) (k : Nat) (h : k = w.heap.size) : (w.alloc o).heap[k]? = some o := by subst h; exact heap_alloc_new w o
theorem at_old {w : World} {o x : Obj} {k : Nat} (h : w.heap[k]? = some x) : (w.alloc o).heap[k]? = some x := by
  have hl := (Array.getElem?_eq_some_iff.1 h).1
  exact (Below.heap_alloc w o k hl).trans h
theorem kW_blocks (w : World) : (kW w).heap[w.heap.size]? = some (.cells #[.int .i64 2] 3) ∧ (kW w).heap[w.heap.size + 1]? = some (.cells #[.int .u8 120] 5 (1, 2)) ∧
    (kW w).heap[w.heap.size + 1 + 1]? = some (.cells #[.slice (some ⟨w.heap.size, 0, none⟩) 1 1, .slice none 0 0, .slice none 0 0, .slice (some ⟨w.heap.size + 1, 0, none⟩) 1 1, .slice none 0 0, .slice none 0 0] 53) ∧
    (kW w).heap[w.heap.size + 1 + 1 + 1]? = some (.cells #[.string ⟨#[97]⟩, .int .i64 1] 58) ∧
    Bk (kW w) (w.heap.size + 1 + 1 + 1 + 1) 25 #[.slice (some ⟨w.heap.size + 1 + 1, 0, none⟩) 3 3, .slice (some ⟨w.heap.size + 1 + 1 + 1, 0, none⟩) 1 1] ∧ (kW w).heap.size = w.heap.size + 5 ∧ Below w.heap.size w (kW w) := by
  unfold kW
  refine ⟨at_old (at_old (at_old (at_old (at_new _ _ _ rfl)))), at_old (at_old (at_old (at_new _ _ _ (by simp)))), at_old (at_old (at_new _ _ _ (by simp))), at_old (at_new _ _ _ (by simp)), at_new _ _ _ (by simp), by simp, ((((Below.refl _ w |>.alloc (Nat.le_refl _) _).alloc (by simp) _).alloc (by simp; omega) _).alloc (by simp; omega) _).alloc (by simp; omega) _⟩
theorem kG_at (w : World) : (kG w.heap.size).At (kW w) (kW w).heap.size := by
  obtain ⟨b1, b2, b3, b4, b5, hz, _⟩ := kW_blocks w
  refine ⟨fun i hi => ?_, fun i hi => ?_, by show 3 ≤ 3; omega, by show 1 ≤ 1; omega⟩
  · have hi3 : i < 3 := hi
    rcases (show i = 0 ∨ i = 1 ∨ i = 2 by omega) with rfl | rfl | rfl
    · refine ⟨⟨w.heap.size + 1 + 1, 0, none⟩, rfl, by rw [hz]; show w.heap.size + 1 + 1 < _; omega, ?_, ?_, ⟨fun j hj => ?_, Rd.nil, by show 1 ≤ 1; omega, by show 0 ≤ 0; omega⟩⟩
      · rw [addr_at, cell_of_row _ _ _ _ _ _ b3]; rfl
      · rw [addr_at]; show (kW w).cell? ⟨_, 1, none⟩ = _; rw [cell_of_row _ _ _ _ _ _ b3]; rfl
      · have : j = 0 := by have h : j < 1 := hj; omega
        subst this
        exact ⟨⟨w.heap.size, 0, none⟩, rfl, by rw [hz]; show w.heap.size < _; omega, by rw [addr_at, cell_of_row _ _ _ _ _ _ b1]; rfl⟩
    · refine ⟨⟨w.heap.size + 1 + 1, 0, none⟩, rfl, by rw [hz]; show w.heap.size + 1 + 1 < _; omega, ?_, ?_, ⟨Rd.nil, fun j hj => ?_, by show 0 ≤ 0; omega, by show 1 ≤ 1; omega⟩⟩
      · rw [addr_at, cell_of_row _ _ _ _ _ _ b3]; rfl
      · rw [addr_at]; show (kW w).cell? ⟨_, 3, none⟩ = _; rw [cell_of_row _ _ _ _ _ _ b3]; rfl
      · have : j = 0 := by have h : j < 1 := hj; omega
        subst this
        exact ⟨⟨w.heap.size + 1, 0, none⟩, rfl, by rw [hz]; show w.heap.size + 1 < _; omega, by rw [addr_at, cell_of_row _ _ _ _ _ _ b2]; rfl⟩
    · refine ⟨⟨w.heap.size + 1 + 1, 0, none⟩, rfl, by rw [hz]; show w.heap.size + 1 + 1 < _; omega, ?_, ?_, ⟨Rd.nil, Rd.nil, by show 0 ≤ 0; omega, by show 0 ≤ 0; omega⟩⟩
      · rw [addr_at, cell_of_row _ _ _ _ _ _ b3]; rfl
      · rw [addr_at]; show (kW w).cell? ⟨_, 5, none⟩ = _; rw [cell_of_row _ _ _ _ _ _ b3]; rfl
  · have hi1 : i = 0 := by have h : i < 1 := hi; omega
    subst hi1
    refine ⟨⟨w.heap.size + 1 + 1 + 1, 0, none⟩, rfl, by rw [hz]; show w.heap.size + 1 + 1 + 1 < _; omega, ?_, ?_⟩
    · rw [addr_at, cell_of_row _ _ _ _ _ _ b4]; rfl
    · rw [addr_at]; show (kW w).cell? ⟨_, 1, none⟩ = _; rw [cell_of_row _ _ _ _ _ _ b4]; rfl
theorem kG_small (s : Nat) : (kG s).Small := by
  refine ⟨by show 3 ≤ _; omega, by show 1 ≤ _; omega, fun x hx => ?_⟩
  have hx : x ∈ kN s := hx
  unfold kN at hx
  simp only [List.mem_cons, List.not_mem_nil, or_false] at hx
  rcases hx with rfl | rfl | rfl <;> simp
theorem kG_ck (s : Nat) : ckG (kG s) = 0 := by
  have h1 : ckNodes 3 (kN s) = 0 := by simp [kN, ckNodes, ckNode, okP, hasG]
  have h2 : ckRoots 3 emptyS kR = 0 := by decide +kernel
  unfold ckG
  have e1 : ckNodes (kG s).n.length (kG s).n = 0 := h1
  have e2 : ckRoots (kG s).n.length emptyS (kG s).r = 0 := h2
  have e3 : ¬ 64 < (kG s).r.length := by show ¬ 64 < 1; omega
  rw [if_pos e1, if_neg e3, e2]
theorem kG_words (s : Nat) : wordsL (kN s) = 5 := by simp [kN, wordsL, szN, sizeH, rightH]
theorem kP (s : Nat) : ptrsG (kN s) 1 = [2] ∧ ptrsG (kN s) 2 = [] := ⟨rfl, rfl⟩
theorem kRch (s : Nat) (fr : List Int) (hf : fr = [1]) (p : Int) : Rch (kN s) fr p ↔ (p = 1 ∨ p = 2) := by
  subst hf
  constructor
  · intro h
    induction h with
    | base p h1 h2 => left; simpa using h1
    | step p q h1 h2 h3 ih =>
      rcases ih with rfl | rfl
      · rw [(kP s).1] at h2; right; simpa using h2
      · rw [(kP s).2] at h2; cases h2
  · rintro (rfl | rfl)
    · exact .base 1 (by simp) rfl
    · exact .step 1 2 (.base 1 (by simp) rfl) (by rw [(kP s).1]; simp) rfl
theorem kRch2 (s : Nat) (p : Int) : Rch (kN s) [2] p ↔ p = 2 := by
  constructor
  · intro h
    induction h with
    | base p h1 h2 => simpa using h1
    | step p q h1 h2 h3 ih => subst ih; rw [(kP s).2] at h2; cases h2
  · rintro rfl
    exact .base 2 (by simp) rfl
theorem seen3 {L : List Bool} (hl : L.length = 3) {P : Int → Prop} {a b c : Bool} (h : ∀ p, hasG 3 p = true → (seenG L p = true ↔ P p)) (h1 : a = true ↔ P 1) (h2 : b = true ↔ P 2) (h3 : c = true ↔ P 3) : L = [a, b, c] := by
  match L, hl with
  | [x, y, z], _ =>
    have e1 := (h 1 (by decide)).trans h1.symm
    have e2 := (h 2 (by decide)).trans h2.symm
    have e3 := (h 3 (by decide)).trans h3.symm
    have f1 : seenG [x, y, z] 1 = x := rfl
    have f2 : seenG [x, y, z] 2 = y := rfl
    have f3 : seenG [x, y, z] 3 = z := rfl
    rw [f1] at e1
    rw [f2] at e2
    rw [f3] at e3
    rw [Bool.eq_iff_iff.2 e1, Bool.eq_iff_iff.2 e2, Bool.eq_iff_iff.2 e3]
end Go.Proofs.Ytidaimcndbhefaa
