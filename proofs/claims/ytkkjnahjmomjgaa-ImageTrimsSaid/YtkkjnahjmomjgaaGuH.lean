/- What a graph that is checked has; a list of numbers as bools. No conditions. -/
import Derived.Test.YtkkjnahjmomjgaaGuE
namespace Go.Proofs.Ytkkjnahjmomjgaa
set_option linter.unusedVariables false
set_option linter.unusedSimpArgs false
open Go.RowKit Go.Maps
theorem ckNodes_ok {N : Nat} : ∀ {l : List Nv}, ckNodes N l = 0 → ∀ x ∈ l, ∀ p ∈ x.ps, okP N p = true
  | [], _, x, hx => by cases hx
  | y :: r, h, x, hx => by
    have h1 : ckNode N y = 0 := by
      unfold ckNodes at h
      by_cases c : ckNode N y = 0
      · exact c
      · rw [if_neg c] at h; exact h
    have h2 : ckNodes N r = 0 := by
      unfold ckNodes at h
      rw [if_pos h1] at h; exact h
    rcases List.mem_cons.1 hx with rfl | hx
    · intro p hp
      unfold ckNode at h1
      by_cases c : x.ps.all (okP N) = true
      · rw [List.all_eq_true] at c; exact c p hp
      · rw [if_neg c] at h1; cases h1
    · exact ckNodes_ok h2 x hx
theorem ckRoots_ok {N : Nat} : ∀ {l : List Rv} {s : ByteArray}, ckRoots N s l = 0 → ∀ r ∈ l, okP N r.t = true
  | [], _, _, r, hr => by cases hr
  | y :: l, s, h, r, hr => by
    unfold ckRoots at h
    split at h
    · by_cases c : okP N y.t = true
      · rw [if_pos c] at h
        rcases List.mem_cons.1 hr with rfl | hr
        · exact c
        · exact ckRoots_ok h r hr
      · rw [if_neg c] at h; cases h
    · cases h
theorem ck_ok {g : Gv} (h : ckG g = 0) : (∀ x ∈ g.n, ∀ p ∈ x.ps, okP g.n.length p = true) ∧ ∀ r ∈ g.r, okP g.n.length r.t = true := by
  unfold ckG at h
  by_cases c : ckNodes g.n.length g.n = 0
  · rw [if_pos c] at h
    by_cases d : 64 < g.r.length
    · rw [if_pos d] at h; cases h
    · rw [if_neg d] at h
      exact ⟨ckNodes_ok c, ckRoots_ok h⟩
  · rw [if_neg c] at h; exact absurd h c
/-- Which numbers a list has. -/
def inL (N : Nat) (out : List Int) : List Bool := (List.range N).map fun (i : Nat) => decide (((i : Int) + 1) ∈ out)
theorem inL_len (N : Nat) (out : List Int) : (inL N out).length = N := by simp [inL]
theorem inL_seen {N : Nat} {out : List Int} {p : Int} (hp : hasG N p = true) : seenG (inL N out) p = true ↔ p ∈ out := by
  have h := hasG_iff.1 hp
  unfold seenG inL
  rw [List.getD_eq_getElem?_getD, List.getElem?_map, List.getElem?_range (by omega)]
  have e : (((p - 1).toNat : Nat) : Int) + 1 = p := by omega
  rw [Option.map_some, Option.getD_some, e, decide_eq_true_iff]
/-- Bools that say the same of each number are those. -/
theorem seen_in {N : Nat} {L : List Bool} {out : List Int} (hl : L.length = N) (h : ∀ p, hasG N p = true → (seenG L p = true ↔ p ∈ out)) : L = inL N out := by
  refine List.ext_getElem (by rw [inL_len, hl]) fun i h1 h2 => ?_
  have hp : hasG N ((i : Int) + 1) = true := hasG_iff.2 (by omega)
  have h3 := h _ hp
  have h4 : seenG L ((i : Int) + 1) = L[i] := by
    unfold seenG
    rw [show ((i : Int) + 1 - 1).toNat = i by omega, List.getD_eq_getElem?_getD, List.getElem?_eq_getElem h1]; rfl
  rw [h4] at h3
  have h5 : (inL N out)[i] = decide (((i : Int) + 1) ∈ out) := by simp [inL]
  rw [h5, Bool.eq_iff_iff, h3, decide_eq_true_iff]
theorem gv_cut {g : Gv} : ∃ (N M : Nat), N = g.n.length ∧ M = g.r.length ∧ g.v = .agg #[.slice g.A N g.c, .slice g.A2 M g.c2] := ⟨_, _, rfl, rfl, rfl⟩
theorem trimN_of (now : List (Int × Int)) : ∀ (ns : List Nv) (L : List Bool), (trimN now ns L).length ≤ ns.length ∧ ∀ y ∈ trimN now ns L, ∃ x ∈ ns, y = (x.ps.map (newP now), x.bs)
  | [], _ => ⟨by unfold trimN; exact Nat.le_refl _, fun y hy => by unfold trimN at hy; cases hy⟩
  | x :: r, [] => ⟨by unfold trimN; exact Nat.zero_le _, fun y hy => by unfold trimN at hy; cases hy⟩
  | x :: r, b :: l => by
    obtain ⟨h1, h2⟩ := trimN_of now r l
    unfold trimN
    cases b
    · rw [if_neg (by simp)]
      exact ⟨by rw [List.length_cons]; omega, fun y hy => by obtain ⟨z, hz, e⟩ := h2 y hy; exact ⟨z, List.mem_cons_of_mem _ hz, e⟩⟩
    · rw [if_pos rfl]
      refine ⟨by rw [List.length_cons, List.length_cons]; omega, fun y hy => ?_⟩
      rcases List.mem_cons.1 hy with rfl | hy
      · exact ⟨x, List.mem_cons_self, rfl⟩
      · obtain ⟨z, hz, e⟩ := h2 y hy; exact ⟨z, List.mem_cons_of_mem _ hz, e⟩
theorem okP_wf {N : Nat} {p : Int} (hN : N ≤ 1000) (h : okP N p = true) : (Lit.int .i64 p).wf = true := by
  have := okP_iff.1 h
  exact wfI (by omega) (by omega)
theorem seen_all {N : Nat} {ns : List Nv} {fr out : List Int} {L : List Bool} (hN : N = ns.length) (hl : L.length = N) (h : ∀ p, hasG N p = true → (seenG L p = true ↔ Rch ns fr p)) (h2 : ∀ p, p ∈ out ↔ Rch ns fr p) : L = inL N out :=
  seen_in hl fun p hp => by rw [h p hp, h2 p]
theorem seen_two {N : Nat} {ns : List Nv} {fr : List Int} {L L' : List Bool} (hl : L.length = N) (hl' : L'.length = N) (h : ∀ p, hasG N p = true → (seenG L p = true ↔ Rch ns fr p)) (h2 : ∀ p, hasG N p = true → (seenG L' p = true ↔ Rch ns fr p)) : L = L' := by
  refine List.ext_getElem (by rw [hl, hl']) fun i h1 h3 => ?_
  have hp : hasG N ((i : Int) + 1) = true := hasG_iff.2 (by omega)
  have e := (h _ hp).trans (h2 _ hp).symm
  have h4 : seenG L ((i : Int) + 1) = L[i] := by
    unfold seenG
    rw [show ((i : Int) + 1 - 1).toNat = i by omega, List.getD_eq_getElem?_getD, List.getElem?_eq_getElem h1]; rfl
  have h5 : seenG L' ((i : Int) + 1) = L'[i] := by
    unfold seenG
    rw [show ((i : Int) + 1 - 1).toNat = i by omega, List.getD_eq_getElem?_getD, List.getElem?_eq_getElem h3]; rfl
  rw [h4, h5] at e
  rw [Bool.eq_iff_iff]; exact e
end Go.Proofs.Ytkkjnahjmomjgaa
