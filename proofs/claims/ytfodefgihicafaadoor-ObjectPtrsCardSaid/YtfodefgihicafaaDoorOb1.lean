/- Texts joined: ObK. -/
import Derived.Test.YtfodefgihicafaaDoorOa8
/- An object of many pointers beside another: the words while its pointers are set (pure). Conditions: lengths. -/
namespace Go.Proofs.YtfodefgihicafaaDoor
set_option linter.unusedVariables false
set_option linter.unusedSimpArgs false
open Go.RowKit
/-- The words of the two objects; the first's pointers are L. -/
structure PtW (ws : List (BitVec 64)) (N : Nat) (L : List Int) : Prop where
  len : ws.length = 400
  n1 : 1 ≤ N
  n2 : N ≤ 64
  llen : L.length = N
  h0 : ws.getD 0 0#64 = packH N (8 : Nat) false 0
  hb : ws.getD (N + 2) 0#64 = packH (1 : Nat) (0 : Nat) false 0
  z1 : ws.getD (N + 1) 0#64 = 0#64
  z2 : ws.getD (N + 3) 0#64 = 0#64
  pt : ∀ (k : Nat) (h : k < L.length), ws.getD (0 + 1 + k) 0#64 = BitVec.ofNat 64 (L[k] + 1).toNat
  ok : ∀ x ∈ L, x = 0 ∨ x = (N : Int) + 2 ∨ x = -1
theorem set_getD (ws : List (BitVec 64)) (i q : Nat) (y : BitVec 64) (hi : i < ws.length) : (ws.set i y).getD q 0#64 = if q = i then y else ws.getD q 0#64 := by
  rw [List.getD_eq_getElem?_getD, List.getElem?_set]
  by_cases e : i = q
  · subst e
    rw [if_pos rfl, if_pos hi, if_pos rfl]; rfl
  · rw [if_neg e, if_neg (fun h => e h.symm), ← List.getD_eq_getElem?_getD]
theorem PtW.set {ws : List (BitVec 64)} {N : Nat} {L : List Int} (h : PtW ws N L) {k : Nat} (hk : k < N) (m : Int) (hm : m = 0 ∨ m = (N : Int) + 2 ∨ m = -1) (y : BitVec 64) (hy : y = BitVec.ofNat 64 (m + 1).toNat) : PtW (ws.set (0 + 1 + k) y) N (L.set k m) := by
  have n2 := h.n2
  have hi : 0 + 1 + k < ws.length := by rw [h.len]; omega
  refine ⟨by rw [List.length_set]; exact h.len, h.n1, n2, by rw [List.length_set]; exact h.llen, ?_, ?_, ?_, ?_, ?_, ?_⟩
  · rw [set_getD _ _ _ _ hi, if_neg (by omega)]; exact h.h0
  · rw [set_getD _ _ _ _ hi, if_neg (by omega)]; exact h.hb
  · rw [set_getD _ _ _ _ hi, if_neg (by omega)]; exact h.z1
  · rw [set_getD _ _ _ _ hi, if_neg (by omega)]; exact h.z2
  · intro q hq
    rw [List.length_set] at hq
    rw [set_getD _ _ _ _ hi, List.getElem_set]
    by_cases e : k = q
    · rw [if_pos (by omega), if_pos e, hy]
    · rw [if_neg (by omega), if_neg e]; exact h.pt q hq
  · intro x hx
    rcases List.mem_or_eq_of_mem_set hx with hx | rfl
    · exact h.ok x hx
    · exact hm
theorem PtW.start (N : Nat) (h1 : 1 ≤ N) (h2 : N ≤ 64) : PtW (allocW (allocW (List.replicate 400 0#64) 0 (N + 2) (packH N (8 : Nat) false 0)) (N + 2) 2 (packH (1 : Nat) (0 : Nat) false 0)) N (List.replicate N (-1)) := by
  have rp : ∀ q, (List.replicate 400 0#64).getD q 0#64 = 0#64 := fun q => by
    rw [List.getD_eq_getElem?_getD, List.getElem?_replicate]
    split <;> rfl
  have g : ∀ q, (allocW (allocW (List.replicate 400 0#64) 0 (N + 2) (packH N (8 : Nat) false 0)) (N + 2) 2 (packH (1 : Nat) (0 : Nat) false 0)).getD q 0#64 = if q = N + 2 then packH (1 : Nat) (0 : Nat) false 0 else if q = 0 then packH N (8 : Nat) false 0 else 0#64 := fun q => by
    rw [allocW_get _ _ _ _ _ (by omega) (by rw [allocW_len, List.length_replicate]; omega), allocW_get _ _ _ _ _ (by omega) (by rw [List.length_replicate]; omega), rp]
    by_cases e : q = N + 2
    · rw [if_pos e, if_pos e]
    · rw [if_neg e, if_neg e]
      by_cases z : q = 0
      · rw [if_neg (by omega), if_pos z, if_pos z]
      · rw [if_neg z, if_neg z]
        split
        · rfl
        · split <;> rfl
  refine ⟨by rw [allocW_len, allocW_len, List.length_replicate], h1, h2, List.length_replicate, ?_, ?_, ?_, ?_, ?_, ?_⟩
  · rw [g, if_neg (by omega), if_pos rfl]
  · rw [g, if_pos rfl]
  · rw [g, if_neg (by omega), if_neg (by omega)]
  · rw [g, if_neg (by omega), if_neg (by omega)]
  · intro k hk
    rw [List.length_replicate] at hk
    rw [g, if_neg (by omega), if_neg (by omega), List.getElem_replicate]; rfl
  · intro x hx
    exact .inr (.inr (List.eq_of_mem_replicate hx))
section
variable {w : World} {B s g N : Nat} {v : Value} {ws : List (BitVec 64)} {L : List Int} (h : PtW ws N L) (p : SpAt w B s g v ws 0 (N + 4) 400)
include h
theorem PtW.heads : (goodX (ws.getD 0 0#64) (N + 4 - 0) = true ∧ P0 (ws.getD 0 0#64) = N ∧ B0 (ws.getD 0 0#64) = 8 ∧ szX (ws.getD 0 0#64) = N + 2) ∧ (goodX (ws.getD (N + 2) 0#64) (N + 4 - (N + 2)) = true ∧ P0 (ws.getD (N + 2) 0#64) = 1 ∧ B0 (ws.getD (N + 2) 0#64) = 0 ∧ szX (ws.getD (N + 2) 0#64) = 2) := by
  have n2 := h.n2
  rw [h.h0, h.hb]
  obtain ⟨a1, a2, a3, a4⟩ := hd_facts N 8 (N + 4 - 0) (by omega) (by omega) (by omega)
  obtain ⟨b1, b2, b3, b4⟩ := hd_facts 1 0 (N + 4 - (N + 2)) (by omega) (by omega) (by omega)
  exact ⟨⟨a1, a2, a3, by rw [a4]; omega⟩, ⟨b1, b2, b3, b4⟩⟩
theorem PtW.val {k : Nat} (hk : k < L.length) : (ws.getD (0 + 1 + k) 0#64).toNat = (L[k] + 1).toNat ∧ (L[k] = 0 ∨ L[k] = (N : Int) + 2 ∨ L[k] = -1) := by
  have n2 := h.n2
  have ho := h.ok _ (List.getElem_mem hk)
  refine ⟨?_, ho⟩
  rw [h.pt k hk, BitVec.toNat_ofNat]
  exact Nat.mod_eq_of_lt (by omega)
theorem PtW.read {k : Nat} (hk : k < L.length) : ptV 0 (N + 4) (ws.getD (0 + 1 + k) 0#64) = L[k] ∧ ptE 0 (N + 4) (ws.getD (0 + 1 + k) 0#64) = 0 := by
  obtain ⟨h1, h2⟩ := h.val hk
  have hp : pokB 0 (N + 4) (ws.getD (0 + 1 + k) 0#64) = true := by
    unfold pokB
    rw [h1]
    exact decide_eq_true (by omega)
  obtain ⟨e1, e2⟩ := pt_yes hp
  refine ⟨?_, e2⟩
  rw [e1, h1]
  omega
theorem PtW.well : wellE ws 0 (N + 4) = 0 := by
  obtain ⟨⟨a1, a2, a3, a4⟩, b1, b2, b3, b4⟩ := h.heads
  have ho : objF ws (N + 4) (N + 4 + 1) 0 = some [0, N + 2] := by
    rw [show N + 4 + 1 = N + 2 + 1 + 1 + 1 from by omega]
    unfold objF
    rw [if_pos (by omega), if_pos a1, a4]
    unfold objF
    rw [show 0 + (N + 2) = N + 2 from by omega, if_pos (by omega), if_pos b1, b4]
    unfold objF
    rw [if_neg (by omega)]
    rfl
  rw [well_some ho]
  refine if_pos ?_
  simp only [List.all_cons, List.all_nil, Bool.and_true, Bool.and_eq_true]
  constructor
  · unfold wellN
    rw [Bool.and_eq_true]
    constructor
    · rw [a2, List.all_eq_true]
      intro q hq
      have hq := List.mem_range.1 hq
      obtain ⟨h1, h2⟩ := h.val (k := q) (by rw [h.llen]; exact hq)
      unfold ptrN
      rw [h1]
      refine decide_eq_true ?_
      rcases h2 with e | e | e
      · right; rw [e]; exact ⟨by decide, by simp⟩
      · right; rw [e]; exact ⟨by omega, by rw [show ((N : Int) + 2 + 1).toNat - 1 = N + 2 from by omega]; simp⟩
      · left; rw [e]; rfl
    · unfold padN padB
      rw [a2, a3, a4, show 8 * (0 + (N + 2)) - (8 * (0 + 1 + N) + 8) = 0 from by omega]
      rfl
  · unfold wellN
    rw [Bool.and_eq_true]
    constructor
    · rw [b2, List.all_eq_true]
      intro q hq
      have hq := List.mem_range.1 hq
      obtain rfl : q = 0 := by omega
      unfold ptrN
      rw [show N + 2 + 1 + 0 = N + 3 from by omega, h.z2]
      exact decide_eq_true (.inl rfl)
    · unfold padN padB
      rw [b2, b3, b4, show 8 * (N + 2 + 2) - (8 * (N + 2 + 1 + 1) + 0) = 0 from by omega]
      rfl
include p
theorem pk_set {k : Nat} (hk : k < N) (m : Int) (hm : m = 0 ∨ m = (N : Int) + 2 ∨ m = -1) : Calls Tryd.prog 11 #[.pointer (some ⟨s, 0, none⟩), .int .i64 0, .int .i64 k, .int .i64 m] w fun r w' => r = .returned (.int .i64 0) ∧ (∃ ws', SpAt w' B s g v ws' 0 (N + 4) 400 ∧ PtW ws' N (L.set k m)) ∧ Two w w' s v.ownBlock ∧ Below B w w' := by
  obtain ⟨⟨a1, a2, _, _⟩, _⟩ := h.heads
  have n2 := h.n2
  have hl : ws.length ≤ 100000 := by rw [h.len]; decide
  rcases hm with rfl | rfl | rfl
  · refine (setptr_to w B s g v ws 0 (N + 4) 400 p hl 0 k 0 (by omega) (by omega) a1 (by rw [a2]; exact hk) (by omega) (by omega)).mono ?_
    rintro r w' ⟨e1, e2, e3, e4⟩
    exact ⟨e1, ⟨_, e2, h.set hk 0 (.inl rfl) _ rfl⟩, e3, e4⟩
  · refine (setptr_to w B s g v ws 0 (N + 4) 400 p hl 0 k (N + 2) (by omega) (by omega) a1 (by rw [a2]; exact hk) (by omega) (by omega)).mono ?_
    rintro r w' ⟨e1, e2, e3, e4⟩
    exact ⟨e1, ⟨_, e2, h.set hk _ (.inr (.inl rfl)) _ rfl⟩, e3, e4⟩
  · refine (setptr_nil w B s g v ws 0 (N + 4) 400 p hl 0 k (by omega) (by omega) a1 (by rw [a2]; exact hk)).mono ?_
    rintro r w' ⟨e1, e2, e3, e4⟩
    exact ⟨e1, ⟨_, e2, h.set hk _ (.inr (.inr rfl)) _ rfl⟩, e3, e4⟩
theorem pk_ptr {k : Nat} (hk : k < L.length) : Calls Tryd.prog 9 #[.pointer (some ⟨s, 0, none⟩), .int .i64 0, .int .i64 k] w (RetP (.tuple #[.int .i64 L[k], .int .i64 0]) w) := by
  obtain ⟨⟨a1, a2, _, _⟩, _⟩ := h.heads
  have q := Ptr_c w B s g v ws 0 (N + 4) 400 p (by rw [h.len]; decide) 0 k (by omega) (by omega) a1 (by rw [a2, ← h.llen]; exact hk)
  obtain ⟨e1, e2⟩ := h.read hk
  rw [e1, e2] at q
  exact q
theorem pk_ptrb (M : Nat) (hM : M = N + 2) : Calls Tryd.prog 9 #[.pointer (some ⟨s, 0, none⟩), .int .i64 M, .int .i64 0] w (RetP (.tuple #[.int .i64 (-1), .int .i64 0]) w) := by
  obtain ⟨_, b1, b2, _, _⟩ := h.heads
  have q := Ptr_c w B s g v ws 0 (N + 4) 400 p (by rw [h.len]; decide) (N + 2) 0 (by omega) (by omega) b1 (by rw [b2]; decide)
  rw [show N + 2 + 1 + 0 = N + 3 from by omega, h.z2] at q
  subst hM
  exact q
theorem pk_read : Calls Tryd.prog 13 #[.pointer (some ⟨s, 0, none⟩), .int .i64 0, .int .i64 0, .int .i64 8] w (MkEP b8 5 (List.replicate 8 0#8) 0 w) := by
  obtain ⟨⟨a1, a2, a3, _⟩, _⟩ := h.heads
  have q := read_ok w B s g v ws 0 (N + 4) 400 p (by rw [h.len]; decide) 0 0 8 (by omega) (by omega) a1 (by rw [a3]; decide)
  have e : bytesM ws (8 * (0 + 1 + N) + 0) 8 = List.replicate 8 0#8 := by
    apply List.ext_getElem
    · simp [bytesM]
    · intro j h1 h2
      have h3 : j < 8 := by simpa using h2
      have e2 : (bytesM ws (8 * (0 + 1 + N) + 0) 8)[j] = byteAt ws (8 * (0 + 1 + N) + 0 + j) := by simp [bytesM]
      refine e2.trans ?_
      rw [byteAt_zero (by rw [show (8 * (0 + 1 + N) + 0 + j) / 8 = N + 1 from by omega]; exact h.z1), List.getElem_replicate]
  rw [a2, e] at q
  exact q
theorem pk_well : Calls Tryd.prog 18 #[.pointer (some ⟨s, 0, none⟩)] w (RetP (.int .i64 0) w) := by
  have q := well_c w B s g v ws 0 (N + 4) 400 p (by rw [h.len]; decide)
  rw [h.well] at q
  exact q
end
theorem pa_a {w : World} {B s g N : Nat} {v : Value} (h : SpAt w B s g v (List.replicate 400 0#64) 0 0 400) (h1 : 1 ≤ N) (h2 : N ≤ 64) : Calls Tryd.prog 24 #[.pointer (some ⟨s, 0, none⟩), .agg #[.int .i64 N, .int .i64 8, .bool false, .int .i64 0]] w fun r w' => r = .returned (.tuple #[.int .i64 0, .int .i64 0]) ∧ SpAt w' B s g v (allocW (List.replicate 400 0#64) 0 (N + 2) (packH N (8 : Nat) false 0)) 0 (N + 2) 400 ∧ Below B w w' := by
  obtain ⟨e1, e2⟩ := sizeH_two N 8 (by omega) (by omega)
  have k := alloc_ok w B s g v (List.replicate 400 0#64) 0 0 400 h (by rw [List.length_replicate]; decide) N (8 : Nat) 0 (N + 2) e1 (by rw [e2]; omega) (by omega) (by omega)
  rw [Nat.zero_add] at k
  exact k
theorem pa_b {w : World} {B s g N M : Nat} {v : Value} (h : SpAt w B s g v (allocW (List.replicate 400 0#64) 0 (N + 2) (packH N (8 : Nat) false 0)) 0 (N + 2) 400) (h1 : 1 ≤ N) (h2 : N ≤ 64) (hM : M = N + 2) : Calls Tryd.prog 24 #[.pointer (some ⟨s, 0, none⟩), .agg #[.int .i64 1, .int .i64 0, .bool false, .int .i64 0]] w fun r w' => r = .returned (.tuple #[.int .i64 M, .int .i64 0]) ∧ (∃ ws, SpAt w' B s g v ws 0 (N + 4) 400 ∧ PtW ws N (List.replicate N (-1))) ∧ Below B w w' := by
  subst hM
  obtain ⟨e1, e2⟩ := sizeH_two 1 0 (by omega) (by omega)
  refine (alloc_ok w B s g v _ 0 (N + 2) 400 h (by rw [allocW_len, List.length_replicate]; decide) (1 : Nat) (0 : Nat) 0 2 e1 e2 (by omega) (by omega)).mono ?_
  rintro r w' ⟨a1, a2, a3⟩
  exact ⟨a1, ⟨_, a2, PtW.start N h1 h2⟩, a3⟩
end Go.Proofs.YtfodefgihicafaaDoor
