/- A header read out of a word: what is told is the same by either road. No conditions. -/
import Derived.Test.YtfodefgihicafaaDoorHeadB
namespace Go.Proofs.YtfodefgihicafaaDoor
set_option linter.unusedVariables false
set_option linter.unusedSimpArgs false
open Go.RowKit
theorem field_zero (x : BitVec 64) (at_ n : Int) (h : wB at_ n = true) (hz : ∀ i, i < n.toNat → x.getLsbD (at_.toNat + i) = false) : fieldB x at_ n = 0 := by
  apply BitVec.eq_of_getLsbD_eq
  intro i hi
  rw [field_bit _ _ _ h]
  by_cases a : i < n.toNat
  · rw [hz i a]; simp
  · simp [a]
theorem field_small (t : Int) (n : Int) (h : wB 0 n = true) (h1 : 0 ≤ t) (h2 : t < 2 ^ n.toNat) : fieldB (BitVec.ofInt 64 t) 0 n = BitVec.ofInt 64 t := by
  apply BitVec.eq_of_getLsbD_eq
  intro i hi
  rw [field_bit _ _ _ h]
  by_cases a : i < n.toNat
  · simp [a]
  · simp only [a, decide_false, Bool.and_false]
    rw [small_bit t n.toNat h1 h2 i (by omega)]
theorem U64_ofInt (t : Int) (h1 : 0 ≤ t) (h2 : t < 2 ^ 64) : U64 (BitVec.ofInt 64 t) = t := (U64_of h1 h2).symm
theorem unM (v : BitVec 64) : fieldB (withB (markB ||| 1#64) 32 16 v) 1 8 = 0 ∧ fieldB (withB (markB ||| 1#64) 32 16 v) 16 12 = 0 ∧ fieldB (withB (markB ||| 1#64) 32 16 v) 32 16 = fieldB v 0 16 ∧ (withB (markB ||| 1#64) 32 16 v).getLsbD 0 = true := by
  have hw : wB 32 16 = true := by decide
  refine ⟨?_, ?_, field_with _ _ _ _ hw, ?_⟩
  · apply field_zero _ _ _ (by decide)
    intro i hi
    have : i < 8 := hi
    rw [with_bit _ _ _ _ hw _ (by omega), if_neg (by omega), BitVec.getLsbD_or, mark_bit, one_bit]
    simp; omega
  · apply field_zero _ _ _ (by decide)
    intro i hi
    have : i < 12 := hi
    rw [with_bit _ _ _ _ hw _ (by omega), if_neg (by omega), BitVec.getLsbD_or, mark_bit, one_bit]
    simp; omega
  · rw [with_bit _ _ _ _ hw _ (by omega), if_neg (by omega), BitVec.getLsbD_or, one_bit]; simp
theorem unN (p b : BitVec 64) : fieldB (withB (withB markB 1 8 p) 16 12 b) 1 8 = fieldB p 0 8 ∧ fieldB (withB (withB markB 1 8 p) 16 12 b) 16 12 = fieldB b 0 12 ∧ fieldB (withB (withB markB 1 8 p) 16 12 b) 32 16 = 0 ∧ (withB (withB markB 1 8 p) 16 12 b).getLsbD 0 = false := by
  have hw : wB 1 8 = true := by decide
  have hw2 : wB 16 12 = true := by decide
  refine ⟨?_, field_with _ _ _ _ hw2, ?_, ?_⟩
  · apply BitVec.eq_of_getLsbD_eq
    intro i hi
    rw [field_bit _ _ _ hw, field_bit _ _ _ (by decide)]
    by_cases a : i < Int.toNat 8
    · have : i < 8 := a
      rw [with_bit _ _ _ _ hw2 _ (by omega), if_neg (by omega), with_bit _ _ _ _ hw _ (by omega), if_pos (by omega)]
      simp
    · have a' : ¬ i < 8 := a
      simp [a']
  · apply field_zero _ _ _ (by decide)
    intro i hi
    have : i < 16 := hi
    rw [with_bit _ _ _ _ hw2 _ (by omega), if_neg (by omega), with_bit _ _ _ _ hw _ (by omega), if_neg (by omega), mark_bit]
    simp; omega
  · rw [with_bit _ _ _ _ hw2 _ (by omega), if_neg (by omega), with_bit _ _ _ _ hw _ (by omega), if_neg (by omega), mark_bit]; simp
def fP (x : BitVec 64) : Int := U64 (fieldB x 1 8)
def fB (x : BitVec 64) : Int := U64 (fieldB x 16 12)
def fT (x : BitVec 64) : Int := U64 (fieldB x 32 16)
def fM (x : BitVec 64) : Bool := x.getLsbD 0
def okU (x : BitVec 64) : Bool := rightH (fP x) (fB x) (fM x) (fT x) && (packH (fP x) (fB x) (fM x) (fT x) == x)
theorem field_lt (x : BitVec 64) (at_ n : Int) (k : Nat) (hk : (n.toNat : Nat) = k) (hk2 : k < 64) (h : wB at_ n = true) : U64 (fieldB x at_ n) < 2 ^ k := by
  obtain ⟨_, _, h3, h4, _⟩ := wB_out h
  unfold fieldB U64
  rw [if_pos h, BitVec.toNat_and, lowB_nat n h3 h4, hk, Nat.and_two_pow_sub_one_eq_mod]
  have : (x >>> at_.toNat).toNat % 2 ^ k < 2 ^ k := Nat.mod_lt _ (Nat.two_pow_pos k)
  exact_mod_cast this
theorem fP_lt (x : BitVec 64) : 0 ≤ U64 (fieldB x 1 8) ∧ U64 (fieldB x 1 8) ≤ 255 := ⟨U64_lo _, by have := field_lt x 1 8 8 rfl (by decide) (by decide); omega⟩
theorem fB_lt (x : BitVec 64) : 0 ≤ U64 (fieldB x 16 12) ∧ U64 (fieldB x 16 12) ≤ 4095 := ⟨U64_lo _, by have := field_lt x 16 12 12 rfl (by decide) (by decide); omega⟩
theorem fT_lt (x : BitVec 64) : 0 ≤ U64 (fieldB x 32 16) ∧ U64 (fieldB x 32 16) ≤ 65535 := ⟨U64_lo _, by have := field_lt x 32 16 16 rfl (by decide) (by decide); omega⟩
theorem U64_zero : U64 0 = 0 := by decide +kernel
/-- What is packed is told again. -/
theorem un_pack (p b : Int) (m : Bool) (t : Int) (h : rightH p b m t = true) : fP (packH p b m t) = p ∧ fB (packH p b m t) = b ∧ fM (packH p b m t) = m ∧ fT (packH p b m t) = t := by
  have hp : packH p b m t = if m then withB (markB ||| 1#64) 32 16 (BitVec.ofInt 64 t) else withB (withB markB 1 8 (BitVec.ofInt 64 p)) 16 12 (BitVec.ofInt 64 b) := if_pos h
  unfold fP fB fM fT
  rcases rightH_out h with ⟨rfl, rfl, rfl, h1, h2⟩ | ⟨rfl, rfl, h1, h2, h3, h4⟩
  · rw [if_pos rfl] at hp
    rw [hp]
    obtain ⟨e1, e2, e3, e4⟩ := unM (BitVec.ofInt 64 t)
    rw [e1, e2, e3, e4, field_small t 16 (by decide) h1 (by show t < 65536; omega), U64_zero]
    exact ⟨rfl, rfl, rfl, U64_ofInt t h1 (by omega)⟩
  · rw [if_neg (by simp)] at hp
    rw [hp]
    obtain ⟨e1, e2, e3, e4⟩ := unN (BitVec.ofInt 64 p) (BitVec.ofInt 64 b)
    rw [e1, e2, e3, e4, field_small p 8 (by decide) h1 (by show p < 256; omega), field_small b 12 (by decide) h3 (by show b < 4096; omega), U64_zero]
    exact ⟨U64_ofInt p h1 (by omega), U64_ofInt b h3 (by omega), rfl, rfl⟩
theorem ok_pack (p b : Int) (m : Bool) (t : Int) (h : rightH p b m t = true) : okU (packH p b m t) = true := by
  obtain ⟨e1, e2, e3, e4⟩ := un_pack p b m t h
  unfold okU
  rw [e1, e2, e3, e4, h]
  simp
/-- The document's road: a word that is marked moved has but To, another one but its numbers. -/
theorem ok_moved (x : BitVec 64) (hm : fM x = true) : (rightH 0 0 true (fT x) && (packH 0 0 true (fT x) == x)) = okU x ∧ (okU x = true → fP x = 0 ∧ fB x = 0) := by
  have key : rightH 0 0 true (fT x) = true → packH 0 0 true (fT x) = x → fP x = 0 ∧ fB x = 0 := by
    intro h e
    obtain ⟨e1, e2, _, _⟩ := un_pack 0 0 true (fT x) h
    rw [e] at e1 e2
    exact ⟨e1, e2⟩
  have key2 : okU x = true → fP x = 0 ∧ fB x = 0 := by
    intro h
    unfold okU at h
    rw [Bool.and_eq_true] at h
    rcases rightH_out h.1 with ⟨_, h1, h2, _⟩ | ⟨h1, _⟩
    · exact ⟨h1, h2⟩
    · rw [hm] at h1; cases h1
  refine ⟨?_, key2⟩
  rw [Bool.eq_iff_iff]
  constructor
  · intro h
    rw [Bool.and_eq_true, beq_iff_eq] at h
    obtain ⟨a, c⟩ := key h.1 h.2
    unfold okU
    rw [a, c, hm, h.1, h.2]; simp
  · intro h
    obtain ⟨a, c⟩ := key2 h
    unfold okU at h
    rw [a, c, hm] at h
    exact h
theorem ok_plain (x : BitVec 64) (hm : fM x = false) : (rightH (fP x) (fB x) false 0 && (packH (fP x) (fB x) false 0 == x)) = okU x ∧ (okU x = true → fT x = 0) := by
  have key : rightH (fP x) (fB x) false 0 = true → packH (fP x) (fB x) false 0 = x → fT x = 0 := by
    intro h e
    obtain ⟨_, _, _, e4⟩ := un_pack (fP x) (fB x) false 0 h
    rw [e] at e4
    exact e4
  have key2 : okU x = true → fT x = 0 := by
    intro h
    unfold okU at h
    rw [Bool.and_eq_true] at h
    rcases rightH_out h.1 with ⟨h1, _⟩ | ⟨_, h1, _⟩
    · rw [hm] at h1; cases h1
    · exact h1
  refine ⟨?_, key2⟩
  rw [Bool.eq_iff_iff]
  constructor
  · intro h
    rw [Bool.and_eq_true, beq_iff_eq] at h
    have a := key h.1 h.2
    unfold okU
    rw [a, hm, h.1, h.2]; simp
  · intro h
    have a := key2 h
    unfold okU at h
    rw [a, hm] at h
    exact h
end Go.Proofs.YtfodefgihicafaaDoor
