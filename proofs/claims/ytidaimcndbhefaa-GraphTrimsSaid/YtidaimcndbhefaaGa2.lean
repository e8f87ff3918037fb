/- Texts joined: HeadA HeadB BitsB Str Frame GrA GrB GrC. -/
import Derived.Test.YtidaimcndbhefaaGa1
import Derived.LoopTactic
import Derived.Laws.BytesArg
import Derived.Laws.IdiomStrings
import Derived.Test.YtidaimcndbhefaaRows
import Derived.WalkKit
import Derived.ProofKit
import Derived.OpenShut
import Derived.ShutString
import Derived.ChangeOld
import Derived.Below
import Derived.Lib.Bytealg
import Derived.Laws.Cover1
/- What the functions of package head and their twins in loamref14 answer. No conditions. -/
namespace Go.Proofs.Ytidaimcndbhefaa
set_option linter.unusedVariables false
set_option linter.unusedSimpArgs false
open Go.RowKit
structure Hd where
  p : Int
  b : Int
  m : Bool
  t : Int
def Hd.v (h : Hd) : Value := .agg #[.int .i64 h.p, .int .i64 h.b, .bool h.m, .int .i64 h.t]
def rightH (p b : Int) (m : Bool) (t : Int) : Bool := if m then decide (p = 0 ∧ b = 0 ∧ 0 ≤ t ∧ t < 8192) else decide (t = 0 ∧ 0 ≤ p ∧ p ≤ 64 ∧ 0 ≤ b ∧ b ≤ 1024)
theorem rightH_out {p b : Int} {m : Bool} {t : Int} (h : rightH p b m t = true) : (m = true ∧ p = 0 ∧ b = 0 ∧ 0 ≤ t ∧ t < 8192) ∨ (m = false ∧ t = 0 ∧ 0 ≤ p ∧ p ≤ 64 ∧ 0 ≤ b ∧ b ≤ 1024) := by
  cases m
  · right; exact ⟨rfl, by simpa [rightH] using h⟩
  · left; exact ⟨rfl, by simpa [rightH] using h⟩
def markB : BitVec 64 := 9223372036854775808
theorem U64_mark : (9223372036854775808 : Int) = U64 markB := by decide +kernel
theorem U64_mark1 : bits .or .u64 9223372036854775808 1 = U64 (markB ||| 1#64) := by decide +kernel
def packH (p b : Int) (m : Bool) (t : Int) : BitVec 64 := if rightH p b m t then (if m then withB (markB ||| 1#64) 32 16 (BitVec.ofInt 64 t) else withB (withB markB 1 8 (BitVec.ofInt 64 p)) 16 12 (BitVec.ofInt 64 b)) else 0
def errH (p b : Int) (m : Bool) (t : Int) : Int := if rightH p b m t then 0 else 1
set_option maxHeartbeats 400000
theorem right_c (p b : Int) (m : Bool) (t : Int) (w : World) : Calls Try.prog 45 #[.agg #[.int .i64 p, .int .i64 b, .bool m, .int .i64 t]] w (RetP (.bool (rightH p b m t)) w) := by
  cases m
  all_goals
    go_enter Try.func45, Try.ntmps45
    go_wp2
    all_goals go_ret
    all_goals refine ret_b ?_ (by repeat (first | with_reducible assumption | with_reducible exact Below.refl _ _ | with_reducible apply bdN | with_reducible apply Below.drew | with_reducible refine Below.alloc ?_ (by simp) _ | with_reducible refine Below.setCell ?_ (by simp) _))
    all_goals unfold rightH
    all_goals first | (rw [Bool.eq_iff_iff]; simp; omega) | (simp; omega)
theorem rright_c (p b : Int) (m : Bool) (t : Int) (w : World) : Calls Try.prog 50 #[.agg #[.int .i64 p, .int .i64 b, .bool m, .int .i64 t]] w (RetP (.bool (rightH p b m t)) w) := by
  cases m
  all_goals
    go_enter Try.func50, Try.ntmps50
    go_wp2
    all_goals go_ret
    all_goals refine ret_b ?_ (by repeat (first | with_reducible assumption | with_reducible exact Below.refl _ _ | with_reducible apply bdN | with_reducible apply Below.drew | with_reducible refine Below.alloc ?_ (by simp) _ | with_reducible refine Below.setCell ?_ (by simp) _))
    all_goals unfold rightH
    all_goals first | (rw [Bool.eq_iff_iff]; simp; omega) | (simp; omega)
attribute [local go_sem] U64_mark1 wrapu64
end Go.Proofs.Ytidaimcndbhefaa
/- What the twins of package head in loamref14 answer, and sizes. No conditions. -/
namespace Go.Proofs.Ytidaimcndbhefaa
set_option linter.unusedVariables false
set_option linter.unusedSimpArgs false
open Go.RowKit
theorem small_bit (t : Int) (k : Nat) (h1 : 0 ≤ t) (h2 : t < 2 ^ k) (j : Nat) (hj : k ≤ j) : (BitVec.ofInt 64 t).getLsbD j = false := by
  obtain ⟨n, rfl⟩ := Int.eq_ofNat_of_zero_le h1
  have h3 : n < 2 ^ k := by exact_mod_cast h2
  rcases Nat.lt_or_ge j 64 with hj2 | hj2
  · rw [BitVec.ofInt_natCast, BitVec.getLsbD_ofNat]
    rw [Nat.testBit_lt_two_pow (Nat.lt_of_lt_of_le h3 (Nat.pow_le_pow_right (by decide) hj))]
    simp
  · exact BitVec.getLsbD_of_ge _ _ hj2
theorem mark_bit (i : Nat) : markB.getLsbD i = decide (i = 63) := by
  rcases Nat.lt_or_ge i 64 with h | h
  · have : ∀ k : Fin 64, markB.getLsbD k.val = decide (k.val = 63) := by decide +kernel
    exact this ⟨i, h⟩
  · rw [BitVec.getLsbD_of_ge _ _ h]; simp; omega
theorem one_bit (i : Nat) : (1#64).getLsbD i = decide (i = 0) := by
  rcases Nat.lt_or_ge i 64 with h | h
  · have : ∀ k : Fin 64, (1#64).getLsbD k.val = decide (k.val = 0) := by decide +kernel
    exact this ⟨i, h⟩
  · rw [BitVec.getLsbD_of_ge _ _ h]; simp; omega
theorem packM (t : Int) (h1 : 0 ≤ t) (h2 : t < 8192) : (markB ||| 1#64) + (BitVec.ofInt 64 t <<< 32) = withB (markB ||| 1#64) 32 16 (BitVec.ofInt 64 t) := by
  have hw : wB 32 16 = true := by decide
  rw [BitVec.add_eq_or_of_and_eq_zero]
  · apply BitVec.eq_of_getLsbD_eq
    intro i hi
    rw [with_bit _ _ _ _ hw _ hi, BitVec.getLsbD_or, BitVec.getLsbD_or, mark_bit, one_bit, BitVec.getLsbD_shiftLeft]
    by_cases a : 32 ≤ i ∧ i < 48
    · rw [if_pos (by omega)]
      have b1 : ¬ i = 63 := by omega
      have b2 : ¬ i = 0 := by omega
      have b3 : ¬ i < 32 := by omega
      simp [hi, b1, b2, b3]
    · rw [if_neg (by omega)]
      by_cases c : i < 32
      · simp [hi, c]
      · rw [small_bit t 13 h1 (by omega) (i - 32) (by omega)]; simp
  · apply BitVec.eq_of_getLsbD_eq
    intro i hi
    rw [BitVec.getLsbD_and, BitVec.getLsbD_or, mark_bit, one_bit, BitVec.getLsbD_shiftLeft, BitVec.getLsbD_zero]
    by_cases c : i < 32
    · simp [hi, c]
    · by_cases d : i = 63
      · rw [small_bit t 13 h1 (by omega) (i - 32) (by omega)]; simp
      · have e : ¬ i = 0 := by omega
        simp [d, e]
theorem packN (p b : Int) (h1 : 0 ≤ p) (h2 : p ≤ 64) (h3 : 0 ≤ b) (h4 : b ≤ 1024) : markB + (BitVec.ofInt 64 p <<< 1) + (BitVec.ofInt 64 b <<< 16) = withB (withB markB 1 8 (BitVec.ofInt 64 p)) 16 12 (BitVec.ofInt 64 b) := by
  have hw : wB 1 8 = true := by decide
  have hw2 : wB 16 12 = true := by decide
  have e1 : markB + (BitVec.ofInt 64 p <<< 1) = markB ||| (BitVec.ofInt 64 p <<< 1) := by
    apply BitVec.add_eq_or_of_and_eq_zero
    apply BitVec.eq_of_getLsbD_eq
    intro i hi
    rw [BitVec.getLsbD_and, mark_bit, BitVec.getLsbD_shiftLeft, BitVec.getLsbD_zero]
    by_cases d : i = 63
    · rw [small_bit p 7 h1 (by omega) (i - 1) (by omega)]; simp
    · simp [d]
  rw [e1, BitVec.add_eq_or_of_and_eq_zero]
  · apply BitVec.eq_of_getLsbD_eq
    intro i hi
    rw [with_bit _ _ _ _ hw2 _ hi, with_bit _ _ _ _ hw _ hi, BitVec.getLsbD_or, BitVec.getLsbD_or, mark_bit, BitVec.getLsbD_shiftLeft, BitVec.getLsbD_shiftLeft]
    by_cases a : 16 ≤ i
    · have b3 : ¬ i < 16 := by omega
      have b4 : ¬ i < 1 := by omega
      rw [small_bit p 7 h1 (by omega) (i - 1) (by omega)]
      by_cases c : i < 28
      · rw [if_pos (by omega)]
        have b1 : ¬ i = 63 := by omega
        simp [hi, b1, b3]
      · rw [if_neg (by omega), if_neg (by omega), small_bit b 11 h3 (by omega) (i - 16) (by omega)]
        simp
    · rw [if_neg (by omega)]
      have b1 : ¬ i = 63 := by omega
      have b3 : i < 16 := by omega
      by_cases c : 1 ≤ i ∧ i < 9
      · rw [if_pos (by omega)]
        have b4 : ¬ i < 1 := by omega
        simp [hi, b1, b3, b4]
      · rw [if_neg (by omega)]
        by_cases d : i < 1
        · simp [b1, b3, d]
        · rw [small_bit p 7 h1 (by omega) (i - 1) (by omega)]; simp [b1, b3]
  · apply BitVec.eq_of_getLsbD_eq
    intro i hi
    rw [BitVec.getLsbD_and, BitVec.getLsbD_or, mark_bit, BitVec.getLsbD_shiftLeft, BitVec.getLsbD_shiftLeft, BitVec.getLsbD_zero]
    by_cases a : i < 16
    · simp [a]
    · rw [small_bit p 7 h1 (by omega) (i - 1) (by omega)]
      by_cases d : i = 63
      · rw [small_bit b 11 h3 (by omega) (i - 16) (by omega)]; simp
      · simp [d]
def sizeH (p b : Int) (m : Bool) (t : Int) : Int := if rightH p b m t = true ∧ m = false then 1 + p + (b + 7) / 8 else 0
theorem mark_1 : BitVec.ofInt 64 9223372036854775809 = markB ||| 1#64 := by decide +kernel
theorem mark_0 : BitVec.ofInt 64 9223372036854775808 = markB := by decide +kernel
theorem sumM (t : Int) (h1 : 0 ≤ t) (h2 : t < 8192) : (9223372036854775809 : Int) + t * (4294967296 : Int) = U64 ((markB ||| 1#64) + (BitVec.ofInt 64 t <<< 32)) := by
  rw [← mark_1, show BitVec.ofInt 64 t <<< 32 = BitVec.ofInt 64 (t * 2 ^ 32) from (ofInt_mul_pow _ _ _).symm, ← BitVec.ofInt_add]
  exact U64_of (by omega) (by omega)
theorem sumN (p b : Int) (h1 : 0 ≤ p) (h2 : p ≤ 64) (h3 : 0 ≤ b) (h4 : b ≤ 1024) : (9223372036854775808 : Int) + p * (2 : Int) + b * (65536 : Int) = U64 (markB + (BitVec.ofInt 64 p <<< 1) + (BitVec.ofInt 64 b <<< 16)) := by
  rw [← mark_0, show BitVec.ofInt 64 p <<< 1 = BitVec.ofInt 64 (p * 2 ^ 1) from (ofInt_mul_pow _ _ _).symm, show BitVec.ofInt 64 b <<< 16 = BitVec.ofInt 64 (b * 2 ^ 16) from (ofInt_mul_pow _ _ _).symm, ← BitVec.ofInt_add, ← BitVec.ofInt_add]
  exact U64_of (by omega) (by omega)
theorem tup_ue' {a b : Int} {y : Int} (h : a = b) : Value.tuple #[.int .u64 a, .int .i64 y] = .tuple #[.int .u64 b, .int .i64 y] := by rw [h]
set_option maxHeartbeats 400000
theorem size_c (p b : Int) (m : Bool) (t : Int) (w : World) : Calls Try.prog 36 #[.agg #[.int .i64 p, .int .i64 b, .bool m, .int .i64 t]] w (RetP (.int .i64 (sizeH p b m t)) w) := by
  by_cases h : rightH p b m t = true
  · cases m
    · have hr := rightH_out h
      simp only [Bool.false_eq_true, false_and, true_and, false_or] at hr
      obtain ⟨h0, h1, h2, h3, h4⟩ := hr
      have e2 : sizeH p b false t = 1 + p + (b + 7) / 8 := if_pos ⟨h, rfl⟩
      rw [e2]
      have H0 := Lib.hid h0
      clear e2 h0
      go_enter Try.func36, Try.ntmps36
      go_wp2_with (go_at_call 45; refine (right_c _ _ _ _ _).mono ?_; rintro e w1 ⟨rfl, hb1⟩; obtain ⟨hk, hB⟩ := boxed hb1; clear hb1; obtain ⟨hc0, hc1, hc2, hc3⟩ := hk.four; clear hk)
      go_ret
      refine ret_i ?_ (by repeat (first | with_reducible assumption | with_reducible exact Below.refl _ _ | with_reducible apply bdN | with_reducible apply Below.drew | with_reducible refine Below.alloc ?_ (by simp) _ | with_reducible refine Below.setCell ?_ (by simp) _))
      omega
    · have e2 : sizeH p b true t = 0 := if_neg (by simp)
      rw [e2]
      clear e2
      go_enter Try.func36, Try.ntmps36
      go_wp2_with (go_at_call 45; refine (right_c _ _ _ _ _).mono ?_; rintro e w1 ⟨rfl, hb1⟩; obtain ⟨hk, hB⟩ := boxed hb1; clear hb1; obtain ⟨hc0, hc1, hc2, hc3⟩ := hk.four; clear hk)
      go_ret
      exact ret_i rfl (by repeat (first | with_reducible assumption | with_reducible exact Below.refl _ _ | with_reducible apply bdN | with_reducible apply Below.drew | with_reducible refine Below.alloc ?_ (by simp) _ | with_reducible refine Below.setCell ?_ (by simp) _))
  · have h' : rightH p b m t = false := by simpa using h
    have e2 : sizeH p b m t = 0 := if_neg (fun h2 => h h2.1)
    rw [e2]
    clear e2 h
    go_enter Try.func36, Try.ntmps36
    go_wp2_with (go_at_call 45; refine (right_c _ _ _ _ _).mono ?_; rintro e w1 ⟨rfl, hb1⟩; obtain ⟨hk, hB⟩ := boxed hb1; clear hb1; obtain ⟨hc0, hc1, hc2, hc3⟩ := hk.four; clear hk)
    go_ret
    exact ret_i rfl (by repeat (first | with_reducible assumption | with_reducible exact Below.refl _ _ | with_reducible apply bdN | with_reducible apply Below.drew | with_reducible refine Below.alloc ?_ (by simp) _ | with_reducible refine Below.setCell ?_ (by simp) _))
theorem rsize_c (p b : Int) (m : Bool) (t : Int) (w : World) : Calls Try.prog 46 #[.agg #[.int .i64 p, .int .i64 b, .bool m, .int .i64 t]] w (RetP (.int .i64 (sizeH p b m t)) w) := by
  by_cases h : rightH p b m t = true
  · cases m
    · have hr := rightH_out h
      simp only [Bool.false_eq_true, false_and, true_and, false_or] at hr
      obtain ⟨h0, h1, h2, h3, h4⟩ := hr
      have e2 : sizeH p b false t = 1 + p + (b + 7) / 8 := if_pos ⟨h, rfl⟩
      rw [e2]
      have H0 := Lib.hid h0
      clear e2 h0
      go_enter Try.func46, Try.ntmps46
      go_wp2_with (go_at_call 50; refine (rright_c _ _ _ _ _).mono ?_; rintro e w1 ⟨rfl, hb1⟩; obtain ⟨hk, hB⟩ := boxed hb1; clear hb1; obtain ⟨hc0, hc1, hc2, hc3⟩ := hk.four; clear hk)
      go_ret
      refine ret_i ?_ (by repeat (first | with_reducible assumption | with_reducible exact Below.refl _ _ | with_reducible apply bdN | with_reducible apply Below.drew | with_reducible refine Below.alloc ?_ (by simp) _ | with_reducible refine Below.setCell ?_ (by simp) _))
      omega
    · have e2 : sizeH p b true t = 0 := if_neg (by simp)
      rw [e2]
      clear e2
      go_enter Try.func46, Try.ntmps46
      go_wp2_with (go_at_call 50; refine (rright_c _ _ _ _ _).mono ?_; rintro e w1 ⟨rfl, hb1⟩; obtain ⟨hk, hB⟩ := boxed hb1; clear hb1; obtain ⟨hc0, hc1, hc2, hc3⟩ := hk.four; clear hk)
      go_ret
      exact ret_i rfl (by repeat (first | with_reducible assumption | with_reducible exact Below.refl _ _ | with_reducible apply bdN | with_reducible apply Below.drew | with_reducible refine Below.alloc ?_ (by simp) _ | with_reducible refine Below.setCell ?_ (by simp) _))
  · have h' : rightH p b m t = false := by simpa using h
    have e2 : sizeH p b m t = 0 := if_neg (fun h2 => h h2.1)
    rw [e2]
    clear e2 h
    go_enter Try.func46, Try.ntmps46
    go_wp2_with (go_at_call 50; refine (rright_c _ _ _ _ _).mono ?_; rintro e w1 ⟨rfl, hb1⟩; obtain ⟨hk, hB⟩ := boxed hb1; clear hb1; obtain ⟨hc0, hc1, hc2, hc3⟩ := hk.four; clear hk)
    go_ret
    exact ret_i rfl (by repeat (first | with_reducible assumption | with_reducible exact Below.refl _ _ | with_reducible apply bdN | with_reducible apply Below.drew | with_reducible refine Below.alloc ?_ (by simp) _ | with_reducible refine Below.setCell ?_ (by simp) _))
end Go.Proofs.Ytidaimcndbhefaa
/- What bits.Get, bits.Put and their twins in loamref1 answer, for bytes of at most 2^31. -/
namespace Go.Proofs.Ytidaimcndbhefaa
set_option linter.unusedVariables false
set_option linter.unusedSimpArgs false
open Go.RowKit

def b8 (x : BitVec 8) : Value := .int .u8 (U8 x)
theorem b8_one (x : BitVec 8) : (b8 x).oneCell' = true := rfl
def leN : List (BitVec 8) → BitVec 64
  | [] => 0
  | b :: r => (leN r <<< 8) ||| b.setWidth 64
theorem leN_snoc (b : BitVec 8) : ∀ l : List (BitVec 8), leN (l ++ [b]) = leN l ||| (b.setWidth 64 <<< (8 * l.length))
  | [] => by simp [leN]
  | a :: l => by
    simp only [List.cons_append, leN, leN_snoc b l, BitVec.shiftLeft_or_distrib, List.length_cons]
    rw [← BitVec.shiftLeft_add, show 8 * l.length + 8 = 8 * (l.length + 1) from by omega, BitVec.or_assoc, BitVec.or_assoc, BitVec.or_comm (BitVec.setWidth 64 a)]
def inB (len at_ n : Int) : Bool := decide (1 ≤ n ∧ n ≤ 8 ∧ 0 ≤ at_ ∧ at_ + n ≤ len)
theorem inB_out {len at_ n : Int} (h : inB len at_ n = true) : 1 ≤ n ∧ n ≤ 8 ∧ 0 ≤ at_ ∧ at_ + n ≤ len := by simpa [inB] using h
theorem inB_no {len at_ n : Int} (h : ¬ inB len at_ n = true) : ¬ (1 ≤ n ∧ n ≤ 8 ∧ 0 ≤ at_ ∧ at_ + n ≤ len) := by simpa [inB] using h
def seg (bs : List (BitVec 8)) (at_ n : Int) : List (BitVec 8) := (bs.drop at_.toNat).take n.toNat
def getB (bs : List (BitVec 8)) (at_ n : Int) : BitVec 64 := if inB bs.length at_ n then leN (seg bs at_ n) else 0
def errB (len at_ n : Int) : Int := if inB len at_ n then 0 else 1
attribute [local go_sem] shlU64 shrU64 andU64 orU64 andNotU64 addU64 subU64 u8_u64
set_option maxHeartbeats 400000
theorem ans_u64err {a b : BitVec 64} {x y : Int} {w w' : World} (h : a = b) (h2 : x = y) (hw : Dn w w') : AnsP (.tuple #[.int .u64 (U64 b), .int .i64 y]) w (.returned (.tuple #[.int .u64 (U64 a), .int .i64 x])) w' := ⟨by rw [h, h2], hw⟩
theorem seg_len (bs : List (BitVec 8)) (at_ n : Nat) (h : at_ + n ≤ bs.length) : (seg bs at_ n).length = n := by simp [seg]; omega
theorem seg_get (bs : List (BitVec 8)) (at_ n k : Nat) (h : at_ + n ≤ bs.length) (hk : k < n) (hk2 : k < (seg bs at_ n).length) : (seg bs at_ n)[k] = bs[at_ + k]'(by omega) := by
  simp [seg]
theorem take_snoc' {α : Type} (l : List α) (k : Nat) (h : k < l.length) : l.take (k + 1) = l.take k ++ [l[k]] := by
  rw [List.take_succ_eq_append_getElem h]
theorem leN_take (bs : List (BitVec 8)) (p n k : Nat) (h : p + n ≤ bs.length) (hk : k < n) :
    leN ((seg bs p n).take (k + 1)) = leN ((seg bs p n).take k) ||| (bs[p + k]'(by omega)).setWidth 64 <<< (8 * k) := by
  have hl := seg_len bs p n h
  rw [take_snoc' _ _ (by omega), leN_snoc, List.length_take, seg_get _ _ _ _ h hk, hl, Nat.min_eq_left (by omega)]
theorem leN_drop (bs : List (BitVec 8)) (p n k : Nat) (h : p + n ≤ bs.length) (hk : k < n) :
    leN ((seg bs p n).drop k) = (leN ((seg bs p n).drop (k + 1)) <<< 8) ||| (bs[p + k]'(by omega)).setWidth 64 := by
  have hl := seg_len bs p n h
  rw [List.drop_eq_getElem_cons (by omega), seg_get _ _ _ _ h hk]
  rfl
theorem val_u64 {a b : Int} (h : a = b) : Value.int .u64 a = Value.int .u64 b := by rw [h]
theorem val_u8 {a b : Int} (h : a = b) : Value.int .u8 a = Value.int .u8 b := by rw [h]
theorem u64_u8m (x : BitVec 64) : U64 x % 256 = U8 (x.setWidth 8) := by
  rw [← u64_u8]; simp [IntKind.wrap, IntKind.bits, IntKind.signed]
theorem one8 : One Try.prog 51 5 (.int .u8 0) 1 :=
  ⟨by kernel_rfl, by
    have h : (Try.prog.info? 5).map (fun i => (i.zero, i.size, i.bytes)) = some (some (.int .u8 0), 1, 1) := by kernel_rfl
    obtain ⟨i, h1, h2, h3, h4⟩ := info_parts h
    exact ⟨i, h1, h2, h3, h4⟩, rfl⟩
def lowN (v : BitVec 64) (n : Nat) : List (BitVec 8) := (List.range n).map fun i => (v >>> (8 * i)).setWidth 8
theorem lowN_len (v : BitVec 64) (n : Nat) : (lowN v n).length = n := by simp [lowN]
theorem lowN_snoc (v : BitVec 64) (n : Nat) : lowN v (n + 1) = lowN v n ++ [(v >>> (8 * n)).setWidth 8] := by
  simp [lowN, List.range_succ]
/-- What a call that makes a slice of its own leaves. -/
def MkP {α : Type} (f : α → Value) (E : TypeId) (xs : List α) (w : World) (e : Ending) (w' : World) : Prop :=
  ∃ A c, e = .returned (.slice A xs.length c) ∧ xs.length ≤ c ∧ Ow f E w' w.heap.size (.slice A xs.length c) xs ∧ Below w.heap.size w w'
theorem MkP.of {α : Type} {f : α → Value} {E : TypeId} {xs : List α} {w w' : World} {v : Value} (ho : Ow f E w' w.heap.size v xs) (hb : Below w.heap.size w w') : MkP f E xs w (.returned v) w' := by
  obtain ⟨A, c, rfl, hc⟩ := ho.form
  exact ⟨A, c, rfl, hc, ho, hb⟩
def putB (bs : List (BitVec 8)) (at_ n : Int) (v : BitVec 64) : List (BitVec 8) := if inB bs.length at_ n then bs.take at_.toNat ++ (lowN v n.toNat ++ bs.drop (at_.toNat + n.toNat)) else []
/-- What a call that makes a slice of its own, and a number beside it, leaves. -/
def MkEP {α : Type} (f : α → Value) (E : TypeId) (xs : List α) (err : Int) (w : World) (e : Ending) (w' : World) : Prop :=
  ∃ A c, e = .returned (.tuple #[.slice A xs.length c, .int .i64 err]) ∧ xs.length ≤ c ∧ Ow f E w' w.heap.size (.slice A xs.length c) xs ∧ Below w.heap.size w w'
theorem MkEP.of {α : Type} {f : α → Value} {E : TypeId} {xs : List α} {err : Int} {w w' : World} {v : Value} (ho : Ow f E w' w.heap.size v xs) (hb : Below w.heap.size w w') : MkEP f E xs err w (.returned (.tuple #[v, .int .i64 err])) w' := by
  obtain ⟨A, c, rfl, hc⟩ := ho.form
  exact ⟨A, c, rfl, hc, ho, hb⟩
theorem set_mid {α : Type} (a m : List α) (x : α) (l : List α) (p k : Nat) (hp : a.length = p) (hk : m.length = k) (y : α) : (a ++ (m ++ x :: l)).set (p + k) y = a ++ ((m ++ [y]) ++ l) := by
  subst hp; subst hk
  rw [List.set_append_right _ _ (by omega), List.set_append_right _ _ (by omega)]
  simp
end Go.Proofs.Ytidaimcndbhefaa
/- Bytes as a string: the conversion, as an equation for the walk. No conditions. -/
namespace Go.Proofs.Ytidaimcndbhefaa
set_option linter.unusedVariables false
set_option linter.unusedSimpArgs false
open Go.RowKit
def strL (bs : List (BitVec 8)) : List UInt8 := bs.map UInt8.ofBitVec
def strB (bs : List (BitVec 8)) : ByteArray := ⟨(strL bs).toArray⟩
theorem strB_inj {x y : List (BitVec 8)} (h : strB x = strB y) : x = y := by
  unfold strB strL at h
  injection h with h
  have h2 := congrArg Array.toList h
  simp only at h2
  have inj : ∀ a b : BitVec 8, UInt8.ofBitVec a = UInt8.ofBitVec b → a = b := fun a b e => by injection e
  induction x generalizing y with
  | nil => cases y <;> simp_all
  | cons a x ih => cases y with
    | nil => simp at h2
    | cons b y =>
      simp only [List.map_cons, List.cons.injEq] at h2
      rw [inj _ _ h2.1, ih (by simp [h2.2]) h2.2]
theorem str_conv (bs : List (BitVec 8)) (A : Option Addr) (c B : Nat) (w : World) (h : Rd b8 w B A bs) :
    (convert 51 9 (.slice A bs.length c)).run Try.prog w = .ok (.string (strB bs)) w := by
  rcases Nat.eq_zero_or_pos bs.length with h0 | hp
  · have : bs = [] := List.eq_nil_of_length_eq_zero h0
    subst this
    rcases A with _ | ad
    · exact run_convert_bytes_nil w _ 5 (by kernel_rfl) (by kernel_rfl) 0 c _ (by kernel_rfl)
    · exact run_convert_bytes_back w _ _ 5 ad c [] (by kernel_rfl) (by kernel_rfl) (by kernel_rfl) (fun j hj => absurd hj (by simp))
  · obtain ⟨ad, rfl, _, hc⟩ := h.addr hp
    have e : bs.length = (strL bs).length := by simp [strL]
    rw [e]
    refine run_convert_bytes_back w _ _ 5 ad c (strL bs) (by kernel_rfl) (by kernel_rfl) (by kernel_rfl) (fun j hj => ?_)
    have hj' : j < bs.length := by rw [e]; exact hj
    rw [hc j hj']
    simp [b8, U8, strL]
end Go.Proofs.Ytidaimcndbhefaa
/- How an argument of a law is opened: numbers by their bounds, bytes as a list. No conditions. -/
namespace Go.Proofs.Ytidaimcndbhefaa
set_option linter.unusedVariables false
set_option linter.unusedSimpArgs false
open Go.ChangeShapes Go.WideShapes Go.ChangeAt Go.RowKit
/-- A call that answers v; what was there ahead of it is as it was. -/
def TruP (v : Value) (w : World) (e : Ending) (w' : World) : Prop := e = .returned v ∧ Below w.heap.size w w'
theorem own : ownKnob Try.prog.godebug = none := by kernel_rfl
theorem laidOut : laidOutB Try.prog = true := by kernel_rfl
theorem cell_lt {w : World} {a : Addr} {v : Value} (h : w.cell? a = some v) : a.block < w.heap.size := by
  rcases Nat.lt_or_ge a.block w.heap.size with hl | hl
  · exact hl
  · unfold World.cell? at h; rw [Array.getElem?_eq_none hl] at h; cases h
theorem wf64 {n : Int} (h : (Lit.int .i64 n).wf = true) : -9223372036854775808 ≤ n ∧ n ≤ 9223372036854775807 := by
  simpa [Lit.wf, IntKind.min, IntKind.max, IntKind.signed, IntKind.bits] using h
theorem wfu64 {n : Int} (h : (Lit.int .u64 n).wf = true) : n = U64 (BitVec.ofInt 64 n) := by
  have : 0 ≤ n ∧ n ≤ 18446744073709551615 := by simpa [Lit.wf, IntKind.min, IntKind.max, IntKind.signed, IntKind.bits] using h
  exact U64_of this.1 (by omega)
theorem wfu32 {n : Int} (h : (Lit.int .u32 n).wf = true) : n = U32 (BitVec.ofInt 32 n) := by
  have : 0 ≤ n ∧ n ≤ 4294967295 := by simpa [Lit.wf, IntKind.min, IntKind.max, IntKind.signed, IntKind.bits] using h
  exact U32_of this.1 (by omega)
theorem wfu8 {n : Int} (h : (Lit.int .u8 n).wf = true) : n = U8 (BitVec.ofInt 8 n) := by
  have : 0 ≤ n ∧ n ≤ 255 := by simpa [Lit.wf, IntKind.min, IntKind.max, IntKind.signed, IntKind.bits] using h
  exact U8_of this.1 (by omega)
theorem wfi64 {n : Int} (h : (Lit.int .i64 n).wf = true) : n = I64 (BitVec.ofInt 64 n) := I64_of (wf64 h).1 (wf64 h).2
theorem open_bytes {H : Type} {enc : TypeId × Value → H} {P : Program} {W : World} {base : Nat} {sp : Nat → Bool} {hd : Bool} {r : Reach} {b0 : Nat} {t e : TypeId} {v : Value} {d : DataW H} {p : List MemPlace}
    (ht : P.underlying t = some (.slice e)) (he : P.underlying e = some (.int .u8)) (hc : P.cellsOf e = 1)
    (hv : Value.okWide P W r b0 t v) (h : DataW.Trod enc P W base sp hd t v d p) :
    ∃ (A : Option Addr) (bs : List (BitVec 8)) (c : Nat), v = .slice A bs.length c ∧ bs.length ≤ c ∧ c ≤ maxLen ∧ Rd b8 W W.heap.size A bs := by
  obtain ⟨a0, len, cap, rfl⟩ := okWide_slice ht hv
  obtain ⟨fuel, hf⟩ := h
  rcases open_ints ht he hc hf with ⟨hcs, _⟩ | ⟨x, l, c, zs, hcs, _, hl, hm, hz, _, hcell, hwz⟩
  · simp [Value.cells] at hcs
    obtain ⟨rfl, rfl, rfl⟩ := hcs
    exact ⟨none, [], 0, rfl, Nat.le_refl _, by simp [maxLen], Rd.nil⟩
  · simp [Value.cells] at hcs
    obtain ⟨rfl, rfl, rfl⟩ := hcs
    have hlen : len ≤ zs.length := by rw [hz]; split <;> omega
    refine ⟨some x, (zs.take len).map (BitVec.ofInt 8), cap, by simp; omega, by simp; omega, hm, fun j hj => ?_⟩
    have hj' : j < len := by simp at hj; omega
    have hc1 := hcell j (by omega)
    have hb := cell_lt hc1
    rw [add_block] at hb
    refine ⟨x, rfl, hb, ?_⟩
    rw [hc1]
    have hw := hwz (zs.getD j 0) (by rw [List.getD_eq_getElem?_getD, List.getElem?_eq_getElem (by omega)]; exact List.getElem_mem _)
    rw [wfu8 hw]
    have e : zs.getD j 0 = zs[j]'(by omega) := by rw [List.getD_eq_getElem?_getD, List.getElem?_eq_getElem (by omega)]; rfl
    rw [e]
    simp [b8]
end Go.Proofs.Ytidaimcndbhefaa
/- Graphs in memory; graph.has, checkNode. Conditions: lengths. -/
namespace Go.Proofs.Ytidaimcndbhefaa
set_option linter.unusedVariables false
set_option linter.unusedSimpArgs false
open Go.RowKit
def iV (z : Int) : Value := .int .i64 z
theorem iV_one : ∀ x : Int, (iV x).oneCell' = true := fun _ => rfl
/-- A node: where its pointers and its bytes lie, and what they are. -/
structure Nv where
  A : Option Addr
  c : Nat
  D : Option Addr
  d : Nat
  ps : List Int
  bs : List (BitVec 8)
def Nv.vp (x : Nv) : Value := .slice x.A x.ps.length x.c
def Nv.vd (x : Nv) : Value := .slice x.D x.bs.length x.d
def Nv.v (x : Nv) : Value := .agg #[x.vp, x.vd]
structure Nv.At (w : World) (B : Nat) (x : Nv) : Prop where
  p : Rd iV w B x.A x.ps
  b : Rd b8 w B x.D x.bs
  pc : x.ps.length ≤ x.c
  bc : x.bs.length ≤ x.d
def NRow (w : World) (B : Nat) (A : Option Addr) (xs : List Nv) : Prop := ∀ i (h : i < xs.length), ∃ ad, A = some ad ∧ ad.block < B ∧ w.cell? (ad.add (i * 2)) = some (xs[i]).vp ∧ w.cell? ⟨(ad.add (i * 2)).block, (ad.add (i * 2)).off + 1, none⟩ = some (xs[i]).vd ∧ (xs[i]).At w B
structure Rv where
  s : ByteArray
  t : Int
def Rv.v (x : Rv) : Value := .agg #[.string x.s, .int .i64 x.t]
def RoRow (w : World) (B : Nat) (A : Option Addr) (xs : List Rv) : Prop := ∀ i (h : i < xs.length), ∃ ad, A = some ad ∧ ad.block < B ∧ w.cell? (ad.add (i * 2)) = some (.string (xs[i]).s) ∧ w.cell? ⟨(ad.add (i * 2)).block, (ad.add (i * 2)).off + 1, none⟩ = some (.int .i64 (xs[i]).t)
structure Gv where
  A : Option Addr
  c : Nat
  A2 : Option Addr
  c2 : Nat
  n : List Nv
  r : List Rv
def Gv.vn (g : Gv) : Value := .slice g.A g.n.length g.c
def Gv.vr (g : Gv) : Value := .slice g.A2 g.r.length g.c2
def Gv.v (g : Gv) : Value := .agg #[g.vn, g.vr]
structure Gv.At (w : World) (B : Nat) (g : Gv) : Prop where
  n : NRow w B g.A g.n
  r : RoRow w B g.A2 g.r
  nc : g.n.length ≤ g.c
  rc : g.r.length ≤ g.c2
section
variable {w w' : World} {B B' : Nat}
theorem Nv.At.below {x : Nv} (h : x.At w B) (hb : Below B w w') : x.At w' B := ⟨h.p.below hb, h.b.below hb, h.pc, h.bc⟩
theorem Nv.At.more {x : Nv} (h : x.At w B) (hb : B ≤ B') : x.At w B' := ⟨h.p.more hb, h.b.more hb, h.pc, h.bc⟩
theorem NRow.below {A : Option Addr} {xs : List Nv} (h : NRow w B A xs) (hb : Below B w w') : NRow w' B A xs := fun i hi => by
  obtain ⟨ad, h1, h2, h3, h4, h5⟩ := h i hi
  have hbk : (ad.add (i * 2)).block < B := by rw [add_block]; exact h2
  exact ⟨ad, h1, h2, (hb.cell hbk).trans h3, (hb.cell (p := ⟨(ad.add (i * 2)).block, (ad.add (i * 2)).off + 1, none⟩) hbk).trans h4, h5.below hb⟩
theorem NRow.more {A : Option Addr} {xs : List Nv} (h : NRow w B A xs) (hb : B ≤ B') : NRow w B' A xs := fun i hi => by
  obtain ⟨ad, h1, h2, h3, h4, h5⟩ := h i hi
  exact ⟨ad, h1, by omega, h3, h4, h5.more hb⟩
theorem RoRow.below {A : Option Addr} {xs : List Rv} (h : RoRow w B A xs) (hb : Below B w w') : RoRow w' B A xs := fun i hi => by
  obtain ⟨ad, h1, h2, h3, h4⟩ := h i hi
  have hbk : (ad.add (i * 2)).block < B := by rw [add_block]; exact h2
  exact ⟨ad, h1, h2, (hb.cell hbk).trans h3, (hb.cell (p := ⟨(ad.add (i * 2)).block, (ad.add (i * 2)).off + 1, none⟩) hbk).trans h4⟩
theorem RoRow.more {A : Option Addr} {xs : List Rv} (h : RoRow w B A xs) (hb : B ≤ B') : RoRow w B' A xs := fun i hi => by
  obtain ⟨ad, h1, h2, h3, h4⟩ := h i hi
  exact ⟨ad, h1, by omega, h3, h4⟩
theorem Gv.At.below {g : Gv} (h : g.At w B) (hb : Below B w w') : g.At w' B := ⟨h.n.below hb, h.r.below hb, h.nc, h.rc⟩
theorem Gv.At.more {g : Gv} (h : g.At w B) (hb : B ≤ B') : g.At w B' := ⟨h.n.more hb, h.r.more hb, h.nc, h.rc⟩
theorem Gv.At.up {g : Gv} (h : g.At w w.heap.size) (hb : Below w.heap.size w w') : g.At w' w'.heap.size := (h.below hb).more hb.size
theorem Nv.At.up {x : Nv} (h : x.At w w.heap.size) (hb : Below w.heap.size w w') : x.At w' w'.heap.size := (h.below hb).more hb.size
end
/-- A graph that is not out of measure. -/
def Gv.Small (g : Gv) : Prop := g.n.length ≤ 1000000 ∧ g.r.length ≤ 1000000 ∧ ∀ x ∈ g.n, x.ps.length ≤ 1000000 ∧ x.bs.length ≤ 1000000
def hasG (N : Nat) (p : Int) : Bool := decide (1 ≤ p ∧ p ≤ (N : Int))
def okP (N : Nat) (p : Int) : Bool := p == 0 || hasG N p
def ckNode (N : Nat) (x : Nv) : Int := if x.ps.all (okP N) = true then (if 64 < x.ps.length ∨ 1024 < x.bs.length then 3 else 0) else 1
set_option maxHeartbeats 400000
set_option maxRecDepth 100000
theorem has_c (w : World) (a1 a2 : Option Addr) (n c m d : Nat) (p : Int) : Calls Try.prog 28 #[.agg #[.slice a1 n c, .slice a2 m d], .int .i64 p] w (RetP (.bool (hasG n p)) w) := by
  unfold hasG
  go_enter Try.func28, Try.ntmps28
  go_wp2
  all_goals go_ret
  all_goals refine ret_b ?_ (by repeat (first | with_reducible assumption | with_reducible exact Below.refl _ _ | with_reducible apply bdN | with_reducible apply Below.drew | with_reducible refine Below.alloc ?_ (by simp) _ | with_reducible refine Below.setCell ?_ (by simp) _))
  all_goals first | (rw [Bool.eq_iff_iff]; simp; omega) | (simp; omega)
theorem checkNode_c (w : World) (a1 a2 : Option Addr) (N c m d : Nat) (x : Nv) (hx : x.At w w.heap.size) (hl : x.ps.length ≤ 1000000) : Calls Try.prog 26 #[.agg #[.slice a1 N c, .slice a2 m d], x.v] w (RetP (.int .i64 (ckNode N x)) w) := by
  obtain ⟨R, hR⟩ : ∃ R, R = ckNode N x := ⟨_, rfl⟩
  rw [← hR]
  have HR := Lib.hid hR
  have HX := Lib.hid hx
  obtain ⟨A, ca, D, da, ps, bs⟩ := x
  obtain ⟨L, hL⟩ : ∃ L, L = ps.length := ⟨_, rfl⟩
  obtain ⟨M, hM⟩ : ∃ M, M = bs.length := ⟨_, rfl⟩
  have HL := Lib.hid hL
  have HM := Lib.hid hM
  have HHas := Lib.hid (fun W p => has_c W a1 a2 N c m d p)
  unfold Nv.v Nv.vp Nv.vd
  simp only
  rw [← hL, ← hM]
  have q0 : (L : Int) ≤ 1000000 := by rw [hL]; exact Int.ofNat_le.2 hl
  clear hR hx hL hM hl
  go_enter Try.func26, Try.ntmps26
  go_wp2_with fail
  go_loopw [10] (fun i W => ∃ k : Nat, i = .int .i64 k ∧ k ≤ L ∧ Hid ((ps.take k).all (okP N) = true) ∧ Bk W w.heap.size 25 #[.slice a1 N c, .slice a2 m d] ∧ Bk W (w.heap.size + 1) 53 #[.slice A L ca, .slice D M da] ∧ Below w.heap.size w W) (fun i _ => L - (Go.RowKit.intOf i).toNat)
  case atStart =>
    exact ⟨0, rfl, Nat.zero_le _, Lib.hid (by simp), (Bk.new _ _ _).alloc _, by have := Bk.new (w.alloc (.cells #[.slice a1 N c, .slice a2 m d] 25)) 53 #[.slice A L ca, .slice D M da]; simpa using this, (by repeat (first | with_reducible assumption | with_reducible exact Below.refl _ _ | with_reducible apply bdN | with_reducible apply Below.drew | with_reducible refine Below.alloc ?_ (by simp) _ | with_reducible refine Below.setCell ?_ (by simp) _))⟩
  case round =>
    obtain ⟨k, rfl, hk, hall, hb1, hb2, hB⟩ := hrel
    have c0 := hb1.two.1
    have c1 := hb1.two.2
    have d0 := hb2.two.1
    have d1 := hb2.two.2
    by_cases hlt : k < L
    · have hkl : k < ps.length := by rw [← HL.out]; exact hlt
      obtain ⟨p, hp⟩ : ∃ p, p = ps[k] := ⟨_, rfl⟩
      obtain ⟨ad, rfl, hcell⟩ : ∃ ad, A = some ad ∧ wr.cell? (ad.add k) = some (.int .i64 p) := by
        obtain ⟨ad, e, _, hc⟩ := (HX.out.p.below hB) k hkl
        exact ⟨ad, e, by rw [hp]; exact hc⟩
      have p1 : (0 : Int) ≤ (k : Int) := by omega
      have p2 : (k : Int) < (L : Int) := by omega
      have HBB := Lib.hid (And.intro hb1 (And.intro hb2 hB))
      have hnext : okP N p = true → (ps.take (k + 1)).all (okP N) = true := fun e => by
        rw [List.take_succ_eq_append_getElem hkl, List.all_append, hall.out, ← hp]
        simp [e]
      have hstop : okP N p = false → R = 1 := fun e => by
        rw [HR.out]
        unfold ckNode
        rw [if_neg]
        intro h
        have := List.all_eq_true.1 h p (by rw [hp]; exact List.getElem_mem _)
        rw [e] at this
        cases this
      have HN := Lib.hid (And.intro hnext hstop)
      clear hp hb1 hb2 hB hnext hstop hkl
      by_cases h0 : p = 0
      · subst h0
        go_wp2_with fail
        go_roundw
        case rel => exact ⟨k + 1, by go_num, by omega, Lib.hid (HN.out.1 rfl), HBB.out⟩
        case measure => (first | (simp [Go.RowKit.intOf]; done) | (simp [Go.RowKit.intOf]; omega))
      · have h1 : (p != 0) = true := by simp [h0]
        have hok : okP N p = hasG N p := by unfold okP; simp [h0]
        obtain ⟨q, hq⟩ : ∃ q, q = hasG N p := ⟨_, rfl⟩
        rw [← hq] at hok
        have HQ := Lib.hid (HHas.out wr p)
        rw [← hq] at HQ
        clear hq h0
        cases q with
        | true =>
          go_wp2_with fail
          refine Calls.mono HQ.out ?_
          rintro r w2 ⟨rfl, b2⟩
          have HB2 := Lib.hid (And.intro (HBB.out.1.below b2 HBB.out.1.lt) (And.intro (HBB.out.2.1.below b2 HBB.out.2.1.lt) (HBB.out.2.2.trans (b2.mono HBB.out.2.2.size))))
          clear b2 HQ
          go_wp2_with fail
          go_roundw
          case rel => exact ⟨k + 1, by go_num, by omega, Lib.hid (HN.out.1 hok), HB2.out⟩
          case measure => (first | (simp [Go.RowKit.intOf]; done) | (simp [Go.RowKit.intOf]; omega))
        | false =>
          go_wp2_with fail
          refine Calls.mono HQ.out ?_
          rintro r w2 ⟨rfl, b2⟩
          have HB2 := Lib.hid (HBB.out.2.2.trans (b2.mono HBB.out.2.2.size))
          clear b2 HQ
          go_wp2_with fail
          go_ret
          rw [HN.out.2 hok]
          exact ⟨rfl, HB2.out⟩
    · have hkL : k = L := by omega
      have hfull : ps.all (okP N) = true := by
        have := hall.out
        rw [hkL, HL.out, List.take_length] at this
        exact this
      have HBB := Lib.hid hB
      have hR2 : R = if 64 < L ∨ 1024 < M then 3 else 0 := by rw [HR.out]; unfold ckNode; rw [if_pos hfull, HL.out, HM.out]
      clear hb1 hb2 hB hkL hfull hall
      by_cases h1 : 64 < L
      · rw [if_pos (.inl h1)] at hR2
        have HR2 := Lib.hid hR2
        have t1 : decide ((64 : Int) < (L : Int)) = true := by simp; omega
        clear hR2 h1
        go_wp2_with fail
        go_ret
        rw [HR2.out]
        exact ⟨rfl, HBB.out⟩
      · have t1 : decide ((64 : Int) < (L : Int)) = false := by simp; omega
        by_cases h2 : 1024 < M
        · rw [if_pos (.inr h2)] at hR2
          have HR2 := Lib.hid hR2
          have t2 : decide ((1024 : Int) < (M : Int)) = true := by simp; omega
          clear hR2 h2
          go_wp2_with fail
          go_ret
          rw [HR2.out]
          exact ⟨rfl, HBB.out⟩
        · rw [if_neg (by omega)] at hR2
          have HR2 := Lib.hid hR2
          have t2 : decide ((1024 : Int) < (M : Int)) = false := by simp; omega
          clear hR2
          go_wp2_with fail
          go_ret
          rw [HR2.out]
          exact ⟨rfl, HBB.out⟩
end Go.Proofs.Ytidaimcndbhefaa
/- graph.named; graph.Check. Conditions: lengths. -/
namespace Go.Proofs.Ytidaimcndbhefaa
set_option linter.unusedVariables false
set_option linter.unusedSimpArgs false
open Go.RowKit
def goodS (s : ByteArray) : Bool := decide (1 ≤ s.size) && (decide (s.size ≤ 32) && decide (Lib.indexByte s.data.toList 0 < 0))
set_option maxHeartbeats 400000
set_option maxRecDepth 100000
theorem indexS_c (s : ByteArray) (w : World) : Calls Try.prog 43 #[.string s, .int .u8 0] w fun e w' => e = .returned (.int .i64 (Lib.indexByte s.data.toList 0)) ∧ w' = w := by
  have HX := Lib.hid (Lib.run_indexByteString (P := Try.prog) s 0 w)
  go_enter Try.func43, Try.ntmps43
  go_wp2
  rw [run_callFunc_extern Try.func51 (by kernel_rfl) (by kernel_rfl) (by kernel_rfl) (e := Extern.BytealgIndexByte.indexByte) (by kernel_rfl), HX.out]
  simp only [Result.andThen]
  rw [Oper.upon_value]
  go_wp2
  go_ret
  exact ⟨rfl, rfl⟩
theorem named_c (s : ByteArray) (w : World) : Calls Try.prog 27 #[.string s] w fun e w' => e = .returned (.bool (goodS s)) ∧ w' = w := by
  unfold goodS
  have HI := Lib.hid (indexS_c s w)
  obtain ⟨ix, hix⟩ : ∃ ix, ix = Lib.indexByte s.data.toList 0 := ⟨_, rfl⟩
  rw [← hix] at HI ⊢
  obtain ⟨n, hn⟩ : ∃ n, n = s.size := ⟨_, rfl⟩
  rw [← hn]
  clear hix
  by_cases h1 : 1 ≤ n
  · have t1 : decide ((1 : Int) ≤ (s.size : Int)) = true := by simp; omega
    by_cases h2 : n ≤ 32
    · have t2 : decide ((s.size : Int) ≤ (32 : Int)) = true := by simp; omega
      simp only [h1, h2, decide_true, Bool.true_and]
      clear h1 h2 hn
      go_enter Try.func27, Try.ntmps27
      go_wp2_with fail
      refine Calls.mono HI.out ?_
      rintro r w1 ⟨rfl, rfl⟩
      go_wp2_with fail
      go_ret
      exact ⟨rfl, rfl⟩
    · have t2 : decide ((s.size : Int) ≤ (32 : Int)) = false := by simp; omega
      simp only [h2, decide_false, Bool.and_false, Bool.false_and]
      clear h1 h2 hn
      go_enter Try.func27, Try.ntmps27
      go_wp2_with fail
      go_ret
      exact ⟨rfl, rfl⟩
  · have t1 : decide ((1 : Int) ≤ (s.size : Int)) = false := by simp; omega
    simp only [h1, decide_false, Bool.false_and]
    clear h1 hn
    go_enter Try.func27, Try.ntmps27
    go_wp2_with fail
    go_ret
    exact ⟨rfl, rfl⟩
end Go.Proofs.Ytidaimcndbhefaa
/- graph.Check. Conditions: lengths. -/
namespace Go.Proofs.Ytidaimcndbhefaa
set_option linter.unusedVariables false
set_option linter.unusedSimpArgs false
open Go.RowKit
def leS (a b : ByteArray) : Bool := Op.bytesLess a.toList b.toList || a.toList == b.toList
def ckNodes (N : Nat) : List Nv → Int
  | [] => 0
  | x :: r => if ckNode N x = 0 then ckNodes N r else ckNode N x
def ckRoots (N : Nat) : ByteArray → List Rv → Int
  | _, [] => 0
  | last, r :: l => if goodS r.s = true ∧ leS r.s last = false then (if okP N r.t = true then ckRoots N r.s l else 1) else 4
def emptyS : ByteArray := { data := #[] }
def ckG (g : Gv) : Int := if ckNodes g.n.length g.n = 0 then (if 64 < g.r.length then 3 else ckRoots g.n.length emptyS g.r) else ckNodes g.n.length g.n
theorem ckNodes_drop (N : Nat) (l : List Nv) (k : Nat) (h : k < l.length) : ckNodes N (l.drop k) = if ckNode N l[k] = 0 then ckNodes N (l.drop (k + 1)) else ckNode N l[k] := by
  rw [List.drop_eq_getElem_cons h]; rfl
theorem ckRoots_drop (N : Nat) (s : ByteArray) (l : List Rv) (k : Nat) (h : k < l.length) : ckRoots N s (l.drop k) = if goodS (l[k]).s = true ∧ leS (l[k]).s s = false then (if okP N (l[k]).t = true then ckRoots N (l[k]).s (l.drop (k + 1)) else 1) else 4 := by
  rw [List.drop_eq_getElem_cons h]; rfl
set_option maxHeartbeats 1000000
set_option maxRecDepth 100000
theorem check_c (w : World) (g : Gv) (hg : g.At w w.heap.size) (hs : g.Small) : Calls Try.prog 11 #[g.v] w (RetP (.int .i64 (ckG g)) w) := by
  obtain ⟨R, hR⟩ : ∃ R, R = ckG g := ⟨_, rfl⟩
  rw [← hR]
  have HR := Lib.hid hR
  have HG := Lib.hid hg
  have HSm := Lib.hid hs.2.2
  obtain ⟨A, ca, A2, ca2, ns, rs⟩ := g
  obtain ⟨N, hN⟩ : ∃ N, N = ns.length := ⟨_, rfl⟩
  obtain ⟨M, hM⟩ : ∃ M, M = rs.length := ⟨_, rfl⟩
  have HN := Lib.hid hN
  have HM := Lib.hid hM
  have q0 : (N : Int) ≤ 1000000 := by rw [hN]; exact Int.ofNat_le.2 hs.1
  have q1 : (M : Int) ≤ 1000000 := by rw [hM]; exact Int.ofNat_le.2 hs.2.1
  unfold Gv.v Gv.vn Gv.vr
  simp only
  rw [← hN, ← hM]
  have HCk := Lib.hid (fun W x (hx : x.At W W.heap.size) (hl : x.ps.length ≤ 1000000) => checkNode_c W A A2 N ca M ca2 x hx hl)
  have HHas := Lib.hid (fun W p => has_c W A A2 N ca M ca2 p)
  have HNm := Lib.hid (fun s W => named_c s W)
  clear hR hg hs hN hM
  go_enter Try.func11, Try.ntmps11
  go_wp2_with fail
  go_loopw [12] (fun i W => ∃ k : Nat, i = .int .i64 k ∧ k ≤ N ∧ Hid (ckNodes N (ns.drop k) = ckNodes N ns) ∧ Bk W w.heap.size 25 #[.slice A N ca, .slice A2 M ca2] ∧ Below w.heap.size w W) (fun i _ => N - (Go.RowKit.intOf i).toNat)
  case atStart => exact ⟨0, rfl, Nat.zero_le _, Lib.hid rfl, Bk.new _ _ _, (by repeat (first | with_reducible assumption | with_reducible exact Below.refl _ _ | with_reducible apply bdN | with_reducible apply Below.drew | with_reducible refine Below.alloc ?_ (by simp) _ | with_reducible refine Below.setCell ?_ (by simp) _))⟩
  case round =>
    obtain ⟨k, rfl, hk, hck, hb1, hB⟩ := hrel
    have c0 := hb1.two.1
    have hsz := hb1.lt
    have c1 := hb1.two.2
    by_cases hlt : k < N
    · have hkl : k < ns.length := by rw [← HN.out]; exact hlt
      obtain ⟨x, hx⟩ : ∃ x, x = ns[k] := ⟨_, rfl⟩
      obtain ⟨ad, rfl, hc2, hc3, hxa⟩ : ∃ ad, A = some ad ∧ wr.cell? (ad.add (k * 2)) = some x.vp ∧ wr.cell? ⟨(ad.add (k * 2)).block, (ad.add (k * 2)).off + 1, none⟩ = some x.vd ∧ x.At wr wr.heap.size := by
        obtain ⟨ad, e, _, h1, h2, h3⟩ := (HG.out.n.below hB) k hkl
        exact ⟨ad, e, by rw [hx]; exact h1, by rw [hx]; exact h2, by rw [hx]; exact h3.more hB.size⟩
      have HS := Lib.hid (ckNodes_drop N ns k hkl)
      rw [← hx] at HS
      have hxl : x.ps.length ≤ 1000000 := by
        have := (HSm.out x (by rw [hx]; exact List.getElem_mem _)).1
        exact this
      have HXA := Lib.hid (And.intro hxa hxl)
      have p1 : (0 : Int) ≤ (k : Int) := by omega
      have p2 : (k : Int) < (N : Int) := by omega
      have HBB := Lib.hid (And.intro hb1 hB)
      clear hx hb1 hB hkl hxa hxl
      obtain ⟨xA, xc, xD, xd, xps, xbs⟩ := x
      obtain ⟨xn, hxn⟩ : ∃ n, n = xps.length := ⟨_, rfl⟩
      obtain ⟨xm, hxm⟩ : ∃ n, n = xbs.length := ⟨_, rfl⟩
      unfold Nv.vp at hc2
      unfold Nv.vd at hc3
      simp only at hc2 hc3
      have HC := Lib.hid (fun W h1 h2 => HCk.out W ⟨xA, xc, xD, xd, xps, xbs⟩ h1 h2)
      unfold Nv.v Nv.vp Nv.vd at HC
      simp only at HC
      rw [← hxn] at hc2 HC
      rw [← hxm] at hc3 HC
      have HXN := Lib.hid (And.intro hxn hxm)
      obtain ⟨z, hz⟩ : ∃ z, z = ckNode N ⟨xA, xc, xD, xd, xps, xbs⟩ := ⟨_, rfl⟩
      rw [← hz] at HC HS
      clear hxn hxm hz
      go_wp2_with fail
      refine Calls.mono (HC.out _ (HXA.out.1.up (Gw.alloc wr _)) (by rw [HXN.out.1]; exact HXA.out.2)) ?_
      rintro r w2 ⟨rfl, b2⟩
      have b3 : Below wr.heap.size wr w2 := (Gw.alloc wr _).trans (b2.mono (by simp))
      have HB2 := Lib.hid (And.intro (HBB.out.1.below b3 hsz) (HBB.out.2.trans (b3.mono HBB.out.2.size)))
      clear b2 b3 HC
      by_cases hz0 : z = 0
      · subst hz0
        go_wp2_with fail
        go_roundw
        case rel =>
          refine ⟨k + 1, by go_num, by omega, Lib.hid ?_, HB2.out⟩
          rw [← hck.out]
          exact (HS.out.trans (by simp)).symm
        case measure => (first | (simp [Go.RowKit.intOf]; done) | (simp [Go.RowKit.intOf]; omega))
      · have t1 : (z != 0) = true := by simp [hz0]
        have hRz : R = z := by
          rw [HR.out]
          have e : ckNodes N ns = z := by rw [← hck.out, HS.out, if_neg hz0]
          show (if ckNodes ns.length ns = 0 then _ else ckNodes ns.length ns) = z
          rw [← HN.out, e, if_neg hz0]
        have HRz := Lib.hid hRz
        clear hRz hz0
        go_wp2_with fail
        go_ret
        rw [HRz.out]
        exact ⟨rfl, HB2.out.2⟩
    · have hkN : k = N := by omega
      have hck0 : ckNodes N ns = 0 := by
        rw [← hck.out, hkN, HN.out, List.drop_length]; rfl
      have hR2 : R = if 64 < M then 3 else ckRoots N emptyS rs := by
        rw [HR.out]
        show (if ckNodes ns.length ns = 0 then (if 64 < rs.length then 3 else ckRoots ns.length emptyS rs) else _) = _
        rw [← HN.out, if_pos hck0, HM.out]
      have HB1 := Lib.hid (And.intro hb1 hB)
      clear hkN hck0 hck hb1 hB
      by_cases h1 : 64 < M
      · rw [if_pos h1] at hR2
        have HR2 := Lib.hid hR2
        have t1 : decide ((64 : Int) < (M : Int)) = true := by simp; omega
        clear hR2 h1
        go_wp2_with fail
        go_ret
        rw [HR2.out]
        exact ⟨rfl, HB1.out.2⟩
      · rw [if_neg h1] at hR2
        have HR2 := Lib.hid hR2
        have t1 : decide ((64 : Int) < (M : Int)) = false := by simp; omega
        clear hR2 h1
        go_wp2_with fail
        go_loopw [6, 30] (fun l i W => ∃ (k : Nat) (last : ByteArray), i = .int .i64 k ∧ l = .string last ∧ k ≤ M ∧ Hid (R = ckRoots N last (rs.drop k)) ∧ Bk W w.heap.size 25 #[.slice A N ca, .slice A2 M ca2] ∧ Below w.heap.size w W) (fun _ i _ => M - (Go.RowKit.intOf i).toNat)
        case atStart => exact ⟨0, emptyS, rfl, rfl, Nat.zero_le _, Lib.hid HR2.out, HB1.out⟩
        case round =>
          obtain ⟨k, last, rfl, rfl, hk, hck, hb1, hB⟩ := hrel
          have c0 := hb1.two.1
          have hsz := hb1.lt
          have c1 := hb1.two.2
          have HB3 := Lib.hid (And.intro hb1 hB)
          by_cases hlt : k < M
          · have hkl : k < rs.length := by rw [← HM.out]; exact hlt
            obtain ⟨x, hx⟩ : ∃ x, x = rs[k] := ⟨_, rfl⟩
            obtain ⟨ad, rfl, hc2, hc3⟩ : ∃ ad, A2 = some ad ∧ wr.cell? (ad.add (k * 2)) = some (.string x.s) ∧ wr.cell? ⟨(ad.add (k * 2)).block, (ad.add (k * 2)).off + 1, none⟩ = some (.int .i64 x.t) := by
              obtain ⟨ad, e, _, h1, h2⟩ := (HG.out.r.below hB) k hkl
              exact ⟨ad, e, by rw [hx]; exact h1, by rw [hx]; exact h2⟩
            have HS := Lib.hid (hck.out.trans (ckRoots_drop N last rs k hkl))
            rw [← hx] at HS
            obtain ⟨s, t⟩ := x
            simp only at hc2 hc3 HS
            have p1 : (0 : Int) ≤ (k : Int) := by omega
            have p2 : (k : Int) < (M : Int) := by omega
            have HNs := Lib.hid (HNm.out s)
            obtain ⟨q, hq⟩ : ∃ q, q = goodS s := ⟨_, rfl⟩
            rw [← hq] at HNs HS
            clear hx hb1 hB hkl hck hq
            cases q with
            | false =>
              have HR3 : Hid (R = 4) := Lib.hid (HS.out.trans (if_neg (by simp)))
              go_wp2_with fail
              refine Calls.mono (HNs.out _) ?_
              rintro r w2 ⟨rfl, rfl⟩
              go_wp2_with fail
              go_ret
              rw [HR3.out]
              exact ⟨rfl, HB3.out.2.alloc HB3.out.2.size _⟩
            | true =>
              obtain ⟨y, hy⟩ : ∃ y, y = leS s last := ⟨_, rfl⟩
              rw [← hy] at HS
              have hy2 : (Op.bytesLess s.toList last.toList || s.toList == last.toList) = y := hy.symm
              clear hy
              cases y with
              | true =>
                have HR3 : Hid (R = 4) := Lib.hid (HS.out.trans (if_neg (by simp)))
                go_wp2_with fail
                refine Calls.mono (HNs.out _) ?_
                rintro r w2 ⟨rfl, rfl⟩
                go_wp2_with fail
                go_ret
                rw [HR3.out]
                exact ⟨rfl, HB3.out.2.alloc HB3.out.2.size _⟩
              | false =>
                have HR3 := Lib.hid (HS.out.trans (if_pos (by simp)))
                clear HS
                by_cases h0 : t = 0
                · subst h0
                  have HR4 : Hid (R = ckRoots N s (rs.drop (k + 1))) := Lib.hid (HR3.out.trans (if_pos rfl))
                  go_wp2_with fail
                  refine Calls.mono (HNs.out _) ?_
                  rintro r w2 ⟨rfl, rfl⟩
                  go_wp2_with fail
                  go_roundw
                  case rel => exact ⟨k + 1, s, by go_num, rfl, by omega, HR4, HB3.out.1.alloc _, HB3.out.2.alloc HB3.out.2.size _⟩
                  case measure => (first | (simp [Go.RowKit.intOf]; done) | (simp [Go.RowKit.intOf]; omega))
                · have t1 : (t != 0) = true := by simp [h0]
                  have hok : okP N t = hasG N t := by unfold okP; simp [h0]
                  obtain ⟨z, hz⟩ : ∃ z, z = hasG N t := ⟨_, rfl⟩
                  have HQ := Lib.hid (fun W => HHas.out W t)
                  rw [hok, ← hz] at HR3
                  rw [← hz] at HQ
                  clear hz h0 hok
                  cases z with
                  | true =>
                    have HR4 : Hid (R = ckRoots N s (rs.drop (k + 1))) := Lib.hid (HR3.out.trans (if_pos rfl))
                    go_wp2_with fail
                    refine Calls.mono (HNs.out _) ?_
                    rintro r w2 ⟨rfl, rfl⟩
                    go_wp2_with fail
                    refine Calls.mono (HQ.out _) ?_
                    rintro r w2 ⟨rfl, b2⟩
                    have b3 : Below wr.heap.size wr w2 := (Gw.alloc wr _).trans (b2.mono (by simp))
                    have hk2 := Bk.new wr 58 #[.string s, .int .i64 t]
                    have hk3 := hk2.below b2 hk2.lt
                    have e0 := hk3.two.1
                    have e1 := hk3.two.2
                    have HB4 := Lib.hid (And.intro (HB3.out.1.below b3 hsz) (HB3.out.2.trans (b3.mono HB3.out.2.size)))
                    clear b2 b3 hk2 hk3
                    go_wp2_with fail
                    go_roundw
                    case rel => exact ⟨k + 1, s, by go_num, rfl, by omega, HR4, HB4.out⟩
                    case measure => (first | (simp [Go.RowKit.intOf]; done) | (simp [Go.RowKit.intOf]; omega))
                  | false =>
                    have HR4 : Hid (R = 1) := Lib.hid (HR3.out.trans (if_neg (by simp)))
                    go_wp2_with fail
                    refine Calls.mono (HNs.out _) ?_
                    rintro r w2 ⟨rfl, rfl⟩
                    go_wp2_with fail
                    refine Calls.mono (HQ.out _) ?_
                    rintro r w2 ⟨rfl, b2⟩
                    have b3 : Below wr.heap.size wr w2 := (Gw.alloc wr _).trans (b2.mono (by simp))
                    have HB4 := Lib.hid (HB3.out.2.trans (b3.mono HB3.out.2.size))
                    clear b2 b3
                    go_wp2_with fail
                    go_ret
                    rw [HR4.out]
                    exact ⟨rfl, HB4.out⟩
          · have hR0 : R = 0 := by
              rw [hck.out, show k = rs.length by rw [← HM.out]; omega, List.drop_length]; rfl
            have HR0 := Lib.hid hR0
            clear hR0 hck hb1 hB
            go_wp2_with fail
            go_ret
            rw [HR0.out]
            exact ⟨rfl, HB3.out.2⟩
end Go.Proofs.Ytidaimcndbhefaa
