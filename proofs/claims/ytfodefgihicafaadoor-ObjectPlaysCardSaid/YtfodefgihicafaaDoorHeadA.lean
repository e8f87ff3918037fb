/- What the functions of package head and their twins in loamref14 answer. No conditions. -/
import Derived.Test.YtfodefgihicafaaDoorBitsA
import Derived.Test.YtfodefgihicafaaDoorBitsF
import Derived.Test.YtfodefgihicafaaDoorBel
namespace Go.Proofs.YtfodefgihicafaaDoor
set_option linter.unusedVariables false
set_option linter.unusedSimpArgs false
open Go.RowKit
structure Hd where
  p : Int
  b : Int
  m : Bool
  t : Int
def Hd.v (h : Hd) : Value := .agg #[.int .i64 h.p, .int .i64 h.b, .bool h.m, .int .i64 h.t]
def rightH (p b : Int) (m : Bool) (t : Int) : Bool := if m then decide (p = 0 ∧ b = 0 ∧ 0 ≤ t ∧ t < 8192) else decide (t = 0 ∧ 0 ≤ p ∧ p ≤ 64 ∧ 0 ≤ b ∧ b ≤ 1024)
theorem rightH_out {p b : Int} {m : Bool} {t : Int} (h : rightH p b m t = true) : (m = true ∧ p = 0 ∧ b = 0 ∧ 0 ≤ t ∧ t < 8192) ∨ (m = false ∧ t = 0 ∧ 0 ≤ p ∧ p ≤ 64 ∧ 0 ≤ b ∧ b ≤ 1024) := by
  cases m
  · right; exact ⟨rfl, by simpa [rightH] using h⟩
  · left; exact ⟨rfl, by simpa [rightH] using h⟩
def markB : BitVec 64 := 9223372036854775808
theorem U64_mark : (9223372036854775808 : Int) = U64 markB := by decide +kernel
theorem U64_mark1 : bits .or .u64 9223372036854775808 1 = U64 (markB ||| 1#64) := by decide +kernel
def packH (p b : Int) (m : Bool) (t : Int) : BitVec 64 := if rightH p b m t then (if m then withB (markB ||| 1#64) 32 16 (BitVec.ofInt 64 t) else withB (withB markB 1 8 (BitVec.ofInt 64 p)) 16 12 (BitVec.ofInt 64 b)) else 0
def errH (p b : Int) (m : Bool) (t : Int) : Int := if rightH p b m t then 0 else 1
set_option maxHeartbeats 400000
theorem right_c (p b : Int) (m : Bool) (t : Int) (w : World) : Calls Tryd.prog 76 #[.agg #[.int .i64 p, .int .i64 b, .bool m, .int .i64 t]] w (RetP (.bool (rightH p b m t)) w) := by
  cases m
  all_goals
    go_enter Tryd.func76, Tryd.ntmps76
    go_wp2
    all_goals go_ret
    all_goals refine ret_b ?_ (by repeat (first | with_reducible assumption | with_reducible exact Below.refl _ _ | with_reducible apply bdN | with_reducible apply Below.drew | with_reducible refine Below.alloc ?_ (by simp) _ | with_reducible refine Below.setCell ?_ (by simp) _))
    all_goals unfold rightH
    all_goals first | (rw [Bool.eq_iff_iff]; simp; omega) | (simp; omega)
theorem rright_c (p b : Int) (m : Bool) (t : Int) (w : World) : Calls Tryd.prog 78 #[.agg #[.int .i64 p, .int .i64 b, .bool m, .int .i64 t]] w (RetP (.bool (rightH p b m t)) w) := by
  cases m
  all_goals
    go_enter Tryd.func78, Tryd.ntmps78
    go_wp2
    all_goals go_ret
    all_goals refine ret_b ?_ (by repeat (first | with_reducible assumption | with_reducible exact Below.refl _ _ | with_reducible apply bdN | with_reducible apply Below.drew | with_reducible refine Below.alloc ?_ (by simp) _ | with_reducible refine Below.setCell ?_ (by simp) _))
    all_goals unfold rightH
    all_goals first | (rw [Bool.eq_iff_iff]; simp; omega) | (simp; omega)
attribute [local go_sem] U64_mark1 wrapu64
theorem pack_c (p b : Int) (m : Bool) (t : Int) (w : World) : Calls Tryd.prog 59 #[.agg #[.int .i64 p, .int .i64 b, .bool m, .int .i64 t]] w (RetP (.tuple #[.int .u64 (U64 (packH p b m t)), .int .i64 (errH p b m t)]) w) := by
  by_cases h : rightH p b m t = true
  · have e1 : errH p b m t = 0 := if_pos h
    have hr := rightH_out h
    have HR := Lib.hid hr; clear hr
    cases m
    · have e2 : packH p b false t = withB (withB markB 1 8 (BitVec.ofInt 64 p)) 16 12 (BitVec.ofInt 64 b) := if_pos h
      rw [e1, e2]
      clear e1 e2
      go_enter Tryd.func59, Tryd.ntmps59
      go_wp2_with (go_at_call 76; refine (right_c _ _ _ _ _).mono ?_; rintro e w1 ⟨rfl, hb1⟩; obtain ⟨hk, hB⟩ := boxed hb1; clear hb1; obtain ⟨hc0, hc1, hc2, hc3⟩ := hk.four; clear hk)
      rw [U64_mark]
      try simp only [wrapu64]
      refine (with_c _ _ _ _ _).go.mono ?_
      rintro e w2 ⟨rfl, m2, rfl⟩
      go_wp2_with fail
      try simp only [wrapu64]
      refine (with_c _ _ _ _ _).go.mono ?_
      rintro e w2 ⟨rfl, m3, rfl⟩
      go_wp2_with fail
      go_ret2
      exact ret_v rfl (by repeat (first | with_reducible assumption | with_reducible exact Below.refl _ _ | with_reducible apply bdN | with_reducible apply Below.drew | with_reducible refine Below.alloc ?_ (by simp) _ | with_reducible refine Below.setCell ?_ (by simp) _))
    · have e2 : packH p b true t = withB (markB ||| 1#64) 32 16 (BitVec.ofInt 64 t) := if_pos h
      rw [e1, e2]
      clear e1 e2
      go_enter Tryd.func59, Tryd.ntmps59
      go_wp2_with (go_at_call 76; refine (right_c _ _ _ _ _).mono ?_; rintro e w1 ⟨rfl, hb1⟩; obtain ⟨hk, hB⟩ := boxed hb1; clear hb1; obtain ⟨hc0, hc1, hc2, hc3⟩ := hk.four; clear hk)
      try simp only [wrapu64, U64_mark1]
      refine (with_c _ _ _ _ _).go.mono ?_
      rintro e w2 ⟨rfl, m2, rfl⟩
      go_wp2_with fail
      go_ret2
      exact ret_v rfl (by repeat (first | with_reducible assumption | with_reducible exact Below.refl _ _ | with_reducible apply bdN | with_reducible apply Below.drew | with_reducible refine Below.alloc ?_ (by simp) _ | with_reducible refine Below.setCell ?_ (by simp) _))
  · have h' : rightH p b m t = false := by simpa using h
    have e1 : errH p b m t = 1 := if_neg h
    have e2 : packH p b m t = 0 := if_neg h
    rw [e1, e2]
    clear e1 e2 h
    go_enter Tryd.func59, Tryd.ntmps59
    go_wp2_with (go_at_call 76; refine (right_c _ _ _ _ _).mono ?_; rintro e w1 ⟨rfl, hb1⟩; obtain ⟨hk, hB⟩ := boxed hb1; clear hb1; obtain ⟨hc0, hc1, hc2, hc3⟩ := hk.four; clear hk)
    go_ret2
    exact ret_v rfl (by repeat (first | with_reducible assumption | with_reducible exact Below.refl _ _ | with_reducible apply bdN | with_reducible apply Below.drew | with_reducible refine Below.alloc ?_ (by simp) _ | with_reducible refine Below.setCell ?_ (by simp) _))
end Go.Proofs.YtfodefgihicafaaDoor
