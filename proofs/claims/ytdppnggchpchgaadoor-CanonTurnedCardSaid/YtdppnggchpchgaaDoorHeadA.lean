/- What the functions of package head and their twins in loamref14 answer. No conditions. -/
import Derived.Test.YtdppnggchpchgaaDoorBitsA
import Derived.Test.YtdppnggchpchgaaDoorBitsF
import Derived.Test.YtdppnggchpchgaaDoorBel
namespace Go.Proofs.YtdppnggchpchgaaDoor
set_option linter.unusedVariables false
set_option linter.unusedSimpArgs false
open Go.RowKit
structure Hd where
  p : Int
  b : Int
  m : Bool
  t : Int
def Hd.v (h : Hd) : Value := .agg #[.int .i64 h.p, .int .i64 h.b, .bool h.m, .int .i64 h.t]
def rightH (p b : Int) (m : Bool) (t : Int) : Bool := if m then decide (p = 0 ∧ b = 0 ∧ 0 ≤ t ∧ t < 8192) else decide (t = 0 ∧ 0 ≤ p ∧ p ≤ 64 ∧ 0 ≤ b ∧ b ≤ 1024)
theorem rightH_out {p b : Int} {m : Bool} {t : Int} (h : rightH p b m t = true) : (m = true ∧ p = 0 ∧ b = 0 ∧ 0 ≤ t ∧ t < 8192) ∨ (m = false ∧ t = 0 ∧ 0 ≤ p ∧ p ≤ 64 ∧ 0 ≤ b ∧ b ≤ 1024) := by
  cases m
  · right; exact ⟨rfl, by simpa [rightH] using h⟩
  · left; exact ⟨rfl, by simpa [rightH] using h⟩
def markB : BitVec 64 := 9223372036854775808
theorem U64_mark : (9223372036854775808 : Int) = U64 markB := by decide +kernel
theorem U64_mark1 : bits .or .u64 9223372036854775808 1 = U64 (markB ||| 1#64) := by decide +kernel
def packH (p b : Int) (m : Bool) (t : Int) : BitVec 64 := if rightH p b m t then (if m then withB (markB ||| 1#64) 32 16 (BitVec.ofInt 64 t) else withB (withB markB 1 8 (BitVec.ofInt 64 p)) 16 12 (BitVec.ofInt 64 b)) else 0
def errH (p b : Int) (m : Bool) (t : Int) : Int := if rightH p b m t then 0 else 1
set_option maxHeartbeats 400000
attribute [local go_sem] U64_mark1 wrapu64
end Go.Proofs.YtdppnggchpchgaaDoor
