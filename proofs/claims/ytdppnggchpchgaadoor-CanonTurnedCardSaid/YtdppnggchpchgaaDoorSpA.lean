/- space: bare, New, Used, Free, zero. Conditions: lengths. -/
import Derived.Test.YtdppnggchpchgaaDoorMmD
import Derived.Test.YtdppnggchpchgaaDoorHeadF
import Derived.Test.YtdppnggchpchgaaDoorRegT
namespace Go.Proofs.YtdppnggchpchgaaDoor
set_option linter.unusedVariables false
set_option linter.unusedSimpArgs false
open Go.RowKit
section
variable {W W' : World} {B s g : Nat} {v : Value} {ws ws' : List (BitVec 64)} {b t e : Nat}
end
/-- Of the old blocks only s and the row may have changed. -/
structure Two (w w' : World) (s : Nat) (row : Option Nat) : Prop where
  os : w'.os = w.os
  tape : w'.tape = w.tape
  output : w'.output = w.output
  size : w.heap.size ≤ w'.heap.size
  block : ∀ k, k < w.heap.size → k ≠ s → some k ≠ row → w'.heap[k]? = w.heap[k]?
theorem Two.trans {a b c : World} {s : Nat} {row : Option Nat} (h : Two a b s row) (k : Two b c s row) : Two a c s row :=
  ⟨k.os.trans h.os, k.tape.trans h.tape, k.output.trans h.output, Nat.le_trans h.size k.size, fun i hi h1 h2 => (k.block i (Nat.lt_of_lt_of_le hi h.size) h1 h2).trans (h.block i hi h1 h2)⟩
theorem Two.below {a b : World} {s : Nat} {row : Option Nat} (h : Below a.heap.size a b) : Two a b s row := ⟨h.os, h.tape, h.output, h.size, fun k hk _ _ => h.block k hk⟩
theorem Two.grown {a b : World} {s : Nat} {row : Option Nat} (h : a.grownBy b row) : Two a b s row := ⟨h.os, h.tape, h.output, h.size, fun k hk _ h2 => h.block k hk h2⟩
theorem Two.setc (a : World) (s i : Nat) (u : Value) (row : Option Nat) : Two a (a.setCell ⟨s, i, none⟩ u) s row := ⟨rfl, rfl, rfl, by simp [World.setCell], fun k _ hne _ => Below.heap_setCell _ _ _ _ hne⟩
set_option maxHeartbeats 400000
set_option maxRecDepth 100000
/-- k words from a on made 0. -/
def zeroW (ws : List (BitVec 64)) (a : Nat) : Nat → List (BitVec 64)
  | 0 => ws
  | k + 1 => (zeroW ws a k).set (a + k) 0#64
theorem zeroW_len (ws : List (BitVec 64)) (a k : Nat) : (zeroW ws a k).length = ws.length := by
  induction k with
  | zero => rfl
  | succ k ih => show (List.set _ _ _).length = _; rw [List.length_set, ih]
theorem zeroW_get (ws : List (BitVec 64)) (a i : Nat) : ∀ k, a + k ≤ ws.length → (zeroW ws a k)[i]? = if a ≤ i ∧ i < a + k then some 0#64 else ws[i]?
  | 0, _ => by
    rw [if_neg (by omega)]; rfl
  | k + 1, h => by
    show ((zeroW ws a k).set (a + k) 0#64)[i]? = _
    rw [List.getElem?_set, zeroW_get ws a i k (by omega)]
    by_cases e : a + k = i
    · subst e
      rw [if_pos rfl, if_pos (by rw [zeroW_len]; omega), if_pos (by omega)]
    · rw [if_neg e]
      by_cases c : a ≤ i ∧ i < a + k
      · rw [if_pos c, if_pos (by omega)]
      · rw [if_neg c, if_neg (by omega)]
end Go.Proofs.YtdppnggchpchgaaDoor
