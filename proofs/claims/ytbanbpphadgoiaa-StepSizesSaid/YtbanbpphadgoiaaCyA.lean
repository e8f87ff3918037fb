/- What carry does, on words. No conditions. -/
import Derived.Test.YtbanbpphadgoiaaObF
namespace Go.Proofs.Ytbanbpphadgoiaa
set_option linter.unusedVariables false
set_option linter.unusedSimpArgs false
open Go.RowKit Go.Maps
/-- The old words (headers turned where objects went), the new ones, where they end. -/
structure Cy where
  F : List (BitVec 64)
  T : List (BitVec 64)
  top : Nat
def cpW (T F : List (BitVec 64)) (u a : Nat) : Nat → List (BitVec 64)
  | 0 => T
  | k + 1 => (cpW T F u a k).set (u + (k + 1)) (F.getD (a + (k + 1)) 0#64)
theorem cpW_len (T F : List (BitVec 64)) (u a : Nat) : ∀ k, (cpW T F u a k).length = T.length
  | 0 => rfl
  | k + 1 => by unfold cpW; rw [List.length_set]; exact cpW_len T F u a k
/-- The header of an object that went. -/
def goneW (u : Nat) : BitVec 64 := packH 0 0 true (u : Int)
def movC (c : Cy) (a : Nat) : Cy := ⟨c.F.set a (goneW c.top), cpW (allocW c.T c.top (szX (c.F.getD a 0#64)) (c.F.getD a 0#64)) c.F c.top a (szX (c.F.getD a 0#64) - 1), c.top + szX (c.F.getD a 0#64)⟩
/-- An object at an old place is taken: its new place. -/
def takeC (c : Cy) (a : Nat) : Option (Nat × Cy) :=
  if fM (c.F.getD a 0#64) = true then some ((fT (c.F.getD a 0#64)).toNat, c)
  else if szX (c.F.getD a 0#64) ≤ c.T.length - c.top then some (c.top, movC c a) else none
/-- By a pointer's word: 0 is none. -/
def takeP (c : Cy) (p : Nat) : Option (Nat × Cy) := match p with
  | 0 => some (0, c)
  | a + 1 => (takeC c a).map fun r => (r.1 + 1, r.2)
def setC (c : Cy) (i : Nat) (p : Nat) : Cy := ⟨c.F, c.T.set i (BitVec.ofNat 64 p), c.top⟩
/-- n pointers from the i-th on of the object at a new place. -/
def scanC (at_ : Nat) : Nat → Nat → Cy → Option Cy
  | 0, _, c => some c
  | n + 1, i, c => match takeP c (c.T.getD (at_ + 1 + i) 0#64).toNat with
    | none => none
    | some (p, d) => scanC at_ n (i + 1) (setC d (at_ + 1 + i) p)
/-- All that is there is scanned, from a new place on. -/
def goC : Nat → Nat → Cy → Option Cy
  | 0, _, c => some c
  | f + 1, at_, c => if at_ < c.top then
      match scanC at_ (P0 (c.T.getD at_ 0#64)) 0 c with
      | none => none
      | some d => goC f (at_ + szX (d.T.getD at_ 0#64)) d
    else some c
def rootsC : List Nat → Cy → Option (List Nat × Cy)
  | [], c => some ([], c)
  | p :: l, c => match takeP c p with
    | none => none
    | some (q, d) => match rootsC l d with
      | none => none
      | some (qs, e) => some (q :: qs, e)
theorem allocW_len' (ws : List (BitVec 64)) (t n : Nat) (x : BitVec 64) : (allocW ws t n x).length = ws.length := allocW_len ws t n x
theorem movC_len (c : Cy) (a : Nat) : (movC c a).F.length = c.F.length ∧ (movC c a).T.length = c.T.length := by
  unfold movC
  exact ⟨by simp, by simp [cpW_len, allocW_len]⟩
/-- A header that an old place may have: a whole object's, or one that went. -/
def okF (F : List (BitVec 64)) (t a : Nat) : Prop := okU (F.getD a 0#64) = true ∧ (fM (F.getD a 0#64) = true ∨ goodX (F.getD a 0#64) (t - a) = true)
end Go.Proofs.Ytbanbpphadgoiaa
