/- mem: inside, New, Len. Conditions: 64-bit numbers. -/
import Derived.Test.YtdppnggchpchgaaDoorRegV
import Derived.Test.YtdppnggchpchgaaDoorBitsB
import Derived.LoopTactic
namespace Go.Proofs.YtdppnggchpchgaaDoor
set_option linter.unusedVariables false
set_option linter.unusedSimpArgs false
open Go.RowKit
def u64v (x : BitVec 64) : Value := .int .u64 (U64 x)
def inM (L at_ n : Int) : Bool := decide (0 ≤ n) && (decide (0 ≤ at_) && (decide (n ≤ L) && decide (at_ ≤ L - n)))
theorem Rd.grown {α : Type} {f : α → Value} {w w' : World} {row : Option Nat} {A : Option Addr} {xs : List α} (h : Rd f w w.heap.size A xs) (hg : w.grownBy w' row) (ha : ∀ a, A = some a → some a.block ≠ row) : Rd f w' w'.heap.size A xs := fun j hj => by
  obtain ⟨ad, e, hb, hc⟩ := h j hj
  have hs := hg.size
  refine ⟨ad, e, by omega, ?_⟩
  rw [← hc]
  exact World.cell?_of_block (by rw [add_block]; exact hg.block _ hb (ha ad e))
theorem grown_refl (w : World) (row : Option Nat) : w.grownBy w row := ⟨rfl, rfl, rfl, Nat.le_refl _, fun _ _ _ => rfl⟩
theorem grown_set (w : World) (a : Addr) (u : Value) : w.grownBy (w.setCell a u) (some a.block) :=
  ⟨rfl, rfl, rfl, by simp [World.setCell], fun k _ hne => Below.heap_setCell _ _ _ _ (fun e => hne (by rw [e]))⟩
theorem grown_draw {w w' : World} {row : Option Nat} (h : w.grownBy w' row) : w.grownBy w'.drew row := ⟨h.os, h.tape, h.output, h.size, h.block⟩
theorem grown_below {w w' : World} {q B : Nat} (h : w.grownBy w' (some q)) (hB : B ≤ q) (hs : B ≤ w.heap.size) : Below B w w' := below_of_grown h hs (fun k e => by injection e with e; omega)
theorem grown_none {w w' : World} (h : Below w.heap.size w w') (row : Option Nat) : w.grownBy w' row := ⟨h.os, h.tape, h.output, h.size, fun k hk _ => h.block k hk⟩
set_option maxHeartbeats 400000
end Go.Proofs.YtdppnggchpchgaaDoor
