/- What Sum and Low of loamref2 answer. Conditions: at most 2^31 bytes. -/
import Derived.Test.YtfodefgihicafaaDoorCrcB
import Derived.Test.YtfodefgihicafaaDoorCrcD
import Derived.Test.YtfodefgihicafaaDoorRegV
import Derived.LoopTactic
namespace Go.Proofs.YtfodefgihicafaaDoor
set_option linter.unusedVariables false
set_option linter.unusedSimpArgs false
open Go.RowKit
theorem bitsC_succ (k : Nat) (r : BitVec 32) : bitsC (k + 1) r = bitC (bitsC k r) := by rw [bitsC_add]; rfl
theorem and1U32 (r : BitVec 32) : bits .and .u32 (U32 r) 1 = if r.getLsbD 0 then 1 else 0 := by
  rw [show (1 : Int) = U32 1#32 from by decide +kernel, andU32]
  have e : r &&& 1#32 = if r.getLsbD 0 then 1#32 else 0#32 := by
    apply BitVec.eq_of_getLsbD_eq
    intro i hi
    rw [BitVec.getLsbD_and, BitVec.getLsbD_one]
    by_cases h : i = 0
    · subst h; cases r.getLsbD 0 <;> simp
    · cases r.getLsbD 0 <;> simp [h]
  rw [e]
  cases r.getLsbD 0 <;> decide +kernel
theorem shr1U32 (r : BitVec 32) : U32 r / (2 : Int) = U32 (r >>> 1) := by
  rw [show (2 : Int) = 2 ^ 1 from by decide, shrU32]
theorem xorPoly (r : BitVec 32) : bits .xor .u32 (U32 r) 3988292384 = U32 (r ^^^ 0xEDB88320#32) := by
  rw [show (3988292384 : Int) = U32 0xEDB88320#32 from by decide +kernel, xorU32]
set_option maxHeartbeats 400000
theorem ow_lit {α : Type} (f : α → Value) (E : TypeId) (w : World) (base : Nat) (xs : List α) (hb : base ≤ w.heap.size) (hl : xs.length ≤ maxLen) : Ow f E (w.alloc (.cells (xs.map f).toArray E)) base (.slice (some ⟨w.heap.size, 0, none⟩) xs.length xs.length) xs := by
  have h := World.ownsRow_lit (size := 1) (e := E) w (xs.map f).toArray xs.length hb hl (by simp)
  exact h
set_option maxRecDepth 100000
set_option maxHeartbeats 400000
attribute [local go_sem] m8_0 sh8 sh16 sh24 u32_u8
end Go.Proofs.YtfodefgihicafaaDoor
