/- What loamref14.Unpack answers: what Unpack answers. No conditions. -/
import Derived.Test.YtdppnggchpchgaaDoorHeadD
namespace Go.Proofs.YtdppnggchpchgaaDoor
set_option linter.unusedVariables false
set_option linter.unusedSimpArgs false
open Go.RowKit
attribute [local go_sem] and1 beqU64
theorem bit0_eq (x : BitVec 64) : (U64 (x &&& 1#64) == 1) = x.getLsbD 0 := by
  have := bit_one x 0
  rwa [BitVec.ushiftRight_zero] at this
theorem boxed3 {w w1 : World} {E : TypeId} {a : Array Value} {x0 x1 x2 x3 y0 y1 y2 y3 : Value} {k l : Nat}
    (hb : Below ((((((((w.alloc (.cells a E)).drewN k).alloc (.cells #[x0, x1, x2, x3] E)).drewN l).setCell ⟨w.heap.size + 1, 0, none⟩ y0).setCell ⟨w.heap.size + 1, 1, none⟩ y1).setCell ⟨w.heap.size + 1, 2, none⟩ y2).setCell ⟨w.heap.size + 1, 3, none⟩ y3).heap.size ((((((((w.alloc (.cells a E)).drewN k).alloc (.cells #[x0, x1, x2, x3] E)).drewN l).setCell ⟨w.heap.size + 1, 0, none⟩ y0).setCell ⟨w.heap.size + 1, 1, none⟩ y1).setCell ⟨w.heap.size + 1, 2, none⟩ y2).setCell ⟨w.heap.size + 1, 3, none⟩ y3) w1) :
    Bk w1 w.heap.size E a ∧ Bk w1 (w.heap.size + 1) E #[y0, y1, y2, y3] ∧ Below w.heap.size w w1 := by
  have h2 := Bk.new ((w.alloc (.cells a E)).drewN k) E #[x0, x1, x2, x3]
  simp only [World.heap_drewN, World.size_alloc] at h2
  have h3 := ((((h2.drewN l).set 0 y0).set 1 y1).set 2 y2).set 3 y3
  have h1 := ((((((Bk.new w E a).drewN k).alloc (.cells #[x0, x1, x2, x3] E)).drewN l).far (p := ⟨w.heap.size + 1, 0, none⟩) (by simp) y0).far (p := ⟨w.heap.size + 1, 1, none⟩) (by simp) y1).far (p := ⟨w.heap.size + 1, 2, none⟩) (by simp) y2 |>.far (p := ⟨w.heap.size + 1, 3, none⟩) (by simp) y3
  refine ⟨h1.below hb h1.lt, h3.below hb h3.lt, ?_⟩
  refine Below.trans ?_ (hb.mono (by simp; omega))
  exact (by repeat (first | with_reducible assumption | with_reducible exact Below.refl _ _ | with_reducible apply bdN | with_reducible apply Below.drew | with_reducible refine Below.alloc ?_ (by simp) _ | with_reducible refine Below.setCell ?_ (by simp) _))
set_option maxHeartbeats 400000
end Go.Proofs.YtdppnggchpchgaaDoor
