/- What bytes.Equal answers. No conditions. -/
import Derived.Test.YtdppnggchpchgaaDoorStr
import Derived.Lib.SmallJoins
namespace Go.Proofs.YtdppnggchpchgaaDoor
set_option linter.unusedVariables false
set_option linter.unusedSimpArgs false
open Go.RowKit
set_option maxRecDepth 100000
set_option maxHeartbeats 400000
theorem equal_c (A A2 : Option Addr) (c c2 : Nat) (xs ys : List (BitVec 8)) (w : World) (h1 : Rd b8 w w.heap.size A xs) (h2 : Rd b8 w w.heap.size A2 ys) : Calls Tryd.prog 47 #[.slice A xs.length c, .slice A2 ys.length c2] w fun e w' => e = .returned (.bool (decide (xs = ys))) ∧ w' = w := by
  have k1 := str_conv xs A c _ w h1
  have k2 := str_conv ys A2 c2 _ w h2
  have HE := Lib.hid (show ((strB xs).toList == (strB ys).toList) = decide (xs = ys) from by
    by_cases h : xs = ys
    · subst h; simp
    · have hne : ¬ (strB xs).toList = (strB ys).toList := fun e => h (strB_inj (by
        rw [ByteArray.toList_eq, ByteArray.toList_eq] at e
        exact ByteArray.ext (Array.toList_inj.1 e)))
      simp [h, hne])
  clear h1 h2
  go_enter Tryd.func47, Tryd.ntmps47
  go_wp2_with fail
  go_ret
  exact ⟨by simpa using HE.out, rfl⟩
end Go.Proofs.YtdppnggchpchgaaDoor
