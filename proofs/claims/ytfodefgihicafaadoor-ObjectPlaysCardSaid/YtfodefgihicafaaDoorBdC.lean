/- strconv.Itoa of a digit. Conditions: below 10. -/
import Derived.Test.YtfodefgihicafaaDoorBdB
namespace Go.Proofs.YtfodefgihicafaaDoor
set_option linter.unusedVariables false
set_option linter.unusedSimpArgs false
open Go.RowKit
set_option maxHeartbeats 1000000
set_option maxRecDepth 100000
theorem hexS_dig (i : Nat) (hi : i < 10) : hexS.extract i (i + 1) = strB [BitVec.ofNat 8 (48 + i)] := by
  have key : ∀ k : Fin 10, (hexS.extract k.1 (k.1 + 1)).data = (strB [BitVec.ofNat 8 (48 + k.1)]).data := by decide +kernel
  exact congrArg ByteArray.mk (key ⟨i, hi⟩)
theorem small_c (i : Nat) (hi : i < 10) (w : World) : Calls Tryd.prog 83 #[.int .i64 i] w fun e w' => e = .returned (.string (strB [BitVec.ofNat 8 (48 + i)])) ∧ w' = w := by
  have h1 : (i : Int) < 10 := by omega
  go_enter Tryd.func83, Tryd.ntmps83
  go_wp2_with fail
  go_ret
  refine ⟨?_, rfl⟩
  show Ending.returned (.string (hexS.extract i (i + 1))) = _
  rw [hexS_dig i hi]
theorem fi_c (i : Nat) (hi : i < 10) (w : World) : Calls Tryd.prog 82 #[.int .i64 i, .int .i64 10] w fun e w' => e = .returned (.string (strB [BitVec.ofNat 8 (48 + i)])) ∧ w' = w := by
  have h1 : (i : Int) < 100 := by omega
  have h0 : (0 : Int) ≤ i := by omega
  have HC := Lib.hid (small_c i hi w)
  go_enter Tryd.func82, Tryd.ntmps82
  go_wp2_with fail
  refine Calls.mono HC.out ?_
  rintro e w1 ⟨rfl, rfl⟩
  go_wp2_with fail
  go_ret
  exact ⟨rfl, rfl⟩
theorem iitoa_c (i : Nat) (hi : i < 10) (w : World) : Calls Tryd.prog 74 #[.int .i64 i] w fun e w' => e = .returned (.string (strB [BitVec.ofNat 8 (48 + i)])) ∧ w' = w := by
  have HC := Lib.hid (fi_c i hi w)
  go_enter Tryd.func74, Tryd.ntmps74
  go_wp2_with fail
  refine Calls.mono HC.out ?_
  rintro e w1 ⟨rfl, rfl⟩
  go_wp2_with fail
  go_ret
  exact ⟨rfl, rfl⟩
theorem itoa_c (i : Nat) (hi : i < 10) (w : World) : Calls Tryd.prog 51 #[.int .i64 i] w fun e w' => e = .returned (.string (strB [BitVec.ofNat 8 (48 + i)])) ∧ w' = w := by
  have HC := Lib.hid (iitoa_c i hi w)
  go_enter Tryd.func51, Tryd.ntmps51
  go_wp2_with fail
  refine Calls.mono HC.out ?_
  rintro e w1 ⟨rfl, rfl⟩
  go_wp2_with fail
  go_ret
  exact ⟨rfl, rfl⟩
end Go.Proofs.YtfodefgihicafaaDoor
