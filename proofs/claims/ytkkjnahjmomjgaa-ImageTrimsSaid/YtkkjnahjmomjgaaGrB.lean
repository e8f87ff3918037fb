/- graph.named; graph.Check. Conditions: lengths. -/
import Derived.Test.YtkkjnahjmomjgaaGrA
import Derived.Lib.Bytealg
namespace Go.Proofs.Ytkkjnahjmomjgaa
set_option linter.unusedVariables false
set_option linter.unusedSimpArgs false
open Go.RowKit
def goodS (s : ByteArray) : Bool := decide (1 ≤ s.size) && (decide (s.size ≤ 32) && decide (Lib.indexByte s.data.toList 0 < 0))
set_option maxHeartbeats 400000
set_option maxRecDepth 100000
theorem indexS_c (s : ByteArray) (w : World) : Calls Try.prog 88 #[.string s, .int .u8 0] w fun e w' => e = .returned (.int .i64 (Lib.indexByte s.data.toList 0)) ∧ w' = w := by
  have HX := Lib.hid (Lib.run_indexByteString (P := Try.prog) s 0 w)
  go_enter Try.func88, Try.ntmps88
  go_wp2
  rw [run_callFunc_extern Try.func112 (by kernel_rfl) (by kernel_rfl) (by kernel_rfl) (e := Extern.BytealgIndexByte.indexByte) (by kernel_rfl), HX.out]
  simp only [Result.andThen]
  rw [Oper.upon_value]
  go_wp2
  go_ret
  exact ⟨rfl, rfl⟩
theorem named_c (s : ByteArray) (w : World) : Calls Try.prog 57 #[.string s] w fun e w' => e = .returned (.bool (goodS s)) ∧ w' = w := by
  unfold goodS
  have HI := Lib.hid (indexS_c s w)
  obtain ⟨ix, hix⟩ : ∃ ix, ix = Lib.indexByte s.data.toList 0 := ⟨_, rfl⟩
  rw [← hix] at HI ⊢
  obtain ⟨n, hn⟩ : ∃ n, n = s.size := ⟨_, rfl⟩
  rw [← hn]
  clear hix
  by_cases h1 : 1 ≤ n
  · have t1 : decide ((1 : Int) ≤ (s.size : Int)) = true := by simp; omega
    by_cases h2 : n ≤ 32
    · have t2 : decide ((s.size : Int) ≤ (32 : Int)) = true := by simp; omega
      simp only [h1, h2, decide_true, Bool.true_and]
      clear h1 h2 hn
      go_enter Try.func57, Try.ntmps57
      go_wp2_with fail
      refine Calls.mono HI.out ?_
      rintro r w1 ⟨rfl, rfl⟩
      go_wp2_with fail
      go_ret
      exact ⟨rfl, rfl⟩
    · have t2 : decide ((s.size : Int) ≤ (32 : Int)) = false := by simp; omega
      simp only [h2, decide_false, Bool.and_false, Bool.false_and]
      clear h1 h2 hn
      go_enter Try.func57, Try.ntmps57
      go_wp2_with fail
      go_ret
      exact ⟨rfl, rfl⟩
  · have t1 : decide ((1 : Int) ≤ (s.size : Int)) = false := by simp; omega
    simp only [h1, decide_false, Bool.false_and]
    clear h1 hn
    go_enter Try.func57, Try.ntmps57
    go_wp2_with fail
    go_ret
    exact ⟨rfl, rfl⟩
end Go.Proofs.Ytkkjnahjmomjgaa
