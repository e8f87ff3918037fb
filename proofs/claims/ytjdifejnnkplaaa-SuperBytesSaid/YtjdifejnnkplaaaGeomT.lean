/- What Check, Owner of loamref4 answer. Conditions: as named. -/
import Derived.Test.YtjdifejnnkplaaaGeomS
namespace Go.Proofs.Ytjdifejnnkplaaa
set_option linter.unusedVariables false
set_option linter.unusedSimpArgs false
open Go.RowKit
set_option maxHeartbeats 400000
set_option maxRecDepth 100000
theorem rcheck_c (s l n : Int) (w : World) : Calls Try.prog 16 #[gV s l n] w (RetP (.int .i64 (chkG s l n)) w) := by
  unfold gV
  by_cases h : inG s l n
  · obtain ⟨⟨h1, h2, h3⟩, h4, h5, h6, h7⟩ := h
    have t1 : decide (s < 64) = false := by simp; omega
    have t2 : decide (1024 < s) = false := by simp; omega
    have t3 : (s % 8 != 0) = false := by simp; omega
    have t4 : decide (l < 8) = false := by simp; omega
    have t5 : decide (1024 < l) = false := by simp; omega
    have t6 : decide (n < 64) = false := by simp; omega
    have t7 : decide (8192 < n) = false := by simp; omega
    have hin : inG s l n := ⟨⟨h1, h2, h3⟩, h4, h5, h6, h7⟩
    have HIN := Lib.hid hin
    have H3 := Lib.hid h3
    clear hin h3
    by_cases ht : totG s l n ≤ 16384
    · have hc : chkG s l n = 0 := by unfold chkG okG; rw [decide_eq_true (⟨HIN.out, ht⟩ : inG s l n ∧ totG s l n ≤ 16384)]; rfl
      rw [hc]
      have t8 : decide (16384 < totG s l n) = false := by simp; omega
      clear hc
      go_enter Try.func16, Try.ntmps16
      go_wp2_with fail
      refine (rsec_c s l n _ ⟨h1, h2, H3.out, h4, h5, h6, h7⟩).mono ?_
      rintro e w1 ⟨rfl, hb1⟩
      go_wp2_with fail
      go_ret
      exact ret_i rfl ((Gw.alloc w _).trans (hb1.mono (by simp)))
    · have hc : chkG s l n = 1 := by unfold chkG okG; rw [decide_eq_false (fun h : inG s l n ∧ totG s l n ≤ 16384 => ht h.2)]; rfl
      rw [hc]
      have t8 : decide (16384 < totG s l n) = true := by simp; omega
      clear hc
      go_enter Try.func16, Try.ntmps16
      go_wp2_with fail
      refine (rsec_c s l n _ ⟨h1, h2, H3.out, h4, h5, h6, h7⟩).mono ?_
      rintro e w1 ⟨rfl, hb1⟩
      go_wp2_with fail
      go_ret
      exact ret_i rfl ((Gw.alloc w _).trans (hb1.mono (by simp)))
  · have hc : chkG s l n = 1 := by unfold chkG; rw [okG_no h]; rfl
    rw [hc]
    have h' : ¬ ((64 ≤ s ∧ s ≤ 1024 ∧ s % 8 = 0) ∧ 8 ≤ l ∧ l ≤ 1024 ∧ 64 ≤ n ∧ n ≤ 8192) := h
    clear hc h
    by_cases ha : 64 ≤ s ∧ s ≤ 1024
    · obtain ⟨ha1, ha2⟩ := ha
      have t1 : decide (s < 64) = false := by simp; omega
      have t2 : decide (1024 < s) = false := by simp; omega
      by_cases h8 : s % 8 = 0
      · have t3 : (s % 8 != 0) = false := by simp; omega
        have hq : l < 8 ∨ 1024 < l ∨ n < 64 ∨ 8192 < n := by omega
        clear h' h8
        go_enter Try.func16, Try.ntmps16
        go_wp2_with fail
        all_goals first
          | (exfalso; omega)
          | (go_ret; exact ret_i rfl (Gw.alloc w _))
      · have t3 : (s % 8 != 0) = true := by simp; omega
        clear h' h8
        go_enter Try.func16, Try.ntmps16
        go_wp2_with fail
        go_ret
        exact ret_i rfl (Gw.alloc w _)
    · have hq : s < 64 ∨ 1024 < s := by omega
      clear h' ha
      rcases hq with hq | hq
      · have t1 : decide (s < 64) = true := by simp; omega
        go_enter Try.func16, Try.ntmps16
        go_wp2_with fail
        go_ret
        exact ret_i rfl (Gw.alloc w _)
      · have t1 : decide (s < 64) = false := by simp; omega
        have t2 : decide (1024 < s) = true := by simp; omega
        go_enter Try.func16, Try.ntmps16
        go_wp2_with fail
        go_ret
        exact ret_i rfl (Gw.alloc w _)
end Go.Proofs.Ytjdifejnnkplaaa
