/- What Check, Owner of loamref4 answer. Conditions: as named. -/
import Derived.Test.YtgdgajieekkmdaaGeomS
namespace Go.Proofs.Ytgdgajieekkmdaa
set_option linter.unusedVariables false
set_option linter.unusedSimpArgs false
open Go.RowKit
set_option maxHeartbeats 400000
set_option maxRecDepth 100000
theorem rcheck_c (s l n : Int) (w : World) : Calls Try.prog 26 #[gV s l n] w (RetP (.int .i64 (chkG s l n)) w) := by
  unfold gV
  by_cases h : inG s l n
  · obtain ⟨⟨h1, h2, h3⟩, h4, h5, h6, h7⟩ := h
    have t1 : decide (s < 64) = false := by simp; omega
    have t2 : decide (1024 < s) = false := by simp; omega
    have t3 : (s % 8 != 0) = false := by simp; omega
    have t4 : decide (l < 8) = false := by simp; omega
    have t5 : decide (1024 < l) = false := by simp; omega
    have t6 : decide (n < 64) = false := by simp; omega
    have t7 : decide (8192 < n) = false := by simp; omega
    have hin : inG s l n := ⟨⟨h1, h2, h3⟩, h4, h5, h6, h7⟩
    have HIN := Lib.hid hin
    have H3 := Lib.hid h3
    clear hin h3
    by_cases ht : totG s l n ≤ 16384
    · have hc : chkG s l n = 0 := by unfold chkG okG; rw [decide_eq_true (⟨HIN.out, ht⟩ : inG s l n ∧ totG s l n ≤ 16384)]; rfl
      rw [hc]
      have t8 : decide (16384 < totG s l n) = false := by simp; omega
      clear hc
      go_enter Try.func26, Try.ntmps26
      go_wp2_with fail
      refine (rsec_c s l n _ ⟨h1, h2, H3.out, h4, h5, h6, h7⟩).mono ?_
      rintro e w1 ⟨rfl, hb1⟩
      go_wp2_with fail
      go_ret
      exact ret_i rfl ((Gw.alloc w _).trans (hb1.mono (by simp)))
    · have hc : chkG s l n = 1 := by unfold chkG okG; rw [decide_eq_false (fun h : inG s l n ∧ totG s l n ≤ 16384 => ht h.2)]; rfl
      rw [hc]
      have t8 : decide (16384 < totG s l n) = true := by simp; omega
      clear hc
      go_enter Try.func26, Try.ntmps26
      go_wp2_with fail
      refine (rsec_c s l n _ ⟨h1, h2, H3.out, h4, h5, h6, h7⟩).mono ?_
      rintro e w1 ⟨rfl, hb1⟩
      go_wp2_with fail
      go_ret
      exact ret_i rfl ((Gw.alloc w _).trans (hb1.mono (by simp)))
  · have hc : chkG s l n = 1 := by unfold chkG; rw [okG_no h]; rfl
    rw [hc]
    have h' : ¬ ((64 ≤ s ∧ s ≤ 1024 ∧ s % 8 = 0) ∧ 8 ≤ l ∧ l ≤ 1024 ∧ 64 ≤ n ∧ n ≤ 8192) := h
    clear hc h
    by_cases ha : 64 ≤ s ∧ s ≤ 1024
    · obtain ⟨ha1, ha2⟩ := ha
      have t1 : decide (s < 64) = false := by simp; omega
      have t2 : decide (1024 < s) = false := by simp; omega
      by_cases h8 : s % 8 = 0
      · have t3 : (s % 8 != 0) = false := by simp; omega
        have hq : l < 8 ∨ 1024 < l ∨ n < 64 ∨ 8192 < n := by omega
        clear h' h8
        go_enter Try.func26, Try.ntmps26
        go_wp2_with fail
        all_goals first
          | (exfalso; omega)
          | (go_ret; exact ret_i rfl (Gw.alloc w _))
      · have t3 : (s % 8 != 0) = true := by simp; omega
        clear h' h8
        go_enter Try.func26, Try.ntmps26
        go_wp2_with fail
        go_ret
        exact ret_i rfl (Gw.alloc w _)
    · have hq : s < 64 ∨ 1024 < s := by omega
      clear h' ha
      rcases hq with hq | hq
      · have t1 : decide (s < 64) = true := by simp; omega
        go_enter Try.func26, Try.ntmps26
        go_wp2_with fail
        go_ret
        exact ret_i rfl (Gw.alloc w _)
      · have t1 : decide (s < 64) = false := by simp; omega
        have t2 : decide (1024 < s) = true := by simp; omega
        go_enter Try.func26, Try.ntmps26
        go_wp2_with fail
        go_ret
        exact ret_i rfl (Gw.alloc w _)
theorem rowner_c (s l n x : Int) (w : World) (h : OkG s l n) : Calls Try.prog 38 #[gV s l n, .int .i64 x] w (RetP (.string (ownS s l n x)) w) := by
  have HT := Lib.hid (fun w => rsec_c s l n w h.inb)
  have q3 := h.l1
  have q4 := h.l2
  obtain ⟨q1, q2⟩ := oneG_bd s n h.s1 h.s2 h.n1 h.n2
  have hT : totG s l n = 2 + l + 2 * oneG s n := rfl
  have HE : Hid (ownS s l n x = if x < 0 ∨ totG s l n ≤ x then ⟨#[]⟩ else if x < 2 then ⟨#[115, 108, 111, 116]⟩ else if x < 2 + l then ⟨#[108, 111, 103]⟩ else ⟨#[115, 112, 97, 99, 101]⟩) := Lib.hid rfl
  rw [HE.out]
  have hT2 : 2 + l ≤ totG s l n := by omega
  unfold gV at *
  clear h HE hT
  rcases Int.lt_or_le x 0 with h0 | h0
  · rw [if_pos (.inl h0)]
    have t1 : decide (x < 0) = true := by simp; omega
    go_enter Try.func38, Try.ntmps38
    go_wp2
    go_ret
    exact ⟨rfl, (by repeat (first | with_reducible assumption | with_reducible exact Below.refl _ _ | with_reducible apply bdN | with_reducible apply Below.drew | with_reducible refine Below.alloc ?_ (by simp) _ | with_reducible refine Below.setCell ?_ (by simp) _))⟩
  · have t1 : decide (x < 0) = false := by simp; omega
    rcases Int.lt_or_le x (totG s l n) with h1 | h1
    · have t2 : decide (totG s l n ≤ x) = false := by simp; omega
      rw [if_neg (by omega)]
      by_cases h2 : x < 2
      · rw [if_pos h2]
        have t3 : decide (x < 2) = true := by simp; omega
        go_enter Try.func38, Try.ntmps38
        go_wp2_with fail
        refine Calls.mono (HT.out _) ?_
        rintro e w1 ⟨rfl, hb⟩
        obtain ⟨hk1, hB1⟩ := boxed hb
        obtain ⟨c1, c2, c3⟩ := hk1.three
        clear hb
        go_wp2_with fail
        go_ret
        exact ⟨rfl, hB1⟩
      · rw [if_neg h2]
        have t3 : decide (x < 2) = false := by simp; omega
        by_cases h3 : x < 2 + l
        · rw [if_pos h3]
          have t4 : decide (x < 2 + l) = true := by simp; omega
          go_enter Try.func38, Try.ntmps38
          go_wp2_with fail
          refine Calls.mono (HT.out _) ?_
          rintro e w1 ⟨rfl, hb⟩
          obtain ⟨hk1, hB1⟩ := boxed hb
          obtain ⟨c1, c2, c3⟩ := hk1.three
          clear hb
          go_wp2_with fail
          go_ret
          exact ⟨rfl, hB1⟩
        · rw [if_neg h3]
          have t4 : decide (x < 2 + l) = false := by simp; omega
          go_enter Try.func38, Try.ntmps38
          go_wp2_with fail
          refine Calls.mono (HT.out _) ?_
          rintro e w1 ⟨rfl, hb⟩
          obtain ⟨hk1, hB1⟩ := boxed hb
          obtain ⟨c1, c2, c3⟩ := hk1.three
          clear hb
          go_wp2_with fail
          go_ret
          exact ⟨rfl, hB1⟩
    · have t2 : decide (totG s l n ≤ x) = true := by simp; omega
      rw [if_pos (.inr h1)]
      go_enter Try.func38, Try.ntmps38
      go_wp2_with fail
      refine Calls.mono (HT.out _) ?_
      rintro e w1 ⟨rfl, hb⟩
      obtain ⟨hk1, hB1⟩ := boxed hb
      obtain ⟨c1, c2, c3⟩ := hk1.three
      clear hb
      go_wp2_with fail
      go_ret
      exact ⟨rfl, hB1⟩
end Go.Proofs.Ytgdgajieekkmdaa
