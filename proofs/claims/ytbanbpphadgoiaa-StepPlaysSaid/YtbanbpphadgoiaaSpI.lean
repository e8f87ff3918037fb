/- loamlaw15's Same. Conditions: lengths. -/
import Derived.Test.YtbanbpphadgoiaaSpH
namespace Go.Proofs.Ytbanbpphadgoiaa
set_option linter.unusedVariables false
set_option linter.unusedSimpArgs false
open Go.RowKit
set_option maxHeartbeats 400000
set_option maxRecDepth 100000
theorem same15_t (w : World) (B s g R c b t e : Nat) (v : Value) (ws : List (BitVec 64)) (A : Option Addr) (p : SpAt w B s g v ws b t e) (q : RefAt w R A c ws b t e) (hl : ws.length ≤ 100000) :
    Calls Try.prog 22 #[.pointer (some ⟨s, 0, none⟩), .pointer (some ⟨R, 0, none⟩)] w (RetP (.bool true) w) := by
  obtain ⟨c0, c1, c2, c3⟩ := p.four
  have HW := Lib.hid (words_c w B g v ws p.mem (by omega))
  have HP := Lib.hid p
  have HQ := Lib.hid q
  obtain ⟨N, hN⟩ : ∃ N, N = ws.length := ⟨_, rfl⟩
  have HN := Lib.hid hN
  have HL := Lib.hid hl
  have q3 : (N : Int) ≤ 100000 := by omega
  obtain ⟨u1, hu1⟩ : ∃ u, u = t - b := ⟨_, rfl⟩
  obtain ⟨u2, hu2⟩ : ∃ u, u = e - t := ⟨_, rfl⟩
  have HU := Lib.hid (show ((t : Int) - (b : Int) = (u1 : Int) ∧ (e : Int) - (t : Int) = (u2 : Int)) ∧ ((u1 : Int) ≤ 100000 ∧ (u2 : Int) ≤ 100000) ∧ ((0 : Int) ≤ (u1 : Int) ∧ (0 : Int) ≤ (u2 : Int)) ∧ (t - b = u1 ∧ e - t = u2) from by
    have h1 := p.bt
    have h2 := p.te
    have h3 := p.el
    refine ⟨⟨by omega, by omega⟩, ⟨by omega, by omega⟩, ⟨by omega, by omega⟩, by omega, by omega⟩)
  clear hN hl p q hu1 hu2
  go_enter Try.func22, Try.ntmps22
  go_wp2_with fail
  refine Calls.mono HW.out ?_
  rintro r w1 ⟨A5, c5, rfl, hc5, ho5, b5⟩
  have HO := Lib.hid ho5
  have HB5 := Lib.hid b5
  have HP1 := Lib.hid (HP.out.below b5)
  have HQ1 := Lib.hid (HQ.out.below b5)
  rw [← HN.out]
  clear hc5 ho5 b5 HW c0 c1 c2 c3
  go_wp2_with fail
  have hqb := HQ1.out.blk
  rw [← HN.out] at hqb
  refine sm_a _ _ _ s R g N c c5 b t e A A5 HP1.out.blk hqb rfl rfl rfl rfl ?_
  intro vals w2 hG h52
  unfold IsV at h52
  simp only [putD, Act.put, List.setIfInBounds_toArray, List.set_cons_zero, List.set_cons_succ, h52]
  have H2 := Lib.hid (And.intro (HP1.out.below hG) (And.intro (HQ1.out.below hG) (And.intro ((HO.out.below hG).rd) (HB5.out.trans (hG.mono HB5.out.size)))))
  clear h52 hG hqb HP1 HQ1 HO
  go_wp2_with fail
  go_loopw [6] (fun i wr => ∃ k : Nat, k ≤ N ∧ i = .int .i64 k ∧ Below w2.heap.size w2 wr) (fun i _ => N - (intOf i).toNat)
  case atStart => exact ⟨0, by omega, rfl, Below.refl _ _⟩
  case round =>
    obtain ⟨k, hk, rfl, hB⟩ := hrel
    by_cases hlt : k < N
    · have p1 : (0 : Int) ≤ (k : Int) := by omega
      have p2 : (k : Int) < (N : Int) := by omega
      have hlw : k < ws.length := by rw [← HN.out]; exact hlt
      have hqw := H2.out.2.1.below hB
      obtain ⟨ad, rfl, hadb, hcl⟩ := hqw.rd k hlw
      obtain ⟨ad2, rfl, hadb2, hcl2⟩ := (H2.out.2.2.1.below hB) k hlw
      obtain ⟨y, hy⟩ : ∃ y, y = ws[k] := ⟨_, rfl⟩
      rw [← hy] at hcl hcl2
      unfold u64v at hcl hcl2
      have hsz := hB.size
      have hqb := hqw.blk
      rw [← HN.out] at hqb
      have HS := Lib.hid (fun Q a0 => sm_b Q a0 wr R N c c5 b t e k ad ad2 y hqb hadb (by omega) hcl hcl2 p1 p2)
      clear hy hadb hadb2 hcl hcl2 hlw hsz hqw hqb
      go_wp2_with fail
      refine HS.out _ _ rfl rfl rfl rfl ?_
      intro vals w4 hG h70
      unfold IsV at h70
      simp only [putD, Act.put, List.setIfInBounds_toArray, List.set_cons_zero, List.set_cons_succ, h70]
      have HB4 := Lib.hid (hB.trans (hG.mono hB.size))
      clear h70 hG HS
      go_wp2_with fail
      go_roundw
      case rel => exact ⟨k + 1, by omega, by go_num, HB4.out⟩
      case measure => (first | (simp [intOf]; done) | (simp [intOf]; omega))
    · have hqb := (H2.out.2.1.below hB).blk
      rw [← HN.out] at hqb
      obtain ⟨⟨x1, x2⟩, ⟨x3, x4⟩, ⟨x5, x6⟩, x7, x8⟩ := HU.out
      have HS := Lib.hid (fun Q a0 => sm_c Q a0 wr B s g R N c b t e u1 u2 v A ws (H2.out.1.below hB) HL.out hqb x1 x2 x3 x4 x5 x6 x7 x8)
      have HB3 := Lib.hid (H2.out.2.2.2.trans (hB.mono H2.out.2.2.2.size))
      clear hqb x1 x2 x3 x4 x5 x6 x7 x8 hB
      go_wp2_with fail
      refine HS.out _ _ rfl rfl rfl ?_
      intro vals w4 hG h4
      unfold IsV at h4
      simp only [putD, Act.put, List.setIfInBounds_toArray, List.set_cons_zero, List.set_cons_succ, h4]
      have HB4 := Lib.hid (HB3.out.trans (hG.mono HB3.out.size))
      clear h4 hG HS
      go_wp2_with fail
      go_ret
      exact ⟨rfl, HB4.out⟩
end Go.Proofs.Ytbanbpphadgoiaa
