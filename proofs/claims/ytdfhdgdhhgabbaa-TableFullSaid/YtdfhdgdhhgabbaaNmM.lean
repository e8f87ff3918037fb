/- What loamref17.Good answers of any text. Conditions: its length. -/
import Derived.Test.YtdfhdgdhhgabbaaNmF
namespace Go.Proofs.Ytdfhdgdhhgabbaa
set_option linter.unusedVariables false
set_option linter.unusedSimpArgs false
open Go.RowKit Go.Maps
set_option maxHeartbeats 1000000
set_option maxRecDepth 100000
instance decGood (bs : Nm) : Decidable (goodN bs) := inferInstanceAs (Decidable (1 ≤ bs.length ∧ bs.length ≤ 32 ∧ ∀ x ∈ bs, x ≠ 0#8))
theorem strB_get (bs : Nm) (k : Nat) (h : k < (strB bs).size) : ((strB bs)[k].toNat : Int) = U8 (bs.getD k 0#8) := by
  have h' : k < bs.length := by rw [strB_size] at h; exact h
  show (((strL bs).toArray[k]'(by simpa [strL] using h')).toNat : Int) = _
  rw [List.getD_eq_getElem?_getD, List.getElem?_eq_getElem h']
  simp [strL, U8]
theorem rgood_c (bs : Nm) (w : World) (hl : bs.length ≤ 1000000) : Calls Try.prog 9 #[.string (strB bs)] w fun e w' => e = .returned (.bool (decide (goodN bs))) ∧ w' = w := by
  obtain ⟨s, hs⟩ : ∃ s, s = strB bs := ⟨_, rfl⟩
  have hz : s.size = bs.length := by rw [hs, strB_size]
  have hg : ∀ k (h : k < s.size), (s[k].toNat : Int) = U8 (bs.getD k 0#8) := by subst hs; exact strB_get bs
  obtain ⟨r, hr⟩ : ∃ r, r = decide (goodN bs) := ⟨_, rfl⟩
  rw [← hs, ← hr]
  have hb : s.size ≤ 1000000 := by omega
  by_cases h1 : s.size < 1
  · have q1 : s.size = 0 := by omega
    obtain rfl : r = false := by rw [hr]; exact decide_eq_false (fun e => by have := e.1; omega)
    have q2 : decide ((s.size : Int) < 1) = true := by rw [q1]; rfl
    clear hr hg hs hz hl hb h1 q1
    go_enter Try.func9, Try.ntmps9
    go_wp2_with fail
    go_ret
    exact ⟨rfl, rfl⟩
  · have q1 : decide ((s.size : Int) < 1) = false := by simp; omega
    by_cases h2 : 32 < s.size
    · obtain rfl : r = false := by rw [hr]; exact decide_eq_false (fun e => by have := e.2.1; omega)
      have q2 : decide ((32 : Int) < (s.size : Int)) = true := by simp; omega
      clear hr hg hs hz hl hb h1 h2
      go_enter Try.func9, Try.ntmps9
      go_wp2_with fail
      go_ret
      exact ⟨rfl, rfl⟩
    · have q2 : decide ((32 : Int) < (s.size : Int)) = false := by simp; omega
      have HR := Lib.hid hr
      have HG := Lib.hid hg
      have HZ := Lib.hid hz
      have H12 := Lib.hid (And.intro h1 h2)
      clear hr hg hs hz hl h1 h2
      go_enter Try.func9, Try.ntmps9
      go_wp2_with fail
      go_loop [3] (fun i => ∃ k : Nat, k ≤ s.size ∧ i = .int .i64 k ∧ Hid (∀ j, j < k → bs.getD j 0#8 ≠ 0#8)) (fun i => s.size - (intOf i).toNat)
      case atStart => exact ⟨0, Nat.zero_le _, rfl, Lib.hid (fun j hj => absurd hj (by omega))⟩
      case round =>
        obtain ⟨k, hk, rfl, hall⟩ := hrel
        by_cases hlt : k < s.size
        · have p1 : (0 : Int) ≤ (k : Int) := by omega
          have p2 : (k : Int) < (s.size : Int) := by omega
          by_cases hz0 : bs.getD k 0#8 = 0#8
          · have e0 : ((s[k].toNat : Int) == 0) = true := by rw [HG.out k hlt, hz0]; decide +kernel
            obtain rfl : r = false := by
              rw [HR.out]
              refine decide_eq_false (fun e => e.2.2 (bs.getD k 0#8) ?_ hz0)
              have hk' : k < bs.length := by rw [← HZ.out]; exact hlt
              rw [List.getD_eq_getElem?_getD, List.getElem?_eq_getElem hk']
              exact List.getElem_mem _
            clear hz0
            go_wp2_with fail
            go_ret
            exact ⟨rfl, rfl⟩
          · have e0 : ((s[k].toNat : Int) == 0) = false := by
              rw [HG.out k hlt]
              have : ¬ U8 (bs.getD k 0#8) = U8 0#8 := fun e => hz0 (U8_inj e)
              simpa [U8] using this
            have HZ0 := Lib.hid hz0
            clear hz0
            go_wp2_with fail
            go_round
            case rel => exact ⟨k + 1, by omega, by go_num, Lib.hid (fun j hj => by
              rcases Nat.lt_or_ge j k with h | h
              · exact hall.out j h
              · obtain rfl : j = k := by omega
                exact HZ0.out)⟩
            case measure => (first | (simp [intOf]; done) | (simp [intOf]; omega))
        · obtain rfl : k = s.size := by omega
          obtain rfl : r = true := by
            rw [HR.out]
            have hz := HZ.out
            have h12 := H12.out
            refine decide_eq_true ⟨by omega, by omega, fun x hx => ?_⟩
            obtain ⟨j, hj, rfl⟩ := List.getElem_of_mem hx
            have := hall.out j (by omega)
            rw [List.getD_eq_getElem?_getD, List.getElem?_eq_getElem hj] at this
            exact this
          clear hlt
          go_wp2_with fail
          go_ret
          exact ⟨rfl, rfl⟩
end Go.Proofs.Ytdfhdgdhhgabbaa
