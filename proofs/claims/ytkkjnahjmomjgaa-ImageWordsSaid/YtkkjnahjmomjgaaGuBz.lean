/- The reference's Good at any string; Ints at equal rows. No conditions but lengths. -/
import Derived.Test.YtkkjnahjmomjgaaGuAz
import Derived.Lib.IndexLaws
namespace Go.Proofs.Ytkkjnahjmomjgaa
set_option linter.unusedVariables false
set_option linter.unusedSimpArgs false
open Go.RowKit
set_option maxHeartbeats 1000000
set_option maxRecDepth 100000
theorem goodS_no {s : ByteArray} {k : Nat} (h : k < s.size) (e : s[k] = 0) : goodS s = false := by
  unfold goodS
  have hk : s.data.toList[k]? = some 0 := by
    rw [List.getElem?_eq_getElem (by simpa using h)]
    congr 1
  have hn : ¬ Lib.indexByte s.data.toList 0 < 0 := fun hlt => by
    have hge := Lib.indexByte_ge s.data.toList 0
    have : Lib.indexByte s.data.toList 0 = -1 := by omega
    exact Lib.indexByte_none this k hk
  simp [hn]
theorem goodS_yes {s : ByteArray} (h1 : 1 ≤ s.size) (h2 : s.size ≤ 32) (h : ∀ k (hk : k < s.size), s[k] ≠ 0) : goodS s = true := by
  unfold goodS
  have hn : Lib.indexByte s.data.toList 0 < 0 := by
    by_cases hc : Lib.indexByte s.data.toList 0 < 0
    · exact hc
    · exfalso
      obtain ⟨o, ho⟩ : ∃ o : Nat, Lib.indexByte s.data.toList 0 = o := ⟨(Lib.indexByte s.data.toList 0).toNat, by omega⟩
      have := (Lib.indexByte_some ho).1
      obtain ⟨ho2, e⟩ := List.getElem?_eq_some_iff.1 this
      have e2 : s.data[o]'(by simpa using ho2) = 0 := by simpa using e
      exact h o (by simpa using ho2) e2
  simp [h1, h2, hn]
theorem rgood_s (s : ByteArray) (w : World) : Calls Try.prog 35 #[.string s] w fun e w' => e = .returned (.bool (goodS s)) ∧ w' = w := by
  obtain ⟨r, hr⟩ : ∃ r, r = goodS s := ⟨_, rfl⟩
  rw [← hr]
  by_cases h1 : s.size < 1
  · obtain rfl : r = false := by rw [hr]; unfold goodS; rw [decide_eq_false (by omega)]; rfl
    have q1 : s.size = 0 := by omega
    have q2 : decide ((s.size : Int) < 1) = true := by rw [q1]; rfl
    clear hr h1 q1
    go_enter Try.func35, Try.ntmps35
    go_wp2_with fail
    go_ret
    exact ⟨rfl, rfl⟩
  · have q1 : decide ((s.size : Int) < 1) = false := by simp; omega
    by_cases h2 : 32 < s.size
    · obtain rfl : r = false := by rw [hr]; unfold goodS; rw [decide_eq_false (p := s.size ≤ 32) (by omega)]; simp
      have q2 : decide ((32 : Int) < (s.size : Int)) = true := by simp; omega
      clear hr h1 h2
      go_enter Try.func35, Try.ntmps35
      go_wp2_with fail
      go_ret
      exact ⟨rfl, rfl⟩
    · have q2 : decide ((32 : Int) < (s.size : Int)) = false := by simp; omega
      have hb : s.size ≤ 32 := by omega
      have HR := Lib.hid hr
      have H12 := Lib.hid (And.intro h1 h2)
      clear hr h1 h2
      go_enter Try.func35, Try.ntmps35
      go_wp2_with fail
      go_loop [3] (fun i => ∃ k : Nat, k ≤ s.size ∧ i = .int .i64 k ∧ Hid (∀ j (hj : j < s.size), j < k → s[j] ≠ 0)) (fun i => s.size - (Go.RowKit.intOf i).toNat)
      case atStart => exact ⟨0, Nat.zero_le _, rfl, Lib.hid (fun j _ hj => absurd hj (by omega))⟩
      case round =>
        obtain ⟨k, hk, rfl, hall⟩ := hrel
        by_cases hlt : k < s.size
        · have p1 : (0 : Int) ≤ (k : Int) := by omega
          have p2 : (k : Int) < (s.size : Int) := by omega
          by_cases hz0 : s[k] = 0
          · have e0 : ((s[k].toNat : Int) == 0) = true := by rw [hz0]; decide +kernel
            obtain rfl : r = false := by rw [HR.out]; exact goodS_no hlt hz0
            clear hz0
            go_wp2_with fail
            go_ret
            exact ⟨rfl, rfl⟩
          · have e0 : ((s[k].toNat : Int) == 0) = false := by
              have : ¬ s[k].toNat = 0 := fun e => hz0 (UInt8.toNat_inj.1 e)
              simp; omega
            have HZ0 := Lib.hid hz0
            clear hz0
            go_wp2_with fail
            go_round
            case rel => exact ⟨k + 1, by omega, by go_num, Lib.hid (fun j hjs hj => by
              rcases Nat.lt_or_ge j k with h | h
              · exact hall.out j hjs h
              · obtain rfl : j = k := by omega
                exact HZ0.out)⟩
            case measure => simp [Go.RowKit.intOf]; omega
        · obtain rfl : k = s.size := by omega
          obtain rfl : r = true := by
            rw [HR.out]
            have := H12.out
            exact goodS_yes (by omega) hb (fun j hj => hall.out j hj hj)
          go_wp2_with fail
          go_ret
          exact ⟨rfl, rfl⟩
end Go.Proofs.Ytkkjnahjmomjgaa
