/- loamlaw10.short, loamlaw10.Of, loamref8.Compare; what packing does to numbers. No conditions. -/
import Derived.Test.YtgddehhigamkkaaKyM
namespace Go.Proofs.Ytgddehhigamkkaa
set_option linter.unusedVariables false
set_option linter.unusedSimpArgs false
open Go.RowKit Go.Maps Go.Sort
set_option maxHeartbeats 1000000
set_option maxRecDepth 100000
def shortB (p : Int × Int) : Bool := decide (-2147483648 ≤ p.1 ∧ p.1 < 2147483648 ∧ -2147483648 ≤ p.2 ∧ p.2 < 2147483648)
theorem short_c (p : Int × Int) (w : World) : Calls Try.prog 14 #[kV p] w fun e w' => e = .returned (.bool (shortB p)) ∧ Below w.heap.size w w' := by
  obtain ⟨x, y⟩ := p
  unfold kV
  obtain ⟨r, hr⟩ : ∃ r, r = shortB (x, y) := ⟨_, rfl⟩
  rw [← hr]
  have HR := Lib.hid hr
  clear hr
  by_cases h1 : -2147483648 ≤ x
  · by_cases h2 : x < 2147483648
    · by_cases h3 : -2147483648 ≤ y
      · by_cases h4 : y < 2147483648
        · go_enter Try.func14, Try.ntmps14
          go_wp2_with fail
          go_ret
          exact ⟨by rw [HR.out]; simp [shortB, h1, h2, h3, h4], Gw.alloc w _⟩
        · go_enter Try.func14, Try.ntmps14
          go_wp2_with fail
          go_ret
          exact ⟨by rw [HR.out]; simp [shortB, h1, h2, h3, h4], Gw.alloc w _⟩
      · go_enter Try.func14, Try.ntmps14
        go_wp2_with fail
        go_ret
        exact ⟨by rw [HR.out]; simp [shortB, h1, h2, h3]; omega, Gw.alloc w _⟩
    · go_enter Try.func14, Try.ntmps14
      go_wp2_with fail
      go_ret
      exact ⟨by rw [HR.out]; simp [shortB, h1, h2]; omega, Gw.alloc w _⟩
  · go_enter Try.func14, Try.ntmps14
    go_wp2_with fail
    go_ret
    exact ⟨by rw [HR.out]; simp [shortB, h1]; omega, Gw.alloc w _⟩
theorem kof_c (p : Int × Int) (w : World) : Calls Try.prog 11 #[kV p] w fun e w' => e = .returned (kV p) ∧ Below w.heap.size w w' := by
  obtain ⟨x, y⟩ := p
  unfold kV
  go_enter Try.func11, Try.ntmps11
  go_wp2_with fail
  have hb := Bk.new (w.alloc (.cells #[.int .i64 x, .int .i64 y] 23)) 27 #[.int .i64 x, .int .i64 y]
  rw [World.size_alloc] at hb
  refine bodyPost_ret (v := .agg #[.int .i64 x, .int .i64 y]) ?_ rfl ?_
  · obtain ⟨c0, c1⟩ := hb.two
    simp [results, Try.results11, go_sem, c0, c1]
  · exact ⟨rfl, (Gw.alloc w _).alloc (by simp) _⟩
theorem refcmp_c (p q : Int × Int) (w : World) : Calls Try.prog 10 #[kV p, kV q] w fun e w' => e = .returned (.int .i64 (cmpN p q)) ∧ Below w.heap.size w w' := by
  obtain ⟨a, b⟩ := p
  obtain ⟨c, d⟩ := q
  unfold kV
  obtain ⟨r, hr⟩ : ∃ r, r = cmpN (a, b) (c, d) := ⟨_, rfl⟩
  rw [← hr]
  unfold cmpN Lib.compareInt at hr
  have HR := Lib.hid hr
  clear hr
  by_cases h1 : a < c
  · go_enter Try.func10, Try.ntmps10
    go_wp2_with fail
    go_ret
    exact ⟨by rw [HR.out]; simp [h1], (Gw.alloc w _).alloc (by simp) _⟩
  · by_cases h2 : a = c
    · subst h2
      by_cases h3 : b < d
      · have t1 : ((a == a) : Bool) = true := by simp
        go_enter Try.func10, Try.ntmps10
        go_wp2_with fail
        go_ret
        exact ⟨by rw [HR.out]; simp [h3], (Gw.alloc w _).alloc (by simp) _⟩
      · by_cases h4 : b = d
        · subst h4
          go_enter Try.func10, Try.ntmps10
          go_wp2_with fail
          go_ret
          exact ⟨by rw [HR.out]; simp, (Gw.alloc w _).alloc (by simp) _⟩
        · have t2 : ((b == d) : Bool) = false := by simpa using h4
          go_enter Try.func10, Try.ntmps10
          go_wp2_with fail
          go_ret
          exact ⟨by rw [HR.out]; have h5 : d < b := by omega
                    have h6 : ¬ b < d := by omega
                    simp [h6, h5], (Gw.alloc w _).alloc (by simp) _⟩
    · have t2 : ((a == c) : Bool) = false := by simpa using h2
      go_enter Try.func10, Try.ntmps10
      go_wp2_with fail
      go_ret
      exact ⟨by rw [HR.out]; have h5 : c < a := by omega
                have h6 : ¬ a < c := by omega
                simp [h6, h5], (Gw.alloc w _).alloc (by simp) _⟩
/-- Numbers of 32 bits. -/
theorem i32_short (z : Int) : -2147483648 ≤ i32 z ∧ i32 z < 2147483648 := by unfold i32; omega
theorem i32_id {z : Int} (h1 : -2147483648 ≤ z) (h2 : z < 2147483648) : i32 z = z := by unfold i32; omega
theorem pack_lo (p : Int × Int) : 0 ≤ packI p ∧ packI p < 18446744073709551616 := by unfold packI; omega
theorem pack_unpack (u : Int) (h0 : 0 ≤ u) (h1 : u < 18446744073709551616) : packI (unpackI u) = u := by
  unfold packI unpackI i32
  simp only
  omega
theorem unpack_short (u : Int) : shortB (unpackI u) = true := by
  have h1 := i32_short (u / 4294967296)
  have h2 := i32_short u
  unfold shortB unpackI
  simp only [decide_eq_true_eq]
  omega
theorem unpack_pack (p : Int × Int) (h : shortB p = true) : unpackI (packI p) = p := by
  unfold shortB at h
  simp only [decide_eq_true_eq] at h
  obtain ⟨x, y⟩ := p
  simp only at h
  unfold unpackI packI
  simp only
  have e1 : (x % 4294967296 * 4294967296 + y % 4294967296) / 4294967296 = x % 4294967296 := by omega
  rw [e1]
  refine Prod.ext ?_ ?_
  · simp only; unfold i32; omega
  · simp only; unfold i32; omega
theorem cmpN_zero (p q : Int × Int) : cmpN p q = 0 ↔ p = q := by
  obtain ⟨a, b⟩ := p
  obtain ⟨c, d⟩ := q
  unfold cmpN Lib.compareInt
  simp only [Prod.mk.injEq]
  constructor
  · intro h
    revert h
    repeat' split
    all_goals omega
  · rintro ⟨rfl, rfl⟩
    simp
theorem cmpN_neg (p q : Int × Int) : cmpN q p = 0 - cmpN p q := by
  unfold cmpN Lib.compareInt
  repeat' split
  all_goals omega
theorem cmpN_lo (p q : Int × Int) : -1 ≤ cmpN p q ∧ cmpN p q ≤ 1 := by
  unfold cmpN Lib.compareInt
  repeat' split
  all_goals omega
end Go.Proofs.Ytgddehhigamkkaa
