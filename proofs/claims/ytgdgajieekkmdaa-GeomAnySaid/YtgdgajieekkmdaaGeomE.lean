/- What geom.Owner answers of a geometry that may be. Conditions: it may be. -/
import Derived.Test.YtgdgajieekkmdaaGeomD
namespace Go.Proofs.Ytgdgajieekkmdaa
set_option linter.unusedVariables false
set_option linter.unusedSimpArgs false
open Go.RowKit
def ownS (s l n x : Int) : ByteArray := if x < 0 ∨ totG s l n ≤ x then ⟨#[]⟩ else if x < 2 then ⟨#[115, 108, 111, 116]⟩ else if x < 2 + l then ⟨#[108, 111, 103]⟩ else ⟨#[115, 112, 97, 99, 101]⟩
theorem around_all (s l n x : Int) (h : OkG s l n) : (ownS s l n x = ⟨#[]⟩ ∧ aroundG x (allG s l n) = (0, 0)) ∨ (ownS s l n x = ⟨#[115, 108, 111, 116]⟩ ∧ (aroundG x (allG s l n) = (0, 1) ∨ aroundG x (allG s l n) = (1, 1))) ∨
    (ownS s l n x = ⟨#[108, 111, 103]⟩ ∧ aroundG x (allG s l n) = (2, l)) ∨ (ownS s l n x = ⟨#[115, 112, 97, 99, 101]⟩ ∧ (aroundG x (allG s l n) = (2 + l, oneG s n) ∨ aroundG x (allG s l n) = (2 + l + oneG s n, oneG s n))) := by
  obtain ⟨q1, q2⟩ := oneG_bd s n h.s1 h.s2 h.n1 h.n2
  have q3 := h.l1
  have q4 := h.l2
  unfold ownS totG allG aroundG aroundG aroundG aroundG aroundG aroundG
  simp only
  by_cases h0 : x < 0 ∨ 2 + l + 2 * oneG s n ≤ x
  · left
    rw [if_pos h0, if_neg (by omega), if_neg (by omega), if_neg (by omega), if_neg (by omega), if_neg (by omega)]
    exact ⟨rfl, rfl⟩
  · right
    rw [if_neg h0]
    by_cases h1 : x < 2
    · left
      rw [if_pos h1]
      refine ⟨rfl, ?_⟩
      by_cases h2 : x < 1
      · left; rw [if_pos (by omega)]
      · right; rw [if_neg (by omega), if_pos (by omega)]
    · right
      rw [if_neg h1]
      by_cases h2 : x < 2 + l
      · left
        rw [if_pos h2, if_neg (by omega), if_neg (by omega), if_pos (by omega)]
        exact ⟨rfl, rfl⟩
      · right
        rw [if_neg h2]
        refine ⟨rfl, ?_⟩
        by_cases h3 : x < 2 + l + oneG s n
        · left; rw [if_neg (by omega), if_neg (by omega), if_neg (by omega), if_pos (by omega)]
        · right; rw [if_neg (by omega), if_neg (by omega), if_neg (by omega), if_neg (by omega), if_pos (by omega)]
set_option maxHeartbeats 400000
theorem owner_0 (s l n x : Int) (w : World) (h : OkG s l n) (har : Hid (aroundG x (allG s l n) = (0, 0))) :
    Calls Try.prog 37 #[gV s l n, .int .i64 x] w (RetP (.string ⟨#[]⟩) w) := by
  have HS := Lib.hid (fun w => slots_c s l n w h)
  have HL := Lib.hid (fun w => log_c s l n w h)
  have HO := Lib.hid h
  obtain ⟨q1, q2⟩ := oneG_bd s n h.s1 h.s2 h.n1 h.n2
  have q3 := h.l1
  unfold gV at *
  clear h
  go_enter Try.func37, Try.ntmps37
  go_wp2_with fail
  refine Calls.mono (HS.out _) ?_
  rintro e w1 ⟨rfl, hb1⟩
  obtain ⟨hk, hB1⟩ := boxed hb1
  obtain ⟨c1, c2, c3⟩ := hk.three
  have hz : w.heap.size < w1.heap.size := hk.lt
  have hkk := hk.alloc (.cells #[.int .i64 0, .int .i64 1, .int .i64 1, .int .i64 1] 47)
  have hpp := Bk.new w1 47 #[.int .i64 0, .int .i64 1, .int .i64 1, .int .i64 1]
  have hB2 := hB1.alloc hB1.size (.cells #[.int .i64 0, .int .i64 1, .int .i64 1, .int .i64 1] 47)
  clear hb1
  go_wp2_with fail
  refine owner_r _ _ _ w.heap.size w1.heap.size s l n x hkk hpp HO.out (0, 0) har rfl rfl rfl rfl ?_
  intro vals w2 hG h20
  unfold IsV plV at h20
  simp only [putD, Act.put, List.setIfInBounds_toArray, List.set_cons_zero, List.set_cons_succ, h20]
  have hB3 := hB2.trans (hG.mono (by have := hB1.size; simp; omega))
  have hk3 := hkk.below hG hkk.lt
  have hp3 := hpp.below hG hpp.lt
  obtain ⟨d1, d2, d3⟩ := hk3.three
  obtain ⟨e1, e2, e3, e4⟩ := hp3.four
  clear h20 hG
  go_wp2_with fail
  go_ret
  exact ⟨rfl, hB3⟩
theorem owner_1 (s l n x : Int) (w : World) (h : OkG s l n) (har : Hid (aroundG x (allG s l n) = (0, 1))) :
    Calls Try.prog 37 #[gV s l n, .int .i64 x] w (RetP (.string ⟨#[115, 108, 111, 116]⟩) w) := by
  have HS := Lib.hid (fun w => slots_c s l n w h)
  have HL := Lib.hid (fun w => log_c s l n w h)
  have HO := Lib.hid h
  obtain ⟨q1, q2⟩ := oneG_bd s n h.s1 h.s2 h.n1 h.n2
  have q3 := h.l1
  unfold gV at *
  clear h
  go_enter Try.func37, Try.ntmps37
  go_wp2_with fail
  refine Calls.mono (HS.out _) ?_
  rintro e w1 ⟨rfl, hb1⟩
  obtain ⟨hk, hB1⟩ := boxed hb1
  obtain ⟨c1, c2, c3⟩ := hk.three
  have hz : w.heap.size < w1.heap.size := hk.lt
  have hkk := hk.alloc (.cells #[.int .i64 0, .int .i64 1, .int .i64 1, .int .i64 1] 47)
  have hpp := Bk.new w1 47 #[.int .i64 0, .int .i64 1, .int .i64 1, .int .i64 1]
  have hB2 := hB1.alloc hB1.size (.cells #[.int .i64 0, .int .i64 1, .int .i64 1, .int .i64 1] 47)
  clear hb1
  go_wp2_with fail
  refine owner_r _ _ _ w.heap.size w1.heap.size s l n x hkk hpp HO.out (0, 1) har rfl rfl rfl rfl ?_
  intro vals w2 hG h20
  unfold IsV plV at h20
  simp only [putD, Act.put, List.setIfInBounds_toArray, List.set_cons_zero, List.set_cons_succ, h20]
  have hB3 := hB2.trans (hG.mono (by have := hB1.size; simp; omega))
  have hk3 := hkk.below hG hkk.lt
  have hp3 := hpp.below hG hpp.lt
  obtain ⟨d1, d2, d3⟩ := hk3.three
  obtain ⟨e1, e2, e3, e4⟩ := hp3.four
  clear h20 hG
  go_wp2_with fail
  go_ret
  exact ⟨rfl, hB3⟩
theorem owner_2 (s l n x : Int) (w : World) (h : OkG s l n) (har : Hid (aroundG x (allG s l n) = (1, 1))) :
    Calls Try.prog 37 #[gV s l n, .int .i64 x] w (RetP (.string ⟨#[115, 108, 111, 116]⟩) w) := by
  have HS := Lib.hid (fun w => slots_c s l n w h)
  have HL := Lib.hid (fun w => log_c s l n w h)
  have HO := Lib.hid h
  obtain ⟨q1, q2⟩ := oneG_bd s n h.s1 h.s2 h.n1 h.n2
  have q3 := h.l1
  unfold gV at *
  clear h
  go_enter Try.func37, Try.ntmps37
  go_wp2_with fail
  refine Calls.mono (HS.out _) ?_
  rintro e w1 ⟨rfl, hb1⟩
  obtain ⟨hk, hB1⟩ := boxed hb1
  obtain ⟨c1, c2, c3⟩ := hk.three
  have hz : w.heap.size < w1.heap.size := hk.lt
  have hkk := hk.alloc (.cells #[.int .i64 0, .int .i64 1, .int .i64 1, .int .i64 1] 47)
  have hpp := Bk.new w1 47 #[.int .i64 0, .int .i64 1, .int .i64 1, .int .i64 1]
  have hB2 := hB1.alloc hB1.size (.cells #[.int .i64 0, .int .i64 1, .int .i64 1, .int .i64 1] 47)
  clear hb1
  go_wp2_with fail
  refine owner_r _ _ _ w.heap.size w1.heap.size s l n x hkk hpp HO.out (1, 1) har rfl rfl rfl rfl ?_
  intro vals w2 hG h20
  unfold IsV plV at h20
  simp only [putD, Act.put, List.setIfInBounds_toArray, List.set_cons_zero, List.set_cons_succ, h20]
  have hB3 := hB2.trans (hG.mono (by have := hB1.size; simp; omega))
  have hk3 := hkk.below hG hkk.lt
  have hp3 := hpp.below hG hpp.lt
  obtain ⟨d1, d2, d3⟩ := hk3.three
  obtain ⟨e1, e2, e3, e4⟩ := hp3.four
  clear h20 hG
  go_wp2_with fail
  go_ret
  exact ⟨rfl, hB3⟩
theorem owner_3 (s l n x : Int) (w : World) (h : OkG s l n) (har : Hid (aroundG x (allG s l n) = (2, l))) :
    Calls Try.prog 37 #[gV s l n, .int .i64 x] w (RetP (.string ⟨#[108, 111, 103]⟩) w) := by
  have HS := Lib.hid (fun w => slots_c s l n w h)
  have HL := Lib.hid (fun w => log_c s l n w h)
  have HO := Lib.hid h
  obtain ⟨q1, q2⟩ := oneG_bd s n h.s1 h.s2 h.n1 h.n2
  have q3 := h.l1
  unfold gV at *
  clear h
  go_enter Try.func37, Try.ntmps37
  go_wp2_with fail
  refine Calls.mono (HS.out _) ?_
  rintro e w1 ⟨rfl, hb1⟩
  obtain ⟨hk, hB1⟩ := boxed hb1
  obtain ⟨c1, c2, c3⟩ := hk.three
  have hz : w.heap.size < w1.heap.size := hk.lt
  have hkk := hk.alloc (.cells #[.int .i64 0, .int .i64 1, .int .i64 1, .int .i64 1] 47)
  have hpp := Bk.new w1 47 #[.int .i64 0, .int .i64 1, .int .i64 1, .int .i64 1]
  have hB2 := hB1.alloc hB1.size (.cells #[.int .i64 0, .int .i64 1, .int .i64 1, .int .i64 1] 47)
  clear hb1
  go_wp2_with fail
  refine owner_r _ _ _ w.heap.size w1.heap.size s l n x hkk hpp HO.out (2, l) har rfl rfl rfl rfl ?_
  intro vals w2 hG h20
  unfold IsV plV at h20
  simp only [putD, Act.put, List.setIfInBounds_toArray, List.set_cons_zero, List.set_cons_succ, h20]
  have hB3 := hB2.trans (hG.mono (by have := hB1.size; simp; omega))
  have hk3 := hkk.below hG hkk.lt
  have hp3 := hpp.below hG hpp.lt
  obtain ⟨d1, d2, d3⟩ := hk3.three
  obtain ⟨e1, e2, e3, e4⟩ := hp3.four
  clear h20 hG
  go_wp2_with fail
  refine Calls.mono (HL.out _) ?_
  rintro e w3 ⟨rfl, hb3⟩
  have hB4 := hB3.trans (hb3.mono hB3.size)
  clear hb3
  go_wp2_with fail
  go_ret
  exact ⟨rfl, hB4⟩
theorem owner_4 (s l n x : Int) (w : World) (h : OkG s l n) (har : Hid (aroundG x (allG s l n) = (2 + l, oneG s n))) :
    Calls Try.prog 37 #[gV s l n, .int .i64 x] w (RetP (.string ⟨#[115, 112, 97, 99, 101]⟩) w) := by
  have HS := Lib.hid (fun w => slots_c s l n w h)
  have HL := Lib.hid (fun w => log_c s l n w h)
  have HO := Lib.hid h
  obtain ⟨q1, q2⟩ := oneG_bd s n h.s1 h.s2 h.n1 h.n2
  have q3 := h.l1
  have z0 : ((2 + l : Int) == 0) = false := by simp; omega
  have z1 : ((2 + l : Int) == 1) = false := by simp; omega
  have z2 : ((2 + l : Int) == 2) = false := by simp; omega
  unfold gV at *
  clear h
  go_enter Try.func37, Try.ntmps37
  go_wp2_with fail
  refine Calls.mono (HS.out _) ?_
  rintro e w1 ⟨rfl, hb1⟩
  obtain ⟨hk, hB1⟩ := boxed hb1
  obtain ⟨c1, c2, c3⟩ := hk.three
  have hz : w.heap.size < w1.heap.size := hk.lt
  have hkk := hk.alloc (.cells #[.int .i64 0, .int .i64 1, .int .i64 1, .int .i64 1] 47)
  have hpp := Bk.new w1 47 #[.int .i64 0, .int .i64 1, .int .i64 1, .int .i64 1]
  have hB2 := hB1.alloc hB1.size (.cells #[.int .i64 0, .int .i64 1, .int .i64 1, .int .i64 1] 47)
  clear hb1
  go_wp2_with fail
  refine owner_r _ _ _ w.heap.size w1.heap.size s l n x hkk hpp HO.out (2 + l, oneG s n) har rfl rfl rfl rfl ?_
  intro vals w2 hG h20
  unfold IsV plV at h20
  simp only [putD, Act.put, List.setIfInBounds_toArray, List.set_cons_zero, List.set_cons_succ, h20]
  have hB3 := hB2.trans (hG.mono (by have := hB1.size; simp; omega))
  have hk3 := hkk.below hG hkk.lt
  have hp3 := hpp.below hG hpp.lt
  obtain ⟨d1, d2, d3⟩ := hk3.three
  obtain ⟨e1, e2, e3, e4⟩ := hp3.four
  clear h20 hG
  go_wp2_with fail
  refine Calls.mono (HL.out _) ?_
  rintro e w3 ⟨rfl, hb3⟩
  have hB4 := hB3.trans (hb3.mono hB3.size)
  clear hb3
  go_wp2_with fail
  go_ret
  exact ⟨rfl, hB4⟩
theorem owner_5 (s l n x : Int) (w : World) (h : OkG s l n) (har : Hid (aroundG x (allG s l n) = (2 + l + oneG s n, oneG s n))) :
    Calls Try.prog 37 #[gV s l n, .int .i64 x] w (RetP (.string ⟨#[115, 112, 97, 99, 101]⟩) w) := by
  have HS := Lib.hid (fun w => slots_c s l n w h)
  have HL := Lib.hid (fun w => log_c s l n w h)
  have HO := Lib.hid h
  obtain ⟨q1, q2⟩ := oneG_bd s n h.s1 h.s2 h.n1 h.n2
  have q3 := h.l1
  have z0 : ((2 + l + oneG s n : Int) == 0) = false := by simp; omega
  have z1 : ((2 + l + oneG s n : Int) == 1) = false := by simp; omega
  have z2 : ((2 + l + oneG s n : Int) == 2) = false := by simp; omega
  unfold gV at *
  clear h
  go_enter Try.func37, Try.ntmps37
  go_wp2_with fail
  refine Calls.mono (HS.out _) ?_
  rintro e w1 ⟨rfl, hb1⟩
  obtain ⟨hk, hB1⟩ := boxed hb1
  obtain ⟨c1, c2, c3⟩ := hk.three
  have hz : w.heap.size < w1.heap.size := hk.lt
  have hkk := hk.alloc (.cells #[.int .i64 0, .int .i64 1, .int .i64 1, .int .i64 1] 47)
  have hpp := Bk.new w1 47 #[.int .i64 0, .int .i64 1, .int .i64 1, .int .i64 1]
  have hB2 := hB1.alloc hB1.size (.cells #[.int .i64 0, .int .i64 1, .int .i64 1, .int .i64 1] 47)
  clear hb1
  go_wp2_with fail
  refine owner_r _ _ _ w.heap.size w1.heap.size s l n x hkk hpp HO.out (2 + l + oneG s n, oneG s n) har rfl rfl rfl rfl ?_
  intro vals w2 hG h20
  unfold IsV plV at h20
  simp only [putD, Act.put, List.setIfInBounds_toArray, List.set_cons_zero, List.set_cons_succ, h20]
  have hB3 := hB2.trans (hG.mono (by have := hB1.size; simp; omega))
  have hk3 := hkk.below hG hkk.lt
  have hp3 := hpp.below hG hpp.lt
  obtain ⟨d1, d2, d3⟩ := hk3.three
  obtain ⟨e1, e2, e3, e4⟩ := hp3.four
  clear h20 hG
  go_wp2_with fail
  refine Calls.mono (HL.out _) ?_
  rintro e w3 ⟨rfl, hb3⟩
  have hB4 := hB3.trans (hb3.mono hB3.size)
  clear hb3
  go_wp2_with fail
  go_ret
  exact ⟨rfl, hB4⟩
theorem owner_c (s l n x : Int) (w : World) (h : OkG s l n) : Calls Try.prog 37 #[gV s l n, .int .i64 x] w (RetP (.string (ownS s l n x)) w) := by
  rcases around_all s l n x h with ⟨e, h1⟩ | ⟨e, h1 | h1⟩ | ⟨e, h1⟩ | ⟨e, h1 | h1⟩ <;> rw [e]
  · exact owner_0 s l n x w h (Lib.hid h1)
  · exact owner_1 s l n x w h (Lib.hid h1)
  · exact owner_2 s l n x w h (Lib.hid h1)
  · exact owner_3 s l n x w h (Lib.hid h1)
  · exact owner_4 s l n x w h (Lib.hid h1)
  · exact owner_5 s l n x w h (Lib.hid h1)
end Go.Proofs.Ytgdgajieekkmdaa
