/- Keys: which one stands ahead; cmp.Or of two; slices.SortFunc, Collect, SortedFunc at keys. Conditions: lengths. -/
import Derived.Test.YtgddehhigamkkaaKyD
import Derived.Test.YtgddehhigamkkaaLaid10
import Derived.Test.YtgddehhigamkkaaRegX
import Derived.Lib.AppendIntMem
namespace Go.Proofs.Ytgddehhigamkkaa
set_option linter.unusedVariables false
set_option linter.unusedSimpArgs false
open Go.RowKit Go.Maps Go.Sort Go.Shelf
set_option maxRecDepth 100000
set_option maxHeartbeats 2000000
theorem cmpInt_c (x y : Int) (w : World) : Calls Try.prog 24 #[.int .i64 x, .int .i64 y] w fun e w' => e = .returned (.int .i64 (Lib.compareInt x y)) ∧ w' = w := AnyG.cmp_Compare_int cmpK x y w
/-- cmp.Or of two numbers that lie in a block. -/
theorem or_c (w : World) (q : Nat) (a b : Int) (h : Bk w q 3 #[.int .i64 a, .int .i64 b]) : Calls Try.prog 23 #[.slice (some ⟨q, 0, none⟩) 2 2] w fun e w' => e = .returned (.int .i64 (if a = 0 then b else a)) ∧ w' = w := by
  obtain ⟨c0, c1⟩ := h.two
  clear h
  go_enter Try.func23, Try.ntmps23
  go_wp2_with fail
  refine wp_loop_rounds 3 ?_
  rw [rounds_succ]
  by_cases ha : a = 0
  · subst ha
    go_wp2_with fail
    rw [rounds_succ]
    by_cases hb : b = 0
    · subst hb
      go_wp2_with fail
      rw [rounds_succ]
      go_wp2_with fail
      go_ret
      exact ⟨by simp, rfl⟩
    · have tb : ((b != 0) : Bool) = true := by simpa using hb
      go_wp2_with fail
      go_ret
      exact ⟨by simp, rfl⟩
  · have ta : ((a != 0) : Bool) = true := by simpa using ha
    go_wp2_with fail
    go_ret
    exact ⟨by simp [ha], rfl⟩
theorem three_grow (w : World) (A B C : Obj) : (((w.alloc A).alloc B).drew.alloc C) = grow (w.drewN 1) #[A, B, C] := by
  have e : ∀ (X : World) (os : Array Obj), (grow X os).drew = grow (X.drewN 1) os := fun _ _ => rfl
  rw [alloc_eq_grow w A, alloc_eq_grow (grow w #[A]) B, grow_grow, e, alloc_eq_grow, grow_grow]
  rfl
def cmpN (p q : Int × Int) : Int := if Lib.compareInt p.1 q.1 = 0 then Lib.compareInt p.2 q.2 else Lib.compareInt p.1 q.1
theorem compare_c (p q : Int × Int) (w : World) : Calls Try.prog 9 #[kV p, kV q] w fun e w' => e = .returned (.int .i64 (cmpN p q)) ∧ ∃ n os, w' = grow (w.drewN n) os := by
  obtain ⟨p1, p2⟩ := p
  obtain ⟨q1, q2⟩ := q
  unfold kV
  obtain ⟨x, hx⟩ : ∃ x, x = Lib.compareInt p1 q1 := ⟨_, rfl⟩
  obtain ⟨y, hy⟩ : ∃ y, y = Lib.compareInt p2 q2 := ⟨_, rfl⟩
  have HX := Lib.hid (show ∀ W, Calls Try.prog 24 #[.int .i64 p1, .int .i64 q1] W fun e w' => e = .returned (.int .i64 x) ∧ w' = W from fun W => by rw [hx]; exact cmpInt_c p1 q1 W)
  have HY := Lib.hid (show ∀ W, Calls Try.prog 24 #[.int .i64 p2, .int .i64 q2] W fun e w' => e = .returned (.int .i64 y) ∧ w' = W from fun W => by rw [hy]; exact cmpInt_c p2 q2 W)
  obtain ⟨z, hz⟩ : ∃ z, z = if x = 0 then y else x := ⟨_, rfl⟩
  rw [show cmpN (p1, p2) (q1, q2) = z from by rw [hz]; unfold cmpN; rw [hx, hy]]
  have HZ := Lib.hid hz
  clear hx hy hz
  obtain ⟨W0, hW0⟩ : ∃ X, X = (w.alloc (.cells #[.int .i64 p1, .int .i64 p2] 23)).alloc (.cells #[.int .i64 q1, .int .i64 q2] 23) := ⟨_, rfl⟩
  obtain ⟨H, hH⟩ : ∃ H, H = w.heap.size := ⟨_, rfl⟩
  have hA : Bk W0 H 23 #[.int .i64 p1, .int .i64 p2] := by rw [hW0, hH]; exact (Bk.new w _ _).alloc _
  have hB : Bk W0 (H + 1) 23 #[.int .i64 q1, .int .i64 q2] := by
    have := Bk.new (w.alloc (.cells #[.int .i64 p1, .int .i64 p2] 23)) 23 #[.int .i64 q1, .int .i64 q2]
    rw [World.size_alloc] at this
    rw [hW0, hH]; exact this
  have hP : ∀ W, Below W0.heap.size W0 W → W.cell? ⟨H, 0, none⟩ = some (.int .i64 p1) ∧ W.cell? ⟨H, 1, none⟩ = some (.int .i64 p2) ∧ W.cell? ⟨H + 1, 0, none⟩ = some (.int .i64 q1) ∧ W.cell? ⟨H + 1, 1, none⟩ = some (.int .i64 q2) := fun W hb =>
    ⟨(hA.below hb hA.lt).two.1, (hA.below hb hA.lt).two.2, (hB.below hb hB.lt).two.1, (hB.below hb hB.lt).two.2⟩
  have HP := Lib.hid hP
  have HW0 := Lib.hid hW0
  clear hP hA hB
  go_enter Try.func9, Try.ntmps9
  go_wp2_with fail
  rw [← hW0, ← hH]
  clear hW0 hH
  refine region_by_set [4, 9, 10, 11, 12] [(0, 5, .pointer (some ⟨H, 0, none⟩)), (1, 6, .int .i64 p1), (2, 7, .pointer (some ⟨H + 1, 0, none⟩)), (3, 8, .int .i64 q1), (5, 10, .pointer (some ⟨H, 1, none⟩)), (6, 11, .int .i64 p2), (7, 12, .pointer (some ⟨H + 1, 1, none⟩)), (8, 13, .int .i64 q2)]
    (fun W => W.cell? ⟨H, 0, none⟩ = some (.int .i64 p1) ∧ W.cell? ⟨H, 1, none⟩ = some (.int .i64 p2) ∧ W.cell? ⟨H + 1, 0, none⟩ = some (.int .i64 q1) ∧ W.cell? ⟨H + 1, 1, none⟩ = some (.int .i64 q2)) (by kernel_rfl) (by kernel_rfl) (by kernel_rfl) (by kernel_rfl) (by kernel_rfl) (HP.out _ (Gw.drew _)) ?_ ?_
  · intro y0 hy V ρ hV hρ hcst
    obtain ⟨c1, c2, c3, c4⟩ := hV
    have e2 : ρ (.tmp 2) = .pointer (some ⟨H, 0, none⟩) := (hρ 2).trans (by kernel_rfl)
    have e3 : ρ (.tmp 3) = .pointer (some ⟨H + 1, 0, none⟩) := (hρ 3).trans (by kernel_rfl)
    have e5 : ρ (.tmp 5) = .pointer (some ⟨H, 0, none⟩) := (hρ 5).trans (by kernel_rfl)
    have e7 : ρ (.tmp 7) = .pointer (some ⟨H + 1, 0, none⟩) := (hρ 7).trans (by kernel_rfl)
    have e10 : ρ (.tmp 10) = .pointer (some ⟨H, 1, none⟩) := (hρ 10).trans (by kernel_rfl)
    have e12 : ρ (.tmp 12) = .pointer (some ⟨H + 1, 1, none⟩) := (hρ 12).trans (by kernel_rfl)
    clear hρ HX HY
    simp only [List.mem_cons, List.not_mem_nil, or_false] at hy
    rcases hy with rfl | rfl | rfl | rfl | rfl | rfl | rfl | rfl
    all_goals
      refine ⟨_, rfl, ?_⟩
      go_simp
      try rfl
  simp only [putA, putD, Act.put, List.setIfInBounds_toArray, List.set_cons_zero, List.set_cons_succ]
  have HV := HP.out _ (Gw.drew W0)
  have HV2 := HP.out _ ((Gw.drew W0).trans ((Gw.alloc W0.drew (.cells #[.int .i64 x, .int .i64 y] 3)).mono (by simp)))
  obtain ⟨V0, hV0⟩ : ∃ X, X = W0.drew := ⟨_, rfl⟩
  rw [← hV0] at HV HV2 ⊢
  have HO := Lib.hid (show Calls Try.prog 23 #[.slice (some ⟨V0.heap.size, 0, none⟩) 2 2] (V0.alloc (.cells #[.int .i64 x, .int .i64 y] 3)) fun e w' => e = .returned (.int .i64 z) ∧ w' = V0.alloc (.cells #[.int .i64 x, .int .i64 y] 3) from by rw [HZ.out]; exact or_c (V0.alloc (.cells #[.int .i64 x, .int .i64 y] 3)) V0.heap.size x y (Bk.new V0 3 #[.int .i64 x, .int .i64 y]))
  have HV := Lib.hid HV
  have HV2 := Lib.hid HV2
  have HV0 := Lib.hid hV0
  clear hV0
  refine spineS_two 4 9 [9, 10, 11, 12] [4, 10, 11, 12] (by kernel_rfl) ?_ ?_
  · refine set_list rfl rfl rfl ?_
    go_wp2_with fail
    refine Calls.mono (HX.out _) ?_
    rintro e w' ⟨rfl, rfl⟩
    go_wp2_with fail
    refine ⟨rfl, HV.out, ?_⟩
    refine spineS_one 9 [10, 11, 12] (by kernel_rfl) ?_
    refine set_list rfl rfl rfl ?_
    go_wp2_with fail
    refine Calls.mono (HY.out _) ?_
    rintro e w' ⟨rfl, rfl⟩
    go_wp2_with fail
    refine ⟨rfl, HV.out, ?_⟩
    refine spineS_one 10 [11, 12] (by kernel_rfl) ?_
    refine set_list rfl rfl rfl ?_
    go_wp2_with fail
    refine ⟨rfl, HV2.out, ?_⟩
    refine spineS_one 11 [12] (by kernel_rfl) ?_
    refine set_list rfl rfl rfl ?_
    go_wp2_with fail
    refine Calls.mono HO.out ?_
    rintro e w' ⟨rfl, rfl⟩
    go_wp2_with fail
    refine ⟨rfl, HV2.out, ?_⟩
    refine spineS_one 12 [] (by kernel_rfl) ?_
    refine set_list rfl rfl rfl ?_
    go_wp2_with fail
    refine ⟨rfl, HV2.out, ?_⟩
    unfold SpineS
    go_wp2_with fail
    go_ret
    exact ⟨rfl, 1, _, by rw [HV0.out, HW0.out]; exact three_grow _ _ _ _⟩
  · refine set_list rfl rfl rfl ?_
    go_wp2_with fail
    refine Calls.mono (HY.out _) ?_
    rintro e w' ⟨rfl, rfl⟩
    go_wp2_with fail
    refine ⟨rfl, HV.out, ?_⟩
    refine spineS_one 4 [10, 11, 12] (by kernel_rfl) ?_
    refine set_list rfl rfl rfl ?_
    go_wp2_with fail
    refine Calls.mono (HX.out _) ?_
    rintro e w' ⟨rfl, rfl⟩
    go_wp2_with fail
    refine ⟨rfl, HV.out, ?_⟩
    refine spineS_one 10 [11, 12] (by kernel_rfl) ?_
    refine set_list rfl rfl rfl ?_
    go_wp2_with fail
    refine ⟨rfl, HV2.out, ?_⟩
    refine spineS_one 11 [12] (by kernel_rfl) ?_
    refine set_list rfl rfl rfl ?_
    go_wp2_with fail
    refine Calls.mono HO.out ?_
    rintro e w' ⟨rfl, rfl⟩
    go_wp2_with fail
    refine ⟨rfl, HV2.out, ?_⟩
    refine spineS_one 12 [] (by kernel_rfl) ?_
    refine set_list rfl rfl rfl ?_
    go_wp2_with fail
    refine ⟨rfl, HV2.out, ?_⟩
    unfold SpineS
    go_wp2_with fail
    go_ret
    exact ⟨rfl, 1, _, by rw [HV0.out, HW0.out]; exact three_grow _ _ _ _⟩
end Go.Proofs.Ytgddehhigamkkaa
