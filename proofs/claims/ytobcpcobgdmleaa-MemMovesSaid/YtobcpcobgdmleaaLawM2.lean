/- The law MemMoves of layer 13 returns true for every argument. No conditions. -/
import Derived.Test.YtobcpcobgdmleaaMmL
import Derived.Test.YtobcpcobgdmleaaOpenW
namespace Go.Proofs.Ytobcpcobgdmleaa
set_option linter.unusedVariables false
set_option linter.unusedSimpArgs false
open Go.RowKit
set_option maxHeartbeats 1000000
set_option maxRecDepth 100000
theorem moves_far (w : World) (A : Option Addr) (n0 c : Nat) (h : 100 < n0) (to fr n : Int) : Calls Try.prog 6 #[.slice A n0 c, .int .i64 to, .int .i64 fr, .int .i64 n] w (TruP (.bool true) w) := by
  have t1 : decide ((100 : Int) < (n0 : Int)) = true := by simp; omega
  clear h
  go_enter Try.func6, Try.ntmps6
  go_wp2_with fail
  refine Calls.mono (known13_c _) ?_
  rintro e w1 ⟨rfl, b1⟩
  go_wp2_with fail
  go_ret
  exact ⟨rfl, b1⟩
/-- Where a move is refused. -/
theorem moves_out (w : World) (A : Option Addr) (ws : List (BitVec 64)) (c : Nat) (hr : Rd u64v w w.heap.size A ws) (hl : ws.length ≤ 100) (to fr n : Int) (h1 : -9223372036854775808 ≤ to ∧ to ≤ 9223372036854775807) (h2 : -9223372036854775808 ≤ fr ∧ fr ≤ 9223372036854775807) (h3 : -9223372036854775808 ≤ n ∧ n ≤ 9223372036854775807)
    (ho : inM (ws.length : Int) to n = false ∨ (inM (ws.length : Int) to n = true ∧ inM (ws.length : Int) fr n = false)) : Calls Try.prog 6 #[.slice A ws.length c, .int .i64 to, .int .i64 fr, .int .i64 n] w (TruP (.bool true) w) := by
  have t1 : decide ((100 : Int) < (ws.length : Int)) = false := by simp; omega
  have HI1 := Lib.hid (fun w => inL_c w (ws.length : Int) to n (by omega) (by omega) h1.1 h1.2 h3.1 h3.2)
  have HI2 := Lib.hid (fun w => inL_c w (ws.length : Int) fr n (by omega) (by omega) h2.1 h2.2 h3.1 h3.2)
  have HMv : Hid (∀ (W : World) (B g : Nat) (v : Value) (h : MemAt W B g v ws), Calls Try.prog 14 #[.pointer (some ⟨g, 0, none⟩), .int .i64 to, .int .i64 fr, .int .i64 n] W fun e w' => e = .returned (.int .i64 1) ∧ w' = W) := Lib.hid (fun W B g v h => by
    rcases ho with ho | ⟨ho1, ho2⟩
    · exact move_out1 W B g v ws to fr n ho (by omega) h1.1 h1.2 h3.1 h3.2 h
    · exact move_out2 W B g v ws to fr n ho1 ho2 (by omega) h1.1 h1.2 h2.1 h2.2 h3.1 h3.2 h)
  have HOf := Lib.hid (fun W hr => of_in W A c ws hr (by omega))
  have HS := Lib.hid (fun W B g v h hr => same_t W B g v ws A c h hr (by omega))
  have HR := Lib.hid hr
  obtain ⟨r1, e1⟩ : ∃ r, inM (ws.length : Int) to n = r := ⟨_, rfl⟩
  obtain ⟨r2, e2⟩ : ∃ r, inM (ws.length : Int) fr n = r := ⟨_, rfl⟩
  rw [e1, e2] at ho
  rw [e1] at HI1
  rw [e2] at HI2
  clear e1 e2
  obtain ⟨N, hN⟩ : ∃ N, N = ws.length := ⟨_, rfl⟩
  rw [← hN] at HI1 HI2 HOf HS t1 ⊢
  clear hl hr h1 h2 h3 hN
  have hrr : r1 = false ∨ (r1 = true ∧ r2 = false) := ho
  clear ho
  rcases hrr with rfl | ⟨rfl, rfl⟩
  all_goals
    go_enter Try.func6, Try.ntmps6
    go_wp2_with fail
    refine Calls.mono (known13_c _) ?_
    rintro e w1 ⟨rfl, b1⟩
    have HB1 := Lib.hid b1
    clear b1
    go_wp2_with fail
    refine Calls.mono (HOf.out w1 ((HR.out.below HB1.out).more HB1.out.size)) ?_
    rintro e w2 ⟨g, v, rfl, h2, b2⟩
    have HM := Lib.hid h2
    have HB2 := Lib.hid (HB1.out.trans (b2.mono HB1.out.size))
    clear h2 b2 HB1 HOf
    go_wp2_with fail
    refine Calls.mono (HMv.out w2 _ g v HM.out) ?_
    rintro e w3 ⟨rfl, rfl⟩
    clear HMv
    go_wp2_with fail
    refine Calls.mono (HI1.out _) ?_
    rintro e w4 ⟨rfl, rfl⟩
    go_wp2_with fail
    try (refine Calls.mono (HI2.out _) ?_; rintro e w5 ⟨rfl, rfl⟩; go_wp2_with fail)
    refine Calls.mono (HS.out _ _ _ _ HM.out ((HR.out.below HB2.out).more HB2.out.size)) ?_
    rintro e w6 ⟨rfl, b6⟩
    have HB6 := Lib.hid (HB2.out.trans (b6.mono HB2.out.size))
    clear b6
    go_wp2_with fail
    go_ret
    exact ⟨rfl, HB6.out⟩
theorem moveM_in {α : Type} (ws : List α) (to fr n i : Nat) (h1 : to + n ≤ ws.length) (h2 : fr + n ≤ ws.length) (a : to ≤ i) (b : i < to + n) (x : α) (hx : ws[fr + (i - to)]? = some x) : (moveM ws to fr n)[i]? = some x := by
  unfold moveM
  have l1 : (ws.take to).length = to := by rw [List.length_take]; omega
  rw [List.getElem?_append_right (by omega), l1]
  rw [List.getElem?_append_left (by rw [List.length_take, List.length_drop]; omega), List.getElem?_take_of_lt (by omega), List.getElem?_drop]
  exact hx
theorem moveM_off {α : Type} (ws : List α) (to fr n i : Nat) (h1 : to + n ≤ ws.length) (h2 : fr + n ≤ ws.length) (a : ¬ (to ≤ i ∧ i < to + n)) : (moveM ws to fr n)[i]? = ws[i]? := by
  unfold moveM
  have l1 : (ws.take to).length = to := by rw [List.length_take]; omega
  have l2 : ((ws.drop fr).take n).length = n := by rw [List.length_take, List.length_drop]; omega
  by_cases c : i < to
  · rw [List.getElem?_append_left (by omega), List.getElem?_take_of_lt c]
  · rw [List.getElem?_append_right (by omega), List.getElem?_append_right (by omega), l1, l2, List.getElem?_drop]
    congr 1
    omega
theorem moves_in (w : World) (A : Option Addr) (ws : List (BitVec 64)) (c : Nat) (hr : Rd u64v w w.heap.size A ws) (hl : ws.length ≤ 100) (to fr n : Nat) (h1 : to + n ≤ ws.length) (h2 : fr + n ≤ ws.length) : Calls Try.prog 6 #[.slice A ws.length c, .int .i64 to, .int .i64 fr, .int .i64 n] w (TruP (.bool true) w) := by
  have t1 : decide ((100 : Int) < (ws.length : Int)) = false := by simp; omega
  have HI1 := Lib.hid (fun w => inL_c w (ws.length : Int) to n (by omega) (by omega) (by omega) (by omega) (by omega) (by omega))
  have HI2 := Lib.hid (fun w => inL_c w (ws.length : Int) fr n (by omega) (by omega) (by omega) (by omega) (by omega) (by omega))
  rw [show inM (ws.length : Int) (to : Int) n = true from by unfold inM; simp; omega] at HI1
  rw [show inM (ws.length : Int) (fr : Int) n = true from by unfold inM; simp; omega] at HI2
  have HMv := Lib.hid (fun W B g v h => move_in W B g v ws to fr n h1 h2 (by omega) h)
  have HOf := Lib.hid (fun W hr => of_in W A c ws hr (by omega))
  have hml := moveM_len ws to fr n h1 h2
  have HWo := Lib.hid (fun W B g v h => words_c W B g v (moveM ws to fr n) h (by rw [hml]; omega))
  have HR := Lib.hid hr
  have HML := Lib.hid hml
  have H1 := Lib.hid h1
  have H2 := Lib.hid h2
  obtain ⟨N, hN⟩ : ∃ N, N = ws.length := ⟨_, rfl⟩
  rw [← hN] at HI1 HI2 HOf t1 ⊢
  have HN := Lib.hid hN
  have q3 : (N : Int) ≤ 100 := by omega
  clear hl hr h1 h2 hN hml
  go_enter Try.func6, Try.ntmps6
  go_wp2_with fail
  refine Calls.mono (known13_c _) ?_
  rintro e w1 ⟨rfl, b1⟩
  have HB1 := Lib.hid b1
  clear b1
  go_wp2_with fail
  refine Calls.mono (HOf.out w1 ((HR.out.below HB1.out).more HB1.out.size)) ?_
  rintro e w2 ⟨g, v, rfl, h2, b2⟩
  have HM := Lib.hid h2
  have HB2 := Lib.hid (HB1.out.trans (b2.mono HB1.out.size))
  clear h2 b2
  go_wp2_with fail
  refine Calls.mono (HMv.out w2 _ g v HM.out) ?_
  rintro e w3 ⟨rfl, h3, g3⟩
  have HB3 := Lib.hid (HB2.out.trans ((HM.out.own g3).mono HB1.out.size))
  have HM3 := Lib.hid h3
  clear HMv h3 g3 HB2 HM
  go_wp2_with fail
  refine Calls.mono (HI1.out _) ?_
  rintro e w4 ⟨rfl, rfl⟩
  go_wp2_with fail
  refine Calls.mono (HI2.out _) ?_
  rintro e w5 ⟨rfl, rfl⟩
  go_wp2_with fail
  refine Calls.mono (HWo.out _ _ _ _ HM3.out) ?_
  rintro e w6 ⟨A6, c6, rfl, hc6, ho6, b6⟩
  rw [HML.out, ← HN.out]
  have HB6 := Lib.hid (HB3.out.trans (b6.mono HB3.out.size))
  have HO := Lib.hid ho6
  clear hc6 ho6 b6 HWo HM3 HB3 HOf HB1
  go_wp2_with fail
  go_loopw [13, 14] (fun i _ wr => ∃ k : Nat, k ≤ N ∧ i = .int .i64 k ∧ wr = w6) (fun i _ _ => N - (intOf i).toNat)
  case atStart => exact ⟨0, by omega, rfl, rfl⟩
  case round =>
    obtain ⟨k, hk, rfl, rfl⟩ := hrel
    by_cases hlt : k < N
    · have p1 : (0 : Int) ≤ (k : Int) := by omega
      have p2 : (k : Int) < (N : Int) := by omega
      have hlw : k < ws.length := by rw [← HN.out]; exact hlt
      have hlm : k < (moveM ws to fr n).length := by rw [HML.out]; exact hlw
      obtain ⟨ad, rfl, hadb, hcl⟩ := (HR.out.below HB6.out).addr (by omega)
      obtain ⟨ad2, rfl, hadb2, hcl2⟩ := HO.out.rd k hlm
      have hN0 := HN.out
      have h1 := H1.out
      have h2 := H2.out
      have c1 := hcl k hlw
      obtain ⟨y1, hy1⟩ : ∃ y, y = ws[k] := ⟨_, rfl⟩
      rw [← hy1] at c1
      unfold u64v at c1 hcl2
      obtain ⟨te, hte⟩ : ∃ te, te = to + n := ⟨_, rfl⟩
      have e1 : (to : Int) + (n : Int) = (te : Int) := by omega
      have p3 : (te : Int) ≤ 100 := by omega
      have p4 : (0 : Int) ≤ (to : Int) := by omega
      have p5 : (0 : Int) ≤ (n : Int) := by omega
      by_cases hin : to ≤ k ∧ k < to + n
      · obtain ⟨f1, hf1⟩ : ∃ f1, f1 = fr + k := ⟨_, rfl⟩
        obtain ⟨j, hj⟩ : ∃ j, j = fr + (k - to) := ⟨_, rfl⟩
        have hjl : j < ws.length := by omega
        have c2 := hcl j hjl
        have e4 : (moveM ws to fr n)[k] = ws[j] := by
          have := moveM_in ws to fr n k h1 h2 hin.1 hin.2 ws[j] (by rw [← hj]; exact List.getElem?_eq_getElem _)
          rw [List.getElem?_eq_getElem hlm] at this
          injection this
        rw [e4] at hcl2
        obtain ⟨y, hy⟩ : ∃ y, y = ws[j] := ⟨_, rfl⟩
        rw [← hy] at c2 hcl2
        unfold u64v at c2
        have u1 : to ≤ k := hin.1
        have u2 : k < te := by omega
        have e2 : (fr : Int) + (k : Int) = (f1 : Int) := by omega
        have e3 : (f1 : Int) - (to : Int) = (j : Int) := by omega
        have p6 : (f1 : Int) ≤ 1000 := by omega
        have p7 : (0 : Int) ≤ (f1 : Int) := by omega
        have p8 : (0 : Int) ≤ (j : Int) := by omega
        have p9 : (j : Int) < (N : Int) := by omega
        clear hin hlw hlm hadb hcl hadb2 hN0 h1 h2 hte hf1 hj hjl e4 hy hy1
        go_wp2_with fail
        go_roundw
        case rel => exact ⟨k + 1, by omega, by go_num, trivial⟩
        case measure => (first | (simp [intOf]; done) | (simp [intOf]; omega))
      · have e4 : (moveM ws to fr n)[k] = ws[k] := by
          have := moveM_off ws to fr n k h1 h2 hin
          rw [List.getElem?_eq_getElem hlm, List.getElem?_eq_getElem hlw] at this
          injection this
        rw [e4, ← hy1] at hcl2
        have hu : (¬ to ≤ k) ∨ (to ≤ k ∧ ¬ k < te) := by omega
        clear hin hlw hlm hadb hcl hadb2 hN0 h1 h2 hte e4 hy1
        rcases hu with u1 | ⟨u1, u2⟩
        all_goals
          go_wp2_with fail
          go_roundw
          case rel => exact ⟨k + 1, by omega, by go_num, trivial⟩
          case measure => (first | (simp [intOf]; done) | (simp [intOf]; omega))
    · go_wp2_with fail
      go_ret
      exact ⟨rfl, HB6.out⟩
theorem moves_walk (w : World) (A : Option Addr) (ws : List (BitVec 64)) (c : Nat) (_g : ws.length ≤ c) (_m : c ≤ maxLen) (hr : Rd u64v w w.heap.size A ws) (to : Int) (w1 : (Lit.int .i64 to).wf = true) (fr : Int) (w2 : (Lit.int .i64 fr).wf = true) (n : Int) (w3 : (Lit.int .i64 n).wf = true) : Calls Try.prog 6 #[.slice A ws.length c, .int .i64 to, .int .i64 fr, .int .i64 n] w (TruP (.bool true) w) := by
  by_cases hl : 100 < ws.length
  · exact moves_far w A ws.length c hl to fr n
  · have hb1 := wf64 w1
    have hb2 := wf64 w2
    have hb3 := wf64 w3
    cases e1 : inM (ws.length : Int) to n with
    | false => exact moves_out w A ws c hr (by omega) to fr n hb1 hb2 hb3 (.inl e1)
    | true =>
      cases e2 : inM (ws.length : Int) fr n with
      | false => exact moves_out w A ws c hr (by omega) to fr n hb1 hb2 hb3 (.inr ⟨e1, e2⟩)
      | true =>
        unfold inM at e1 e2
        simp only [Bool.and_eq_true, decide_eq_true_eq] at e1 e2
        obtain ⟨t, rfl⟩ : ∃ k : Nat, to = (k : Int) := ⟨to.toNat, by omega⟩
        obtain ⟨f, rfl⟩ : ∃ k : Nat, fr = (k : Int) := ⟨fr.toNat, by omega⟩
        obtain ⟨m, rfl⟩ : ∃ k : Nat, n = (k : Int) := ⟨n.toNat, by omega⟩
        exact moves_in w A ws c hr (by omega) t f m (by omega) (by omega)
end Go.Proofs.Ytobcpcobgdmleaa
namespace Go.Proofs.Ytobcpcobgdmleaa.memMoves
open Go.ChangeShapes Go.WideShapes Go.ChangeAt Go.RowKit
open Go.ChangeMaps (open_string shut_string)
set_option linter.unusedVariables false
set_option maxRecDepth 100000 in
theorem lifted (os : Os) (started : os.Started) (H : Type) (enc : TypeId × Value → H) :
    ReturnsInHanded {} Try.checked os 6 .any (Rows.memMovesSpec.pre6 enc Try.prog Try.f6 Rows.memMovesRow.domain false) (Rows.memMovesSpec.post enc Try.prog Try.f6 false true false false) := by
  refine returnsInHanded_of_change (C := Try.checked) own started (by kernel_rfl) Try.func6
    (ChangeSpec.witness6 (enc := enc) (C := Try.checked) false ⟨#[], #[.slice none 0 0, .int .i64 0, .int .i64 0, .int .i64 0], []⟩ 8 (by kernel_rfl) (by kernel_rfl) (by kernel_rfl) (by kernel_rfl)) ?_
  intro W base args ds gs before hval0 hW hcnd _
  have hval : ∀ (j : Nat) t v, Try.f6.params[j]? = some t → args[j]? = some v → Value.okWide Try.prog W .any base t v := hval0
  have hW' := hW
  obtain ⟨p, q, hA0, hV, rfl, hfz, hnd⟩ := hW
  have hA : DataW.TrodAll enc Try.prog W 0 (fun _ => true) true Try.f6.params.toList args.toList ds p := hA0
  rw [Try.params6] at hA hval
  obtain ⟨v0, vs0, d0, ds0, p0, q0, hargs, rfl, rfl, h0, r0⟩ := trodAll_cons hA
  obtain ⟨v1, vs1, d1, ds1, p1, q1, rfl, rfl, rfl, h1, r1⟩ := trodAll_cons r0
  obtain ⟨v2, vs2, d2, ds2, p2, q2, rfl, rfl, rfl, h2, r2⟩ := trodAll_cons r1
  obtain ⟨v3, vs3, d3, ds3, p3, q3, rfl, rfl, rfl, h3, r3⟩ := trodAll_cons r2
  obtain ⟨rfl, rfl, rfl⟩ := trodAll_nil r3
  obtain rfl : args = #[v0, v1, v2, v3] := by cases args; simp_all
  obtain ⟨rfl, rfl⟩ := trodVars_none hV
  have k0 := h0
  have lt0 : ∀ x ∈ p0, x.block < W.heap.size := by obtain ⟨m, hm⟩ := k0; exact DataW.trod_lt m _ _ _ hm
  obtain ⟨A0, a0, c0, e0v, g0, m0, w0⟩ := open_words Try.underlying22 Try.underlying29 (by kernel_rfl) (hval 0 22 v0 rfl rfl) h0; subst e0v
  have k1 := h1
  have lt1 : ∀ x ∈ p1, x.block < W.heap.size := by obtain ⟨m, hm⟩ := k1; exact DataW.trod_lt m _ _ _ hm
  obtain ⟨a1, e1v, _, _, w1⟩ := open_int Try.underlying3 (hval 1 3 v1 rfl rfl) h1; subst e1v
  have k2 := h2
  have lt2 : ∀ x ∈ p2, x.block < W.heap.size := by obtain ⟨m, hm⟩ := k2; exact DataW.trod_lt m _ _ _ hm
  obtain ⟨a2, e2v, _, _, w2⟩ := open_int Try.underlying3 (hval 2 3 v2 rfl rfl) h2; subst e2v
  have k3 := h3
  have lt3 : ∀ x ∈ p3, x.block < W.heap.size := by obtain ⟨m, hm⟩ := k3; exact DataW.trod_lt m _ _ _ hm
  obtain ⟨a3, e3v, _, _, w3⟩ := open_int Try.underlying3 (hval 3 3 v3 rfl rfl) h3; subst e3v
  clear hA0 hval0
  refine (moves_walk W A0 a0 c0 g0 m0 w0 a1 w1 a2 w2 a3 w3).mono fun e W' ⟨he, bel⟩ => ?_
  subst he
  exact ⟨_, rfl, _, _, _, [], _, [], hW', trodAll_mk1 (shut_bool Try.underlying4 _), (trodAll_cons_mk (Below.trod laidOut (by kernel_rfl) (of_decide_eq_true (by kernel_rfl)) k0 bel lt0) (trodAll_cons_mk (Below.trod laidOut (by kernel_rfl) (of_decide_eq_true (by kernel_rfl)) k1 bel lt1) (trodAll_cons_mk (Below.trod laidOut (by kernel_rfl) (of_decide_eq_true (by kernel_rfl)) k2 bel lt2) (trodAll_cons_mk (Below.trod laidOut (by kernel_rfl) (of_decide_eq_true (by kernel_rfl)) k3 bel lt3) trodAll_mk0)))), rfl, bel.frame _, fun h => by cases h⟩
theorem over : Rows.memMovesRow.holds Try.pinned (OpenSpec.ofChange Rows.memMovesSpec) :=
  OpenClaim.holds_of_wide 6 Try.f6 rfl rfl rfl rfl rfl rfl rfl ⟨rfl, rfl, rfl, rfl, rfl⟩ rfl rfl rfl rfl rfl (by kernel_rfl) Try.func6 (by kernel_rfl)
    (of_decide_eq_true (by kernel_rfl)) (by unfold Func.isWrapper; first | (rw [if_pos (by decide +kernel)]; kernel_rfl) | (rw [if_neg (by decide +kernel)]; exact ⟨rfl, rfl⟩))
    (fun os started H enc _ => lifted os started H enc)
theorem proved : Rows.MemMovesSaid := over
end Go.Proofs.Ytobcpcobgdmleaa.memMoves
