/- The law GeomParts of layer 4 returns true for every argument. No conditions. -/
import Derived.Test.YtgdgajieekkmdaaGeomP
namespace Go.Proofs.Ytgdgajieekkmdaa
set_option linter.unusedVariables false
set_option linter.unusedSimpArgs false
open Go.RowKit
set_option maxHeartbeats 2000000
set_option maxRecDepth 100000
theorem parts_ok (w : World) (s l n a b : Int) (h : OkG s l n) (ha : 0 ≤ a) (ha2 : a < n) (hb : 0 ≤ b) (hb2 : b < n) (x1 x2 y1 y2 z1 : Int) (hx : wordG s l n 0 a = (x1, x2)) (hy : wordG s l n 0 b = (y1, y2)) (hz : wordG s l n 1 a = (z1, x2))
    (g1 : 2 + l ≤ x1) (g2 : x1 < 2 + l + oneG s n) (g3 : 0 ≤ x2) (g4 : x2 + 8 ≤ s) (g5 : z1 = x1 + oneG s n) (r1 r2 r3 : Bool) (f1 : (x1 == y1) = r1) (f2 : (x2 == y2) = r2) (f3 : (a == b) = r3) (hr : (r1 && r2) = r3) :
    Calls Try.prog 7 #[gV s l n, .int .i64 a, .int .i64 b] w (TruP (.bool true) w) := by
  have HC := Lib.hid (fun w => check_c s l n w)
  have HL := Lib.hid (fun w => log_c s l n w h)
  have HX := Lib.hid (fun w => space_c s l n 0 w h)
  have HY := Lib.hid (fun w => space_c s l n 1 w h)
  have HW := Lib.hid (fun w => word_c s l n 0 a w h)
  have HW2 := Lib.hid (fun w => word_c s l n 0 b w h)
  have HW3 := Lib.hid (fun w => word_c s l n 1 a w h)
  have HO := Lib.hid (fun w => owner_c s l n x1 w h)
  have e0 : spcG s l n 0 = (2 + l, oneG s n) := rfl
  have e1 : spcG s l n 1 = (2 + l + oneG s n, oneG s n) := rfl
  have eo : ownS s l n x1 = ⟨#[115, 112, 97, 99, 101]⟩ := by
    have := own_space s l n (x1 - (2 + l)) h (by omega) (by omega)
    rwa [show 2 + l + (x1 - (2 + l)) = x1 from by omega] at this
  rw [chkG_ok h] at HC
  rw [e0] at HX
  rw [e1] at HY
  rw [hx] at HW
  rw [hy] at HW2
  rw [hz] at HW3
  rw [eo] at HO
  obtain ⟨q1, q2⟩ := oneG_bd s n h.s1 h.s2 h.n1 h.n2
  have q3 := h.l1
  have q4 := h.l2
  have q5 := h.s2
  have OG := Lib.hid h
  have t1 : decide (s < 8) = false := by have := h.s1; simp; omega
  have t2 : decide (1048576 < n) = false := by have := h.n2; simp; omega
  have t3 : decide (1048576 < l) = false := by have := h.l2; simp; omega
  have t6 : decide (a < 0) = false := by simp; omega
  have t7 : decide (n ≤ a) = false := by simp; omega
  have t8 : decide (b < 0) = false := by simp; omega
  have t9 : decide (n ≤ b) = false := by simp; omega
  have p1 : decide (2 + l ≤ x1) = true := by simp; omega
  have p2 : decide (x1 < 2 + l + oneG s n) = true := by simp; omega
  have p3 : decide (0 ≤ x2) = true := by simp; omega
  have p4 : decide (x2 + 8 ≤ s) = true := by simp; omega
  have p5 : (z1 - (2 + l + oneG s n) == x1 - (2 + l)) = true := by simp; omega
  have p6 : z1 ≤ 100000 := by omega
  have p7 : 0 ≤ z1 := by omega
  unfold gV at *
  unfold plV at HX HY
  clear h hx hy hz e0 e1 eo g5
  cases r1 <;> cases r2 <;> cases r3 <;> simp only [Bool.and_true, Bool.and_false, Bool.true_and, Bool.false_and, Bool.true_eq_false, Bool.false_eq_true, reduceCtorEq] at hr
  all_goals
    go_enter Try.func7, Try.ntmps7
    go_wp2_with fail
    refine Calls.mono (known4_c _) ?_
    rintro e w1 ⟨rfl, hb⟩
    obtain ⟨hk1, hB1⟩ := boxed hb
    obtain ⟨c1, c2, c3⟩ := hk1.three
    clear hb
    go_wp2_with fail
    refine Calls.mono (HC.out _) ?_
    rintro e w2 ⟨rfl, hb⟩
    have hk2 := hk1.below hb hk1.lt
    obtain ⟨c1, c2, c3⟩ := hk2.three
    have hB2 := hB1.trans (hb.mono hB1.size)
    clear hb hB1 hk1
    go_wp2_with fail
    refine Calls.mono (HL.out _) ?_
    rintro e w3 ⟨rfl, hb⟩
    have hk3 := hk2.below hb hk2.lt
    obtain ⟨c1, c2, c3⟩ := hk3.three
    have hB3 := hB2.trans (hb.mono hB2.size)
    have z3 := hk3.lt
    clear hb hB2 hk2
    go_wp2_with fail
    refine Calls.mono (HX.out _) ?_
    rintro e w4 ⟨rfl, hb⟩
    obtain ⟨hl4, hb'⟩ := boxed hb
    have hk4 := hk3.below hb' hk3.lt
    obtain ⟨c1, c2, c3⟩ := hk4.three
    have hB4 := hB3.trans (hb'.mono hB3.size)
    have z4 := hl4.lt
    have z4' := hk4.lt
    clear hb hb' hB3 hk3
    go_wp2_with fail
    refine Calls.mono (HY.out _) ?_
    rintro e w5 ⟨rfl, hb⟩
    obtain ⟨hx5, hb'⟩ := boxed hb
    have hk5 := hk4.below hb' hk4.lt
    have hl5 := hl4.below hb' hl4.lt
    obtain ⟨c1, c2, c3⟩ := hk5.three
    have hB5 := hB4.trans (hb'.mono hB4.size)
    have hy5 := Bk.new w5 46 #[.int .i64 (2 + l + oneG s n), .int .i64 (oneG s n)]
    have hk6 := hk5.alloc (.cells #[.int .i64 (2 + l + oneG s n), .int .i64 (oneG s n)] 46)
    have hl6 := hl5.alloc (.cells #[.int .i64 (2 + l + oneG s n), .int .i64 (oneG s n)] 46)
    have hx6 := hx5.alloc (.cells #[.int .i64 (2 + l + oneG s n), .int .i64 (oneG s n)] 46)
    have hB6 := hB5.alloc hB5.size (.cells #[.int .i64 (2 + l + oneG s n), .int .i64 (oneG s n)] 46)
    clear hb hb' hB4 hk4 hl4 hx5 hk5 hl5 hB5
    go_wp2_with fail
    refine parts_r _ _ _ w.heap.size w3.heap.size w4.heap.size w5.heap.size s l n hk6 hl6 hx6 hy5 OG.out q1 q2 q3 q4 rfl rfl rfl rfl rfl ?_
    intro vals w7 hG h81
    unfold IsV at h81
    simp only [putD, Act.put, List.setIfInBounds_toArray, List.set_cons_zero, List.set_cons_succ, h81]
    have hB7 := hB6.trans (hG.mono hB6.size)
    have hk7 := hk6.below hG hk6.lt
    have hx7 := hx6.below hG hx6.lt
    have hy7 := hy5.below hG hy5.lt
    obtain ⟨c1, c2, c3⟩ := hk7.three
    clear h81 hG hk6 hl6 hx6 hy5 hB6
    go_wp2_with fail
    refine Calls.mono (HW.out _) ?_
    rintro e w8 ⟨rfl, hb⟩
    have hk8 := hk7.below hb hk7.lt
    have hx8 := hx7.below hb hx7.lt
    have hy8 := hy7.below hb hy7.lt
    obtain ⟨c1, c2, c3⟩ := hk8.three
    have hB8 := hB7.trans (hb.mono hB7.size)
    clear hb hk7 hx7 hy7 hB7
    go_wp2_with fail
    refine Calls.mono (HW2.out _) ?_
    rintro e w9 ⟨rfl, hb⟩
    have hk9 := hk8.below hb hk8.lt
    have hx9 := hx8.below hb hx8.lt
    have hy9 := hy8.below hb hy8.lt
    obtain ⟨c1, c2, c3⟩ := hk9.three
    have hB9 := hB8.trans (hb.mono hB8.size)
    clear hb hk8 hx8 hy8 hB8
    go_wp2_with fail
    refine Calls.mono (HW3.out _) ?_
    rintro e w10 ⟨rfl, hb⟩
    have hk10 := hk9.below hb hk9.lt
    have hx10 := hx9.below hb hx9.lt
    have hy10 := hy9.below hb hy9.lt
    obtain ⟨c1, c2, c3⟩ := hk10.three
    obtain ⟨d1, d2⟩ := hx10.two
    obtain ⟨e1, e2⟩ := hy10.two
    have hB10 := hB9.trans (hb.mono hB9.size)
    clear hb hk9 hx9 hy9 hB9
    go_wp2_with fail
    refine Calls.mono (HO.out _) ?_
    rintro e w11 ⟨rfl, hb⟩
    have hB11 := hB10.trans (hb.mono hB10.size)
    clear hb
    go_wp2_with fail
    go_ret
    exact ⟨rfl, hB11⟩
theorem parts_out (w : World) (s l n a b : Int) (h : OkG s l n) (hq : a < 0 ∨ n ≤ a ∨ b < 0 ∨ n ≤ b) :
    Calls Try.prog 7 #[gV s l n, .int .i64 a, .int .i64 b] w (TruP (.bool true) w) := by
  have HC := Lib.hid (fun w => check_c s l n w)
  have HL := Lib.hid (fun w => log_c s l n w h)
  have HX := Lib.hid (fun w => space_c s l n 0 w h)
  have HY := Lib.hid (fun w => space_c s l n 1 w h)
  have e0 : spcG s l n 0 = (2 + l, oneG s n) := rfl
  have e1 : spcG s l n 1 = (2 + l + oneG s n, oneG s n) := rfl
  rw [chkG_ok h] at HC
  rw [e0] at HX
  rw [e1] at HY
  obtain ⟨q1, q2⟩ := oneG_bd s n h.s1 h.s2 h.n1 h.n2
  have q3 := h.l1
  have q4 := h.l2
  have q5 := h.s2
  have OG := Lib.hid h
  have t1 : decide (s < 8) = false := by have := h.s1; simp; omega
  have t2 : decide (1048576 < n) = false := by have := h.n2; simp; omega
  have t3 : decide (1048576 < l) = false := by have := h.l2; simp; omega
  unfold gV at *
  unfold plV at HX HY
  clear h e0 e1
  · go_enter Try.func7, Try.ntmps7
    go_wp2_with fail
    refine Calls.mono (known4_c _) ?_
    rintro e w1 ⟨rfl, hb⟩
    obtain ⟨hk1, hB1⟩ := boxed hb
    obtain ⟨c1, c2, c3⟩ := hk1.three
    clear hb
    go_wp2_with fail
    refine Calls.mono (HC.out _) ?_
    rintro e w2 ⟨rfl, hb⟩
    have hk2 := hk1.below hb hk1.lt
    obtain ⟨c1, c2, c3⟩ := hk2.three
    have hB2 := hB1.trans (hb.mono hB1.size)
    clear hb hB1 hk1
    go_wp2_with fail
    refine Calls.mono (HL.out _) ?_
    rintro e w3 ⟨rfl, hb⟩
    have hk3 := hk2.below hb hk2.lt
    obtain ⟨c1, c2, c3⟩ := hk3.three
    have hB3 := hB2.trans (hb.mono hB2.size)
    have z3 := hk3.lt
    clear hb hB2 hk2
    go_wp2_with fail
    refine Calls.mono (HX.out _) ?_
    rintro e w4 ⟨rfl, hb⟩
    obtain ⟨hl4, hb'⟩ := boxed hb
    have hk4 := hk3.below hb' hk3.lt
    obtain ⟨c1, c2, c3⟩ := hk4.three
    have hB4 := hB3.trans (hb'.mono hB3.size)
    have z4 := hl4.lt
    have z4' := hk4.lt
    clear hb hb' hB3 hk3
    go_wp2_with fail
    refine Calls.mono (HY.out _) ?_
    rintro e w5 ⟨rfl, hb⟩
    obtain ⟨hx5, hb'⟩ := boxed hb
    have hk5 := hk4.below hb' hk4.lt
    have hl5 := hl4.below hb' hl4.lt
    obtain ⟨c1, c2, c3⟩ := hk5.three
    have hB5 := hB4.trans (hb'.mono hB4.size)
    have hy5 := Bk.new w5 46 #[.int .i64 (2 + l + oneG s n), .int .i64 (oneG s n)]
    have hk6 := hk5.alloc (.cells #[.int .i64 (2 + l + oneG s n), .int .i64 (oneG s n)] 46)
    have hl6 := hl5.alloc (.cells #[.int .i64 (2 + l + oneG s n), .int .i64 (oneG s n)] 46)
    have hx6 := hx5.alloc (.cells #[.int .i64 (2 + l + oneG s n), .int .i64 (oneG s n)] 46)
    have hB6 := hB5.alloc hB5.size (.cells #[.int .i64 (2 + l + oneG s n), .int .i64 (oneG s n)] 46)
    clear hb hb' hB4 hk4 hl4 hx5 hk5 hl5 hB5
    go_wp2_with fail
    refine parts_r _ _ _ w.heap.size w3.heap.size w4.heap.size w5.heap.size s l n hk6 hl6 hx6 hy5 OG.out q1 q2 q3 q4 rfl rfl rfl rfl rfl ?_
    intro vals w7 hG h81
    unfold IsV at h81
    simp only [putD, Act.put, List.setIfInBounds_toArray, List.set_cons_zero, List.set_cons_succ, h81]
    have hB7 := hB6.trans (hG.mono hB6.size)
    have hk7 := hk6.below hG hk6.lt
    have hx7 := hx6.below hG hx6.lt
    have hy7 := hy5.below hG hy5.lt
    obtain ⟨c1, c2, c3⟩ := hk7.three
    clear h81 hG hk6 hl6 hx6 hy5 hB6
    go_wp2_with fail
    all_goals first
      | (exfalso; omega)
      | (go_ret; exact ⟨rfl, hB7⟩)
theorem parts_walk (w : World) (s : Int) (_ws : (Lit.int .i64 s).wf = true) (l : Int) (_wl : (Lit.int .i64 l).wf = true) (n : Int) (_wn : (Lit.int .i64 n).wf = true) (a : Int) (_wa : (Lit.int .i64 a).wf = true) (b : Int) (_wb : (Lit.int .i64 b).wf = true) :
    Calls Try.prog 7 #[.agg #[.int .i64 s, .int .i64 l, .int .i64 n], .int .i64 a, .int .i64 b] w (TruP (.bool true) w) := by
  cases hok : okG s l n
  · have hc : chkG s l n = 1 := by unfold chkG; rw [hok]; rfl
    have HC := Lib.hid (fun w => check_c s l n w)
    rw [hc] at HC
    unfold gV at *
    clear hok hc
    go_enter Try.func7, Try.ntmps7
    go_wp2_with fail
    refine Calls.mono (known4_c _) ?_
    rintro e w1 ⟨rfl, hb⟩
    obtain ⟨hk1, hB1⟩ := boxed hb
    obtain ⟨c1, c2, c3⟩ := hk1.three
    clear hb
    go_wp2_with (go_at_call 25; refine Calls.mono (HC.out _) ?_; rintro e w2 ⟨rfl, hb2⟩; have hB2 := hB1.trans (hb2.mono hB1.size))
    all_goals go_ret
    all_goals first | exact ⟨rfl, hB2⟩ | exact ⟨rfl, hB1⟩
  · have h := okG_out hok
    clear hok
    by_cases hab : (0 ≤ a ∧ a < n) ∧ 0 ≤ b ∧ b < n
    · obtain ⟨⟨h1, h2⟩, h3, h4⟩ := hab
      obtain ⟨u1, u2⟩ := wq s l n a h h1 h2
      obtain ⟨v1, v2⟩ := wq s l n b h h3 h4
      obtain ⟨u3, u4, u5⟩ := wr s l n a h
      have q1 := (oneG_bd s n h.s1 h.s2 h.n1 h.n2).1
      have q8 := h.s8
      have ex : wordG s l n 0 a = (2 + l + a * 8 / s, a * 8 % s) := by unfold wordG; rw [if_pos ⟨.inl rfl, h1, h2⟩]; rfl
      have e0 : wordG s l n 0 b = (2 + l + b * 8 / s, b * 8 % s) := by unfold wordG; rw [if_pos ⟨.inl rfl, h3, h4⟩]; rfl
      have e1 : wordG s l n 1 a = (2 + l + oneG s n + a * 8 / s, a * 8 % s) := by unfold wordG; rw [if_pos ⟨.inr rfl, h1, h2⟩]; rfl
      refine parts_ok w s l n a b h h1 h2 h3 h4 _ _ _ _ _ ex e0 e1 (by omega) (by omega) u3 (by omega) (by omega) _ _ _ rfl rfl rfl ?_
      rw [Bool.eq_iff_iff]
      simp only [Bool.and_eq_true, beq_iff_eq]
      constructor
      · rintro ⟨i1, i2⟩
        exact wi s a b (by omega) i2
      · rintro rfl
        exact ⟨rfl, rfl⟩
    · exact parts_out w s l n a b h (by omega)
end Go.Proofs.Ytgdgajieekkmdaa
namespace Go.Proofs.Ytgdgajieekkmdaa.geomParts
open Go.ChangeShapes Go.WideShapes Go.ChangeAt Go.RowKit
open Go.ChangeMaps (open_string shut_string)
set_option linter.unusedVariables false
set_option maxRecDepth 100000 in
theorem lifted (os : Os) (started : os.Started) (H : Type) (enc : TypeId × Value → H) :
    ReturnsInHanded {} Try.checked os 7 .any (Rows.geomPartsSpec.pre6 enc Try.prog Try.f7 Rows.geomPartsRow.domain false) (Rows.geomPartsSpec.post enc Try.prog Try.f7 false true false false) := by
  refine returnsInHanded_of_change (C := Try.checked) own started (by kernel_rfl) Try.func7
    (ChangeSpec.witness6 (enc := enc) (C := Try.checked) false ⟨#[], #[.agg #[.int .i64 0, .int .i64 0, .int .i64 0], .int .i64 0, .int .i64 0], []⟩ 8 (by kernel_rfl) (by kernel_rfl) (by kernel_rfl) (by kernel_rfl)) ?_
  intro W base args ds gs before hval0 hW hcnd _
  have hval : ∀ (j : Nat) t v, Try.f7.params[j]? = some t → args[j]? = some v → Value.okWide Try.prog W .any base t v := hval0
  have hW' := hW
  obtain ⟨p, q, hA0, hV, rfl, hfz, hnd⟩ := hW
  have hA : DataW.TrodAll enc Try.prog W 0 (fun _ => true) true Try.f7.params.toList args.toList ds p := hA0
  rw [Try.params7] at hA hval
  obtain ⟨v0, vs0, d0, ds0, p0, q0, hargs, rfl, rfl, h0, r0⟩ := trodAll_cons hA
  obtain ⟨v1, vs1, d1, ds1, p1, q1, rfl, rfl, rfl, h1, r1⟩ := trodAll_cons r0
  obtain ⟨v2, vs2, d2, ds2, p2, q2, rfl, rfl, rfl, h2, r2⟩ := trodAll_cons r1
  obtain ⟨rfl, rfl, rfl⟩ := trodAll_nil r2
  obtain rfl : args = #[v0, v1, v2] := by cases args; simp_all
  obtain ⟨rfl, rfl⟩ := trodVars_none hV
  have k0 := h0
  have lt0 : ∀ x ∈ p0, x.block < W.heap.size := by obtain ⟨m, hm⟩ := k0; exact DataW.trod_lt m _ _ _ hm
  obtain ⟨a0x, a0y, a0z, e0v, w0x, w0y, w0z⟩ := open_ints3 .i64 .i64 .i64 Try.underlying36 (by kernel_rfl) (by kernel_rfl) (by kernel_rfl) (by kernel_rfl) (by kernel_rfl) (hval 0 36 v0 rfl rfl) h0; subst e0v
  have k1 := h1
  have lt1 : ∀ x ∈ p1, x.block < W.heap.size := by obtain ⟨m, hm⟩ := k1; exact DataW.trod_lt m _ _ _ hm
  obtain ⟨a1, e1v, _, _, w1⟩ := open_int Try.underlying3 (hval 1 3 v1 rfl rfl) h1; subst e1v
  have k2 := h2
  have lt2 : ∀ x ∈ p2, x.block < W.heap.size := by obtain ⟨m, hm⟩ := k2; exact DataW.trod_lt m _ _ _ hm
  obtain ⟨a2, e2v, _, _, w2⟩ := open_int Try.underlying3 (hval 2 3 v2 rfl rfl) h2; subst e2v
  clear hA0 hval0
  refine (parts_walk W a0x w0x a0y w0y a0z w0z a1 w1 a2 w2).mono fun e W' ⟨he, bel⟩ => ?_
  subst he
  exact ⟨_, rfl, _, _, _, [], _, [], hW', trodAll_mk1 (shut_bool Try.underlying4 _), (trodAll_cons_mk (Below.trod laidOut (by kernel_rfl) (of_decide_eq_true (by kernel_rfl)) k0 bel lt0) (trodAll_cons_mk (Below.trod laidOut (by kernel_rfl) (of_decide_eq_true (by kernel_rfl)) k1 bel lt1) (trodAll_cons_mk (Below.trod laidOut (by kernel_rfl) (of_decide_eq_true (by kernel_rfl)) k2 bel lt2) trodAll_mk0))), rfl, bel.frame _, fun h => by cases h⟩
theorem over : Rows.geomPartsRow.holds Try.pinned (OpenSpec.ofChange Rows.geomPartsSpec) :=
  OpenClaim.holds_of_wide 7 Try.f7 rfl rfl rfl rfl rfl rfl rfl ⟨rfl, rfl, rfl, rfl, rfl⟩ rfl rfl rfl rfl rfl (by kernel_rfl) Try.func7 (by kernel_rfl)
    (of_decide_eq_true (by kernel_rfl)) (by unfold Func.isWrapper; first | (rw [if_pos (by decide +kernel)]; kernel_rfl) | (rw [if_neg (by decide +kernel)]; exact ⟨rfl, rfl⟩))
    (fun os started H enc _ => lifted os started H enc)
theorem proved : Rows.GeomPartsSaid := over
end Go.Proofs.Ytgdgajieekkmdaa.geomParts
