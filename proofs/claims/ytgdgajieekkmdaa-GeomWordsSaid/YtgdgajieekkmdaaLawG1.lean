/- The law GeomWords of layer 4 returns true for every argument. No conditions. -/
import Derived.Test.YtgdgajieekkmdaaKnown4
import Derived.Test.YtgdgajieekkmdaaOpenS
import Derived.Test.YtgdgajieekkmdaaGeomM
namespace Go.Proofs.Ytgdgajieekkmdaa
set_option linter.unusedVariables false
set_option linter.unusedSimpArgs false
open Go.RowKit
set_option maxHeartbeats 1000000
set_option maxRecDepth 100000
theorem words_ok (w : World) (s l n a b : Int) (h : OkG s l n) (ha : 0 ≤ a) (ha2 : a < n) (hb : 0 ≤ b) (hb2 : b < n) (sm : Bool) (k x1 x2 y1 y2 : Int) (hk : (if sm then 0 else 1 : Int) = k) (hx : wordG s l n 0 a = (x1, x2)) (hy : wordG s l n k b = (y1, y2))
    (g1 : x1 < totG s l n) (g2 : y1 < totG s l n) (g3 : x2 % 8 = 0) (g4 : y2 % 8 = 0) (g5 : 0 ≤ x2) (g6 : 0 ≤ y2) (r1 r2 r3 : Bool) (f1 : (x1 == y1) = r1) (f2 : (x2 == y2) = r2) (f3 : (a == b) = r3) (hr : (r1 && r2) = (sm && r3)) :
    Calls Try.prog 9 #[gV s l n, .int .i64 a, .int .i64 b, .bool sm] w (TruP (.bool true) w) := by
  have HC := Lib.hid (fun w => check_c s l n w)
  have HW := Lib.hid (fun w => word_c s l n 0 a w h)
  have HW2 := Lib.hid (fun w => word_c s l n k b w h)
  have HT := Lib.hid (fun w => sectors_c s l n w h)
  rw [chkG_ok h] at HC
  rw [hx] at HW
  rw [hy] at HW2
  have t1 : decide (s < 8) = false := by have := h.s1; simp; omega
  have t2 : decide (16384 < n) = false := by have := h.n2; simp; omega
  have t3 : decide (n < 0) = false := by have := h.n1; simp; omega
  have t4 : decide (2000 < l) = false := by have := h.l2; simp; omega
  have t5 : decide (l < 0) = false := by have := h.l1; simp; omega
  have t6 : decide (a < 0) = false := by simp; omega
  have t7 : decide (n ≤ a) = false := by simp; omega
  have t8 : decide (b < 0) = false := by simp; omega
  have t9 : decide (n ≤ b) = false := by simp; omega
  have t10 : decide (x1 < totG s l n) = true := by simp; omega
  have t11 : decide (y1 < totG s l n) = true := by simp; omega
  have t12 : (x2 % 8 == 0) = true := by simp; omega
  have t13 : (y2 % 8 == 0) = true := by simp; omega
  unfold gV at *
  clear h hx hy g3 g4
  cases sm <;> simp only [Bool.false_eq_true, if_false, if_true] at hk <;> subst hk
  all_goals
    cases r1 <;> cases r2 <;> cases r3 <;> simp only [Bool.and_true, Bool.and_false, Bool.true_and, Bool.false_and, Bool.true_eq_false, Bool.false_eq_true, reduceCtorEq] at hr
  all_goals
    go_enter Try.func9, Try.ntmps9
    go_wp2_with fail
    refine Calls.mono (known4_c _) ?_
    rintro e w1 ⟨rfl, hb⟩
    obtain ⟨hk1, hB1⟩ := boxed hb
    obtain ⟨c1, c2, c3⟩ := hk1.three
    clear hb
    go_wp2_with fail
    refine Calls.mono (HC.out _) ?_
    rintro e w2 ⟨rfl, hb⟩
    have hk2 := hk1.below hb hk1.lt
    obtain ⟨c1, c2, c3⟩ := hk2.three
    have hB2 := hB1.trans (hb.mono hB1.size)
    clear hb hB1 hk1
    go_wp2_with fail
    refine Calls.mono (HW.out _) ?_
    rintro e w3 ⟨rfl, hb⟩
    have hk3 := hk2.below hb hk2.lt
    obtain ⟨c1, c2, c3⟩ := hk3.three
    have hB3 := hB2.trans (hb.mono hB2.size)
    clear hb hB2 hk2
    go_wp2_with fail
    refine Calls.mono (HW2.out _) ?_
    rintro e w4 ⟨rfl, hb⟩
    have hk4 := hk3.below hb hk3.lt
    obtain ⟨c1, c2, c3⟩ := hk4.three
    have hB4 := hB3.trans (hb.mono hB3.size)
    clear hb hB3 hk3
    go_wp2_with fail
    refine Calls.mono (HT.out _) ?_
    rintro e w5 ⟨rfl, hb⟩
    have hk5 := hk4.below hb hk4.lt
    obtain ⟨c1, c2, c3⟩ := hk5.three
    have hB5 := hB4.trans (hb.mono hB4.size)
    clear hb hB4 hk4
    go_wp2_with fail
    refine Calls.mono (HT.out _) ?_
    rintro e w6 ⟨rfl, hb⟩
    have hB6 := hB5.trans (hb.mono hB5.size)
    clear hb hB5 hk5
    go_wp2_with fail
    go_ret
    exact ⟨rfl, hB6⟩
theorem words_walk (w : World) (s : Int) (_ws : (Lit.int .i64 s).wf = true) (l : Int) (_wl : (Lit.int .i64 l).wf = true) (n : Int) (_wn : (Lit.int .i64 n).wf = true) (a : Int) (_wa : (Lit.int .i64 a).wf = true) (b : Int) (_wb : (Lit.int .i64 b).wf = true) (sm : Bool) :
    Calls Try.prog 9 #[.agg #[.int .i64 s, .int .i64 l, .int .i64 n], .int .i64 a, .int .i64 b, .bool sm] w (TruP (.bool true) w) := by
  cases hok : okG s l n
  · have hc : chkG s l n = 1 := by unfold chkG; rw [hok]; rfl
    have HC := Lib.hid (fun w => check_c s l n w)
    rw [hc] at HC
    unfold gV at *
    clear hok hc
    go_enter Try.func9, Try.ntmps9
    go_wp2_with fail
    refine Calls.mono (known4_c _) ?_
    rintro e w1 ⟨rfl, hb⟩
    obtain ⟨hk1, hB1⟩ := boxed hb
    obtain ⟨c1, c2, c3⟩ := hk1.three
    clear hb
    go_wp2_with (go_at_call 25; refine Calls.mono (HC.out _) ?_; rintro e w2 ⟨rfl, hb2⟩; have hB2 := hB1.trans (hb2.mono hB1.size))
    all_goals go_ret
    all_goals first | exact ⟨rfl, hB2⟩ | exact ⟨rfl, hB1⟩
  · have h := okG_out hok
    clear hok
    by_cases hab : (0 ≤ a ∧ a < n) ∧ 0 ≤ b ∧ b < n
    · obtain ⟨⟨h1, h2⟩, h3, h4⟩ := hab
      obtain ⟨u1, u2⟩ := wq s l n a h h1 h2
      obtain ⟨v1, v2⟩ := wq s l n b h h3 h4
      obtain ⟨u3, u4, u5⟩ := wr s l n a h
      obtain ⟨v3, v4, v5⟩ := wr s l n b h
      have q1 := (oneG_bd s n h.s1 h.s2 h.n1 h.n2).1
      have ex : wordG s l n 0 a = (2 + l + a * 8 / s, a * 8 % s) := by unfold wordG; rw [if_pos ⟨.inl rfl, h1, h2⟩]; rfl
      have e0 : wordG s l n 0 b = (2 + l + b * 8 / s, b * 8 % s) := by unfold wordG; rw [if_pos ⟨.inl rfl, h3, h4⟩]; rfl
      have e1 : wordG s l n 1 b = (2 + l + oneG s n + b * 8 / s, b * 8 % s) := by unfold wordG; rw [if_pos ⟨.inr rfl, h3, h4⟩]; rfl
      cases sm
      · refine words_ok w s l n a b h h1 h2 h3 h4 false 1 _ _ _ _ rfl ex e1 (by unfold totG; omega) (by unfold totG; omega) u5 v5 u3 v3 _ _ _ rfl rfl rfl ?_
        have : (2 + l + a * 8 / s == 2 + l + oneG s n + b * 8 / s) = false := by simp; omega
        rw [this]; rfl
      · refine words_ok w s l n a b h h1 h2 h3 h4 true 0 _ _ _ _ rfl ex e0 (by unfold totG; omega) (by unfold totG; omega) u5 v5 u3 v3 _ _ _ rfl rfl rfl ?_
        rw [Bool.true_and, Bool.eq_iff_iff]
        simp only [Bool.and_eq_true, beq_iff_eq]
        constructor
        · rintro ⟨i1, i2⟩
          exact wi s a b (by omega) i2
        · rintro rfl
          exact ⟨rfl, rfl⟩
    · have HC := Lib.hid (fun w => check_c s l n w)
      rw [chkG_ok h] at HC
      have t1 : decide (s < 8) = false := by have := h.s1; simp; omega
      have t2 : decide (16384 < n) = false := by have := h.n2; simp; omega
      have t3 : decide (n < 0) = false := by have := h.n1; simp; omega
      have t4 : decide (2000 < l) = false := by have := h.l2; simp; omega
      have t5 : decide (l < 0) = false := by have := h.l1; simp; omega
      have hq : a < 0 ∨ n ≤ a ∨ b < 0 ∨ n ≤ b := by omega
      unfold gV at *
      clear hab h
      go_enter Try.func9, Try.ntmps9
      go_wp2_with fail
      refine Calls.mono (known4_c _) ?_
      rintro e w1 ⟨rfl, hb⟩
      obtain ⟨hk1, hB1⟩ := boxed hb
      obtain ⟨c1, c2, c3⟩ := hk1.three
      clear hb
      go_wp2_with fail
      refine Calls.mono (HC.out _) ?_
      rintro e w2 ⟨rfl, hb⟩
      have hk2 := hk1.below hb hk1.lt
      obtain ⟨c1, c2, c3⟩ := hk2.three
      have hB2 := hB1.trans (hb.mono hB1.size)
      clear hb hB1 hk1
      go_wp2_with fail
      all_goals first
        | (exfalso; omega)
        | (go_ret; exact ⟨rfl, hB2⟩)
end Go.Proofs.Ytgdgajieekkmdaa
namespace Go.Proofs.Ytgdgajieekkmdaa.geomWords
open Go.ChangeShapes Go.WideShapes Go.ChangeAt Go.RowKit
open Go.ChangeMaps (open_string shut_string)
set_option linter.unusedVariables false
set_option maxRecDepth 100000 in
theorem lifted (os : Os) (started : os.Started) (H : Type) (enc : TypeId × Value → H) :
    ReturnsInHanded {} Try.checked os 9 .any (Rows.geomWordsSpec.pre6 enc Try.prog Try.f9 Rows.geomWordsRow.domain false) (Rows.geomWordsSpec.post enc Try.prog Try.f9 false true false false) := by
  refine returnsInHanded_of_change (C := Try.checked) own started (by kernel_rfl) Try.func9
    (ChangeSpec.witness6 (enc := enc) (C := Try.checked) false ⟨#[], #[.agg #[.int .i64 0, .int .i64 0, .int .i64 0], .int .i64 0, .int .i64 0, .bool false], []⟩ 8 (by kernel_rfl) (by kernel_rfl) (by kernel_rfl) (by kernel_rfl)) ?_
  intro W base args ds gs before hval0 hW hcnd _
  have hval : ∀ (j : Nat) t v, Try.f9.params[j]? = some t → args[j]? = some v → Value.okWide Try.prog W .any base t v := hval0
  have hW' := hW
  obtain ⟨p, q, hA0, hV, rfl, hfz, hnd⟩ := hW
  have hA : DataW.TrodAll enc Try.prog W 0 (fun _ => true) true Try.f9.params.toList args.toList ds p := hA0
  rw [Try.params9] at hA hval
  obtain ⟨v0, vs0, d0, ds0, p0, q0, hargs, rfl, rfl, h0, r0⟩ := trodAll_cons hA
  obtain ⟨v1, vs1, d1, ds1, p1, q1, rfl, rfl, rfl, h1, r1⟩ := trodAll_cons r0
  obtain ⟨v2, vs2, d2, ds2, p2, q2, rfl, rfl, rfl, h2, r2⟩ := trodAll_cons r1
  obtain ⟨v3, vs3, d3, ds3, p3, q3, rfl, rfl, rfl, h3, r3⟩ := trodAll_cons r2
  obtain ⟨rfl, rfl, rfl⟩ := trodAll_nil r3
  obtain rfl : args = #[v0, v1, v2, v3] := by cases args; simp_all
  obtain ⟨rfl, rfl⟩ := trodVars_none hV
  have k0 := h0
  have lt0 : ∀ x ∈ p0, x.block < W.heap.size := by obtain ⟨m, hm⟩ := k0; exact DataW.trod_lt m _ _ _ hm
  obtain ⟨a0x, a0y, a0z, e0v, w0x, w0y, w0z⟩ := open_ints3 .i64 .i64 .i64 Try.underlying36 (by kernel_rfl) (by kernel_rfl) (by kernel_rfl) (by kernel_rfl) (by kernel_rfl) (hval 0 36 v0 rfl rfl) h0; subst e0v
  have k1 := h1
  have lt1 : ∀ x ∈ p1, x.block < W.heap.size := by obtain ⟨m, hm⟩ := k1; exact DataW.trod_lt m _ _ _ hm
  obtain ⟨a1, e1v, _, _, w1⟩ := open_int Try.underlying3 (hval 1 3 v1 rfl rfl) h1; subst e1v
  have k2 := h2
  have lt2 : ∀ x ∈ p2, x.block < W.heap.size := by obtain ⟨m, hm⟩ := k2; exact DataW.trod_lt m _ _ _ hm
  obtain ⟨a2, e2v, _, _, w2⟩ := open_int Try.underlying3 (hval 2 3 v2 rfl rfl) h2; subst e2v
  have k3 := h3
  have lt3 : ∀ x ∈ p3, x.block < W.heap.size := by obtain ⟨m, hm⟩ := k3; exact DataW.trod_lt m _ _ _ hm
  obtain ⟨a3, e3v, _, _⟩ := open_bool Try.underlying4 (hval 3 4 v3 rfl rfl) h3; subst e3v
  clear hA0 hval0
  refine (words_walk W a0x w0x a0y w0y a0z w0z a1 w1 a2 w2 a3).mono fun e W' ⟨he, bel⟩ => ?_
  subst he
  exact ⟨_, rfl, _, _, _, [], _, [], hW', trodAll_mk1 (shut_bool Try.underlying4 _), (trodAll_cons_mk (Below.trod laidOut (by kernel_rfl) (of_decide_eq_true (by kernel_rfl)) k0 bel lt0) (trodAll_cons_mk (Below.trod laidOut (by kernel_rfl) (of_decide_eq_true (by kernel_rfl)) k1 bel lt1) (trodAll_cons_mk (Below.trod laidOut (by kernel_rfl) (of_decide_eq_true (by kernel_rfl)) k2 bel lt2) (trodAll_cons_mk (Below.trod laidOut (by kernel_rfl) (of_decide_eq_true (by kernel_rfl)) k3 bel lt3) trodAll_mk0)))), rfl, bel.frame _, fun h => by cases h⟩
theorem over : Rows.geomWordsRow.holds Try.pinned (OpenSpec.ofChange Rows.geomWordsSpec) :=
  OpenClaim.holds_of_wide 9 Try.f9 rfl rfl rfl rfl rfl rfl rfl ⟨rfl, rfl, rfl, rfl, rfl⟩ rfl rfl rfl rfl rfl (by kernel_rfl) Try.func9 (by kernel_rfl)
    (of_decide_eq_true (by kernel_rfl)) (by unfold Func.isWrapper; first | (rw [if_pos (by decide +kernel)]; kernel_rfl) | (rw [if_neg (by decide +kernel)]; exact ⟨rfl, rfl⟩))
    (fun os started H enc _ => lifted os started H enc)
theorem proved : Rows.GeomWordsSaid := over
end Go.Proofs.Ytgdgajieekkmdaa.geomWords
