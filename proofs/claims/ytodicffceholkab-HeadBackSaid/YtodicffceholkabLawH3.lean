/- The law HeadBack of layer 14 returns true for every argument. No conditions. -/
import Derived.Test.YtodicffceholkabHeadF
import Derived.Deep.RegionHeld3
namespace Go.Proofs.Ytodicffceholkab
open Go.RowKit
attribute [local go_sem] beqU64
theorem held4 {w W1 w2 : World} {g : Nat} {a b c d : Value} (h : W1.cell? ⟨g, 0, none⟩ = some a ∧ W1.cell? ⟨g, 1, none⟩ = some b ∧ W1.cell? ⟨g, 2, none⟩ = some c ∧ W1.cell? ⟨g, 3, none⟩ = some d ∧ g < W1.heap.size ∧ Below w.heap.size w W1) (hb : Below W1.heap.size W1 w2) :
    w2.cell? ⟨g, 0, none⟩ = some a ∧ w2.cell? ⟨g, 1, none⟩ = some b ∧ w2.cell? ⟨g, 2, none⟩ = some c ∧ w2.cell? ⟨g, 3, none⟩ = some d ∧ g < w2.heap.size ∧ Below w.heap.size w w2 := by
  obtain ⟨h0, h1, h2, h3, h4, h5⟩ := h
  exact ⟨(hb.cell (p := ⟨g, 0, none⟩) h4).trans h0, (hb.cell (p := ⟨g, 1, none⟩) h4).trans h1, (hb.cell (p := ⟨g, 2, none⟩) h4).trans h2, (hb.cell (p := ⟨g, 3, none⟩) h4).trans h3, Nat.lt_of_lt_of_le h4 hb.size, h5.trans (hb.mono h5.size)⟩
set_option maxHeartbeats 800000
theorem back_walk (w : World) (p b : Int) (m : Bool) (t : Int) :
    Calls Try.prog 4 #[.agg #[.int .i64 p, .int .i64 b, .bool m, .int .i64 t]] w (RetP (.bool true) w) := by
  go_enter Try.func4, Try.ntmps4
  go_wp2_with fail
  refine (known14_c _).mono ?_
  rintro e w1 ⟨rfl, hb1⟩
  obtain ⟨hk1, hB1⟩ := boxed hb1
  clear hb1
  obtain ⟨c0, c1, c2, c3⟩ := hk1.four
  have hl1 := hk1.lt
  go_wp2_with fail
  refine (pack_c _ _ _ _ _).mono ?_
  rintro e w2 ⟨rfl, hb2⟩
  have hk2 := hk1.below hb2 hk1.lt
  have hB2 := hB1.trans (hb2.mono hB1.size)
  clear c0 c1 c2 c3 hb2 hk1 hB1
  obtain ⟨c0, c1, c2, c3⟩ := hk2.four
  have hl2 := hk2.lt
  go_wp2_with fail
  refine (of_c _ _ _ _ _).mono ?_
  rintro e w3 ⟨rfl, hb3⟩
  have hk3 := hk2.below hb3 hk2.lt
  have hB3 := hB2.trans (hb3.mono hB2.size)
  clear c0 c1 c2 c3 hb3 hk2 hB2
  obtain ⟨c0, c1, c2, c3⟩ := hk3.four
  have hl3 := hk3.lt
  go_wp2_with fail
  refine (rpack_c _ _ _ _ _).mono ?_
  rintro e w4 ⟨rfl, hb4⟩
  have hk4 := hk3.below hb4 hk3.lt
  have hB4 := hB3.trans (hb4.mono hB3.size)
  clear c0 c1 c2 c3 hb4 hk3 hB3
  obtain ⟨c0, c1, c2, c3⟩ := hk4.four
  have hl4 := hk4.lt
  go_wp2_with fail
  have hS : w4.cell? ⟨w.heap.size, 0, none⟩ = some (.int .i64 p) ∧ w4.cell? ⟨w.heap.size, 1, none⟩ = some (.int .i64 b) ∧ w4.cell? ⟨w.heap.size, 2, none⟩ = some (.bool m) ∧ w4.cell? ⟨w.heap.size, 3, none⟩ = some (.int .i64 t) ∧ w.heap.size < w4.heap.size ∧ Below w.heap.size w w4 := ⟨c0, c1, c2, c3, hl4, hB4⟩
  go_region_held3 (fun w' => w'.cell? ⟨w.heap.size, 0, none⟩ = some (.int .i64 p) ∧ w'.cell? ⟨w.heap.size, 1, none⟩ = some (.int .i64 b) ∧ w'.cell? ⟨w.heap.size, 2, none⟩ = some (.bool m) ∧ w'.cell? ⟨w.heap.size, 3, none⟩ = some (.int .i64 t) ∧ w.heap.size < w'.heap.size ∧ Below w.heap.size w w')
    (first
      | exact held4 hS (Below.drew (Below.refl _ _))
      | go_keep
      | (refine held4 ?_ hb5; assumption))
    (first
      | (go_at_call 16; refine (right_c _ _ _ _ _).mono ?_; rintro e w5 ⟨rfl, hb5⟩)
      | (go_at_call 17; refine (rright_c _ _ _ _ _).mono ?_; rintro e w5 ⟨rfl, hb5⟩)
      | (go_at_call 15; refine (of_c _ _ _ _ _).mono ?_; rintro e w5 ⟨rfl, hb5⟩)
      | (go_at_call 18; refine (size_c _ _ _ _ _).mono ?_; rintro e w5 ⟨rfl, hb5⟩)
      | (go_at_call 19; refine (rsize_c _ _ _ _ _).mono ?_; rintro e w5 ⟨rfl, hb5⟩))
  have hH : w5.cell? ⟨w.heap.size, 0, none⟩ = some (.int .i64 p) ∧ w5.cell? ⟨w.heap.size, 1, none⟩ = some (.int .i64 b) ∧ w5.cell? ⟨w.heap.size, 2, none⟩ = some (.bool m) ∧ w5.cell? ⟨w.heap.size, 3, none⟩ = some (.int .i64 t) ∧ w.heap.size < w5.heap.size ∧ Below w.heap.size w w5 := by assumption
  clear hS c0 c1 c2 c3 hl4 hk4 hB4
  obtain ⟨c0, c1, c2, c3, hl5, hB5⟩ := hH
  cases hr : rightH p b m t
  · have he : (errH p b m t != 0) = true := by unfold errH; rw [hr]; rfl
    clear hr
    go_wp2_with fail
    go_ret
    exact ret_b rfl hB5
  · have he : (errH p b m t != 0) = false := by unfold errH; rw [hr]; rfl
    have hv : unV (packH p b m t) = .tuple #[.agg #[.int .i64 p, .int .i64 b, .bool m, .int .i64 t], .int .i64 0] := by
      obtain ⟨e1, e2, e3, e4⟩ := un_pack p b m t hr
      rw [unV_yes (ok_pack p b m t hr), e1, e2, e3, e4]
    have HV := Lib.hid hv
    clear hr hv
    go_wp2_with fail
    refine (retp_as (unpack_c (packH p b m t) _) rfl HV.out).mono ?_
    rintro e w6 ⟨rfl, hb6⟩
    have d0 := (hb6.cell (p := ⟨w.heap.size, 0, none⟩) hl5).trans c0
    have d1 := (hb6.cell (p := ⟨w.heap.size, 1, none⟩) hl5).trans c1
    have d2 := (hb6.cell (p := ⟨w.heap.size, 2, none⟩) hl5).trans c2
    have d3 := (hb6.cell (p := ⟨w.heap.size, 3, none⟩) hl5).trans c3
    have hl6 : w.heap.size < w6.heap.size := Nat.lt_of_lt_of_le hl5 hb6.size
    have hB6 : Below w.heap.size w w6 := hB5.trans (hb6.mono hB5.size)
    clear c0 c1 c2 c3 hb6 hB5
    go_wp2_with fail
    go_ret
    exact ret_b rfl (hB6.alloc hB6.size _)
theorem back_raw {H : Type} {enc : TypeId × Value → H} {base : Nat} (w : World) (v : Value) {d : DataW H} {q : List MemPlace}
    (hv : Value.okWide Try.prog w .any base 35 v) (h : DataW.Trod enc Try.prog w 0 (fun _ => true) true 35 v d q) :
    Calls Try.prog 4 #[v] w (RetP (.bool true) w) := by
  obtain ⟨p, b, m, t, rfl⟩ := open_head hv h
  exact back_walk w p b m t
end Go.Proofs.Ytodicffceholkab
namespace Go.Proofs.Ytodicffceholkab.headBack
open Go.ChangeShapes Go.WideShapes Go.ChangeAt Go.RowKit
open Go.ChangeMaps (open_string shut_string)
set_option linter.unusedVariables false
set_option maxRecDepth 100000 in
theorem lifted (os : Os) (started : os.Started) (H : Type) (enc : TypeId × Value → H) :
    ReturnsInHanded {} Try.checked os 4 .any (Rows.headBackSpec.pre6 enc Try.prog Try.f4 Rows.headBackRow.domain false) (Rows.headBackSpec.post enc Try.prog Try.f4 false true false false) := by
  refine returnsInHanded_of_change (C := Try.checked) own started (by kernel_rfl) Try.func4
    (ChangeSpec.witness6 (enc := enc) (C := Try.checked) false ⟨#[], #[.agg #[.int .i64 0, .int .i64 0, .bool false, .int .i64 0]], []⟩ 8 (by kernel_rfl) (by kernel_rfl) (by kernel_rfl) (by kernel_rfl)) ?_
  intro W base args ds gs before hval0 hW hcnd _
  have hval : ∀ (j : Nat) t v, Try.f4.params[j]? = some t → args[j]? = some v → Value.okWide Try.prog W .any base t v := hval0
  have hW' := hW
  obtain ⟨p, q, hA0, hV, rfl, hfz, hnd⟩ := hW
  have hA : DataW.TrodAll enc Try.prog W 0 (fun _ => true) true Try.f4.params.toList args.toList ds p := hA0
  rw [Try.params4] at hA hval
  obtain ⟨v0, vs0, d0, ds0, p0, q0, hargs, rfl, rfl, h0, r0⟩ := trodAll_cons hA
  obtain ⟨rfl, rfl, rfl⟩ := trodAll_nil r0
  obtain rfl : args = #[v0] := by cases args; simp_all
  obtain ⟨rfl, rfl⟩ := trodVars_none hV
  have k0 := h0
  have lt0 : ∀ x ∈ p0, x.block < W.heap.size := by obtain ⟨m, hm⟩ := k0; exact DataW.trod_lt m _ _ _ hm
  clear hA0 hval0
  refine (back_raw W v0 (hval 0 35 v0 rfl rfl) k0).mono fun e W' ⟨he, bel⟩ => ?_
  subst he
  exact ⟨_, rfl, _, _, _, [], _, [], hW', trodAll_mk1 (shut_bool Try.underlying4 _), (trodAll_cons_mk (Below.trod laidOut (by kernel_rfl) (of_decide_eq_true (by kernel_rfl)) k0 bel lt0) trodAll_mk0), rfl, bel.frame _, fun h => by cases h⟩
theorem over : Rows.headBackRow.holds Try.pinned (OpenSpec.ofChange Rows.headBackSpec) :=
  OpenClaim.holds_of_wide 4 Try.f4 rfl rfl rfl rfl rfl rfl rfl ⟨rfl, rfl, rfl, rfl, rfl⟩ rfl rfl rfl rfl rfl (by kernel_rfl) Try.func4 (by kernel_rfl)
    (of_decide_eq_true (by kernel_rfl)) (by unfold Func.isWrapper; first | (rw [if_pos (by decide +kernel)]; kernel_rfl) | (rw [if_neg (by decide +kernel)]; exact ⟨rfl, rfl⟩))
    (fun os started H enc _ => lifted os started H enc)
theorem proved : Rows.HeadBackSaid := over
end Go.Proofs.Ytodicffceholkab.headBack
