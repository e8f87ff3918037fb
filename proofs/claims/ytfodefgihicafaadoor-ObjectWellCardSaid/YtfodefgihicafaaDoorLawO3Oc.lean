/- The law ObjectWell of layer 16 returns true for every argument. Conditions: the listed tables. -/
import Derived.Test.YtfodefgihicafaaDoorOc4
import Derived.Test.YtfodefgihicafaaDoorObF
namespace Go.Proofs.YtfodefgihicafaaDoor
set_option linter.unusedVariables false
set_option linter.unusedSimpArgs false
open Go.RowKit Go.Maps
set_option maxHeartbeats 4000000
set_option maxRecDepth 100000
theorem wellE_or (ws : List (BitVec 64)) (b t : Nat) : wellE ws b t = 0 ∨ wellE ws b t = 2 := by
  unfold wellE
  split
  · exact .inr rfl
  · split
    · exact .inl rfl
    · exact .inr rfl
theorem owell_walk (w : World) (ht : w.cell? ⟨2, 15, none⟩ = some (.int .u8 4)) (A : Option Addr) (ws : List (BitVec 64)) (c : Nat) (_g : ws.length ≤ c) (_m : c ≤ maxLen) (hr : Rd u64v w w.heap.size A ws) (b : Int) (_w1 : (Lit.int .i64 b).wf = true) (t : Int) (_w2 : (Lit.int .i64 t).wf = true) :
    Calls Tryd.prog 4 #[.slice A ws.length c, .int .i64 b, .int .i64 t] w (RetP (.bool true) w) := by
  have HK := Lib.hid (known16_c w ht)
  have HR := Lib.hid hr
  by_cases hl : 300 < ws.length
  · obtain ⟨N, hN⟩ : ∃ N, N = ws.length := ⟨_, rfl⟩
    rw [← hN] at hl ⊢
    have t1 : (300 : Int) < (N : Int) := by omega
    clear hN ht hr _g
    go_enter Tryd.func4, Tryd.ntmps4
    go_wp2_with fail
    refine Calls.mono HK.out ?_
    rintro r w1 ⟨rfl, b1⟩
    have HB1 := Lib.hid b1
    clear b1
    go_wp2_with fail
    go_ret
    exact ⟨rfl, HB1.out⟩
  · have HTo := Lib.hid (fun W hr => to_c W A ws c hr (by omega) b t (ws.length : Int))
    have HL := Lib.hid hl
    obtain ⟨N, hN⟩ : ∃ N, N = ws.length := ⟨_, rfl⟩
    have HN := Lib.hid hN
    rw [← hN] at hl HTo ⊢
    have t1 : ¬ (300 : Int) < (N : Int) := by omega
    clear hN ht hr _g hl
    go_enter Tryd.func4, Tryd.ntmps4
    go_wp2_with fail
    refine Calls.mono HK.out ?_
    rintro r w1 ⟨rfl, b1⟩
    have HB1 := Lib.hid b1
    clear b1
    go_wp2_with fail
    refine Calls.mono (HTo.out w1 ((HR.out.below HB1.out).more HB1.out.size)) ?_
    rintro r w2 (⟨rfl, b2⟩ | ⟨B, T, E, s, g, v, l, rfl, rfl, hE, hBT, hTE, hEl, hob, rfl, hsp, b2⟩)
    · have HB2 := Lib.hid (HB1.out.trans (b2.mono HB1.out.size))
      clear b2
      go_wp2_with fail
      go_ret
      exact ⟨rfl, HB2.out⟩
    · obtain rfl : E = N := by omega
      have hb2 := HB1.out.trans (b2.mono HB1.out.size)
      have HRef := Lib.hid (show RefAt (w2.alloc (.cells #[.slice A E c, .int .i64 B, .int .i64 T, .int .i64 E] 29)) w2.heap.size A c ws B T E from
        ⟨by rw [← HN.out]; exact Bk.new w2 _ _, ((HR.out.below hb2).more hb2.size).below (Gw.alloc w2 _) |>.more (Gw.alloc w2 _).size⟩)
      have HSp := Lib.hid (hsp.below (Gw.alloc w2 (.cells #[.slice A E c, .int .i64 B, .int .i64 T, .int .i64 E] 29)))
      have HB2 := Lib.hid (hb2.alloc hb2.size (.cells #[.slice A E c, .int .i64 B, .int .i64 T, .int .i64 E] 29))
      have HQ := Lib.hid (And.intro hBT (show T ≤ ws.length from by omega))
      obtain ⟨y, hy⟩ : ∃ y, y = wellE ws B T := ⟨_, rfl⟩
      have HWe := Lib.hid (fun W (p : SpAt W w1.heap.size s g v ws B T E) => hy ▸ well_c W w1.heap.size s g v ws B T E p (by have := HL.out; omega))
      have HRe := Lib.hid (fun W (p : RefAt W w2.heap.size A c ws B T E) => hy ▸ rwell_c W w2.heap.size A c ws B T E p HQ.out.1 HQ.out.2 (by have := HL.out; omega))
      clear b2 hsp hob hEl hTE hBT hE hy hb2
      go_wp2_with fail
      refine Calls.mono (HWe.out _ HSp.out) ?_
      rintro r w3 ⟨rfl, b3⟩
      have HRef2 := Lib.hid (And.intro (HRef.out.below b3) (HB2.out.trans (b3.mono HB2.out.size)))
      clear b3
      go_wp2_with fail
      refine Calls.mono (HRe.out _ HRef2.out.1) ?_
      rintro r w4 ⟨rfl, b4⟩
      have HB4 := Lib.hid (HRef2.out.2.trans (b4.mono HRef2.out.2.size))
      clear b4
      go_wp2_with fail
      go_ret
      exact ⟨rfl, HB4.out⟩
end Go.Proofs.YtfodefgihicafaaDoor
namespace Go.Proofs.YtfodefgihicafaaDoor.objectWell
open Go.ChangeShapes Go.WideShapes Go.ChangeAt Go.RowKit
open Go.ChangeMaps (open_string shut_string)
set_option linter.unusedVariables false
set_option maxRecDepth 100000 in
theorem lifted (os : Os) (started : os.Started) (H : Type) (enc : TypeId × Value → H) :
    ReturnsInHanded {} Tryd.checked os 4 .any (fun w args => (Rows.objectWellSpec.pre enc Tryd.prog Tryd.f4 [] false w args ∧ laidMetH Tryd.prog laid16 w) ∧ sizedMet enc Tryd.prog Tryd.f4 (OpenSpec.ofChange Rows.objectWellSpec) false w args) (Rows.objectWellSpec.post enc Tryd.prog Tryd.f4 false true false false) := by
  refine returnsInHanded_of_change_and (C := Tryd.checked) (X := fun w _ => laidMetH Tryd.prog laid16 w) (fun _ _ _ hh h => h.of_heap hh) own started (by kernel_rfl) Tryd.func4
    (ChangeSpec.witness_shaped (enc := enc) (C := Tryd.checked) (os := os) (X := fun w _ => laidMetH Tryd.prog laid16 w) false (World.doorLaid Tryd.prog 24 os) #[.slice none 0 0, .int .i64 0, .int .i64 0] 8 rfl (World.shaped_of_RefB (by kernel_rfl) (by kernel_rfl)) (by kernel_rfl) (by kernel_rfl) (by kernel_rfl) (door_met os _)) ?_
  intro W base args ds gs before hval0 hW _ _ hL _
  have hLd := of_laid hL
  have hval : ∀ (j : Nat) t v, Tryd.f4.params[j]? = some t → args[j]? = some v → Value.okWide Tryd.prog W .any base t v := hval0
  have hW' := hW
  obtain ⟨p, q, hA0, hV, rfl, hfz, hnd⟩ := hW
  have hA : DataW.TrodAll enc Tryd.prog W 0 (fun _ => true) true Tryd.f4.params.toList args.toList ds p := hA0
  rw [Tryd.params4] at hA hval
  obtain ⟨v0, vs0, d0, ds0, p0, q0, hargs, rfl, rfl, h0, r0⟩ := trodAll_cons hA
  obtain ⟨v1, vs1, d1, ds1, p1, q1, rfl, rfl, rfl, h1, r1⟩ := trodAll_cons r0
  obtain ⟨v2, vs2, d2, ds2, p2, q2, rfl, rfl, rfl, h2, r2⟩ := trodAll_cons r1
  obtain ⟨rfl, rfl, rfl⟩ := trodAll_nil r2
  obtain rfl : args = #[v0, v1, v2] := by cases args; simp_all
  obtain ⟨rfl, rfl⟩ := trodVars_none hV
  have k0 := h0
  have lt0 : ∀ x ∈ p0, x.block < W.heap.size := by obtain ⟨m, hm⟩ := k0; exact DataW.trod_lt m _ _ _ hm
  obtain ⟨A0, a0, c0, e0v, g0, m0, w0⟩ := open_words Tryd.underlying22 Tryd.underlying68 (by kernel_rfl) (hval 0 22 v0 rfl rfl) h0; subst e0v
  have k1 := h1
  have lt1 : ∀ x ∈ p1, x.block < W.heap.size := by obtain ⟨m, hm⟩ := k1; exact DataW.trod_lt m _ _ _ hm
  obtain ⟨a1, e1v, _, _, w1⟩ := open_int Tryd.underlying3 (hval 1 3 v1 rfl rfl) h1; subst e1v
  have k2 := h2
  have lt2 : ∀ x ∈ p2, x.block < W.heap.size := by obtain ⟨m, hm⟩ := k2; exact DataW.trod_lt m _ _ _ hm
  obtain ⟨a2, e2v, _, _, w2⟩ := open_int Tryd.underlying3 (hval 2 3 v2 rfl rfl) h2; subst e2v
  clear hA0 hval0
  refine (owell_walk W hLd A0 a0 c0 g0 m0 w0 a1 w1 a2 w2).mono fun e W' ⟨he, bel⟩ => ?_
  subst he
  exact ⟨_, rfl, _, _, _, [], _, [], hW', trodAll_mk1 (shut_bool Tryd.underlying4 _), (trodAll_cons_mk (Below.trod laidOut (by kernel_rfl) (of_decide_eq_true (by kernel_rfl)) k0 bel lt0) (trodAll_cons_mk (Below.trod laidOut (by kernel_rfl) (of_decide_eq_true (by kernel_rfl)) k1 bel lt1) (trodAll_cons_mk (Below.trod laidOut (by kernel_rfl) (of_decide_eq_true (by kernel_rfl)) k2 bel lt2) trodAll_mk0))), rfl, bel.frame _, fun h => by cases h⟩
theorem over : Rows.objectWellRow.holds Tryd.pinned (OpenSpec.ofChange Rows.objectWellSpec) :=
  OpenClaim.holds_of_wide 4 Tryd.f4 rfl rfl rfl rfl rfl rfl rfl ⟨rfl, rfl, rfl, rfl, rfl⟩ rfl rfl rfl rfl rfl (by kernel_rfl) Tryd.func4 (by kernel_rfl)
    (of_decide_eq_true (by kernel_rfl)) (by unfold Func.isWrapper; first | (rw [if_pos (by decide +kernel)]; kernel_rfl) | (rw [if_neg (by decide +kernel)]; exact ⟨rfl, rfl⟩))
    (fun os started H enc _ => lifted os started H enc)
theorem proved : Rows.ObjectWellCardSaid :=
  Claim7.holds_tied_plain_at .later [] [.data, .data, .data] true (true, "c9447320ff57cce1bb3f3cabae1e8816a2dfa12256a7c525c45f8a6aebb30cda") false over (fun _ h => by cases h) (by kernel_rfl) (fun _ h => by cases h) objectWell_row_tie rfl ⟨rfl, rfl⟩ (by kernel_rfl) rfl
    (fun f fn hf hfn => by
      obtain rfl : f = 4 := Option.some.inj ((show Tryd.prog.funcNamed Rows.objectWellRow.func = some 4 by kernel_rfl).symm.trans hf) |>.symm
      obtain rfl : fn = Tryd.f4 := (Option.some.inj (Tryd.func4.symm.trans hfn)).symm
      exact ⟨by kernel_rfl, fun j t ht => by
        rw [Tryd.params4] at ht
        have hm : t ∈ [22, 3, 3] := by simpa using Array.mem_of_getElem? ht
        have hall : ([22, 3, 3].all fun u => !Tryd.prog.wantsStandIn u) = true := by kernel_rfl
        exact (show Tryd.prog.wantsStandIn t = false by simpa using List.all_eq_true.1 hall t hm)⟩)
    (by kernel_rfl)
end Go.Proofs.YtfodefgihicafaaDoor.objectWell
