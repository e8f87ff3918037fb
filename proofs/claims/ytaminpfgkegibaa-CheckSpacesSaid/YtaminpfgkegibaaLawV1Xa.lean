/- The law CheckSpaces of layer 26 returns true for every argument. -/
import Derived.Test.YtaminpfgkegibaaXa5
namespace Go.Proofs.Ytaminpfgkegibaa
set_option linter.unusedVariables false
set_option linter.unusedSimpArgs false
open Go.RowKit Go.Maps
set_option maxHeartbeats 4000000
set_option maxRecDepth 100000
theorem ptrF_le (ws : List (BitVec 64)) (p : List Nat) (a : Nat) : ∀ n k, (ptrF ws p a n k).length ≤ n
  | 0, k => Nat.le_refl _
  | n + 1, k => by
    have h := ptrF_le ws p a n (k + 1)
    unfold ptrF
    split
    · omega
    · rw [List.length_cons]; omega
theorem padF_le (ws : List (BitVec 64)) (a : Nat) : (padF ws a).length ≤ 1 := by
  unfold padF
  split
  · exact Nat.zero_le _
  · exact Nat.le_refl _
theorem allE_le (ws : List (BitVec 64)) (t : Nat) (p : List Nat) : ∀ (n a : Nat) (l : List Nat), objF ws t n a = some l → (allE ws p l).length ≤ t - a
  | 0, a, l, h => by
    have h : some [] = some l := h
    injection h with h
    subst h
    exact Nat.zero_le _
  | n + 1, a, l, h => by
    have e : objF ws t (n + 1) a = if a < t then (if goodX (ws.getD a 0#64) (t - a) = true then (objF ws t n (a + szX (ws.getD a 0#64))).map (a :: ·) else none) else some [] := rfl
    rw [e] at h
    by_cases h1 : a < t
    · rw [if_pos h1] at h
      by_cases h2 : goodX (ws.getD a 0#64) (t - a) = true
      · rw [if_pos h2] at h
        cases hr : objF ws t n (a + szX (ws.getD a 0#64)) with
        | none => rw [hr] at h; cases h
        | some r =>
          rw [hr] at h
          injection h with h
          subst h
          have h3 := allE_le ws t p n _ r hr
          obtain ⟨_, _, _, hs, _, hm⟩ := head_of h2
          have h4 := ptrF_le ws p a (P0 (ws.getD a 0#64)) 0
          have h5 := padF_le ws a
          show (objE ws p a ++ allE ws p r).length ≤ _
          unfold objE
          rw [List.length_append, List.length_append]
          omega
      · rw [if_neg h2] at h; cases h
    · rw [if_neg h1] at h
      injection h with h
      subst h
      exact Nat.zero_le _
theorem spaces_walk (w : World) (A : Option Addr) (ws : List (BitVec 64)) (c : Nat) (_g : ws.length ≤ c) (_m : c ≤ maxLen) (hr : Rd u64v w w.heap.size A ws) (b : Int) (_w1 : (Lit.int .i64 b).wf = true) (t : Int) (_w2 : (Lit.int .i64 t).wf = true) :
    Calls Try.prog 4 #[.slice A ws.length c, .int .i64 b, .int .i64 t] w (RetP (.bool true) w) := by
  have HK := Lib.hid (known26_c w)
  have HR := Lib.hid hr
  by_cases hl : 300 < ws.length
  · obtain ⟨N, hN⟩ : ∃ N, N = ws.length := ⟨_, rfl⟩
    rw [← hN] at hl ⊢
    have t1 : (300 : Int) < (N : Int) := by omega
    clear hN hr _g
    go_enter Try.func4, Try.ntmps4
    go_wp2_with fail
    refine Calls.mono HK.out ?_
    rintro r w1 ⟨rfl, b1⟩
    have HB1 := Lib.hid b1
    clear b1
    go_wp2_with fail
    go_ret
    exact ⟨rfl, HB1.out⟩
  · have HTo := Lib.hid (fun W hr => to_c W A ws c hr (by omega) b t (ws.length : Int))
    have HL := Lib.hid hl
    obtain ⟨N, hN⟩ : ∃ N, N = ws.length := ⟨_, rfl⟩
    have HN := Lib.hid hN
    rw [← hN] at hl HTo ⊢
    have t1 : ¬ (300 : Int) < (N : Int) := by omega
    clear hN hr _g hl
    go_enter Try.func4, Try.ntmps4
    go_wp2_with fail
    refine Calls.mono HK.out ?_
    rintro r w1 ⟨rfl, b1⟩
    have HB1 := Lib.hid b1
    clear b1
    go_wp2_with fail
    refine Calls.mono (HTo.out w1 ((HR.out.below HB1.out).more HB1.out.size)) ?_
    rintro r w2 (⟨rfl, b2⟩ | ⟨B, T, E, s, g, v, l, rfl, rfl, hE, hBT, hTE, hEl, hob, rfl, hsp, b2⟩)
    · have HB2 := Lib.hid (HB1.out.trans (b2.mono HB1.out.size))
      clear b2
      go_wp2_with fail
      go_ret
      exact ⟨rfl, HB2.out⟩
    · obtain rfl : E = N := by omega
      have hb2 := HB1.out.trans (b2.mono HB1.out.size)
      have HRef := Lib.hid (show RefAt (w2.alloc (.cells #[.slice A E c, .int .i64 B, .int .i64 T, .int .i64 E] 41)) w2.heap.size A c ws B T E from
        ⟨by rw [← HN.out]; exact Bk.new w2 _ _, ((HR.out.below hb2).more hb2.size).below (Gw.alloc w2 _) |>.more (Gw.alloc w2 _).size⟩)
      have HSp := Lib.hid (hsp.below (Gw.alloc w2 (.cells #[.slice A E c, .int .i64 B, .int .i64 T, .int .i64 E] 41)))
      have HB2 := Lib.hid (hb2.alloc hb2.size (.cells #[.slice A E c, .int .i64 B, .int .i64 T, .int .i64 E] 41))
      have hTw : T ≤ ws.length := by omega
      have hwl : ws.length ≤ 300 := by have := HL.out; omega
      have hal := allE_le ws T l (T + 1) B l hob
      have HQ := Lib.hid (And.intro hBT (And.intro hTw (And.intro hwl (And.intro hob hal))))
      obtain ⟨y, hy⟩ : ∃ y, y = wellE ws B T := ⟨_, rfl⟩
      have hyc : ((allE ws l l).length = 0 ∧ y = 0) ∨ (¬ (allE ws l l).length = 0 ∧ y = 2) := by
        rw [hy, well_some hob]
        by_cases h : l.all (wellN ws l) = true
        · exact .inl ⟨by rw [(allE_nil ws l l).2 h]; rfl, if_pos h⟩
        · exact .inr ⟨fun e => h ((allE_nil ws l l).1 (List.eq_nil_of_length_eq_zero e)), if_neg h⟩
      have HY := Lib.hid hyc
      have HRe := Lib.hid (fun W (p : RefAt W w2.heap.size A c ws B T E) => hy ▸ rwell_c W w2.heap.size A c ws B T E p HQ.out.1 HQ.out.2.1 (by have := HQ.out.2.2.1; omega))
      have HCk := Lib.hid (fun W (p : SpAt W w1.heap.size s g v ws B T E) => ckspace_c W p (by have := HQ.out.2.2.1; omega) (l, none) (found_obj ws T (T + 1) B l HQ.out.2.2.2.1) (fun x h => by cases h) (show ([] ++ allE ws l l).length ≤ 5000 by have := HQ.out.2.2.2.2; have := HQ.out.2.1; have := HQ.out.2.2.1; rw [List.nil_append]; omega))
      have HRs := Lib.hid (fun W (h : Rd u64v W W.heap.size A ws) => rspace_c W A c ws B T l h HQ.out.1 HQ.out.2.1 (by have := HQ.out.2.2.1; omega) HQ.out.2.2.2.1 (by have := HQ.out.2.2.2.2; have := HQ.out.2.1; have := HQ.out.2.2.1; omega))
      rw [← HN.out] at HRs
      clear b2 hsp hob hEl hTE hBT hE hy hb2 hTw hwl hal hyc
      go_wp2_with fail
      refine Calls.mono (HCk.out _ HSp.out) ?_
      rintro r w3 ⟨lv, rfl, h3, b3⟩
      replace h3 : FR w3 _ lv (allE ws l l) := h3
      have HRef3 := Lib.hid (And.intro (HRef.out.below b3) (HB2.out.trans (b3.mono HB2.out.size)))
      obtain ⟨A3, c3, e0, _⟩ := h3.slice_
      obtain ⟨G, hG⟩ : ∃ G, G = allE ws l l := ⟨_, rfl⟩
      have HGl := Lib.hid (show G.length ≤ 100000 by rw [hG]; have := HQ.out.2.2.2.2; have := HQ.out.2.1; have := HQ.out.2.2.1; omega)
      rw [← hG] at h3 e0 HY HRs
      obtain ⟨M, hM⟩ : ∃ N, N = G.length := ⟨_, rfl⟩
      rw [← hM] at e0 HY
      subst e0
      have H3 := Lib.hid h3
      clear b3 h3 hG hM HCk HSp HRef
      go_wp2_with fail
      refine Calls.mono (HRs.out w3 ((HR.out.below HRef3.out.2).more HRef3.out.2.size)) ?_
      rintro r w4 ⟨lv2, rfl, h4, b4⟩
      have HRef4 := Lib.hid (And.intro (HRef3.out.1.below b4) (HRef3.out.2.trans (b4.mono HRef3.out.2.size)))
      have HSm := Lib.hid (same_c w4 _ _ _ lv2 G (H3.out.below b4) h4 HGl.out)
      clear b4 h4 HRs
      go_wp2_with fail
      refine Calls.mono HSm.out ?_
      rintro r w5 ⟨rfl, b5⟩
      have HRef5 := Lib.hid (And.intro (HRef4.out.1.below b5) (HRef4.out.2.trans (b5.mono HRef4.out.2.size)))
      clear b5 HSm
      rcases HY.out with ⟨y1, y2⟩ | ⟨y1, y2⟩
      · subst y1 y2
        go_wp2_with fail
        refine Calls.mono (HRe.out _ HRef5.out.1) ?_
        rintro r w6 ⟨rfl, b6⟩
        have HB6 := Lib.hid (HRef5.out.2.trans (b6.mono HRef5.out.2.size))
        clear b6
        go_wp2_with fail
        go_ret
        exact ⟨rfl, HB6.out⟩
      · subst y2
        have e1 : ((M : Int) == 0) = false := by simpa using y1
        go_wp2_with fail
        refine Calls.mono (HRe.out _ HRef5.out.1) ?_
        rintro r w6 ⟨rfl, b6⟩
        have HB6 := Lib.hid (HRef5.out.2.trans (b6.mono HRef5.out.2.size))
        clear b6
        go_wp2_with fail
        go_ret
        exact ⟨rfl, HB6.out⟩
end Go.Proofs.Ytaminpfgkegibaa
namespace Go.Proofs.Ytaminpfgkegibaa.checkSpaces
open Go.ChangeShapes Go.WideShapes Go.ChangeAt Go.RowKit
open Go.ChangeMaps (open_string shut_string)
set_option linter.unusedVariables false
set_option maxRecDepth 100000 in
theorem lifted (os : Os) (started : os.Started) (H : Type) (enc : TypeId × Value → H) :
    ReturnsInHanded {} Try.checked os 4 .any (Rows.checkSpacesSpec.pre6 enc Try.prog Try.f4 Rows.checkSpacesRow.domain false) (Rows.checkSpacesSpec.post enc Try.prog Try.f4 false true false false) := by
  refine returnsInHanded_of_change (C := Try.checked) own started (by kernel_rfl) Try.func4
    (ChangeSpec.witness6 (enc := enc) (C := Try.checked) false ⟨#[], #[.slice none 0 0, .int .i64 0, .int .i64 0], []⟩ 8 (by kernel_rfl) (by kernel_rfl) (by kernel_rfl) (by kernel_rfl)) ?_
  intro W base args ds gs before hval0 hW hcnd _
  have hval : ∀ (j : Nat) t v, Try.f4.params[j]? = some t → args[j]? = some v → Value.okWide Try.prog W .any base t v := hval0
  have hW' := hW
  obtain ⟨p, q, hA0, hV, rfl, hfz, hnd⟩ := hW
  have hA : DataW.TrodAll enc Try.prog W 0 (fun _ => true) true Try.f4.params.toList args.toList ds p := hA0
  rw [Try.params4] at hA hval
  obtain ⟨v0, vs0, d0, ds0, p0, q0, hargs, rfl, rfl, h0, r0⟩ := trodAll_cons hA
  obtain ⟨v1, vs1, d1, ds1, p1, q1, rfl, rfl, rfl, h1, r1⟩ := trodAll_cons r0
  obtain ⟨v2, vs2, d2, ds2, p2, q2, rfl, rfl, rfl, h2, r2⟩ := trodAll_cons r1
  obtain ⟨rfl, rfl, rfl⟩ := trodAll_nil r2
  obtain rfl : args = #[v0, v1, v2] := by cases args; simp_all
  obtain ⟨rfl, rfl⟩ := trodVars_none hV
  have k0 := h0
  have lt0 : ∀ x ∈ p0, x.block < W.heap.size := by obtain ⟨m, hm⟩ := k0; exact DataW.trod_lt m _ _ _ hm
  obtain ⟨A0, a0, c0, e0v, g0, m0, w0⟩ := open_words Try.underlying22 Try.underlying57 (by kernel_rfl) (hval 0 22 v0 rfl rfl) h0; subst e0v
  have k1 := h1
  have lt1 : ∀ x ∈ p1, x.block < W.heap.size := by obtain ⟨m, hm⟩ := k1; exact DataW.trod_lt m _ _ _ hm
  obtain ⟨a1, e1v, _, _, w1⟩ := open_int Try.underlying3 (hval 1 3 v1 rfl rfl) h1; subst e1v
  have k2 := h2
  have lt2 : ∀ x ∈ p2, x.block < W.heap.size := by obtain ⟨m, hm⟩ := k2; exact DataW.trod_lt m _ _ _ hm
  obtain ⟨a2, e2v, _, _, w2⟩ := open_int Try.underlying3 (hval 2 3 v2 rfl rfl) h2; subst e2v
  clear hA0 hval0
  refine (spaces_walk W A0 a0 c0 g0 m0 w0 a1 w1 a2 w2).mono fun e W' ⟨he, bel⟩ => ?_
  subst he
  exact ⟨_, rfl, _, _, _, [], _, [], hW', trodAll_mk1 (shut_bool Try.underlying4 _), (trodAll_cons_mk (Below.trod laidOut (by kernel_rfl) (of_decide_eq_true (by kernel_rfl)) k0 bel lt0) (trodAll_cons_mk (Below.trod laidOut (by kernel_rfl) (of_decide_eq_true (by kernel_rfl)) k1 bel lt1) (trodAll_cons_mk (Below.trod laidOut (by kernel_rfl) (of_decide_eq_true (by kernel_rfl)) k2 bel lt2) trodAll_mk0))), rfl, bel.frame _, fun h => by cases h⟩
theorem over : Rows.checkSpacesRow.holds Try.pinned (OpenSpec.ofChange Rows.checkSpacesSpec) :=
  OpenClaim.holds_of_wide 4 Try.f4 rfl rfl rfl rfl rfl rfl rfl ⟨rfl, rfl, rfl, rfl, rfl⟩ rfl rfl rfl rfl rfl (by kernel_rfl) Try.func4 (by kernel_rfl)
    (of_decide_eq_true (by kernel_rfl)) (by unfold Func.isWrapper; first | (rw [if_pos (by decide +kernel)]; kernel_rfl) | (rw [if_neg (by decide +kernel)]; exact ⟨rfl, rfl⟩))
    (fun os started H enc _ => lifted os started H enc)
theorem proved : Rows.CheckSpacesSaid := over
end Go.Proofs.Ytaminpfgkegibaa.checkSpaces
