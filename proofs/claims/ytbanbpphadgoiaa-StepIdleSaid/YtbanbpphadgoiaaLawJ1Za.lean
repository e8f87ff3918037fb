/- The law StepIdle of layer 22 returns true for every argument. No conditions. -/
import Derived.Test.YtbanbpphadgoiaaZa6
namespace Go.Proofs.Ytbanbpphadgoiaa
set_option linter.unusedVariables false
set_option linter.unusedSimpArgs false
open Go.RowKit Go.Maps
set_option maxHeartbeats 4000000
set_option maxRecDepth 100000
theorem idle_walk (w : World) (A : Option Addr) (ws : List (BitVec 64)) (c : Nat) (_g : ws.length ≤ c) (_m : c ≤ maxLen) (hr : Rd u64v w w.heap.size A ws) (b : Int) (_w1 : (Lit.int .i64 b).wf = true) (t : Int) (_w2 : (Lit.int .i64 t).wf = true) (A2 : Option Addr) (roots : List Int) (c2 : Nat) (_g2 : roots.length ≤ c2) (_m2 : c2 ≤ maxLen) (hr2 : Rd inV w w.heap.size A2 roots ∧ ∀ x ∈ roots, (Lit.int .i64 x).wf = true) (n : Int) (_w3 : (Lit.int .i64 n).wf = true) :
    Calls Try.prog 7 #[.slice A ws.length c, .int .i64 b, .int .i64 t, .slice A2 roots.length c2, .int .i64 n] w (RetP (.bool true) w) := by
  have HK := Lib.hid (known22_c w)
  have HR := Lib.hid hr
  have HR2 := Lib.hid (show Rd zV w w.heap.size A2 roots ∧ ∀ x ∈ roots, kW x from hr2)
  obtain ⟨N, hN⟩ : ∃ N, N = ws.length := ⟨_, rfl⟩
  obtain ⟨M, hM⟩ : ∃ N, N = roots.length := ⟨_, rfl⟩
  have hNm : (N : Int) ≤ 9223372036854775807 := by have h1 := _g; have h2 := _m; simp [maxLen] at h2; omega
  have hMm : (M : Int) ≤ 9223372036854775807 := by have h1 := _g2; have h2 := _m2; simp [maxLen] at h2; omega
  clear _g _m hr _w1 _w2 _g2 _m2 hr2 _w3
  by_cases hl : 250 < N ∨ 30 < M ∨ 0 < n
  · rw [← hN, ← hM]
    clear hN hM
    have t1 : ¬ ((N : Int) ≤ 250 ∧ (M : Int) ≤ 30 ∧ n ≤ 0) := by omega
    go_enter Try.func7, Try.ntmps7
    go_wp2_with fail
    refine Calls.mono HK.out ?_
    rintro r w1 ⟨rfl, b1⟩
    have HB1 := Lib.hid b1
    clear b1
    by_cases q1 : (250 : Int) < (N : Int)
    · go_wp2_with fail
      go_ret
      exact ⟨rfl, HB1.out⟩
    · by_cases q2 : (30 : Int) < (M : Int)
      · go_wp2_with fail
        go_ret
        exact ⟨rfl, HB1.out⟩
      · have q3 : (0 : Int) < n := by omega
        go_wp2_with fail
        go_ret
        exact ⟨rfl, HB1.out⟩
  have q1 : ¬ (250 : Int) < (N : Int) := by omega
  have q2 : ¬ (30 : Int) < (M : Int) := by omega
  have q3 : ¬ (0 : Int) < n := by omega
  have HTo := Lib.hid (fun W hr => to_c W A ws c hr (by omega) b t (ws.length : Int))
  have HNw := Lib.hid (fun W B s g v b t e (p : SpAt W B s g v ws b t e) l ho (hr : Rd zV W W.heap.size A2 roots) => lnew_c W B s g v ws b t e p (by omega) l ho A2 roots c2 hr (by omega) HR2.out.2)
  have HN := Lib.hid (And.intro hN hM)
  rw [← hN] at HTo ⊢
  rw [← hM] at HNw ⊢
  clear hN hM hl hNm hMm
  go_enter Try.func7, Try.ntmps7
  go_wp2_with fail
  refine Calls.mono HK.out ?_
  rintro r w1 ⟨rfl, b1⟩
  have HB1 := Lib.hid b1
  clear b1
  go_wp2_with fail
  refine Calls.mono (HTo.out w1 ((HR.out.below HB1.out).more HB1.out.size)) ?_
  rintro r w2 (⟨rfl, b2⟩ | ⟨B, T, E, s, g, v, l, rfl, rfl, hE, hBT, hTE, hEl, hob, rfl, hsp, b2⟩)
  · have HB2 := Lib.hid (HB1.out.trans (b2.mono HB1.out.size))
    clear b2
    go_wp2_with fail
    go_ret
    exact ⟨rfl, HB2.out⟩
  · have HB2 := Lib.hid (HB1.out.trans (b2.mono HB1.out.size))
    have HNw2 := Lib.hid (HNw.out w2 w1.heap.size s g v B T E hsp l hob ((HR2.out.1.below HB2.out).more HB2.out.size))
    clear b2 hsp hE hBT hTE hEl hob HNw HTo HK HB1
    go_wp2_with fail
    refine Calls.mono HNw2.out ?_
    rintro r w3 (⟨er, hne, _, rfl, b3⟩ | ⟨L, _, S, Q, f, xw, rfl, pc, b3⟩)
    · have HB3 := Lib.hid (HB2.out.trans (b3.mono HB2.out.size))
      clear b3
      go_wp2_with fail
      go_ret
      exact ⟨rfl, HB3.out⟩
    · have HB3 := Lib.hid (HB2.out.trans (b3.mono HB2.out.size))
      have HB2s := Lib.hid HB2.out.size
      have HL := Lib.hid L
      obtain ⟨B3, hB3⟩ : ∃ B3, B3 = w2.heap.size := ⟨_, rfl⟩
      rw [← hB3] at pc HB2s
      have HPc := Lib.hid pc
      have hd0 : ((M : Int) = 0 ∧ doneS (roots.map rootP) (NewS ws 300) = true) ∨ (¬ (M : Int) = 0 ∧ doneS (roots.map rootP) (NewS ws 300) = false) := by
        have e : doneS (roots.map rootP) (NewS ws 300) = decide ((M : Int) = 0) := by
          unfold doneS
          rw [List.length_map, ← HN.out.2]
          exact decide_eq_decide.2 ⟨fun h => by have : 0 = M := h.1; omega, fun h => ⟨show 0 = M by omega, rfl⟩⟩
        rw [e]
        by_cases h : (M : Int) = 0
        · exact .inl ⟨h, decide_eq_true h⟩
        · exact .inr ⟨h, decide_eq_false h⟩
      have HD0 := Lib.hid hd0
      clear b3 pc hB3 L hd0 HNw2
      go_wp2_with fail
      refine Calls.mono (lstep_c w3 HL.out HPc.out n (by omega)) ?_
      rintro r w4 ⟨s4, c4, S4, x4, rfl, p4, k4, n4, _, _, _, z4⟩
      obtain ⟨rfl, rfl⟩ := z4 (by omega)
      have hb4 : Below w.heap.size w w4 := HB3.out.trans (k4.below HB3.out.size (fun k hk => Nat.le_trans HB2s.out (HPc.out.co.own k hk).1))
      have H4 := Lib.hid (And.intro p4 hb4)
      have HSc4 := Lib.hid (fun W (hb : Below w4.heap.size w4 W) => show Calls Try.prog 20 #[.pointer (some ⟨Q, 0, none⟩)] W (RetP (.int .i64 0) W) from scscan_c W (p4.co.below hb))
      have HFr4 := Lib.hid (fun W (hb : Below w4.heap.size w4 W) => show Calls Try.prog 21 #[.pointer (some ⟨Q, 0, none⟩)] W (RetP (.int .i64 0) W) from scfree_c W (p4.co.below hb))
      clear p4 k4 n4 z4 hb4
      rcases HD0.out with ⟨hm0, hd0⟩ | ⟨hm0, hd0⟩
      · rw [hd0]
        clear HD0 hd0
        go_wp2_with fail
        refine Calls.mono (HSc4.out w4 (Below.refl _ _)) ?_
        rintro r w5 ⟨rfl, b5⟩
        have H5 := Lib.hid b5
        clear b5
        go_wp2_with fail
        refine Calls.mono (HFr4.out w5 H5.out) ?_
        rintro r w6 ⟨rfl, b6⟩
        have H6 := Lib.hid (H5.out.trans (b6.mono H5.out.size))
        have HS6 := Lib.hid (show ∃ (s' : Sc) (c' : Nat) (S' : Nat → Prop) (xw' : Value), ColL ws l B T roots w6 B3 S' Q f xw' s' c' ∧ Below w.heap.size w w6 ∧ (doneS (roots.map rootP) s' = true ∨ 9 * 0 ≤ c') from ⟨_, _, _, _, H4.out.1.below H6.out, H4.out.2.trans (H6.out.mono H4.out.2.size), .inr (by omega)⟩)
        clear b6
        go_wp2_with fail
        clear hm0
        go_loopw [16] (fun x W => ∃ i : Nat, x = .int .i64 i ∧ i ≤ 400 ∧ Hid (∃ (s' : Sc) (c' : Nat) (S' : Nat → Prop) (xw' : Value), ColL ws l B T roots W B3 S' Q f xw' s' c' ∧ Below w.heap.size w W ∧ (doneS (roots.map rootP) s' = true ∨ 9 * i ≤ c'))) (fun x _ => 400 - (Go.RowKit.intOf x).toNat)
        case atStart => exact ⟨0, rfl, by decide, HS6⟩
        case round =>
          obtain ⟨i, rfl, hi, hS⟩ := hrel
          clear HS6 H6 H5 HSc4 HFr4 H4
          obtain ⟨s', c', S', x', p', hb, hc⟩ := hS.out
          have HE := Lib.hid (And.intro p' (And.intro hb hc))
          have HDn := Lib.hid (ldone_c wr HL.out p')
          have hms := p'.ms
          clear p' hb hS
          by_cases hlt : (i : Int) < 400
          · cases hd : doneS (roots.map rootP) s' with
            | true =>
              rw [hd] at HDn
              have HDd := Lib.hid hd
              clear hd hc hms
              go_wp2_with fail
              refine Calls.mono HDn.out ?_
              rintro r w7 ⟨rfl, b7⟩
              have H7 := Lib.hid b7
              clear b7
              obtain ⟨w8, hw8⟩ : ∃ w8, w8 = w7 := ⟨_, rfl⟩
              rw [← hw8] at H7 ⊢
              clear hw8
              have HF8 := Lib.hid (fun W (hb : Below w8.heap.size w8 W) => scfree_c W ((HE.out.1.below H7.out).co.below hb))
              obtain ⟨tp, htp⟩ : ∃ tp, tp = s'.c.top := ⟨_, rfl⟩
              rw [← htp] at HF8
              have HTp := Lib.hid htp
              clear htp
              go_wp2_with fail
              refine Calls.mono (HF8.out w8 (Below.refl _ _)) ?_
              rintro r w9 ⟨rfl, b9⟩
              have H9 := Lib.hid b9
              clear b9
              go_wp2_with fail
              refine Calls.mono (lstep_c w9 HL.out ((HE.out.1.below H7.out).below H9.out) 5 (by decide)) ?_
              rintro r w10 ⟨s10, c10, S10, x10, rfl, p10, k10, n10, _, _, z10, _⟩
              obtain ⟨rfl, rfl⟩ := z10 HDd.out
              rw [HDd.out]
              have hb8 : Below w.heap.size w w8 := HE.out.2.1.trans (H7.out.mono HE.out.2.1.size)
              have hb9 : Below w.heap.size w w9 := hb8.trans (H9.out.mono hb8.size)
              have hb10 : Below w.heap.size w w10 := hb9.trans (k10.below hb9.size (fun k hk => Nat.le_trans HB2s.out (HE.out.1.co.own k hk).1))
              have HB10 := Lib.hid hb10
              have HP10 := Lib.hid p10
              have HFr := Lib.hid (fun W (hb : Below w10.heap.size w10 W) => scfree_c W (p10.co.below hb))
              have HSc := Lib.hid (fun W (hb : Below w10.heap.size w10 W) => scscan_c W (p10.co.below hb))
              have HDo := Lib.hid (fun W (hb : Below w10.heap.size w10 W) => ldone_c W HL.out (p10.below hb))
              rw [HDd.out] at HDo
              have hsc : s10.sc = tp := by rw [HTp.out]; have h := HDd.out; exact (of_decide_eq_true h : s10.qs.length = _ ∧ s10.sc = s10.c.top).2
              rw [hsc] at HSc
              rw [← HTp.out] at HFr
              clear p10 k10 n10 z10 hb8 hb9 hb10 hsc
              go_wp2_with fail
              refine Calls.mono (HFr.out w10 (Below.refl _ _)) ?_
              rintro r w11 ⟨rfl, b11⟩
              have H11 := Lib.hid b11
              clear b11
              go_wp2_with fail
              refine Calls.mono (HSc.out w11 H11.out) ?_
              rintro r w12 ⟨rfl, b12⟩
              have H12 := Lib.hid (H11.out.trans (b12.mono H11.out.size))
              clear b12
              go_wp2_with fail
              refine Calls.mono (HDo.out w12 H12.out) ?_
              rintro r w13 ⟨rfl, b13⟩
              have H13 := Lib.hid (H12.out.trans (b13.mono H12.out.size))
              clear b13
              go_wp2_with fail
              go_ret
              exact ⟨rfl, HB10.out.trans (H13.out.mono HB10.out.size)⟩
            | false =>
              rw [hd] at HDn
              have hc9 : 9 * i ≤ c' := by
                rcases hc with h | h
                · rw [hd] at h; cases h
                · exact h
              have HC9 := Lib.hid hc9
              clear hd hc hms hc9
              go_wp2_with fail
              refine Calls.mono HDn.out ?_
              rintro r w7 ⟨rfl, b7⟩
              have H7 := Lib.hid b7
              clear b7
              go_wp2_with fail
              refine Calls.mono (lstep_c w7 HL.out (HE.out.1.below H7.out) 9 (by decide)) ?_
              rintro r w8 ⟨s8, c8, S8, x8, rfl, p8, k8, n8, l8, e8, _, _⟩
              have hb7 : Below w.heap.size w w7 := HE.out.2.1.trans (H7.out.mono HE.out.2.1.size)
              have H8 := Lib.hid (show ∃ (s' : Sc) (c' : Nat) (S' : Nat → Prop) (xw' : Value), ColL ws l B T roots w8 B3 S' Q f xw' s' c' ∧ Below w.heap.size w w8 ∧ (doneS (roots.map rootP) s' = true ∨ 9 * (i + 1) ≤ c') from
                ⟨_, _, _, _, p8, hb7.trans (k8.below hb7.size (fun k hk => Nat.le_trans HB2s.out (HE.out.1.co.own k hk).1)), e8.imp id (fun h => by have := HC9.out; have h : c8 = c' + 9 := h; omega)⟩)
              obtain ⟨bo, hbo⟩ : ∃ bo, bo = doneS (roots.map rootP) s8 := ⟨_, rfl⟩
              rw [← hbo]
              clear p8 k8 n8 l8 e8 hb7 hbo
              go_wp2_with fail
              go_roundw
              case rel => first | exact ⟨i + 1, by go_num, by omega, H8⟩ | ((repeat apply Exists.intro); refine ⟨?_, rfl⟩; exact ⟨i + 1, by go_num, by omega, H8⟩)
              case measure => simp [Go.RowKit.intOf]; omega
          · have hd : doneS (roots.map rootP) s' = true := by
              rcases hc with h | h
              · exact h
              · omega
            have HDd := Lib.hid hd
            clear hc hms hd
            obtain ⟨w8, hw8⟩ : ∃ w8, w8 = wr := ⟨_, rfl⟩
            have H7 := Lib.hid (show Below wr.heap.size wr w8 from by rw [hw8]; exact Below.refl _ _)
            rw [← hw8]
            clear hw8
            have HF8 := Lib.hid (fun W (hb : Below w8.heap.size w8 W) => scfree_c W ((HE.out.1.below H7.out).co.below hb))
            obtain ⟨tp, htp⟩ : ∃ tp, tp = s'.c.top := ⟨_, rfl⟩
            rw [← htp] at HF8
            have HTp := Lib.hid htp
            clear htp
            go_wp2_with fail
            refine Calls.mono (HF8.out w8 (Below.refl _ _)) ?_
            rintro r w9 ⟨rfl, b9⟩
            have H9 := Lib.hid b9
            clear b9
            go_wp2_with fail
            refine Calls.mono (lstep_c w9 HL.out ((HE.out.1.below H7.out).below H9.out) 5 (by decide)) ?_
            rintro r w10 ⟨s10, c10, S10, x10, rfl, p10, k10, n10, _, _, z10, _⟩
            obtain ⟨rfl, rfl⟩ := z10 HDd.out
            rw [HDd.out]
            have hb8 : Below w.heap.size w w8 := HE.out.2.1.trans (H7.out.mono HE.out.2.1.size)
            have hb9 : Below w.heap.size w w9 := hb8.trans (H9.out.mono hb8.size)
            have hb10 : Below w.heap.size w w10 := hb9.trans (k10.below hb9.size (fun k hk => Nat.le_trans HB2s.out (HE.out.1.co.own k hk).1))
            have HB10 := Lib.hid hb10
            have HP10 := Lib.hid p10
            have HFr := Lib.hid (fun W (hb : Below w10.heap.size w10 W) => scfree_c W (p10.co.below hb))
            have HSc := Lib.hid (fun W (hb : Below w10.heap.size w10 W) => scscan_c W (p10.co.below hb))
            have HDo := Lib.hid (fun W (hb : Below w10.heap.size w10 W) => ldone_c W HL.out (p10.below hb))
            rw [HDd.out] at HDo
            have hsc : s10.sc = tp := by rw [HTp.out]; have h := HDd.out; exact (of_decide_eq_true h : s10.qs.length = _ ∧ s10.sc = s10.c.top).2
            rw [hsc] at HSc
            rw [← HTp.out] at HFr
            clear p10 k10 n10 z10 hb8 hb9 hb10 hsc
            go_wp2_with fail
            refine Calls.mono (HFr.out w10 (Below.refl _ _)) ?_
            rintro r w11 ⟨rfl, b11⟩
            have H11 := Lib.hid b11
            clear b11
            go_wp2_with fail
            refine Calls.mono (HSc.out w11 H11.out) ?_
            rintro r w12 ⟨rfl, b12⟩
            have H12 := Lib.hid (H11.out.trans (b12.mono H11.out.size))
            clear b12
            go_wp2_with fail
            refine Calls.mono (HDo.out w12 H12.out) ?_
            rintro r w13 ⟨rfl, b13⟩
            have H13 := Lib.hid (H12.out.trans (b13.mono H12.out.size))
            clear b13
            go_wp2_with fail
            go_ret
            exact ⟨rfl, HB10.out.trans (H13.out.mono HB10.out.size)⟩
      · rw [hd0]
        have hm1 : ((M : Int) == 0) = false := beq_eq_false_iff_ne.2 hm0
        clear HD0 hd0
        go_wp2_with fail
        refine Calls.mono (HSc4.out w4 (Below.refl _ _)) ?_
        rintro r w5 ⟨rfl, b5⟩
        have H5 := Lib.hid b5
        clear b5
        go_wp2_with fail
        refine Calls.mono (HFr4.out w5 H5.out) ?_
        rintro r w6 ⟨rfl, b6⟩
        have H6 := Lib.hid (H5.out.trans (b6.mono H5.out.size))
        have HS6 := Lib.hid (show ∃ (s' : Sc) (c' : Nat) (S' : Nat → Prop) (xw' : Value), ColL ws l B T roots w6 B3 S' Q f xw' s' c' ∧ Below w.heap.size w w6 ∧ (doneS (roots.map rootP) s' = true ∨ 9 * 0 ≤ c') from ⟨_, _, _, _, H4.out.1.below H6.out, H4.out.2.trans (H6.out.mono H4.out.2.size), .inr (by omega)⟩)
        clear b6
        go_wp2_with fail
        clear hm0 hm1
        go_loopw [16] (fun x W => ∃ i : Nat, x = .int .i64 i ∧ i ≤ 400 ∧ Hid (∃ (s' : Sc) (c' : Nat) (S' : Nat → Prop) (xw' : Value), ColL ws l B T roots W B3 S' Q f xw' s' c' ∧ Below w.heap.size w W ∧ (doneS (roots.map rootP) s' = true ∨ 9 * i ≤ c'))) (fun x _ => 400 - (Go.RowKit.intOf x).toNat)
        case atStart => exact ⟨0, rfl, by decide, HS6⟩
        case round =>
          obtain ⟨i, rfl, hi, hS⟩ := hrel
          clear HS6 H6 H5 HSc4 HFr4 H4
          obtain ⟨s', c', S', x', p', hb, hc⟩ := hS.out
          have HE := Lib.hid (And.intro p' (And.intro hb hc))
          have HDn := Lib.hid (ldone_c wr HL.out p')
          have hms := p'.ms
          clear p' hb hS
          by_cases hlt : (i : Int) < 400
          · cases hd : doneS (roots.map rootP) s' with
            | true =>
              rw [hd] at HDn
              have HDd := Lib.hid hd
              clear hd hc hms
              go_wp2_with fail
              refine Calls.mono HDn.out ?_
              rintro r w7 ⟨rfl, b7⟩
              have H7 := Lib.hid b7
              clear b7
              obtain ⟨w8, hw8⟩ : ∃ w8, w8 = w7 := ⟨_, rfl⟩
              rw [← hw8] at H7 ⊢
              clear hw8
              have HF8 := Lib.hid (fun W (hb : Below w8.heap.size w8 W) => scfree_c W ((HE.out.1.below H7.out).co.below hb))
              obtain ⟨tp, htp⟩ : ∃ tp, tp = s'.c.top := ⟨_, rfl⟩
              rw [← htp] at HF8
              have HTp := Lib.hid htp
              clear htp
              go_wp2_with fail
              refine Calls.mono (HF8.out w8 (Below.refl _ _)) ?_
              rintro r w9 ⟨rfl, b9⟩
              have H9 := Lib.hid b9
              clear b9
              go_wp2_with fail
              refine Calls.mono (lstep_c w9 HL.out ((HE.out.1.below H7.out).below H9.out) 5 (by decide)) ?_
              rintro r w10 ⟨s10, c10, S10, x10, rfl, p10, k10, n10, _, _, z10, _⟩
              obtain ⟨rfl, rfl⟩ := z10 HDd.out
              rw [HDd.out]
              have hb8 : Below w.heap.size w w8 := HE.out.2.1.trans (H7.out.mono HE.out.2.1.size)
              have hb9 : Below w.heap.size w w9 := hb8.trans (H9.out.mono hb8.size)
              have hb10 : Below w.heap.size w w10 := hb9.trans (k10.below hb9.size (fun k hk => Nat.le_trans HB2s.out (HE.out.1.co.own k hk).1))
              have HB10 := Lib.hid hb10
              have HP10 := Lib.hid p10
              have HFr := Lib.hid (fun W (hb : Below w10.heap.size w10 W) => scfree_c W (p10.co.below hb))
              have HSc := Lib.hid (fun W (hb : Below w10.heap.size w10 W) => scscan_c W (p10.co.below hb))
              have HDo := Lib.hid (fun W (hb : Below w10.heap.size w10 W) => ldone_c W HL.out (p10.below hb))
              rw [HDd.out] at HDo
              have hsc : s10.sc = tp := by rw [HTp.out]; have h := HDd.out; exact (of_decide_eq_true h : s10.qs.length = _ ∧ s10.sc = s10.c.top).2
              rw [hsc] at HSc
              rw [← HTp.out] at HFr
              clear p10 k10 n10 z10 hb8 hb9 hb10 hsc
              go_wp2_with fail
              refine Calls.mono (HFr.out w10 (Below.refl _ _)) ?_
              rintro r w11 ⟨rfl, b11⟩
              have H11 := Lib.hid b11
              clear b11
              go_wp2_with fail
              refine Calls.mono (HSc.out w11 H11.out) ?_
              rintro r w12 ⟨rfl, b12⟩
              have H12 := Lib.hid (H11.out.trans (b12.mono H11.out.size))
              clear b12
              go_wp2_with fail
              refine Calls.mono (HDo.out w12 H12.out) ?_
              rintro r w13 ⟨rfl, b13⟩
              have H13 := Lib.hid (H12.out.trans (b13.mono H12.out.size))
              clear b13
              go_wp2_with fail
              go_ret
              exact ⟨rfl, HB10.out.trans (H13.out.mono HB10.out.size)⟩
            | false =>
              rw [hd] at HDn
              have hc9 : 9 * i ≤ c' := by
                rcases hc with h | h
                · rw [hd] at h; cases h
                · exact h
              have HC9 := Lib.hid hc9
              clear hd hc hms hc9
              go_wp2_with fail
              refine Calls.mono HDn.out ?_
              rintro r w7 ⟨rfl, b7⟩
              have H7 := Lib.hid b7
              clear b7
              go_wp2_with fail
              refine Calls.mono (lstep_c w7 HL.out (HE.out.1.below H7.out) 9 (by decide)) ?_
              rintro r w8 ⟨s8, c8, S8, x8, rfl, p8, k8, n8, l8, e8, _, _⟩
              have hb7 : Below w.heap.size w w7 := HE.out.2.1.trans (H7.out.mono HE.out.2.1.size)
              have H8 := Lib.hid (show ∃ (s' : Sc) (c' : Nat) (S' : Nat → Prop) (xw' : Value), ColL ws l B T roots w8 B3 S' Q f xw' s' c' ∧ Below w.heap.size w w8 ∧ (doneS (roots.map rootP) s' = true ∨ 9 * (i + 1) ≤ c') from
                ⟨_, _, _, _, p8, hb7.trans (k8.below hb7.size (fun k hk => Nat.le_trans HB2s.out (HE.out.1.co.own k hk).1)), e8.imp id (fun h => by have := HC9.out; have h : c8 = c' + 9 := h; omega)⟩)
              obtain ⟨bo, hbo⟩ : ∃ bo, bo = doneS (roots.map rootP) s8 := ⟨_, rfl⟩
              rw [← hbo]
              clear p8 k8 n8 l8 e8 hb7 hbo
              go_wp2_with fail
              go_roundw
              case rel => first | exact ⟨i + 1, by go_num, by omega, H8⟩ | ((repeat apply Exists.intro); refine ⟨?_, rfl⟩; exact ⟨i + 1, by go_num, by omega, H8⟩)
              case measure => simp [Go.RowKit.intOf]; omega
          · have hd : doneS (roots.map rootP) s' = true := by
              rcases hc with h | h
              · exact h
              · omega
            have HDd := Lib.hid hd
            clear hc hms hd
            obtain ⟨w8, hw8⟩ : ∃ w8, w8 = wr := ⟨_, rfl⟩
            have H7 := Lib.hid (show Below wr.heap.size wr w8 from by rw [hw8]; exact Below.refl _ _)
            rw [← hw8]
            clear hw8
            have HF8 := Lib.hid (fun W (hb : Below w8.heap.size w8 W) => scfree_c W ((HE.out.1.below H7.out).co.below hb))
            obtain ⟨tp, htp⟩ : ∃ tp, tp = s'.c.top := ⟨_, rfl⟩
            rw [← htp] at HF8
            have HTp := Lib.hid htp
            clear htp
            go_wp2_with fail
            refine Calls.mono (HF8.out w8 (Below.refl _ _)) ?_
            rintro r w9 ⟨rfl, b9⟩
            have H9 := Lib.hid b9
            clear b9
            go_wp2_with fail
            refine Calls.mono (lstep_c w9 HL.out ((HE.out.1.below H7.out).below H9.out) 5 (by decide)) ?_
            rintro r w10 ⟨s10, c10, S10, x10, rfl, p10, k10, n10, _, _, z10, _⟩
            obtain ⟨rfl, rfl⟩ := z10 HDd.out
            rw [HDd.out]
            have hb8 : Below w.heap.size w w8 := HE.out.2.1.trans (H7.out.mono HE.out.2.1.size)
            have hb9 : Below w.heap.size w w9 := hb8.trans (H9.out.mono hb8.size)
            have hb10 : Below w.heap.size w w10 := hb9.trans (k10.below hb9.size (fun k hk => Nat.le_trans HB2s.out (HE.out.1.co.own k hk).1))
            have HB10 := Lib.hid hb10
            have HP10 := Lib.hid p10
            have HFr := Lib.hid (fun W (hb : Below w10.heap.size w10 W) => scfree_c W (p10.co.below hb))
            have HSc := Lib.hid (fun W (hb : Below w10.heap.size w10 W) => scscan_c W (p10.co.below hb))
            have HDo := Lib.hid (fun W (hb : Below w10.heap.size w10 W) => ldone_c W HL.out (p10.below hb))
            rw [HDd.out] at HDo
            have hsc : s10.sc = tp := by rw [HTp.out]; have h := HDd.out; exact (of_decide_eq_true h : s10.qs.length = _ ∧ s10.sc = s10.c.top).2
            rw [hsc] at HSc
            rw [← HTp.out] at HFr
            clear p10 k10 n10 z10 hb8 hb9 hb10 hsc
            go_wp2_with fail
            refine Calls.mono (HFr.out w10 (Below.refl _ _)) ?_
            rintro r w11 ⟨rfl, b11⟩
            have H11 := Lib.hid b11
            clear b11
            go_wp2_with fail
            refine Calls.mono (HSc.out w11 H11.out) ?_
            rintro r w12 ⟨rfl, b12⟩
            have H12 := Lib.hid (H11.out.trans (b12.mono H11.out.size))
            clear b12
            go_wp2_with fail
            refine Calls.mono (HDo.out w12 H12.out) ?_
            rintro r w13 ⟨rfl, b13⟩
            have H13 := Lib.hid (H12.out.trans (b13.mono H12.out.size))
            clear b13
            go_wp2_with fail
            go_ret
            exact ⟨rfl, HB10.out.trans (H13.out.mono HB10.out.size)⟩
end Go.Proofs.Ytbanbpphadgoiaa
namespace Go.Proofs.Ytbanbpphadgoiaa.stepIdle
open Go.ChangeShapes Go.WideShapes Go.ChangeAt Go.RowKit
open Go.ChangeMaps (open_string shut_string)
set_option linter.unusedVariables false
set_option maxRecDepth 100000 in
theorem lifted (os : Os) (started : os.Started) (H : Type) (enc : TypeId × Value → H) :
    ReturnsInHanded {} Try.checked os 7 .any (Rows.stepIdleSpec.pre6 enc Try.prog Try.f7 Rows.stepIdleRow.domain false) (Rows.stepIdleSpec.post enc Try.prog Try.f7 false true false false) := by
  refine returnsInHanded_of_change (C := Try.checked) own started (by kernel_rfl) Try.func7
    (ChangeSpec.witness6 (enc := enc) (C := Try.checked) false ⟨#[], #[.slice none 0 0, .int .i64 0, .int .i64 0, .slice none 0 0, .int .i64 0], []⟩ 8 (by kernel_rfl) (by kernel_rfl) (by kernel_rfl) (by kernel_rfl)) ?_
  intro W base args ds gs before hval0 hW hcnd _
  have hval : ∀ (j : Nat) t v, Try.f7.params[j]? = some t → args[j]? = some v → Value.okWide Try.prog W .any base t v := hval0
  have hW' := hW
  obtain ⟨p, q, hA0, hV, rfl, hfz, hnd⟩ := hW
  have hA : DataW.TrodAll enc Try.prog W 0 (fun _ => true) true Try.f7.params.toList args.toList ds p := hA0
  rw [Try.params7] at hA hval
  obtain ⟨v0, vs0, d0, ds0, p0, q0, hargs, rfl, rfl, h0, r0⟩ := trodAll_cons hA
  obtain ⟨v1, vs1, d1, ds1, p1, q1, rfl, rfl, rfl, h1, r1⟩ := trodAll_cons r0
  obtain ⟨v2, vs2, d2, ds2, p2, q2, rfl, rfl, rfl, h2, r2⟩ := trodAll_cons r1
  obtain ⟨v3, vs3, d3, ds3, p3, q3, rfl, rfl, rfl, h3, r3⟩ := trodAll_cons r2
  obtain ⟨v4, vs4, d4, ds4, p4, q4, rfl, rfl, rfl, h4, r4⟩ := trodAll_cons r3
  obtain ⟨rfl, rfl, rfl⟩ := trodAll_nil r4
  obtain rfl : args = #[v0, v1, v2, v3, v4] := by cases args; simp_all
  obtain ⟨rfl, rfl⟩ := trodVars_none hV
  have k0 := h0
  have lt0 : ∀ x ∈ p0, x.block < W.heap.size := by obtain ⟨m, hm⟩ := k0; exact DataW.trod_lt m _ _ _ hm
  obtain ⟨A0, a0, c0, e0v, g0, m0, w0⟩ := open_words Try.underlying22 Try.underlying62 (by kernel_rfl) (hval 0 22 v0 rfl rfl) h0; subst e0v
  have k1 := h1
  have lt1 : ∀ x ∈ p1, x.block < W.heap.size := by obtain ⟨m, hm⟩ := k1; exact DataW.trod_lt m _ _ _ hm
  obtain ⟨a1, e1v, _, _, w1⟩ := open_int Try.underlying3 (hval 1 3 v1 rfl rfl) h1; subst e1v
  have k2 := h2
  have lt2 : ∀ x ∈ p2, x.block < W.heap.size := by obtain ⟨m, hm⟩ := k2; exact DataW.trod_lt m _ _ _ hm
  obtain ⟨a2, e2v, _, _, w2⟩ := open_int Try.underlying3 (hval 2 3 v2 rfl rfl) h2; subst e2v
  have k3 := h3
  have lt3 : ∀ x ∈ p3, x.block < W.heap.size := by obtain ⟨m, hm⟩ := k3; exact DataW.trod_lt m _ _ _ hm
  obtain ⟨A3, a3, c3, e3v, g3, m3, w3⟩ := open_intz Try.underlying23 Try.underlying3 (by kernel_rfl) (hval 3 23 v3 rfl rfl) h3; subst e3v
  have k4 := h4
  have lt4 : ∀ x ∈ p4, x.block < W.heap.size := by obtain ⟨m, hm⟩ := k4; exact DataW.trod_lt m _ _ _ hm
  obtain ⟨a4, e4v, _, _, w4⟩ := open_int Try.underlying3 (hval 4 3 v4 rfl rfl) h4; subst e4v
  clear hA0 hval0
  refine (idle_walk W A0 a0 c0 g0 m0 w0 a1 w1 a2 w2 A3 a3 c3 g3 m3 w3 a4 w4).mono fun e W' ⟨he, bel⟩ => ?_
  subst he
  exact ⟨_, rfl, _, _, _, [], _, [], hW', trodAll_mk1 (shut_bool Try.underlying4 _), (trodAll_cons_mk (Below.trod laidOut (by kernel_rfl) (of_decide_eq_true (by kernel_rfl)) k0 bel lt0) (trodAll_cons_mk (Below.trod laidOut (by kernel_rfl) (of_decide_eq_true (by kernel_rfl)) k1 bel lt1) (trodAll_cons_mk (Below.trod laidOut (by kernel_rfl) (of_decide_eq_true (by kernel_rfl)) k2 bel lt2) (trodAll_cons_mk (Below.trod laidOut (by kernel_rfl) (of_decide_eq_true (by kernel_rfl)) k3 bel lt3) (trodAll_cons_mk (Below.trod laidOut (by kernel_rfl) (of_decide_eq_true (by kernel_rfl)) k4 bel lt4) trodAll_mk0))))), rfl, bel.frame _, fun h => by cases h⟩
theorem over : Rows.stepIdleRow.holds Try.pinned (OpenSpec.ofChange Rows.stepIdleSpec) :=
  OpenClaim.holds_of_wide 7 Try.f7 rfl rfl rfl rfl rfl rfl rfl ⟨rfl, rfl, rfl, rfl, rfl⟩ rfl rfl rfl rfl rfl (by kernel_rfl) Try.func7 (by kernel_rfl)
    (of_decide_eq_true (by kernel_rfl)) (by unfold Func.isWrapper; first | (rw [if_pos (by decide +kernel)]; kernel_rfl) | (rw [if_neg (by decide +kernel)]; exact ⟨rfl, rfl⟩))
    (fun os started H enc _ => lifted os started H enc)
theorem proved : Rows.StepIdleSaid := over
end Go.Proofs.Ytbanbpphadgoiaa.stepIdle
