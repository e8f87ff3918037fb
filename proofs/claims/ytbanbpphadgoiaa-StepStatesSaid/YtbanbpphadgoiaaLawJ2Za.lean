/- The law StepStates of layer 22 returns true for every argument. No conditions. -/
import Derived.Test.YtbanbpphadgoiaaZa6
namespace Go.Proofs.Ytbanbpphadgoiaa
set_option linter.unusedVariables false
set_option linter.unusedSimpArgs false
open Go.RowKit Go.Maps
theorem law_re {ws : List (BitVec 64)} {l : List Nat} {b t m : Nat} {ps : List Nat} {R : Option (List Nat × Cy)} (H : Heap ws l b t) (hps : ∀ p ∈ ps, p = 0 ∨ (1 ≤ p ∧ p - 1 ∈ l)) (hcap : sumZ ws l ≤ m) : ∀ (k : Nat) (s : Sc) (c : Nat) {s' : Sc}, LawI ws l b t m ps R s c → reS ps k s = some s' → LawI ws l b t m ps R s' (c + k) ∧ (c + k) + measS m ps s' ≤ c + measS m ps s
  | 0, s, c, s', h, e => by
    have e : some s = some s' := e
    injection e with e
    subst e
    exact ⟨h, Nat.le_refl _⟩
  | k + 1, s, c, s', h, e => by
    cases hd : doneS ps s with
    | true =>
      unfold reS at e
      rw [if_pos hd] at e
      cases e
    | false =>
      obtain ⟨s1, e1, h1, m1⟩ := law_once H hps hcap h hd
      unfold reS at e
      rw [if_neg (by rw [hd]; simp), e1] at e
      obtain ⟨h2, h3⟩ := law_re H hps hcap k s1 (c + 1) h1 e
      rw [show c + (k + 1) = c + 1 + k by omega]
      exact ⟨h2, by omega⟩
/-- Resume, in a law. -/
def LResP (ws : List (BitVec 64)) (l : List Nat) (b t : Nat) (roots : List Int) (w : World) (r : Ending) (w' : World) : Prop :=
  (∃ E : Int, E ≠ 0 ∧ RetP (.tuple #[.pointer none, .int .i64 E]) w r w') ∨ (Lw ws l b t roots ∧ ∃ (S : Nat → Prop) (Q : Nat) (f : CoF) (xw : Value) (s' : Sc) (c' : Nat), r = .returned (.tuple #[.pointer (some ⟨Q, 0, none⟩), .int .i64 0]) ∧ ColL ws l b t roots w' w.heap.size S Q f xw s' c' ∧ Below w.heap.size w w')
theorem lres_c (w : World) (B s g : Nat) (v : Value) (ws : List (BitVec 64)) (b t e : Nat) (p : SpAt w B s g v ws b t e) (hl : ws.length ≤ 250) (l : List Nat) (ho : objF ws t (t + 1) b = some l) (A : Option Addr) (roots : List Int) (c : Nat) (hr : Rd zV w w.heap.size A roots) (hrl : roots.length ≤ 30) (hrw : ∀ r ∈ roots, kW r) (A2 : Option Addr) (st : List (BitVec 8)) (c2 : Nat) (hst : Rd b8 w w.heap.size A2 st) (hsl : st.length ≤ 1073741824) :
    Calls Try.prog 13 #[.pointer (some ⟨s, 0, none⟩), .slice A roots.length c, .int .i64 300, .slice A2 st.length c2] w (LResP ws l b t roots w) := by
  by_cases hE : checkE ws b t roots = 0
  · have L := lw_of ho hE p.bt (Nat.le_trans p.te p.el) hl hrl
    have h := (show Calls Try.prog 13 #[.pointer (some ⟨s, 0, none⟩), .slice A roots.length c, .int .i64 ((300 : Nat) : Int), .slice A2 st.length c2] w _ from resume_c w B s g v ws b t e p (by omega) l L.heap A roots c hr L.rts hrw 300 (by decide) hE A2 st c2 hst hsl)
    refine h.mono ?_
    intro r w' q
    cases hR : stR (roots.map rootP) ws 300 st with
    | none =>
      rw [hR] at q
      exact .inl ⟨2, by decide, q⟩
    | some s' =>
      rw [hR] at q
      obtain ⟨S, Q, f, xw, rfl, q1, fb, ft, hb⟩ := q
      refine .inr ⟨L, S, Q, f, xw, s', stN st, rfl, ?_, hb⟩
      have hre : reS (roots.map rootP) (stN st) (NewS ws 300) = some s' := by
        unfold stR at hR
        unfold stN
        cases hF : decF 0 0#64 st with
        | inl er => rw [hF] at hR; cases hR
        | inr z =>
          obtain ⟨x, rest⟩ := z
          rw [hF] at hR
          cases rest with
          | nil => exact hR
          | cons y ys => cases hR
      have h0 : measS 300 (roots.map rootP) (NewS ws 300) ≤ 330 := by
        show ((roots.map rootP).length - 0) + (300 - 0) ≤ 330
        rw [List.length_map]; omega
      obtain ⟨h2, h3⟩ := law_re L.heap L.rts.ps L.cap (stN st) (NewS ws 300) 0 (law_start L.heap (by decide)) hre
      rw [Nat.zero_add] at h2 h3
      exact ⟨q1, h2, by omega, fb, ft⟩
  · exact (resume_bad w _ A A2 roots.length c st.length c2 300 _ hE (Lib.hid (snew_err w _ A roots.length c 300 _ hE (Lib.hid (cnew_err w B s g v ws b t e p (by omega) A roots c hr (by omega) hrw 300 (by decide) hE))))).mono fun r w' h => .inl ⟨_, hE, h⟩
def BoS (roots : List Int) (s : Sc) (bo : Bool) (i c : Nat) : Prop := (bo = true ∧ doneS (roots.map rootP) s = true) ∨ (bo = false ∧ 50 * i ≤ c)
set_option maxHeartbeats 4000000
set_option maxRecDepth 100000
theorem states_walk (w : World) (A : Option Addr) (ws : List (BitVec 64)) (c : Nat) (_g : ws.length ≤ c) (_m : c ≤ maxLen) (hr : Rd u64v w w.heap.size A ws) (b : Int) (_w1 : (Lit.int .i64 b).wf = true) (t : Int) (_w2 : (Lit.int .i64 t).wf = true) (A2 : Option Addr) (roots : List Int) (c2 : Nat) (_g2 : roots.length ≤ c2) (_m2 : c2 ≤ maxLen) (hr2 : Rd inV w w.heap.size A2 roots ∧ ∀ x ∈ roots, (Lit.int .i64 x).wf = true) (A3 : Option Addr) (st : List (BitVec 8)) (c3 : Nat) (_g3 : st.length ≤ c3) (_m3 : c3 ≤ maxLen) (hr3 : Rd b8 w w.heap.size A3 st) :
    Calls Try.prog 5 #[.slice A ws.length c, .int .i64 b, .int .i64 t, .slice A2 roots.length c2, .slice A3 st.length c3] w (RetP (.bool true) w) := by
  have HK := Lib.hid (known22_c w)
  have HR := Lib.hid hr
  have HR3 := Lib.hid hr3
  have HR2 := Lib.hid (show Rd zV w w.heap.size A2 roots ∧ ∀ x ∈ roots, kW x from hr2)
  obtain ⟨N, hN⟩ : ∃ N, N = ws.length := ⟨_, rfl⟩
  obtain ⟨M, hM⟩ : ∃ N, N = roots.length := ⟨_, rfl⟩
  obtain ⟨K, hK⟩ : ∃ N, N = st.length := ⟨_, rfl⟩
  have hNm : (N : Int) ≤ 9223372036854775807 := by have h1 := _g; have h2 := _m; simp [maxLen] at h2; omega
  have hMm : (M : Int) ≤ 9223372036854775807 := by have h1 := _g2; have h2 := _m2; simp [maxLen] at h2; omega
  have hKm : (K : Int) ≤ 9223372036854775807 := by have h1 := _g3; have h2 := _m3; simp [maxLen] at h2; omega
  clear _g _m hr _w1 _w2 _g2 _m2 hr2 _g3 _m3 hr3
  by_cases hl : 250 < N ∨ 30 < M ∨ 4000 < K
  · rw [← hN, ← hM, ← hK]
    clear hN hM hK
    have t1 : ¬ ((N : Int) ≤ 250 ∧ (M : Int) ≤ 30 ∧ (K : Int) ≤ 4000) := by omega
    go_enter Try.func5, Try.ntmps5
    go_wp2_with fail
    refine Calls.mono HK.out ?_
    rintro r w1 ⟨rfl, b1⟩
    have HB1 := Lib.hid b1
    clear b1
    by_cases q1 : (250 : Int) < (N : Int)
    · go_wp2_with fail
      go_ret
      exact ⟨rfl, HB1.out⟩
    · by_cases q2 : (30 : Int) < (M : Int)
      · go_wp2_with fail
        go_ret
        exact ⟨rfl, HB1.out⟩
      · have q3 : (4000 : Int) < (K : Int) := by omega
        go_wp2_with fail
        go_ret
        exact ⟨rfl, HB1.out⟩
  have q1 : ¬ (250 : Int) < (N : Int) := by omega
  have q2 : ¬ (30 : Int) < (M : Int) := by omega
  have q3 : ¬ (4000 : Int) < (K : Int) := by omega
  have HTo := Lib.hid (fun W hr => to_c W A ws c hr (by omega) b t (ws.length : Int))
  have HNw := Lib.hid (fun W B s g v b t e (p : SpAt W B s g v ws b t e) l ho (hr : Rd zV W W.heap.size A2 roots) (hs : Rd b8 W W.heap.size A3 st) => lres_c W B s g v ws b t e p (by omega) l ho A2 roots c2 hr (by omega) HR2.out.2 A3 st c3 hs (by omega))
  have HN := Lib.hid (And.intro hN hM)
  rw [← hN] at HTo ⊢
  rw [← hM, ← hK] at HNw
  rw [← hM, ← hK]
  clear hN hM hK hl hNm hMm hKm
  go_enter Try.func5, Try.ntmps5
  go_wp2_with fail
  refine Calls.mono HK.out ?_
  rintro r w1 ⟨rfl, b1⟩
  have HB1 := Lib.hid b1
  clear b1
  go_wp2_with fail
  refine Calls.mono (HTo.out w1 ((HR.out.below HB1.out).more HB1.out.size)) ?_
  rintro r w2 (⟨rfl, b2⟩ | ⟨B, T, E, s, g, v, l, rfl, rfl, hE, hBT, hTE, hEl, hob, rfl, hsp, b2⟩)
  · have HB2 := Lib.hid (HB1.out.trans (b2.mono HB1.out.size))
    clear b2
    go_wp2_with fail
    go_ret
    exact ⟨rfl, HB2.out⟩
  · have HB2 := Lib.hid (HB1.out.trans (b2.mono HB1.out.size))
    have HNw2 := Lib.hid (HNw.out w2 w1.heap.size s g v B T E hsp l hob ((HR2.out.1.below HB2.out).more HB2.out.size) ((HR3.out.below HB2.out).more HB2.out.size))
    clear b2 hsp hE hBT hTE hEl hob HNw HTo HK HB1
    go_wp2_with fail
    refine Calls.mono HNw2.out ?_
    rintro r w3 (⟨er, hne, rfl, b3⟩ | ⟨L, S, Q, f, xw, s3, c3, rfl, pc, b3⟩)
    · have HB3 := Lib.hid (HB2.out.trans (b3.mono HB2.out.size))
      clear b3
      go_wp2_with fail
      go_ret
      exact ⟨rfl, HB3.out⟩
    · have HB2s := Lib.hid HB2.out.size
      have HL := Lib.hid L
      have hb3 : Below w.heap.size w w3 := HB2.out.trans (b3.mono HB2.out.size)
      obtain ⟨B3, hB3⟩ : ∃ B3, B3 = w2.heap.size := ⟨_, rfl⟩
      rw [← hB3] at pc HB2s
      have HS3 := Lib.hid (show ∃ (s' : Sc) (c' : Nat) (S' : Nat → Prop) (xw' : Value), ColL ws l B T roots w3 B3 S' Q f xw' s' c' ∧ Below w.heap.size w w3 ∧ BoS roots s' false 0 c' from ⟨_, _, _, _, pc, hb3, .inr ⟨rfl, by omega⟩⟩)
      clear b3 pc hB3 L HNw2 hb3
      go_wp2_with fail
      go_loopw [14, 15] (fun y x W => ∃ (i : Nat) (bo : Bool), y = .bool bo ∧ x = .int .i64 i ∧ i ≤ 400 ∧ Hid (∃ (s' : Sc) (c' : Nat) (S' : Nat → Prop) (xw' : Value), ColL ws l B T roots W B3 S' Q f xw' s' c' ∧ Below w.heap.size w W ∧ BoS roots s' bo i c')) (fun y x _ => 400 - (Go.RowKit.intOf x).toNat)
      case atStart => exact ⟨0, false, rfl, rfl, by decide, HS3⟩
      case round =>
        obtain ⟨i, bo, rfl, rfl, hi, hS⟩ := hrel
        clear HS3
        obtain ⟨s', c', S', x', p', hb, hc⟩ := hS.out
        have HE := Lib.hid (And.intro p' (And.intro hb hc))
        have hms := p'.ms
        clear p' hb hS
        cases bo with
        | true =>
          clear hc hms
          by_cases hlt : (i : Int) < 400
          · go_wp2_with fail
            go_ret
            exact ⟨rfl, HE.out.2.1⟩
          · go_wp2_with fail
            go_ret
            exact ⟨rfl, HE.out.2.1⟩
        | false =>
          have hc9 : 50 * i ≤ c' := by
            rcases hc with ⟨h, _⟩ | ⟨_, h⟩
            · cases h
            · exact h
          have hlt : (i : Int) < 400 := by omega
          have HC9 := Lib.hid hc9
          clear hc hms hc9
          go_wp2_with fail
          refine Calls.mono (lstep_c wr HL.out HE.out.1 50 (by decide)) ?_
          rintro r w8 ⟨s8, c8, S8, x8, rfl, p8, k8, n8, l8, e8, _, _⟩
          obtain ⟨bo, hbo⟩ : ∃ bo, bo = doneS (roots.map rootP) s8 := ⟨_, rfl⟩
          have hb8 : Below w.heap.size w w8 := HE.out.2.1.trans (k8.below HE.out.2.1.size (fun k hk => Nat.le_trans HB2s.out (HE.out.1.co.own k hk).1))
          have H8 := Lib.hid (show ∃ (s' : Sc) (c' : Nat) (S' : Nat → Prop) (xw' : Value), ColL ws l B T roots w8 B3 S' Q f xw' s' c' ∧ Below w.heap.size w w8 ∧ BoS roots s' bo (i + 1) c' from
            ⟨s8, c8, _, _, p8, hb8, by
              cases hb : doneS (roots.map rootP) s8 with
              | true => exact .inl ⟨hbo.trans hb, hb⟩
              | false =>
                refine .inr ⟨hbo.trans hb, ?_⟩
                have h : c8 = c' + 50 := by
                  rcases e8 with h | h
                  · rw [hb] at h; cases h
                  · exact h
                have := HC9.out
                omega⟩)
          rw [← hbo]
          clear p8 k8 n8 l8 e8 hb8 hbo
          cases bo with
          | true =>
            go_wp2_with fail
            go_roundw
            case rel => first | exact ⟨i + 1, true, rfl, by go_num, by omega, H8⟩ | ((repeat apply Exists.intro); refine ⟨?_, rfl⟩; exact ⟨i + 1, true, rfl, by go_num, by omega, H8⟩)
            case measure => simp [Go.RowKit.intOf]; omega
          | false =>
            go_wp2_with fail
            go_roundw
            case rel => first | exact ⟨i + 1, false, rfl, by go_num, by omega, H8⟩ | ((repeat apply Exists.intro); refine ⟨?_, rfl⟩; exact ⟨i + 1, false, rfl, by go_num, by omega, H8⟩)
            case measure => simp [Go.RowKit.intOf]; omega
end Go.Proofs.Ytbanbpphadgoiaa
namespace Go.Proofs.Ytbanbpphadgoiaa.stepStates
open Go.ChangeShapes Go.WideShapes Go.ChangeAt Go.RowKit
open Go.ChangeMaps (open_string shut_string)
set_option linter.unusedVariables false
set_option maxRecDepth 100000 in
theorem lifted (os : Os) (started : os.Started) (H : Type) (enc : TypeId × Value → H) :
    ReturnsInHanded {} Try.checked os 5 .any (Rows.stepStatesSpec.pre6 enc Try.prog Try.f5 Rows.stepStatesRow.domain false) (Rows.stepStatesSpec.post enc Try.prog Try.f5 false true false false) := by
  refine returnsInHanded_of_change (C := Try.checked) own started (by kernel_rfl) Try.func5
    (ChangeSpec.witness6 (enc := enc) (C := Try.checked) false ⟨#[], #[.slice none 0 0, .int .i64 0, .int .i64 0, .slice none 0 0, .slice none 0 0], []⟩ 8 (by kernel_rfl) (by kernel_rfl) (by kernel_rfl) (by kernel_rfl)) ?_
  intro W base args ds gs before hval0 hW hcnd _
  have hval : ∀ (j : Nat) t v, Try.f5.params[j]? = some t → args[j]? = some v → Value.okWide Try.prog W .any base t v := hval0
  have hW' := hW
  obtain ⟨p, q, hA0, hV, rfl, hfz, hnd⟩ := hW
  have hA : DataW.TrodAll enc Try.prog W 0 (fun _ => true) true Try.f5.params.toList args.toList ds p := hA0
  rw [Try.params5] at hA hval
  obtain ⟨v0, vs0, d0, ds0, p0, q0, hargs, rfl, rfl, h0, r0⟩ := trodAll_cons hA
  obtain ⟨v1, vs1, d1, ds1, p1, q1, rfl, rfl, rfl, h1, r1⟩ := trodAll_cons r0
  obtain ⟨v2, vs2, d2, ds2, p2, q2, rfl, rfl, rfl, h2, r2⟩ := trodAll_cons r1
  obtain ⟨v3, vs3, d3, ds3, p3, q3, rfl, rfl, rfl, h3, r3⟩ := trodAll_cons r2
  obtain ⟨v4, vs4, d4, ds4, p4, q4, rfl, rfl, rfl, h4, r4⟩ := trodAll_cons r3
  obtain ⟨rfl, rfl, rfl⟩ := trodAll_nil r4
  obtain rfl : args = #[v0, v1, v2, v3, v4] := by cases args; simp_all
  obtain ⟨rfl, rfl⟩ := trodVars_none hV
  have k0 := h0
  have lt0 : ∀ x ∈ p0, x.block < W.heap.size := by obtain ⟨m, hm⟩ := k0; exact DataW.trod_lt m _ _ _ hm
  obtain ⟨A0, a0, c0, e0v, g0, m0, w0⟩ := open_words Try.underlying22 Try.underlying62 (by kernel_rfl) (hval 0 22 v0 rfl rfl) h0; subst e0v
  have k1 := h1
  have lt1 : ∀ x ∈ p1, x.block < W.heap.size := by obtain ⟨m, hm⟩ := k1; exact DataW.trod_lt m _ _ _ hm
  obtain ⟨a1, e1v, _, _, w1⟩ := open_int Try.underlying3 (hval 1 3 v1 rfl rfl) h1; subst e1v
  have k2 := h2
  have lt2 : ∀ x ∈ p2, x.block < W.heap.size := by obtain ⟨m, hm⟩ := k2; exact DataW.trod_lt m _ _ _ hm
  obtain ⟨a2, e2v, _, _, w2⟩ := open_int Try.underlying3 (hval 2 3 v2 rfl rfl) h2; subst e2v
  have k3 := h3
  have lt3 : ∀ x ∈ p3, x.block < W.heap.size := by obtain ⟨m, hm⟩ := k3; exact DataW.trod_lt m _ _ _ hm
  obtain ⟨A3, a3, c3, e3v, g3, m3, w3⟩ := open_intz Try.underlying23 Try.underlying3 (by kernel_rfl) (hval 3 23 v3 rfl rfl) h3; subst e3v
  have k4 := h4
  have lt4 : ∀ x ∈ p4, x.block < W.heap.size := by obtain ⟨m, hm⟩ := k4; exact DataW.trod_lt m _ _ _ hm
  obtain ⟨A4, a4, c4, e4v, g4, m4, w4⟩ := open_bytes Try.underlying44 Try.underlying5 (by kernel_rfl) (hval 4 44 v4 rfl rfl) h4; subst e4v
  clear hA0 hval0
  refine (states_walk W A0 a0 c0 g0 m0 w0 a1 w1 a2 w2 A3 a3 c3 g3 m3 w3 A4 a4 c4 g4 m4 w4).mono fun e W' ⟨he, bel⟩ => ?_
  subst he
  exact ⟨_, rfl, _, _, _, [], _, [], hW', trodAll_mk1 (shut_bool Try.underlying4 _), (trodAll_cons_mk (Below.trod laidOut (by kernel_rfl) (of_decide_eq_true (by kernel_rfl)) k0 bel lt0) (trodAll_cons_mk (Below.trod laidOut (by kernel_rfl) (of_decide_eq_true (by kernel_rfl)) k1 bel lt1) (trodAll_cons_mk (Below.trod laidOut (by kernel_rfl) (of_decide_eq_true (by kernel_rfl)) k2 bel lt2) (trodAll_cons_mk (Below.trod laidOut (by kernel_rfl) (of_decide_eq_true (by kernel_rfl)) k3 bel lt3) (trodAll_cons_mk (Below.trod laidOut (by kernel_rfl) (of_decide_eq_true (by kernel_rfl)) k4 bel lt4) trodAll_mk0))))), rfl, bel.frame _, fun h => by cases h⟩
theorem over : Rows.stepStatesRow.holds Try.pinned (OpenSpec.ofChange Rows.stepStatesSpec) :=
  OpenClaim.holds_of_wide 5 Try.f5 rfl rfl rfl rfl rfl rfl rfl ⟨rfl, rfl, rfl, rfl, rfl⟩ rfl rfl rfl rfl rfl (by kernel_rfl) Try.func5 (by kernel_rfl)
    (of_decide_eq_true (by kernel_rfl)) (by unfold Func.isWrapper; first | (rw [if_pos (by decide +kernel)]; kernel_rfl) | (rw [if_neg (by decide +kernel)]; exact ⟨rfl, rfl⟩))
    (fun os started H enc _ => lifted os started H enc)
theorem proved : Rows.StepStatesSaid := over
end Go.Proofs.Ytbanbpphadgoiaa.stepStates
