/- The law CopyAny of layer 21 returns true for every argument. No conditions. -/
import Derived.Test.YtlibcpboooehlaaYc7
namespace Go.Proofs.Ytlibcpboooehlaa
set_option linter.unusedVariables false
set_option linter.unusedSimpArgs false
open Go.RowKit Go.Maps
set_option maxHeartbeats 8000000
set_option maxRecDepth 100000
theorem any_lim (w : World) (A : Option Addr) (ws : List (BitVec 64)) (c : Nat) (_g : ws.length ≤ c) (_m : c ≤ maxLen) (hr : Rd u64v w w.heap.size A ws) (b : Int) (_w1 : (Lit.int .i64 b).wf = true) (t : Int) (_w2 : (Lit.int .i64 t).wf = true) (A2 : Option Addr) (roots : List Int) (c2 : Nat) (_g2 : roots.length ≤ c2) (_m2 : c2 ≤ maxLen) (hr2 : Rd inV w w.heap.size A2 roots ∧ ∀ x ∈ roots, (Lit.int .i64 x).wf = true) (words : Int) (_w3 : (Lit.int .i64 words).wf = true) (hlim : 250 < ws.length ∨ 30 < roots.length ∨ (400 < words ∧ words ≤ 8192)) :
    Calls Try.prog 3 #[.slice A ws.length c, .int .i64 b, .int .i64 t, .slice A2 roots.length c2, .int .i64 words] w (RetP (.bool true) w) := by
  have HK := Lib.hid (known21_c w)
  obtain ⟨N, hN⟩ : ∃ N, N = ws.length := ⟨_, rfl⟩
  obtain ⟨M, hM⟩ : ∃ N, N = roots.length := ⟨_, rfl⟩
  have hNm : (N : Int) ≤ 9223372036854775807 := by have h1 := _g; have h2 := _m; simp [maxLen] at h2; omega
  have hMm : (M : Int) ≤ 9223372036854775807 := by have h1 := _g2; have h2 := _m2; simp [maxLen] at h2; omega
  rw [← hN, ← hM] at hlim ⊢
  clear _g _m hr _w1 _w2 _g2 _m2 hr2 hN hM _w3
  go_enter Try.func3, Try.ntmps3
  go_wp2_with fail
  refine Calls.mono HK.out ?_
  rintro r w1 ⟨rfl, b1⟩
  have HB1 := Lib.hid b1
  clear b1
  by_cases q1 : (250 : Int) < (N : Int)
  · clear hlim
    go_wp2_with fail
    go_ret
    exact ⟨rfl, HB1.out⟩
  · by_cases q2 : (30 : Int) < (M : Int)
    · clear hlim
      go_wp2_with fail
      go_ret
      exact ⟨rfl, HB1.out⟩
    · have q3 : 400 < words := by omega
      have q4 : words ≤ 8192 := by omega
      clear hlim
      go_wp2_with fail
      go_ret
      exact ⟨rfl, HB1.out⟩
theorem any_d1 (w : World) (A : Option Addr) (ws : List (BitVec 64)) (c : Nat) (_g : ws.length ≤ c) (_m : c ≤ maxLen) (hr : Rd u64v w w.heap.size A ws) (b : Int) (_w1 : (Lit.int .i64 b).wf = true) (t : Int) (_w2 : (Lit.int .i64 t).wf = true) (A2 : Option Addr) (roots : List Int) (c2 : Nat) (_g2 : roots.length ≤ c2) (_m2 : c2 ≤ maxLen) (hr2 : Rd inV w w.heap.size A2 roots ∧ ∀ x ∈ roots, (Lit.int .i64 x).wf = true) (words : Int) (_w3 : (Lit.int .i64 words).wf = true) (h1 : ws.length ≤ 250) (h2 : roots.length ≤ 30) (h3 : ¬ 400 < words) :
    Calls Try.prog 3 #[.slice A ws.length c, .int .i64 b, .int .i64 t, .slice A2 roots.length c2, .int .i64 words] w (RetP (.bool true) w) := by
  have HK := Lib.hid (known21_c w)
  have HR := Lib.hid hr
  have HR2 := Lib.hid (show Rd zV w w.heap.size A2 roots ∧ ∀ x ∈ roots, kW x from hr2)
  have HkW := Lib.hid (show kW words from _w3)
  obtain ⟨N, hN⟩ : ∃ N, N = ws.length := ⟨_, rfl⟩
  obtain ⟨M, hM⟩ : ∃ N, N = roots.length := ⟨_, rfl⟩
  rw [← hN] at h1
  rw [← hM] at h2
  have q1 : ¬ (250 : Int) < (N : Int) := by omega
  have q2 : ¬ (30 : Int) < (M : Int) := by omega
  have HTo := Lib.hid (fun W hr => to_c W A ws c hr (by omega) b t (ws.length : Int))
  have HCp := Lib.hid (fun (W : World) (B s g R : Nat) (v : Value) (b t e : Nat) (A0 : Option Addr) (c0 : Nat) (l : List Nat) (p : SpAt W B s g v ws b t e) (q : RefAt W R A0 c0 ws b t e) (ho : objF ws t (t + 1) b = some l) (hr : Rd zV W W.heap.size A2 roots) => And.intro (cp_both (c2 := c2) p q (by omega) ho hr (by omega) HR2.out.2 words HkW.out) (lv_both (c2 := c2) p q (by omega) ho hr (by omega) HR2.out.2))
  have HNl := Lib.hid (And.intro hN hM)
  have HNle := Lib.hid (show ([] : List (BitVec 64)).length + ws.length ≤ 4294967296 by simp; omega)
  have HN2 := Lib.hid (show ws.length ≤ 8192 ∧ M ≤ 1000 by omega)
  rw [← hN] at HTo ⊢
  rw [← hM] at HCp ⊢
  clear hN hM h1 h2 _g _m hr _w1 _w2 _g2 _m2 hr2 _w3
  go_enter Try.func3, Try.ntmps3
  go_wp2_with fail
  refine Calls.mono HK.out ?_
  rintro r w1 ⟨rfl, b1⟩
  have HB1 := Lib.hid b1
  clear b1
  go_wp2_with fail
  refine Calls.mono (HTo.out w1 ((HR.out.below HB1.out).more HB1.out.size)) ?_
  rintro r w2 (⟨rfl, b2⟩ | ⟨B, T, E, s, g, v, l, rfl, rfl, hE, hBT, hTE, hEl, hob, rfl, hsp, b2⟩)
  · have HB2 := Lib.hid (HB1.out.trans (b2.mono HB1.out.size))
    clear b2
    go_wp2_with fail
    go_ret
    exact ⟨rfl, HB2.out⟩
  · have HB2 := Lib.hid (HB1.out.trans (b2.mono HB1.out.size))
    have hEN : E = N := by omega
    subst hEN
    have HSp := Lib.hid (And.intro hsp hob)
    have HRw := Lib.hid ((HR.out.below HB2.out).more HB2.out.size)
    clear b2 hsp hE hBT hTE hEl hob HTo HK HB1
    go_wp2_with (at_builtin; refine wp_app one64 u64v_one rfl (.tmp 50) (.tmp 51) rfl w2.heap.size _ [] rfl (ow_empty u64v 44 w2 w2.heap.size (Nat.le_refl _)) A E c ws rfl HNl.out.1 w2.heap.size (HRw.out.alloc (Nat.le_refl _) _) HNle.out (by decide) (by simp) ?_; intro v3 w3 ho3 hb3 hg3 hv3; rw [List.nil_append] at ho3; obtain ⟨A3, c3, e3, _⟩ := ho3.form; rw [← HNl.out.1] at e3; subst e3; have H3 := Lib.hid (And.intro ho3 ((Gw.alloc w2 _).trans hb3)); clear ho3 hb3 hg3 hv3)
    obtain ⟨R, hR⟩ : ∃ H, H = w3.heap.size := ⟨_, rfl⟩
    obtain ⟨w4, hw4⟩ : ∃ w4, w4 = w3.alloc (.cells #[.slice A3 E c3, .int .i64 (B : Int), .int .i64 (T : Int), .int .i64 (E : Int)] 29) := ⟨_, rfl⟩
    have hbk : Bk w4 R 29 #[.slice A3 E c3, .int .i64 (B : Int), .int .i64 (T : Int), .int .i64 (E : Int)] := by rw [hw4, hR]; exact Bk.new w3 _ _
    have hb34 : Below w3.heap.size w3 w4 := by rw [hw4]; exact Gw.alloc w3 _
    have hb24 : Below w2.heap.size w2 w4 := H3.out.2.trans (hb34.mono H3.out.2.size)
    have hrf : RefAt w4 R A3 c3 ws B T E := ⟨by rw [← HNl.out.1]; exact hbk, by
      have h3 : Ow u64v 44 w3 w2.heap.size (.slice A3 ws.length c3) ws := by rw [← HNl.out.1]; exact H3.out.1
      exact (h3.rd.below hb34).more hb34.size⟩
    have hs4 := HSp.out.1.below hb24
    have H4 := Lib.hid (HB2.out.trans (hb24.mono HB2.out.size))
    have hcp := HCp.out w4 w1.heap.size s g R v B T E A3 c3 l hs4 hrf HSp.out.2 ((HR2.out.1.below H4.out).more H4.out.size)
    have HLv := Lib.hid hcp.2
    have HSm := Lib.hid (fun W (hb : Below w4.heap.size w4 W) => same15_t W w1.heap.size s g R c3 B T E v ws A3 (hs4.below hb) (hrf.below hb) (by have := HN2.out; omega))
    obtain ⟨hcp1, _⟩ := hcp
    rw [← hw4, ← hR]
    clear hw4 hR hbk hb34 hb24 hrf hs4 HSp HRw H3 HCp
    rcases hcp1 with ⟨Er, hEr, k1, k2⟩ | ⟨qs, d, m, hm1, hm2, k1, k2⟩
    · have HC1 := Lib.hid (k1 w4 (Below.refl _ _))
      have HC2 := Lib.hid k2
      have hEr : ¬ Er = 0 := hEr
      clear k1 k2
      go_wp2_with fail
      refine Calls.mono HC1.out ?_
      rintro r w5 ⟨rfl, b5⟩
      have H5 := Lib.hid b5
      clear b5
      go_wp2_with fail
      refine Calls.mono (HC2.out w5 H5.out) ?_
      rintro r w6 ⟨rfl, b6⟩
      have H6 := Lib.hid (H5.out.trans (b6.mono H5.out.size))
      clear b6
      go_wp2_with fail
      refine Calls.mono (HSm.out w6 H6.out) ?_
      rintro r wz ⟨rfl, bz⟩
      have HZ := Lib.hid (H6.out.trans (bz.mono H6.out.size))
      clear bz
      rcases HLv.out with ⟨E2, hE2, l1, l2⟩ | ⟨qs2, d2, l1, l2⟩
      · have HL1 := Lib.hid (l1 wz HZ.out)
        have HL2 := Lib.hid l2
        have hE2 : ¬ E2 = 0 := hE2
        clear l1 l2
        go_wp2_with fail
        refine Calls.mono HL1.out ?_
        rintro r wy ⟨rfl, by1⟩
        have HY := Lib.hid (HZ.out.trans (by1.mono HZ.out.size))
        clear by1
        go_wp2_with fail
        refine Calls.mono (HL2.out wy HY.out) ?_
        rintro r wx ⟨rfl, bx⟩
        have HX := Lib.hid (H4.out.trans ((HY.out.trans (bx.mono HY.out.size)).mono H4.out.size))
        clear bx
        go_wp2_with fail
        go_ret
        exact ⟨by simp, HX.out⟩
      · have HL1 := Lib.hid (l1 wz HZ.out)
        have HL2 := Lib.hid (show ∀ W, Below w4.heap.size w4 W → Calls Try.prog 10 #[.pointer (some ⟨R, 0, none⟩), .slice A2 M c2, .int .i64 8192] W (fun r w' => ∃ (N : Nat) (A : Option Addr) (nc : Nat) (A2 : Option Addr) (c2 : Nat), r = .returned (.tuple #[.pointer (some ⟨N, 0, none⟩), .slice A2 M c2, .int .i64 0]) ∧ RefAt w' N A nc d2.T 0 d2.top 8192 ∧ d2.T.length = 8192 ∧ qs2.length = M ∧ Rd zV w' w'.heap.size A2 (backZ qs2) ∧ Below W.heap.size W w') from l2)
        clear l1 l2
        go_wp2_with fail
        refine Calls.mono HL1.out ?_
        rintro r wy ⟨rfl, by1⟩
        have HY := Lib.hid (HZ.out.trans (by1.mono HZ.out.size))
        clear by1
        go_wp2_with fail
        refine Calls.mono (HL2.out wy HY.out) ?_
        rintro r wx ⟨N9, A9, nc9, A8, c8, rfl, hr9, _, _, _, bx⟩
        have HX := Lib.hid (H4.out.trans ((HY.out.trans (bx.mono HY.out.size)).mono H4.out.size))
        have t9 := hr9.four.2.2.1
        have hN9 := hr9.blk.lt
        clear bx hr9
        go_wp2_with fail
        go_ret
        exact ⟨by simp, HX.out⟩
    · have HC1 := Lib.hid (show Calls Try.prog 9 #[.pointer (some ⟨s, 0, none⟩), .slice A2 M c2, .int .i64 words] w4 (fun r w' => ∃ s' g' v' q, r = .returned (.tuple #[.pointer (some ⟨s', 0, none⟩), .slice (some ⟨q, 0, none⟩) M M, .int .i64 0]) ∧ SpAt w' w4.heap.size s' g' v' d.T 0 d.top m ∧ d.T.length = m ∧ Ow zV 3 w' w4.heap.size (.slice (some ⟨q, 0, none⟩) M M) (backZ qs) ∧ Below w4.heap.size w4 w') from k1 w4 (Below.refl _ _))
      have HC2 := Lib.hid (show ∀ W, Below w4.heap.size w4 W → Calls Try.prog 10 #[.pointer (some ⟨R, 0, none⟩), .slice A2 M c2, .int .i64 words] W (fun r w' => ∃ (N : Nat) (A : Option Addr) (nc : Nat) (A2 : Option Addr) (c2 : Nat), r = .returned (.tuple #[.pointer (some ⟨N, 0, none⟩), .slice A2 M c2, .int .i64 0]) ∧ RefAt w' N A nc d.T 0 d.top m ∧ d.T.length = m ∧ qs.length = M ∧ Rd zV w' w'.heap.size A2 (backZ qs) ∧ Below W.heap.size W w') from k2)
      have hm8 : m ≤ 8192 := hm2
      clear k1 k2 hm1 hm2
      go_wp2_with fail
      refine Calls.mono HC1.out ?_
      rintro r w5 ⟨s5, g5, v5, q5, rfl, hs5, hl5, ho5, b5⟩
      have H5 := Lib.hid (And.intro b5 (And.intro hs5 (And.intro ho5 hl5)))
      clear b5 hs5 ho5 hl5
      go_wp2_with fail
      refine Calls.mono (HC2.out w5 H5.out.1) ?_
      rintro r w6 ⟨N6, A6, n6, A7, c7, rfl, hr6, hl6, hq6, hrd6, b6⟩
      have H6 := Lib.hid (H5.out.1.trans (b6.mono H5.out.1.size))
      have hbl : M = (backZ qs).length := by simp [backZ, hq6]
      have HSm2 := Lib.hid (fun W (hb : Below w6.heap.size w6 W) => same15_t W w4.heap.size s5 g5 N6 n6 0 d.top m v5 d.T A6 ((H5.out.2.1.below b6).below hb) (hr6.below hb) (by omega))
      have hro : Rd zV w6 w6.heap.size (some ⟨q5, 0, none⟩) (backZ qs) := by
        have h3 : Ow zV 3 w5 w4.heap.size (.slice (some ⟨q5, 0, none⟩) (backZ qs).length M) (backZ qs) := by rw [← hbl]; exact H5.out.2.2.1
        exact (h3.rd.below b6).more b6.size
      have HIn := Lib.hid (fun W (hb : Below w6.heap.size w6 W) => ints_z W (some ⟨q5, 0, none⟩) A7 M c7 M (backZ qs) hbl HN2.out.2 ((hro.below hb).more hb.size) ((hrd6.below hb).more hb.size))
      clear b6 hr6 hl6 hq6 hrd6 hbl hro
      go_wp2_with fail
      refine Calls.mono (HSm.out w6 H6.out) ?_
      rintro r w7 ⟨rfl, b7⟩
      have H7 := Lib.hid b7
      clear b7
      go_wp2_with fail
      refine Calls.mono (HSm2.out w7 H7.out) ?_
      rintro r w8 ⟨rfl, b8⟩
      have H8 := Lib.hid (H7.out.trans (b8.mono H7.out.size))
      clear b8
      go_wp2_with fail
      refine Calls.mono (HIn.out w8 H8.out) ?_
      rintro r wz ⟨rfl, bz⟩
      have H9 := H8.out.trans (bz.mono H8.out.size)
      have HZ := Lib.hid (H6.out.trans (H9.mono H6.out.size))
      clear bz H9
      rcases HLv.out with ⟨E2, hE2, l1, l2⟩ | ⟨qs2, d2, l1, l2⟩
      · have HL1 := Lib.hid (l1 wz HZ.out)
        have HL2 := Lib.hid l2
        have hE2 : ¬ E2 = 0 := hE2
        clear l1 l2
        go_wp2_with fail
        refine Calls.mono HL1.out ?_
        rintro r wy ⟨rfl, by1⟩
        have HY := Lib.hid (HZ.out.trans (by1.mono HZ.out.size))
        clear by1
        go_wp2_with fail
        refine Calls.mono (HL2.out wy HY.out) ?_
        rintro r wx ⟨rfl, bx⟩
        have HX := Lib.hid (H4.out.trans ((HY.out.trans (bx.mono HY.out.size)).mono H4.out.size))
        clear bx
        go_wp2_with fail
        go_ret
        exact ⟨by simp, HX.out⟩
      · have HL1 := Lib.hid (l1 wz HZ.out)
        have HL2 := Lib.hid (show ∀ W, Below w4.heap.size w4 W → Calls Try.prog 10 #[.pointer (some ⟨R, 0, none⟩), .slice A2 M c2, .int .i64 8192] W (fun r w' => ∃ (N : Nat) (A : Option Addr) (nc : Nat) (A2 : Option Addr) (c2 : Nat), r = .returned (.tuple #[.pointer (some ⟨N, 0, none⟩), .slice A2 M c2, .int .i64 0]) ∧ RefAt w' N A nc d2.T 0 d2.top 8192 ∧ d2.T.length = 8192 ∧ qs2.length = M ∧ Rd zV w' w'.heap.size A2 (backZ qs2) ∧ Below W.heap.size W w') from l2)
        clear l1 l2
        go_wp2_with fail
        refine Calls.mono HL1.out ?_
        rintro r wy ⟨rfl, by1⟩
        have HY := Lib.hid (HZ.out.trans (by1.mono HZ.out.size))
        clear by1
        go_wp2_with fail
        refine Calls.mono (HL2.out wy HY.out) ?_
        rintro r wx ⟨N9, A9, nc9, A8, c8, rfl, hr9, _, _, _, bx⟩
        have HX := Lib.hid (H4.out.trans ((HY.out.trans (bx.mono HY.out.size)).mono H4.out.size))
        have t9 := hr9.four.2.2.1
        have hN9 := hr9.blk.lt
        clear bx hr9
        go_wp2_with fail
        go_ret
        exact ⟨by simp, HX.out⟩
theorem any_d2 (w : World) (A : Option Addr) (ws : List (BitVec 64)) (c : Nat) (_g : ws.length ≤ c) (_m : c ≤ maxLen) (hr : Rd u64v w w.heap.size A ws) (b : Int) (_w1 : (Lit.int .i64 b).wf = true) (t : Int) (_w2 : (Lit.int .i64 t).wf = true) (A2 : Option Addr) (roots : List Int) (c2 : Nat) (_g2 : roots.length ≤ c2) (_m2 : c2 ≤ maxLen) (hr2 : Rd inV w w.heap.size A2 roots ∧ ∀ x ∈ roots, (Lit.int .i64 x).wf = true) (words : Int) (_w3 : (Lit.int .i64 words).wf = true) (h1 : ws.length ≤ 250) (h2 : roots.length ≤ 30) (h3 : 400 < words) (h4 : ¬ words ≤ 8192) :
    Calls Try.prog 3 #[.slice A ws.length c, .int .i64 b, .int .i64 t, .slice A2 roots.length c2, .int .i64 words] w (RetP (.bool true) w) := by
  have HK := Lib.hid (known21_c w)
  have HR := Lib.hid hr
  have HR2 := Lib.hid (show Rd zV w w.heap.size A2 roots ∧ ∀ x ∈ roots, kW x from hr2)
  have HkW := Lib.hid (show kW words from _w3)
  obtain ⟨N, hN⟩ : ∃ N, N = ws.length := ⟨_, rfl⟩
  obtain ⟨M, hM⟩ : ∃ N, N = roots.length := ⟨_, rfl⟩
  rw [← hN] at h1
  rw [← hM] at h2
  have q1 : ¬ (250 : Int) < (N : Int) := by omega
  have q2 : ¬ (30 : Int) < (M : Int) := by omega
  have HTo := Lib.hid (fun W hr => to_c W A ws c hr (by omega) b t (ws.length : Int))
  have HCp := Lib.hid (fun (W : World) (B s g R : Nat) (v : Value) (b t e : Nat) (A0 : Option Addr) (c0 : Nat) (l : List Nat) (p : SpAt W B s g v ws b t e) (q : RefAt W R A0 c0 ws b t e) (ho : objF ws t (t + 1) b = some l) (hr : Rd zV W W.heap.size A2 roots) => And.intro (cp_both (c2 := c2) p q (by omega) ho hr (by omega) HR2.out.2 words HkW.out) (lv_both (c2 := c2) p q (by omega) ho hr (by omega) HR2.out.2))
  have HNl := Lib.hid (And.intro hN hM)
  have HNle := Lib.hid (show ([] : List (BitVec 64)).length + ws.length ≤ 4294967296 by simp; omega)
  have HN2 := Lib.hid (show ws.length ≤ 8192 ∧ M ≤ 1000 by omega)
  rw [← hN] at HTo ⊢
  rw [← hM] at HCp ⊢
  clear hN hM h1 h2 _g _m hr _w1 _w2 _g2 _m2 hr2 _w3
  go_enter Try.func3, Try.ntmps3
  go_wp2_with fail
  refine Calls.mono HK.out ?_
  rintro r w1 ⟨rfl, b1⟩
  have HB1 := Lib.hid b1
  clear b1
  go_wp2_with fail
  refine Calls.mono (HTo.out w1 ((HR.out.below HB1.out).more HB1.out.size)) ?_
  rintro r w2 (⟨rfl, b2⟩ | ⟨B, T, E, s, g, v, l, rfl, rfl, hE, hBT, hTE, hEl, hob, rfl, hsp, b2⟩)
  · have HB2 := Lib.hid (HB1.out.trans (b2.mono HB1.out.size))
    clear b2
    go_wp2_with fail
    go_ret
    exact ⟨rfl, HB2.out⟩
  · have HB2 := Lib.hid (HB1.out.trans (b2.mono HB1.out.size))
    have hEN : E = N := by omega
    subst hEN
    have HSp := Lib.hid (And.intro hsp hob)
    have HRw := Lib.hid ((HR.out.below HB2.out).more HB2.out.size)
    clear b2 hsp hE hBT hTE hEl hob HTo HK HB1
    go_wp2_with (at_builtin; refine wp_app one64 u64v_one rfl (.tmp 50) (.tmp 51) rfl w2.heap.size _ [] rfl (ow_empty u64v 44 w2 w2.heap.size (Nat.le_refl _)) A E c ws rfl HNl.out.1 w2.heap.size (HRw.out.alloc (Nat.le_refl _) _) HNle.out (by decide) (by simp) ?_; intro v3 w3 ho3 hb3 hg3 hv3; rw [List.nil_append] at ho3; obtain ⟨A3, c3, e3, _⟩ := ho3.form; rw [← HNl.out.1] at e3; subst e3; have H3 := Lib.hid (And.intro ho3 ((Gw.alloc w2 _).trans hb3)); clear ho3 hb3 hg3 hv3)
    obtain ⟨R, hR⟩ : ∃ H, H = w3.heap.size := ⟨_, rfl⟩
    obtain ⟨w4, hw4⟩ : ∃ w4, w4 = w3.alloc (.cells #[.slice A3 E c3, .int .i64 (B : Int), .int .i64 (T : Int), .int .i64 (E : Int)] 29) := ⟨_, rfl⟩
    have hbk : Bk w4 R 29 #[.slice A3 E c3, .int .i64 (B : Int), .int .i64 (T : Int), .int .i64 (E : Int)] := by rw [hw4, hR]; exact Bk.new w3 _ _
    have hb34 : Below w3.heap.size w3 w4 := by rw [hw4]; exact Gw.alloc w3 _
    have hb24 : Below w2.heap.size w2 w4 := H3.out.2.trans (hb34.mono H3.out.2.size)
    have hrf : RefAt w4 R A3 c3 ws B T E := ⟨by rw [← HNl.out.1]; exact hbk, by
      have h3 : Ow u64v 44 w3 w2.heap.size (.slice A3 ws.length c3) ws := by rw [← HNl.out.1]; exact H3.out.1
      exact (h3.rd.below hb34).more hb34.size⟩
    have hs4 := HSp.out.1.below hb24
    have H4 := Lib.hid (HB2.out.trans (hb24.mono HB2.out.size))
    have hcp := HCp.out w4 w1.heap.size s g R v B T E A3 c3 l hs4 hrf HSp.out.2 ((HR2.out.1.below H4.out).more H4.out.size)
    have HLv := Lib.hid hcp.2
    have HSm := Lib.hid (fun W (hb : Below w4.heap.size w4 W) => same15_t W w1.heap.size s g R c3 B T E v ws A3 (hs4.below hb) (hrf.below hb) (by have := HN2.out; omega))
    obtain ⟨hcp1, _⟩ := hcp
    rw [← hw4, ← hR]
    clear hw4 hR hbk hb34 hb24 hrf hs4 HSp HRw H3 HCp
    rcases hcp1 with ⟨Er, hEr, k1, k2⟩ | ⟨qs, d, m, hm1, hm2, k1, k2⟩
    · have HC1 := Lib.hid (k1 w4 (Below.refl _ _))
      have HC2 := Lib.hid k2
      have hEr : ¬ Er = 0 := hEr
      clear k1 k2
      go_wp2_with fail
      refine Calls.mono HC1.out ?_
      rintro r w5 ⟨rfl, b5⟩
      have H5 := Lib.hid b5
      clear b5
      go_wp2_with fail
      refine Calls.mono (HC2.out w5 H5.out) ?_
      rintro r w6 ⟨rfl, b6⟩
      have H6 := Lib.hid (H5.out.trans (b6.mono H5.out.size))
      clear b6
      go_wp2_with fail
      refine Calls.mono (HSm.out w6 H6.out) ?_
      rintro r wz ⟨rfl, bz⟩
      have HZ := Lib.hid (H6.out.trans (bz.mono H6.out.size))
      clear bz
      rcases HLv.out with ⟨E2, hE2, l1, l2⟩ | ⟨qs2, d2, l1, l2⟩
      · have HL1 := Lib.hid (l1 wz HZ.out)
        have HL2 := Lib.hid l2
        have hE2 : ¬ E2 = 0 := hE2
        clear l1 l2
        go_wp2_with fail
        refine Calls.mono HL1.out ?_
        rintro r wy ⟨rfl, by1⟩
        have HY := Lib.hid (HZ.out.trans (by1.mono HZ.out.size))
        clear by1
        go_wp2_with fail
        refine Calls.mono (HL2.out wy HY.out) ?_
        rintro r wx ⟨rfl, bx⟩
        have HX := Lib.hid (H4.out.trans ((HY.out.trans (bx.mono HY.out.size)).mono H4.out.size))
        clear bx
        go_wp2_with fail
        go_ret
        exact ⟨by simp, HX.out⟩
      · have HL1 := Lib.hid (l1 wz HZ.out)
        have HL2 := Lib.hid (show ∀ W, Below w4.heap.size w4 W → Calls Try.prog 10 #[.pointer (some ⟨R, 0, none⟩), .slice A2 M c2, .int .i64 8192] W (fun r w' => ∃ (N : Nat) (A : Option Addr) (nc : Nat) (A2 : Option Addr) (c2 : Nat), r = .returned (.tuple #[.pointer (some ⟨N, 0, none⟩), .slice A2 M c2, .int .i64 0]) ∧ RefAt w' N A nc d2.T 0 d2.top 8192 ∧ d2.T.length = 8192 ∧ qs2.length = M ∧ Rd zV w' w'.heap.size A2 (backZ qs2) ∧ Below W.heap.size W w') from l2)
        clear l1 l2
        go_wp2_with fail
        refine Calls.mono HL1.out ?_
        rintro r wy ⟨rfl, by1⟩
        have HY := Lib.hid (HZ.out.trans (by1.mono HZ.out.size))
        clear by1
        go_wp2_with fail
        refine Calls.mono (HL2.out wy HY.out) ?_
        rintro r wx ⟨N9, A9, nc9, A8, c8, rfl, hr9, _, _, _, bx⟩
        have HX := Lib.hid (H4.out.trans ((HY.out.trans (bx.mono HY.out.size)).mono H4.out.size))
        have t9 := hr9.four.2.2.1
        have hN9 := hr9.blk.lt
        clear bx hr9
        go_wp2_with fail
        go_ret
        exact ⟨by simp, HX.out⟩
    · have HC1 := Lib.hid (show Calls Try.prog 9 #[.pointer (some ⟨s, 0, none⟩), .slice A2 M c2, .int .i64 words] w4 (fun r w' => ∃ s' g' v' q, r = .returned (.tuple #[.pointer (some ⟨s', 0, none⟩), .slice (some ⟨q, 0, none⟩) M M, .int .i64 0]) ∧ SpAt w' w4.heap.size s' g' v' d.T 0 d.top m ∧ d.T.length = m ∧ Ow zV 3 w' w4.heap.size (.slice (some ⟨q, 0, none⟩) M M) (backZ qs) ∧ Below w4.heap.size w4 w') from k1 w4 (Below.refl _ _))
      have HC2 := Lib.hid (show ∀ W, Below w4.heap.size w4 W → Calls Try.prog 10 #[.pointer (some ⟨R, 0, none⟩), .slice A2 M c2, .int .i64 words] W (fun r w' => ∃ (N : Nat) (A : Option Addr) (nc : Nat) (A2 : Option Addr) (c2 : Nat), r = .returned (.tuple #[.pointer (some ⟨N, 0, none⟩), .slice A2 M c2, .int .i64 0]) ∧ RefAt w' N A nc d.T 0 d.top m ∧ d.T.length = m ∧ qs.length = M ∧ Rd zV w' w'.heap.size A2 (backZ qs) ∧ Below W.heap.size W w') from k2)
      have hm8 : m ≤ 8192 := hm2
      clear k1 k2 hm1 hm2
      go_wp2_with fail
      refine Calls.mono HC1.out ?_
      rintro r w5 ⟨s5, g5, v5, q5, rfl, hs5, hl5, ho5, b5⟩
      have H5 := Lib.hid (And.intro b5 (And.intro hs5 (And.intro ho5 hl5)))
      clear b5 hs5 ho5 hl5
      go_wp2_with fail
      refine Calls.mono (HC2.out w5 H5.out.1) ?_
      rintro r w6 ⟨N6, A6, n6, A7, c7, rfl, hr6, hl6, hq6, hrd6, b6⟩
      have H6 := Lib.hid (H5.out.1.trans (b6.mono H5.out.1.size))
      have hbl : M = (backZ qs).length := by simp [backZ, hq6]
      have HSm2 := Lib.hid (fun W (hb : Below w6.heap.size w6 W) => same15_t W w4.heap.size s5 g5 N6 n6 0 d.top m v5 d.T A6 ((H5.out.2.1.below b6).below hb) (hr6.below hb) (by omega))
      have hro : Rd zV w6 w6.heap.size (some ⟨q5, 0, none⟩) (backZ qs) := by
        have h3 : Ow zV 3 w5 w4.heap.size (.slice (some ⟨q5, 0, none⟩) (backZ qs).length M) (backZ qs) := by rw [← hbl]; exact H5.out.2.2.1
        exact (h3.rd.below b6).more b6.size
      have HIn := Lib.hid (fun W (hb : Below w6.heap.size w6 W) => ints_z W (some ⟨q5, 0, none⟩) A7 M c7 M (backZ qs) hbl HN2.out.2 ((hro.below hb).more hb.size) ((hrd6.below hb).more hb.size))
      clear b6 hr6 hl6 hq6 hrd6 hbl hro
      go_wp2_with fail
      refine Calls.mono (HSm.out w6 H6.out) ?_
      rintro r w7 ⟨rfl, b7⟩
      have H7 := Lib.hid b7
      clear b7
      go_wp2_with fail
      refine Calls.mono (HSm2.out w7 H7.out) ?_
      rintro r w8 ⟨rfl, b8⟩
      have H8 := Lib.hid (H7.out.trans (b8.mono H7.out.size))
      clear b8
      go_wp2_with fail
      refine Calls.mono (HIn.out w8 H8.out) ?_
      rintro r wz ⟨rfl, bz⟩
      have H9 := H8.out.trans (bz.mono H8.out.size)
      have HZ := Lib.hid (H6.out.trans (H9.mono H6.out.size))
      clear bz H9
      rcases HLv.out with ⟨E2, hE2, l1, l2⟩ | ⟨qs2, d2, l1, l2⟩
      · have HL1 := Lib.hid (l1 wz HZ.out)
        have HL2 := Lib.hid l2
        have hE2 : ¬ E2 = 0 := hE2
        clear l1 l2
        go_wp2_with fail
        refine Calls.mono HL1.out ?_
        rintro r wy ⟨rfl, by1⟩
        have HY := Lib.hid (HZ.out.trans (by1.mono HZ.out.size))
        clear by1
        go_wp2_with fail
        refine Calls.mono (HL2.out wy HY.out) ?_
        rintro r wx ⟨rfl, bx⟩
        have HX := Lib.hid (H4.out.trans ((HY.out.trans (bx.mono HY.out.size)).mono H4.out.size))
        clear bx
        go_wp2_with fail
        go_ret
        exact ⟨by simp, HX.out⟩
      · have HL1 := Lib.hid (l1 wz HZ.out)
        have HL2 := Lib.hid (show ∀ W, Below w4.heap.size w4 W → Calls Try.prog 10 #[.pointer (some ⟨R, 0, none⟩), .slice A2 M c2, .int .i64 8192] W (fun r w' => ∃ (N : Nat) (A : Option Addr) (nc : Nat) (A2 : Option Addr) (c2 : Nat), r = .returned (.tuple #[.pointer (some ⟨N, 0, none⟩), .slice A2 M c2, .int .i64 0]) ∧ RefAt w' N A nc d2.T 0 d2.top 8192 ∧ d2.T.length = 8192 ∧ qs2.length = M ∧ Rd zV w' w'.heap.size A2 (backZ qs2) ∧ Below W.heap.size W w') from l2)
        clear l1 l2
        go_wp2_with fail
        refine Calls.mono HL1.out ?_
        rintro r wy ⟨rfl, by1⟩
        have HY := Lib.hid (HZ.out.trans (by1.mono HZ.out.size))
        clear by1
        go_wp2_with fail
        refine Calls.mono (HL2.out wy HY.out) ?_
        rintro r wx ⟨N9, A9, nc9, A8, c8, rfl, hr9, _, _, _, bx⟩
        have HX := Lib.hid (H4.out.trans ((HY.out.trans (bx.mono HY.out.size)).mono H4.out.size))
        have t9 := hr9.four.2.2.1
        have hN9 := hr9.blk.lt
        clear bx hr9
        go_wp2_with fail
        go_ret
        exact ⟨by simp, HX.out⟩
theorem any_walk (w : World) (A : Option Addr) (ws : List (BitVec 64)) (c : Nat) (_g : ws.length ≤ c) (_m : c ≤ maxLen) (hr : Rd u64v w w.heap.size A ws) (b : Int) (_w1 : (Lit.int .i64 b).wf = true) (t : Int) (_w2 : (Lit.int .i64 t).wf = true) (A2 : Option Addr) (roots : List Int) (c2 : Nat) (_g2 : roots.length ≤ c2) (_m2 : c2 ≤ maxLen) (hr2 : Rd inV w w.heap.size A2 roots ∧ ∀ x ∈ roots, (Lit.int .i64 x).wf = true) (words : Int) (_w3 : (Lit.int .i64 words).wf = true) :
    Calls Try.prog 3 #[.slice A ws.length c, .int .i64 b, .int .i64 t, .slice A2 roots.length c2, .int .i64 words] w (RetP (.bool true) w) := by
  by_cases h1 : 250 < ws.length ∨ 30 < roots.length ∨ (400 < words ∧ words ≤ 8192)
  · exact any_lim w A ws c _g _m hr b _w1 t _w2 A2 roots c2 _g2 _m2 hr2 words _w3 h1
  · by_cases h3 : 400 < words
    · exact any_d2 w A ws c _g _m hr b _w1 t _w2 A2 roots c2 _g2 _m2 hr2 words _w3 (by omega) (by omega) h3 (by omega)
    · exact any_d1 w A ws c _g _m hr b _w1 t _w2 A2 roots c2 _g2 _m2 hr2 words _w3 (by omega) (by omega) h3
end Go.Proofs.Ytlibcpboooehlaa
namespace Go.Proofs.Ytlibcpboooehlaa.copyAny
open Go.ChangeShapes Go.WideShapes Go.ChangeAt Go.RowKit
open Go.ChangeMaps (open_string shut_string)
set_option linter.unusedVariables false
set_option maxRecDepth 100000 in
theorem lifted (os : Os) (started : os.Started) (H : Type) (enc : TypeId × Value → H) :
    ReturnsInHanded {} Try.checked os 3 .any (Rows.copyAnySpec.pre6 enc Try.prog Try.f3 Rows.copyAnyRow.domain false) (Rows.copyAnySpec.post enc Try.prog Try.f3 false true false false) := by
  refine returnsInHanded_of_change (C := Try.checked) own started (by kernel_rfl) Try.func3
    (ChangeSpec.witness6 (enc := enc) (C := Try.checked) false ⟨#[], #[.slice none 0 0, .int .i64 0, .int .i64 0, .slice none 0 0, .int .i64 0], []⟩ 8 (by kernel_rfl) (by kernel_rfl) (by kernel_rfl) (by kernel_rfl)) ?_
  intro W base args ds gs before hval0 hW hcnd _
  have hval : ∀ (j : Nat) t v, Try.f3.params[j]? = some t → args[j]? = some v → Value.okWide Try.prog W .any base t v := hval0
  have hW' := hW
  obtain ⟨p, q, hA0, hV, rfl, hfz, hnd⟩ := hW
  have hA : DataW.TrodAll enc Try.prog W 0 (fun _ => true) true Try.f3.params.toList args.toList ds p := hA0
  rw [Try.params3] at hA hval
  obtain ⟨v0, vs0, d0, ds0, p0, q0, hargs, rfl, rfl, h0, r0⟩ := trodAll_cons hA
  obtain ⟨v1, vs1, d1, ds1, p1, q1, rfl, rfl, rfl, h1, r1⟩ := trodAll_cons r0
  obtain ⟨v2, vs2, d2, ds2, p2, q2, rfl, rfl, rfl, h2, r2⟩ := trodAll_cons r1
  obtain ⟨v3, vs3, d3, ds3, p3, q3, rfl, rfl, rfl, h3, r3⟩ := trodAll_cons r2
  obtain ⟨v4, vs4, d4, ds4, p4, q4, rfl, rfl, rfl, h4, r4⟩ := trodAll_cons r3
  obtain ⟨rfl, rfl, rfl⟩ := trodAll_nil r4
  obtain rfl : args = #[v0, v1, v2, v3, v4] := by cases args; simp_all
  obtain ⟨rfl, rfl⟩ := trodVars_none hV
  have k0 := h0
  have lt0 : ∀ x ∈ p0, x.block < W.heap.size := by obtain ⟨m, hm⟩ := k0; exact DataW.trod_lt m _ _ _ hm
  obtain ⟨A0, a0, c0, e0v, g0, m0, w0⟩ := open_words Try.underlying22 Try.underlying44 (by kernel_rfl) (hval 0 22 v0 rfl rfl) h0; subst e0v
  have k1 := h1
  have lt1 : ∀ x ∈ p1, x.block < W.heap.size := by obtain ⟨m, hm⟩ := k1; exact DataW.trod_lt m _ _ _ hm
  obtain ⟨a1, e1v, _, _, w1⟩ := open_int Try.underlying3 (hval 1 3 v1 rfl rfl) h1; subst e1v
  have k2 := h2
  have lt2 : ∀ x ∈ p2, x.block < W.heap.size := by obtain ⟨m, hm⟩ := k2; exact DataW.trod_lt m _ _ _ hm
  obtain ⟨a2, e2v, _, _, w2⟩ := open_int Try.underlying3 (hval 2 3 v2 rfl rfl) h2; subst e2v
  have k3 := h3
  have lt3 : ∀ x ∈ p3, x.block < W.heap.size := by obtain ⟨m, hm⟩ := k3; exact DataW.trod_lt m _ _ _ hm
  obtain ⟨A3, a3, c3, e3v, g3, m3, w3⟩ := open_intz Try.underlying23 Try.underlying3 (by kernel_rfl) (hval 3 23 v3 rfl rfl) h3; subst e3v
  have k4 := h4
  have lt4 : ∀ x ∈ p4, x.block < W.heap.size := by obtain ⟨m, hm⟩ := k4; exact DataW.trod_lt m _ _ _ hm
  obtain ⟨a4, e4v, _, _, w4⟩ := open_int Try.underlying3 (hval 4 3 v4 rfl rfl) h4; subst e4v
  clear hA0 hval0
  refine (any_walk W A0 a0 c0 g0 m0 w0 a1 w1 a2 w2 A3 a3 c3 g3 m3 w3 a4 w4).mono fun e W' ⟨he, bel⟩ => ?_
  subst he
  exact ⟨_, rfl, _, _, _, [], _, [], hW', trodAll_mk1 (shut_bool Try.underlying4 _), (trodAll_cons_mk (Below.trod laidOut (by kernel_rfl) (of_decide_eq_true (by kernel_rfl)) k0 bel lt0) (trodAll_cons_mk (Below.trod laidOut (by kernel_rfl) (of_decide_eq_true (by kernel_rfl)) k1 bel lt1) (trodAll_cons_mk (Below.trod laidOut (by kernel_rfl) (of_decide_eq_true (by kernel_rfl)) k2 bel lt2) (trodAll_cons_mk (Below.trod laidOut (by kernel_rfl) (of_decide_eq_true (by kernel_rfl)) k3 bel lt3) (trodAll_cons_mk (Below.trod laidOut (by kernel_rfl) (of_decide_eq_true (by kernel_rfl)) k4 bel lt4) trodAll_mk0))))), rfl, bel.frame _, fun h => by cases h⟩
theorem over : Rows.copyAnyRow.holds Try.pinned (OpenSpec.ofChange Rows.copyAnySpec) :=
  OpenClaim.holds_of_wide 3 Try.f3 rfl rfl rfl rfl rfl rfl rfl ⟨rfl, rfl, rfl, rfl, rfl⟩ rfl rfl rfl rfl rfl (by kernel_rfl) Try.func3 (by kernel_rfl)
    (of_decide_eq_true (by kernel_rfl)) (by unfold Func.isWrapper; first | (rw [if_pos (by decide +kernel)]; kernel_rfl) | (rw [if_neg (by decide +kernel)]; exact ⟨rfl, rfl⟩))
    (fun os started H enc _ => lifted os started H enc)
theorem proved : Rows.CopyAnySaid := over
end Go.Proofs.Ytlibcpboooehlaa.copyAny
