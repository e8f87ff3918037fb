/- Texts joined: Open8 LawJ5a LawJ5b LawJ5c. -/
import Derived.Test.YtbanbpphadgoiaaZb10
import Derived.Test.YtbanbpphadgoiaaFrame
import Derived.Test.YtbanbpphadgoiaaMem
import Derived.Deep.Grids
/- How arguments of type []int8 are opened. No conditions. -/
namespace Go.Proofs.Ytbanbpphadgoiaa
set_option linter.unusedVariables false
set_option linter.unusedSimpArgs false
open Go.ChangeShapes Go.WideShapes Go.ChangeAt Go.RowKit
def i8V (k : Int) : Value := .int .i8 k
theorem open_int8z {H : Type} {enc : TypeId × Value → H} {P : Program} {W : World} {base : Nat} {sp : Nat → Bool} {hd : Bool} {r : Reach} {b0 : Nat} {t e : TypeId} {v : Value} {d : DataW H} {p : List MemPlace}
    (ht : P.underlying t = some (.slice e)) (he : P.underlying e = some (.int .i8)) (hc : P.cellsOf e = 1)
    (hv : Value.okWide P W r b0 t v) (h : DataW.Trod enc P W base sp hd t v d p) :
    ∃ (A : Option Addr) (bs : List Int) (c : Nat), v = .slice A bs.length c ∧ bs.length ≤ c ∧ c ≤ maxLen ∧ (Rd i8V W W.heap.size A bs ∧ ∀ x ∈ bs, (Lit.int .i8 x).wf = true) := by
  obtain ⟨a0, len, cap, rfl⟩ := okWide_slice ht hv
  obtain ⟨fuel, hf⟩ := h
  rcases open_ints ht he hc hf with ⟨hcs, _⟩ | ⟨x, l, c, zs, hcs, _, hl, hm, hz, _, hcell, hwz⟩
  · simp [Value.cells] at hcs
    obtain ⟨rfl, rfl, rfl⟩ := hcs
    exact ⟨none, [], 0, rfl, Nat.le_refl _, by simp [maxLen], Rd.nil, fun x hx => by cases hx⟩
  · simp [Value.cells] at hcs
    obtain ⟨rfl, rfl, rfl⟩ := hcs
    have hlen : len ≤ zs.length := by rw [hz]; split <;> omega
    refine ⟨some x, zs.take len, cap, by simp; omega, by simp; omega, hm, fun j hj => ?_, fun y hy => hwz y (List.mem_of_mem_take hy)⟩
    have hj' : j < len := by simp at hj; omega
    have hc1 := hcell j (by omega)
    have hb := cell_lt hc1
    rw [add_block] at hb
    refine ⟨x, rfl, hb, ?_⟩
    rw [hc1, List.getD_eq_getElem?_getD, List.getElem?_eq_getElem (by omega)]
    simp [i8V]
end Go.Proofs.Ytbanbpphadgoiaa
/- Part of the law StepPlays: limits, and a room too great. No conditions. -/
namespace Go.Proofs.Ytbanbpphadgoiaa
set_option linter.unusedVariables false
set_option linter.unusedSimpArgs false
open Go.RowKit Go.Maps
set_option maxHeartbeats 16000000
set_option maxRecDepth 100000
theorem i8I {n : Int} (h : (Lit.int .i8 n).wf = true) : -128 ≤ n ∧ n ≤ 127 := by
  simp [Lit.wf, IntKind.min, IntKind.max, IntKind.signed, IntKind.bits] at h
  omega
theorem pl_lim (w : World) (A : Option Addr) (ws : List (BitVec 64)) (c : Nat) (_g : ws.length ≤ c) (_m : c ≤ maxLen) (hr : Rd u64v w w.heap.size A ws) (b : Int) (_w1 : (Lit.int .i64 b).wf = true) (t : Int) (_w2 : (Lit.int .i64 t).wf = true) (A2 : Option Addr) (roots : List Int) (c2 : Nat) (_g2 : roots.length ≤ c2) (_m2 : c2 ≤ maxLen) (hr2 : Rd inV w w.heap.size A2 roots ∧ ∀ x ∈ roots, (Lit.int .i64 x).wf = true) (words : Int) (_w3 : (Lit.int .i64 words).wf = true) (Al : Option Addr) (ls : List Int) (cl : Nat) (_g3 : ls.length ≤ cl) (_m3 : cl ≤ maxLen) (hr3 : Rd i8V w w.heap.size Al ls ∧ ∀ x ∈ ls, (Lit.int .i8 x).wf = true) (hlim : 250 < ws.length ∨ 30 < roots.length ∨ 60 < ls.length ∨ (400 < words ∧ words ≤ 8192)) :
    Calls Try.prog 3 #[.slice A ws.length c, .int .i64 b, .int .i64 t, .slice A2 roots.length c2, .int .i64 words, .slice Al ls.length cl] w (RetP (.bool true) w) := by
  have HK := Lib.hid (known22_c w)
  obtain ⟨N, hN⟩ : ∃ N, N = ws.length := ⟨_, rfl⟩
  obtain ⟨M, hM⟩ : ∃ N, N = roots.length := ⟨_, rfl⟩
  obtain ⟨L, hL⟩ : ∃ N, N = ls.length := ⟨_, rfl⟩
  have hNm : (N : Int) ≤ 9223372036854775807 := by have h1 := _g; have h2 := _m; simp [maxLen] at h2; omega
  have hMm : (M : Int) ≤ 9223372036854775807 := by have h1 := _g2; have h2 := _m2; simp [maxLen] at h2; omega
  have hLm : (L : Int) ≤ 9223372036854775807 := by have h1 := _g3; have h2 := _m3; simp [maxLen] at h2; omega
  rw [← hN, ← hM, ← hL] at hlim ⊢
  clear _g _m hr _w1 _w2 _g2 _m2 hr2 hN hM hL _w3 _g3 _m3 hr3
  go_enter Try.func3, Try.ntmps3
  go_wp2_with fail
  refine Calls.mono HK.out ?_
  rintro r w1 ⟨rfl, b1⟩
  have HB1 := Lib.hid b1
  clear b1
  by_cases q1 : (250 : Int) < (N : Int)
  · clear hlim
    go_wp2_with fail
    go_ret
    exact ⟨rfl, HB1.out⟩
  · by_cases q2 : (30 : Int) < (M : Int)
    · clear hlim
      go_wp2_with fail
      go_ret
      exact ⟨rfl, HB1.out⟩
    · by_cases q5 : (60 : Int) < (L : Int)
      · clear hlim
        go_wp2_with fail
        go_ret
        exact ⟨rfl, HB1.out⟩
      · have q3 : 400 < words := by omega
        have q4 : words ≤ 8192 := by omega
        clear hlim
        go_wp2_with fail
        go_ret
        exact ⟨rfl, HB1.out⟩
theorem pl_d2 (w : World) (A : Option Addr) (ws : List (BitVec 64)) (c : Nat) (_g : ws.length ≤ c) (_m : c ≤ maxLen) (hr : Rd u64v w w.heap.size A ws) (b : Int) (_w1 : (Lit.int .i64 b).wf = true) (t : Int) (_w2 : (Lit.int .i64 t).wf = true) (A2 : Option Addr) (roots : List Int) (c2 : Nat) (_g2 : roots.length ≤ c2) (_m2 : c2 ≤ maxLen) (hr2 : Rd inV w w.heap.size A2 roots ∧ ∀ x ∈ roots, (Lit.int .i64 x).wf = true) (words : Int) (_w3 : (Lit.int .i64 words).wf = true) (Al : Option Addr) (ls : List Int) (cl : Nat) (_g3 : ls.length ≤ cl) (_m3 : cl ≤ maxLen) (hr3 : Rd i8V w w.heap.size Al ls ∧ ∀ x ∈ ls, (Lit.int .i8 x).wf = true) (h1 : ws.length ≤ 250) (h2 : roots.length ≤ 30) (h6 : ls.length ≤ 60) (h3 : 400 < words) (h4 : ¬ words ≤ 8192) :
    Calls Try.prog 3 #[.slice A ws.length c, .int .i64 b, .int .i64 t, .slice A2 roots.length c2, .int .i64 words, .slice Al ls.length cl] w (RetP (.bool true) w) := by
  have HK := Lib.hid (known22_c w)
  have HR := Lib.hid hr
  have HR2 := Lib.hid (show Rd zV w w.heap.size A2 roots ∧ ∀ x ∈ roots, kW x from hr2)
  have HR3 := Lib.hid hr3
  have HkW := Lib.hid (show kW words from _w3)
  obtain ⟨N, hN⟩ : ∃ N, N = ws.length := ⟨_, rfl⟩
  obtain ⟨M, hM⟩ : ∃ N, N = roots.length := ⟨_, rfl⟩
  obtain ⟨L, hL⟩ : ∃ N, N = ls.length := ⟨_, rfl⟩
  rw [← hN] at h1
  rw [← hM] at h2
  rw [← hL] at h6
  have q1 : ¬ (250 : Int) < (N : Int) := by omega
  have q2 : ¬ (30 : Int) < (M : Int) := by omega
  have q3 : ¬ (60 : Int) < (L : Int) := by omega
  have q4 : (L : Int) ≤ 60 := by omega
  have HTo := Lib.hid (fun W hr => to_c W A ws c hr (by omega) b t (ws.length : Int))
  have HCp := Lib.hid (fun (W : World) (B s g R : Nat) (v : Value) (b t e : Nat) (A0 : Option Addr) (c0 : Nat) (l : List Nat) (p : SpAt W B s g v ws b t e) (q : RefAt W R A0 c0 ws b t e) (ho : objF ws t (t + 1) b = some l) (hr : Rd zV W W.heap.size A2 roots) => nw_both (c2 := c2) p q (by omega) ho hr (by omega) HR2.out.2 words HkW.out)
  have HNl := Lib.hid (And.intro hN (And.intro hM hL))
  have HNle := Lib.hid (show ([] : List (BitVec 64)).length + ws.length ≤ 4294967296 by simp; omega)
  have HN2 := Lib.hid (show ws.length ≤ 8192 ∧ M ≤ 1000 ∧ L ≤ 60 by omega)
  have HL3 := Lib.hid h4
  rw [← hN] at HTo ⊢
  rw [← hM] at HCp ⊢
  rw [← hL]
  clear hN hM hL h1 h2 h6 _g _m hr _w1 _w2 _g2 _m2 hr2 _w3 _g3 _m3 hr3
  go_enter Try.func3, Try.ntmps3
  go_wp2_with fail
  refine Calls.mono HK.out ?_
  rintro r w1 ⟨rfl, b1⟩
  have HB1 := Lib.hid b1
  clear b1
  go_wp2_with fail
  refine Calls.mono (HTo.out w1 ((HR.out.below HB1.out).more HB1.out.size)) ?_
  rintro r w2 (⟨rfl, b2⟩ | ⟨B, T, E, s, g, v, l, rfl, rfl, hE, hBT, hTE, hEl, hob, rfl, hsp, b2⟩)
  · have HB2 := Lib.hid (HB1.out.trans (b2.mono HB1.out.size))
    clear b2
    go_wp2_with fail
    go_ret
    exact ⟨rfl, HB2.out⟩
  · have HB2 := Lib.hid (HB1.out.trans (b2.mono HB1.out.size))
    have hEN : E = N := by omega
    subst hEN
    have HSp0 := Lib.hid (And.intro hsp (And.intro hob (And.intro hBT hTE)))
    have HRw := Lib.hid ((HR.out.below HB2.out).more HB2.out.size)
    clear b2 hsp hE hBT hTE hEl hob HTo HK HB1
    go_wp2_with (at_builtin; refine wp_app one64 u64v_one rfl (.tmp 66) (.tmp 67) rfl w2.heap.size _ [] rfl (ow_empty u64v 62 w2 w2.heap.size (Nat.le_refl _)) A E c ws rfl HNl.out.1 w2.heap.size (HRw.out.alloc (Nat.le_refl _) _) HNle.out (by decide) (by simp) ?_; intro v3 w3 ho3 hb3 hg3 hv3; rw [List.nil_append] at ho3; obtain ⟨A3, c3, e3, _⟩ := ho3.form; rw [← HNl.out.1] at e3; subst e3; have H3 := Lib.hid (And.intro ho3 ((Gw.alloc w2 _).trans hb3)); clear ho3 hb3 hg3 hv3)
    obtain ⟨N0, hR⟩ : ∃ H, H = w3.heap.size := ⟨_, rfl⟩
    obtain ⟨w4, hw4⟩ : ∃ w4, w4 = w3.alloc (.cells #[.slice A3 E c3, .int .i64 (B : Int), .int .i64 (T : Int), .int .i64 (E : Int)] 30) := ⟨_, rfl⟩
    have hbk : Bk w4 N0 30 #[.slice A3 E c3, .int .i64 (B : Int), .int .i64 (T : Int), .int .i64 (E : Int)] := by rw [hw4, hR]; exact Bk.new w3 _ _
    have hb34 : Below w3.heap.size w3 w4 := by rw [hw4]; exact Gw.alloc w3 _
    have hb24 : Below w2.heap.size w2 w4 := H3.out.2.trans (hb34.mono H3.out.2.size)
    have hrf : RefAt w4 N0 A3 c3 ws B T E := ⟨by rw [← HNl.out.1]; exact hbk, by
      have h3 : Ow u64v 62 w3 w2.heap.size (.slice A3 ws.length c3) ws := by rw [← HNl.out.1]; exact H3.out.1
      exact (h3.rd.below hb34).more hb34.size⟩
    have hs4 := HSp0.out.1.below hb24
    have H4 := Lib.hid (HB2.out.trans (hb24.mono HB2.out.size))
    have hcp := HCp.out w4 w1.heap.size s g N0 v B T E A3 c3 l hs4 hrf HSp0.out.2.1 ((HR2.out.1.below H4.out).more H4.out.size)
    have HSm := Lib.hid (fun W (hb : Below w4.heap.size w4 W) => same15_t W w1.heap.size s g N0 c3 B T E v ws A3 (hs4.below hb) (hrf.below hb) (by have := HN2.out; omega))
    have HSp := Lib.hid (And.intro hs4 hrf)
    rw [← hw4, ← hR]
    clear hw4 hR hbk hb34 hb24 hrf hs4 HRw H3 HCp
    rcases hcp with ⟨Er, hEr, hE6, k1, k2⟩ | ⟨m, hm1, hm2, hOk, hwl, hra, k1, k2⟩
    · have HC1 := Lib.hid (k1 w4 (Below.refl _ _))
      have HC2 := Lib.hid k2
      have hB0 : (Er != 0) = true := by simpa using hEr
      have hB6 : (Er != 6) = true := by simpa using hE6
      have hEr : ¬ Er = 0 := hEr
      have hE6 : ¬ Er = 6 := hE6
      clear k1 k2
      go_wp2_with fail
      refine Calls.mono HC1.out ?_
      rintro r w5 ⟨rfl, b5⟩
      have H5 := Lib.hid b5
      clear b5
      go_wp2_with fail
      refine Calls.mono (HC2.out w5 H5.out) ?_
      rintro r w6 ⟨rfl, b6⟩
      have H6 := Lib.hid (H4.out.trans ((H5.out.trans (b6.mono H5.out.size)).mono H4.out.size))
      clear b6
      go_wp2_with fail
      go_ret
      exact ⟨rfl, H6.out⟩
    · exact absurd hm2 (by have := HL3.out; omega)
end Go.Proofs.Ytbanbpphadgoiaa
/- Part of the law StepPlays. No conditions. -/
namespace Go.Proofs.Ytbanbpphadgoiaa
set_option linter.unusedVariables false
set_option linter.unusedSimpArgs false
open Go.RowKit Go.Maps
set_option maxHeartbeats 16000000
set_option maxRecDepth 100000
theorem pl_d6 (w : World) (A : Option Addr) (ws : List (BitVec 64)) (c : Nat) (_g : ws.length ≤ c) (_m : c ≤ maxLen) (hr : Rd u64v w w.heap.size A ws) (b : Int) (_w1 : (Lit.int .i64 b).wf = true) (t : Int) (_w2 : (Lit.int .i64 t).wf = true) (A2 : Option Addr) (roots : List Int) (c2 : Nat) (_g2 : roots.length ≤ c2) (_m2 : c2 ≤ maxLen) (hr2 : Rd inV w w.heap.size A2 roots ∧ ∀ x ∈ roots, (Lit.int .i64 x).wf = true) (words : Int) (_w3 : (Lit.int .i64 words).wf = true) (Al : Option Addr) (ls : List Int) (cl : Nat) (_g3 : ls.length ≤ cl) (_m3 : cl ≤ maxLen) (hr3 : Rd i8V w w.heap.size Al ls ∧ ∀ x ∈ ls, (Lit.int .i8 x).wf = true) (h1 : ws.length ≤ 250) (h2 : roots.length ≤ 30) (h6 : ls.length ≤ 60) (h3 : ¬ 400 < words) (hz : copyC ws words.toNat (roots.map rootP) = none) :
    Calls Try.prog 3 #[.slice A ws.length c, .int .i64 b, .int .i64 t, .slice A2 roots.length c2, .int .i64 words, .slice Al ls.length cl] w (RetP (.bool true) w) := by
  have HK := Lib.hid (known22_c w)
  have HR := Lib.hid hr
  have HR2 := Lib.hid (show Rd zV w w.heap.size A2 roots ∧ ∀ x ∈ roots, kW x from hr2)
  have HR3 := Lib.hid hr3
  have HkW := Lib.hid (show kW words from _w3)
  obtain ⟨N, hN⟩ : ∃ N, N = ws.length := ⟨_, rfl⟩
  obtain ⟨M, hM⟩ : ∃ N, N = roots.length := ⟨_, rfl⟩
  obtain ⟨L, hL⟩ : ∃ N, N = ls.length := ⟨_, rfl⟩
  rw [← hN] at h1
  rw [← hM] at h2
  rw [← hL] at h6
  have q1 : ¬ (250 : Int) < (N : Int) := by omega
  have q2 : ¬ (30 : Int) < (M : Int) := by omega
  have q3 : ¬ (60 : Int) < (L : Int) := by omega
  have q4 : (L : Int) ≤ 60 := by omega
  have HTo := Lib.hid (fun W hr => to_c W A ws c hr (by omega) b t (ws.length : Int))
  have HCp := Lib.hid (fun (W : World) (B s g R : Nat) (v : Value) (b t e : Nat) (A0 : Option Addr) (c0 : Nat) (l : List Nat) (p : SpAt W B s g v ws b t e) (q : RefAt W R A0 c0 ws b t e) (ho : objF ws t (t + 1) b = some l) (hr : Rd zV W W.heap.size A2 roots) => nw_both (c2 := c2) p q (by omega) ho hr (by omega) HR2.out.2 words HkW.out)
  have HNl := Lib.hid (And.intro hN (And.intro hM hL))
  have HNle := Lib.hid (show ([] : List (BitVec 64)).length + ws.length ≤ 4294967296 by simp; omega)
  have HN2 := Lib.hid (show ws.length ≤ 8192 ∧ M ≤ 1000 ∧ L ≤ 60 by omega)
  have HL3 := Lib.hid h3
  rw [← hN] at HTo ⊢
  rw [← hM] at HCp ⊢
  rw [← hL]
  clear hN hM hL h1 h2 h6 _g _m hr _w1 _w2 _g2 _m2 hr2 _w3 _g3 _m3 hr3
  go_enter Try.func3, Try.ntmps3
  go_wp2_with fail
  refine Calls.mono HK.out ?_
  rintro r w1 ⟨rfl, b1⟩
  have HB1 := Lib.hid b1
  clear b1
  go_wp2_with fail
  refine Calls.mono (HTo.out w1 ((HR.out.below HB1.out).more HB1.out.size)) ?_
  rintro r w2 (⟨rfl, b2⟩ | ⟨B, T, E, s, g, v, l, rfl, rfl, hE, hBT, hTE, hEl, hob, rfl, hsp, b2⟩)
  · have HB2 := Lib.hid (HB1.out.trans (b2.mono HB1.out.size))
    clear b2
    go_wp2_with fail
    go_ret
    exact ⟨rfl, HB2.out⟩
  · have HB2 := Lib.hid (HB1.out.trans (b2.mono HB1.out.size))
    have hEN : E = N := by omega
    subst hEN
    have HSp0 := Lib.hid (And.intro hsp (And.intro hob (And.intro hBT hTE)))
    have HRw := Lib.hid ((HR.out.below HB2.out).more HB2.out.size)
    clear b2 hsp hE hBT hTE hEl hob HTo HK HB1
    go_wp2_with (at_builtin; refine wp_app one64 u64v_one rfl (.tmp 66) (.tmp 67) rfl w2.heap.size _ [] rfl (ow_empty u64v 62 w2 w2.heap.size (Nat.le_refl _)) A E c ws rfl HNl.out.1 w2.heap.size (HRw.out.alloc (Nat.le_refl _) _) HNle.out (by decide) (by simp) ?_; intro v3 w3 ho3 hb3 hg3 hv3; rw [List.nil_append] at ho3; obtain ⟨A3, c3, e3, _⟩ := ho3.form; rw [← HNl.out.1] at e3; subst e3; have H3 := Lib.hid (And.intro ho3 ((Gw.alloc w2 _).trans hb3)); clear ho3 hb3 hg3 hv3)
    obtain ⟨N0, hR⟩ : ∃ H, H = w3.heap.size := ⟨_, rfl⟩
    obtain ⟨w4, hw4⟩ : ∃ w4, w4 = w3.alloc (.cells #[.slice A3 E c3, .int .i64 (B : Int), .int .i64 (T : Int), .int .i64 (E : Int)] 30) := ⟨_, rfl⟩
    have hbk : Bk w4 N0 30 #[.slice A3 E c3, .int .i64 (B : Int), .int .i64 (T : Int), .int .i64 (E : Int)] := by rw [hw4, hR]; exact Bk.new w3 _ _
    have hb34 : Below w3.heap.size w3 w4 := by rw [hw4]; exact Gw.alloc w3 _
    have hb24 : Below w2.heap.size w2 w4 := H3.out.2.trans (hb34.mono H3.out.2.size)
    have hrf : RefAt w4 N0 A3 c3 ws B T E := ⟨by rw [← HNl.out.1]; exact hbk, by
      have h3 : Ow u64v 62 w3 w2.heap.size (.slice A3 ws.length c3) ws := by rw [← HNl.out.1]; exact H3.out.1
      exact (h3.rd.below hb34).more hb34.size⟩
    have hs4 := HSp0.out.1.below hb24
    have H4 := Lib.hid (HB2.out.trans (hb24.mono HB2.out.size))
    have hcp := HCp.out w4 w1.heap.size s g N0 v B T E A3 c3 l hs4 hrf HSp0.out.2.1 ((HR2.out.1.below H4.out).more H4.out.size)
    have HSm := Lib.hid (fun W (hb : Below w4.heap.size w4 W) => same15_t W w1.heap.size s g N0 c3 B T E v ws A3 (hs4.below hb) (hrf.below hb) (by have := HN2.out; omega))
    have HSp := Lib.hid (And.intro hs4 hrf)
    rw [← hw4, ← hR]
    clear hw4 hR hbk hb34 hb24 hrf hs4 HRw H3 HCp
    rcases hcp with ⟨Er, hEr, hE6, k1, k2⟩ | ⟨m, hm1, hm2, hOk, hwl, hra, k1, k2⟩
    · have HC1 := Lib.hid (k1 w4 (Below.refl _ _))
      have HC2 := Lib.hid k2
      have hB0 : (Er != 0) = true := by simpa using hEr
      have hB6 : (Er != 6) = true := by simpa using hE6
      have hEr : ¬ Er = 0 := hEr
      have hE6 : ¬ Er = 6 := hE6
      clear k1 k2
      go_wp2_with fail
      refine Calls.mono HC1.out ?_
      rintro r w5 ⟨rfl, b5⟩
      have H5 := Lib.hid b5
      clear b5
      go_wp2_with fail
      refine Calls.mono (HC2.out w5 H5.out) ?_
      rintro r w6 ⟨rfl, b6⟩
      have H6 := Lib.hid (H4.out.trans ((H5.out.trans (b6.mono H5.out.size)).mono H4.out.size))
      clear b6
      go_wp2_with fail
      go_ret
      exact ⟨rfl, H6.out⟩
    · have HF0 : Hid (∀ Br, w4.heap.size ≤ Br → PlF w4 Br N0 A3 ws B T l m A2 M roots) := Lib.hid fun Br hBr => ⟨heap_of HSp0.out.2.1 hwl (by have := HSp0.out.2.2.2; have := HNl.out.1; omega) HN2.out.1, hm2, ⟨hra, by have := HN2.out; have := HNl.out.2.1; omega⟩, HNl.out.2.1, HN2.out.2.1, (HR2.out.1.below H4.out).more H4.out.size, HSp.out.2.blk.lt, fun ad had hne => (by
        cases hws : ws with
        | nil => exact absurd hws hne
        | cons z zs =>
          obtain ⟨a2, ha2, hlt, _⟩ := HSp.out.2.rd 0 (by rw [hws]; simp)
          rw [had] at ha2
          injection ha2 with ha2
          subst ha2
          exact hlt), hBr⟩
      have HOk := Lib.hid hOk
      obtain ⟨Z, hZ⟩ : ∃ Z, Z = copyC ws m (roots.map rootP) := ⟨_, rfl⟩
      have HRun := Lib.hid (show RunR m (roots.map rootP) Z (NewS ws m) by rw [hZ]; exact run_r0)
      have hz2 : copyC ws words.toNat (roots.map rootP) = Z := by rw [hZ, hm1]; rfl
      rw [hz2] at hz
      rw [← hZ] at k2
      have HZ := Lib.hid hz
      have HC1 := Lib.hid (k1 w4 (Below.refl _ _))
      have HC2 := Lib.hid k2
      have HM := Lib.hid hm2
      have HSt := Lib.hid (fun W (hb : Below w4.heap.size w4 W) => rstart_c W N0 A3 c3 ws B T E (HSp.out.2.below hb) m hm2)
      have m0 : (0 : Int) ≤ (m : Int) := by omega
      have m8 : (m : Int) ≤ 8192 := by omega
      clear hOk hwl hra k1 k2 hm2 hZ hz hz2 HkW
      subst hm1
      have HC2n := Lib.hid (show ∀ W, Below w4.heap.size w4 W → Calls Try.prog 11 #[.pointer (some ⟨N0, 0, none⟩), .slice A2 M c2, .int .i64 (m : Int)] W (RetP (.tuple #[.pointer none, .slice none 0 0, .int .i64 6]) W) from fun W hb => by
        have h := HC2.out W hb
        rw [HZ.out] at h
        exact h)
      clear HC2
      go_wp2_with fail
      refine Calls.mono HC1.out ?_
      rintro r w5 ⟨S0, Q0, f0, xw0, rfl, hco, fb, ft, b5⟩
      have H5 := Lib.hid (And.intro b5 (And.intro hco (And.intro fb ft)))
      clear hco fb ft b5 HC1
      go_wp2_with fail
      refine Calls.mono (HC2n.out w5 H5.out.1) ?_
      rintro r w6 ⟨rfl, b6⟩
      have H6 := Lib.hid (H5.out.1.trans (b6.mono H5.out.1.size))
      have H56 := Lib.hid b6
      clear b6 HC2n
      go_wp2_with fail
      refine Calls.mono (HSt.out w6 H6.out) ?_
      rintro r w7 ⟨X, N1, q1', rfl, hrc, b7⟩
      have H7 := Lib.hid (And.intro hrc b7)
      obtain ⟨Br, hBr⟩ : ∃ Br, Br = w6.heap.size := ⟨_, rfl⟩
      have HF := Lib.hid (HF0.out Br (by rw [hBr]; exact H6.out.size))
      clear hrc b7 HSt
      go_wp2_with fail
      obtain ⟨Pb, hPb⟩ : ∃ Pb, Pb = w7.heap.size := ⟨_, rfl⟩
      obtain ⟨w8, hw8⟩ : ∃ w8, w8 = w7.alloc (.cells #[.pointer (some ⟨X, 0, none⟩), .slice A2 M c2, .slice none 0 0] 41) := ⟨_, rfl⟩
      have b78 : Below w7.heap.size w7 w8 := by rw [hw8]; exact Gw.alloc w7 _
      have HJ0 : Hid (PlJ w4 Br X N0 N1 Pb A3 c3 ws B T E l m A2 M c2 roots Z (.pointer (some ⟨Q0, 0, none⟩)) w8) := by
        have c5 := H5.out.2.1
        have b57 : Below w5.heap.size w5 w7 := H56.out.trans (H7.out.2.mono H56.out.size)
        have b58 := b57.trans (b78.mono b57.size)
        refine Lib.hid ⟨S0, Q0, f0, xw0, NewS ws m, 0, rfl, c5.below b58, H5.out.2.2.1, H5.out.2.2.2, si_start HF.out.hp HF.out.m8, HRun.out, rfl, ?_, ?_, H5.out.1.trans (b58.mono H5.out.1.size)⟩
        · have h1 := HF.out.M1
          have h2 := HF.out.M8
          have h3 := HM.out
          show 0 + (((roots.map rootP).length - 0) + (m - 0)) ≤ 1000000
          rw [List.length_map]
          omega
        · rw [hw8, hPb, hBr]
          have e : E = ws.length := HNl.out.1
          exact pa_start H7.out.1 HF.out.hp HF.out.m8 (fun k hk => Nat.lt_of_lt_of_le (c5.own k hk).2 H56.out.size)
      rw [← hw8, ← hPb]
      clear b78 hw8 hPb hBr H7 H5 H56 HF0 HRun HM H6
      go_loopw [15, 21] (fun cv iv W => ∃ i : Nat, iv = .int .i64 i ∧ i ≤ L ∧ Hid (PlJ w4 Br X N0 N1 Pb A3 c3 ws B T E l m A2 M c2 roots Z cv W)) (fun _ iv _ => L - (Go.RowKit.intOf iv).toNat)
      case atStart => exact ⟨0, rfl, Nat.zero_le _, HJ0⟩
      case round =>
        obtain ⟨i, rfl, hi, hS⟩ := hrel
        clear HJ0
        obtain ⟨S, Q, f, xw, s1, cnt, rfl, P⟩ := hS.out
        have HP := Lib.hid P
        have i0 : (0 : Int) ≤ (i : Int) := by omega
        by_cases hlt : i < L
        · have i1 : (i : Int) < (L : Int) := by omega
          have hil : i < ls.length := by rw [← HNl.out.2.2]; exact hlt
          obtain ⟨y, hy⟩ : ∃ y, y = ls[i] := ⟨_, rfl⟩
          obtain ⟨ad9, rfl, hlt9, hc9⟩ := (HR3.out.1.below H4.out) i hil
          rw [← hy] at hc9
          unfold i8V at hc9
          obtain ⟨y1, y2⟩ := i8I (HR3.out.2 y (by rw [hy]; exact List.getElem_mem _))
          have hl9 : (ad9.add i).block < w4.heap.size := by rw [add_block]; exact Nat.lt_of_lt_of_le hlt9 H4.out.size
          have HLc := Lib.hid (fun W (hb : Below w4.heap.size w4 W) => show (ad9.add i).block < W.heap.size ∧ W.cell? (ad9.add i) = some (.int .i8 y) from ⟨Nat.lt_of_lt_of_le hl9 hb.size, (hb.cell (p := ad9.add i) hl9).trans hc9⟩)
          obtain ⟨lb, hcy⟩ := HLc.out wr P.bl
          have HStt := Lib.hid (state_c wr cnt (by have := P.ms; omega) P.co)
          clear P hS hy hc9 hlt9 hl9 hil
          obtain ⟨w11, hw11⟩ : ∃ w11, w11 = wr := ⟨_, rfl⟩
          rw [← hw11] at HP HStt hcy lb ⊢
          clear hw11
          by_cases hv : y < 0
          · skip
            go_wp2_with fail
            refine Calls.mono (HStt.out) ?_
            rintro r w9 ⟨A9, c9, rfl, hc9, hst9, b9, _⟩
            obtain ⟨n9, hn9⟩ : ∃ n9, n9 = (uintL (BitVec.ofNat 64 cnt)).length := ⟨_, rfl⟩
            have HRs := Lib.hid (res_step HF.out HP.out w9 b9 HSp.out.1 (by have := HN2.out; omega) HR2.out.2 HOk.out A9 c9 n9 hn9 hst9)
            have H9 := Lib.hid b9
            rw [← hn9]
            clear hc9 hst9 b9 hn9 HStt hcy lb
            go_wp2_with fail
            refine Calls.mono HRs.out ?_
            rintro r w10 ⟨S2, Q2, f2, xw2, rfl, hco2, fb2, ft2, b10⟩
            have H10 := Lib.hid (And.intro hco2 (And.intro fb2 (And.intro ft2 b10)))
            have HS3 := Lib.hid (step3 HF.out HP.out w10 (H9.out.trans (b10.mono H9.out.size)))
            clear hco2 fb2 ft2 b10 HRs
            go_wp2_with fail
            refine Calls.mono HS3.out ?_
            rintro r w20 ⟨x3, e3, rfl, k11⟩
            have HP2 := Lib.hid (PlC.swap HF.out HP.out H9.out H10.out.1 H10.out.2.1 H10.out.2.2.1 H10.out.2.2.2 k11)
            clear k11 HS3 H9 H10
            obtain ⟨Y, hY⟩ : ∃ Y, Y = y.toNat := ⟨_, rfl⟩
            obtain ⟨Rn, hRn⟩ : ∃ Rn, Rn = itF (roots.map rootP) y.toNat s1 := ⟨_, rfl⟩
            have HIn := Lib.hid (HP2.out.in0 y.toNat)
            rw [← hRn, ← hY] at HIn
            have HRn := Lib.hid hRn
            clear hRn
            go_wp2_with fail
            go_loopw [24] (fun x W => ∃ k : Nat, x = .int .i8 k ∧ k ≤ Y ∧ Hid (InJ S2 w20 w4 Br X N0 N1 Pb A3 c3 ws B T E l m A2 M c2 roots Y k Rn W)) (fun x _ => Y - (Go.RowKit.intOf x).toNat)
            case atStart => exact ⟨0, rfl, Nat.zero_le _, HIn⟩
            case round =>
              obtain ⟨k, rfl, hk, hI⟩ := hrel
              clear HIn
              obtain ⟨fu, s2, pa, hb2, hk2, hc2⟩ := hI.out
              obtain ⟨cP, cX, cN, p0, x1, x4, x5, n2⟩ := pa.cells
              have hw4 : Below w4.heap.size w4 wr := HP2.out.bl.trans (hb2.mono HF.out.Br4)
              obtain ⟨lb, hcy⟩ := HLc.out wr hw4
              have k0 : (0 : Int) ≤ (k : Int) := by omega
              have kY : k ≤ Y := hk
              clear hI hk
              rcases hc2 with ⟨rfl, si, it⟩ | ⟨rfl, hn⟩
              · by_cases hkv : (k : Int) < y
                · exact absurd hkv (by omega)
                · have it2 : itF (roots.map rootP) y.toNat s1 = some s2 := by
                    rw [← HRn.out, ← it, show Y - k = 0 by omega]
                    rfl
                  have HFs := Lib.hid (fin_step HF.out HP2.out wr y (by omega) pa hb2 hk2 it2)
                  have h0 := hkv
                  clear pa hb2 hk2 si it it2 hw4 n2 x1 x4
                  go_wp2_with fail
                  refine Calls.mono HFs.out ?_
                  rintro r w13 ⟨rfl, S3, xw3, c3', P3⟩
                  obtain ⟨cP, cX, cN, p0, x1, x4, x5, n2⟩ := P3.pa.cells
                  have H3 := Lib.hid P3
                  have HPd := Lib.hid (fun W (hb : Below w13.heap.size w13 W) => pdone_c W (roots.map rootP) (P3.pa.below hb) (by rw [List.length_map]; exact HF.out.M1) P3.si)
                  have hql : s2.qs.length ≤ 100000 := by have h1 := P3.si.qs; rw [List.length_map] at h1; have := HF.out.rt.2; omega
                  have HCd : Hid (∀ W, Below w13.heap.size w13 W → Calls Try.prog 19 #[.pointer (some ⟨Q2, 0, none⟩)] W (RetP (.bool (doneS (roots.map rootP) s2)) W)) := Lib.hid fun W hb => by
                    have h := done_c W (P3.co.below hb) HF.out.rt.2 hql
                    rwa [show decide (s2.qs.length = roots.length ∧ s2.sc = s2.c.top) = doneS (roots.map rootP) s2 from by unfold doneS; rw [List.length_map]] at h
                  have HCs := Lib.hid (fun W (hb : Below w13.heap.size w13 W) => scscan_c W (P3.co.below hb))
                  have HCf := Lib.hid (fun W (hb : Below w13.heap.size w13 W) => scfree_c W (P3.co.below hb))
                  have HSm3 := Lib.hid (fun W (hb : Below w13.heap.size w13 W) => HSm.out W (P3.bl.trans (hb.mono P3.bl.size)))
                  obtain ⟨dn, hdn⟩ : ∃ dn, dn = doneS (roots.map rootP) s2 := ⟨_, rfl⟩
                  rw [← hdn] at HPd HCd ⊢
                  clear P3 hql hdn HFs
                  go_wp2_with fail
                  refine r34 _ _ _ s N0 Q2 Pb X N1 dn (s2.sc : Int) (s2.c.top : Int) cP cX cN p0 x1 x4 n2 HPd HCd HCs HCf HSm3 rfl ?_ ?_ ?_ ?_ ?_ ?_ ?_
                  · rfl
                  · rfl
                  · rfl
                  · rfl
                  · rfl
                  · rfl
                  intro vals5 w16 hG h253
                  unfold IsV at h253
                  simp only [putD, Act.put, List.setIfInBounds_toArray, List.set_cons_zero, List.set_cons_succ, h253]
                  have P16 := H3.out
                  have HNx : Hid (PlJ w4 Br X N0 N1 Pb A3 c3 ws B T E l m A2 M c2 roots Z (.pointer (some ⟨Q2, 0, none⟩)) w16) := Lib.hid ⟨S3, Q2, f2, xw3, s2, c3', rfl, P16.co.below hG, P16.fb, P16.ft, P16.si, P16.run, P16.re, P16.ms, P16.pa.below hG, P16.bl.trans (hG.mono P16.bl.size)⟩
                  clear hG h253 P16 HPd HCd HCs HCf HSm3 p0 x1 x4 x5 n2
                  go_wp2_with fail
                  go_roundw
                  case rel => first | exact ⟨i + 1, by go_num, by omega, HNx⟩ | ((repeat apply Exists.intro); refine ⟨?_, rfl⟩; exact ⟨i + 1, by go_num, by omega, HNx⟩)
                  case measure => simp [Go.RowKit.intOf]; omega
              · have it2 : itF (roots.map rootP) y.toNat s1 = none := HRn.out.symm.trans hn
                by_cases hkv : (k : Int) < y
                · exact absurd hkv (by omega)
                · skip
                  have HFu := Lib.hid (fin_full HF.out HP2.out wr y (by omega) pa hk2 it2)
                  have H4r := Lib.hid hw4
                  clear pa hb2 hk2 it2 hw4
                  go_wp2_with fail
                  refine Calls.mono HFu.out ?_
                  rintro r w13 ⟨rfl, k13, ⟨S3, xw3, s3, c3', q3⟩, pa3⟩
                  have hcS := HP2.out.co
                  have HB13 := Lib.hid (show Below w4.heap.size w4 w13 from H4r.out.trans (k13.below H4r.out.size (fun j hj => (hcS.own j hj).1)))
                  obtain ⟨cP, cX, cN, p0, x1, x4, x5, n2⟩ := pa3.cells
                  have HS1 := Lib.hid (step_full w13 1 q3)
                  have HRf := Lib.hid (fun W (hb : Below w13.heap.size w13 W) => result_full W (q3.below hb))
                  clear k13 q3 pa3 hcS HFu
                  go_wp2_with fail
                  refine Calls.mono HS1.out ?_
                  rintro r w14 ⟨rfl, b14⟩
                  have H14 := Lib.hid b14
                  clear b14
                  go_wp2_with fail
                  refine Calls.mono (HRf.out w14 H14.out) ?_
                  rintro r w15 ⟨rfl, b15⟩
                  have hb14 := HB13.out.trans (H14.out.mono HB13.out.size)
                  have H15 := Lib.hid (H4.out.trans ((hb14.trans (b15.mono hb14.size)).mono H4.out.size))
                  clear b15 hb14
                  go_wp2_with fail
                  go_ret
                  exact ⟨rfl, H15.out⟩
          · skip
            have HP2 := HP
            clear HStt
            obtain ⟨Y, hY⟩ : ∃ Y, Y = y.toNat := ⟨_, rfl⟩
            obtain ⟨Rn, hRn⟩ : ∃ Rn, Rn = itF (roots.map rootP) y.toNat s1 := ⟨_, rfl⟩
            have HIn := Lib.hid (HP.out.in0 y.toNat)
            rw [← hRn, ← hY] at HIn
            have HRn := Lib.hid hRn
            clear hRn
            go_wp2_with fail
            go_loopw [24] (fun x W => ∃ k : Nat, x = .int .i8 k ∧ k ≤ Y ∧ Hid (InJ S w11 w4 Br X N0 N1 Pb A3 c3 ws B T E l m A2 M c2 roots Y k Rn W)) (fun x _ => Y - (Go.RowKit.intOf x).toNat)
            case atStart => exact ⟨0, rfl, Nat.zero_le _, HIn⟩
            case round =>
              obtain ⟨k, rfl, hk, hI⟩ := hrel
              clear HIn
              obtain ⟨fu, s2, pa, hb2, hk2, hc2⟩ := hI.out
              obtain ⟨cP, cX, cN, p0, x1, x4, x5, n2⟩ := pa.cells
              have hw4 : Below w4.heap.size w4 wr := HP.out.bl.trans (hb2.mono HF.out.Br4)
              obtain ⟨lb, hcy⟩ := HLc.out wr hw4
              have k0 : (0 : Int) ≤ (k : Int) := by omega
              have kY : k ≤ Y := hk
              clear hI hk
              rcases hc2 with ⟨rfl, si, it⟩ | ⟨rfl, hn⟩
              · by_cases hkv : (k : Int) < y
                · have HO := Lib.hid (in_step HF.out wr hw4 pa hb2 hk2 si it (by omega))
                  have hk9 : k + 1 ≤ Y := by omega
                  have hk8 : (k : Int) + 1 ≤ 127 := by omega
                  clear pa hb2 hk2 si it hw4 n2 x1 x4
                  go_wp2_with fail
                  refine Calls.mono HO.out ?_
                  rintro r w12 ⟨rfl, hI2⟩
                  have HI2 := Lib.hid hI2
                  clear hI2
                  go_wp2_with fail
                  go_roundw
                  case rel => first | exact ⟨k + 1, by go_num, hk9, HI2⟩ | ((repeat apply Exists.intro); refine ⟨?_, rfl⟩; exact ⟨k + 1, by go_num, hk9, HI2⟩)
                  case measure => simp [Go.RowKit.intOf]; omega
                · have it2 : itF (roots.map rootP) y.toNat s1 = some s2 := by
                    rw [← HRn.out, ← it, show Y - k = 0 by omega]
                    rfl
                  have HFs := Lib.hid (fin_step HF.out HP.out wr y (by omega) pa hb2 hk2 it2)
                  have h0 := hkv
                  clear pa hb2 hk2 si it it2 hw4 n2 x1 x4
                  go_wp2_with fail
                  refine Calls.mono HFs.out ?_
                  rintro r w13 ⟨rfl, S3, xw3, c3', P3⟩
                  obtain ⟨cP, cX, cN, p0, x1, x4, x5, n2⟩ := P3.pa.cells
                  have H3 := Lib.hid P3
                  have HPd := Lib.hid (fun W (hb : Below w13.heap.size w13 W) => pdone_c W (roots.map rootP) (P3.pa.below hb) (by rw [List.length_map]; exact HF.out.M1) P3.si)
                  have hql : s2.qs.length ≤ 100000 := by have h1 := P3.si.qs; rw [List.length_map] at h1; have := HF.out.rt.2; omega
                  have HCd : Hid (∀ W, Below w13.heap.size w13 W → Calls Try.prog 19 #[.pointer (some ⟨Q, 0, none⟩)] W (RetP (.bool (doneS (roots.map rootP) s2)) W)) := Lib.hid fun W hb => by
                    have h := done_c W (P3.co.below hb) HF.out.rt.2 hql
                    rwa [show decide (s2.qs.length = roots.length ∧ s2.sc = s2.c.top) = doneS (roots.map rootP) s2 from by unfold doneS; rw [List.length_map]] at h
                  have HCs := Lib.hid (fun W (hb : Below w13.heap.size w13 W) => scscan_c W (P3.co.below hb))
                  have HCf := Lib.hid (fun W (hb : Below w13.heap.size w13 W) => scfree_c W (P3.co.below hb))
                  have HSm3 := Lib.hid (fun W (hb : Below w13.heap.size w13 W) => HSm.out W (P3.bl.trans (hb.mono P3.bl.size)))
                  obtain ⟨dn, hdn⟩ : ∃ dn, dn = doneS (roots.map rootP) s2 := ⟨_, rfl⟩
                  rw [← hdn] at HPd HCd ⊢
                  clear P3 hql hdn HFs
                  go_wp2_with fail
                  refine r34 _ _ _ s N0 Q Pb X N1 dn (s2.sc : Int) (s2.c.top : Int) cP cX cN p0 x1 x4 n2 HPd HCd HCs HCf HSm3 rfl ?_ ?_ ?_ ?_ ?_ ?_ ?_
                  · rfl
                  · rfl
                  · rfl
                  · rfl
                  · rfl
                  · rfl
                  intro vals5 w16 hG h253
                  unfold IsV at h253
                  simp only [putD, Act.put, List.setIfInBounds_toArray, List.set_cons_zero, List.set_cons_succ, h253]
                  have P16 := H3.out
                  have HNx : Hid (PlJ w4 Br X N0 N1 Pb A3 c3 ws B T E l m A2 M c2 roots Z (.pointer (some ⟨Q, 0, none⟩)) w16) := Lib.hid ⟨S3, Q, f, xw3, s2, c3', rfl, P16.co.below hG, P16.fb, P16.ft, P16.si, P16.run, P16.re, P16.ms, P16.pa.below hG, P16.bl.trans (hG.mono P16.bl.size)⟩
                  clear hG h253 P16 HPd HCd HCs HCf HSm3 p0 x1 x4 x5 n2
                  go_wp2_with fail
                  go_roundw
                  case rel => first | exact ⟨i + 1, by go_num, by omega, HNx⟩ | ((repeat apply Exists.intro); refine ⟨?_, rfl⟩; exact ⟨i + 1, by go_num, by omega, HNx⟩)
                  case measure => simp [Go.RowKit.intOf]; omega
              · have it2 : itF (roots.map rootP) y.toNat s1 = none := HRn.out.symm.trans hn
                by_cases hkv : (k : Int) < y
                · have HFu := Lib.hid (fin_full HF.out HP.out wr y (by omega) pa hk2 it2)
                  have H4r := Lib.hid hw4
                  clear pa hb2 hk2 it2 hw4
                  go_wp2_with fail
                  refine Calls.mono HFu.out ?_
                  rintro r w13 ⟨rfl, k13, ⟨S3, xw3, s3, c3', q3⟩, pa3⟩
                  have hcS := HP.out.co
                  have HB13 := Lib.hid (show Below w4.heap.size w4 w13 from H4r.out.trans (k13.below H4r.out.size (fun j hj => (hcS.own j hj).1)))
                  obtain ⟨cP, cX, cN, p0, x1, x4, x5, n2⟩ := pa3.cells
                  have HS1 := Lib.hid (step_full w13 1 q3)
                  have HRf := Lib.hid (fun W (hb : Below w13.heap.size w13 W) => result_full W (q3.below hb))
                  clear k13 q3 pa3 hcS HFu
                  go_wp2_with fail
                  refine Calls.mono HS1.out ?_
                  rintro r w14 ⟨rfl, b14⟩
                  have H14 := Lib.hid b14
                  clear b14
                  go_wp2_with fail
                  refine Calls.mono (HRf.out w14 H14.out) ?_
                  rintro r w15 ⟨rfl, b15⟩
                  have hb14 := HB13.out.trans (H14.out.mono HB13.out.size)
                  have H15 := Lib.hid (H4.out.trans ((hb14.trans (b15.mono hb14.size)).mono H4.out.size))
                  clear b15 hb14
                  go_wp2_with fail
                  go_ret
                  exact ⟨rfl, H15.out⟩
                · skip
                  have HFu := Lib.hid (fin_full HF.out HP.out wr y (by omega) pa hk2 it2)
                  have H4r := Lib.hid hw4
                  clear pa hb2 hk2 it2 hw4
                  go_wp2_with fail
                  refine Calls.mono HFu.out ?_
                  rintro r w13 ⟨rfl, k13, ⟨S3, xw3, s3, c3', q3⟩, pa3⟩
                  have hcS := HP.out.co
                  have HB13 := Lib.hid (show Below w4.heap.size w4 w13 from H4r.out.trans (k13.below H4r.out.size (fun j hj => (hcS.own j hj).1)))
                  obtain ⟨cP, cX, cN, p0, x1, x4, x5, n2⟩ := pa3.cells
                  have HS1 := Lib.hid (step_full w13 1 q3)
                  have HRf := Lib.hid (fun W (hb : Below w13.heap.size w13 W) => result_full W (q3.below hb))
                  clear k13 q3 pa3 hcS HFu
                  go_wp2_with fail
                  refine Calls.mono HS1.out ?_
                  rintro r w14 ⟨rfl, b14⟩
                  have H14 := Lib.hid b14
                  clear b14
                  go_wp2_with fail
                  refine Calls.mono (HRf.out w14 H14.out) ?_
                  rintro r w15 ⟨rfl, b15⟩
                  have hb14 := HB13.out.trans (H14.out.mono HB13.out.size)
                  have H15 := Lib.hid (H4.out.trans ((hb14.trans (b15.mono hb14.size)).mono H4.out.size))
                  clear b15 hb14
                  go_wp2_with fail
                  go_ret
                  exact ⟨rfl, H15.out⟩
        · have hiL : i = L := by omega
          have p1 : ¬ (i : Int) < (L : Int) := by omega
          have HPd := Lib.hid (fun W (hb : Below wr.heap.size wr W) => pdone_c W (roots.map rootP) (P.pa.below hb) (by rw [List.length_map]; exact HF.out.M1) P.si)
          have hql : s1.qs.length ≤ 100000 := by have h1 := P.si.qs; rw [List.length_map] at h1; have := HF.out.rt.2; omega
          have hTl : s1.c.T.length ≤ 8192 := P.si.inv.2.1.2.1
          cases hd : doneS (roots.map rootP) s1 with
          | false =>
            have HRb := Lib.hid (result_busy wr P.co HF.out.rt.2 hql hd)
            rw [hd] at HPd
            clear P hS hql hTl hd
            go_wp2_with fail
            refine Calls.mono HRb.out ?_
            rintro r w9 ⟨rfl, b9⟩
            have H9 := Lib.hid b9
            clear b9
            go_wp2_with fail
            refine Calls.mono (HPd.out w9 H9.out) ?_
            rintro r w10 ⟨rfl, b10⟩
            have h9 := HP.out.bl.trans (H9.out.mono HP.out.bl.size)
            have H10 := Lib.hid (H4.out.trans ((h9.trans (b10.mono h9.size)).mono H4.out.size))
            clear b10 h9
            go_wp2_with fail
            go_ret
            exact ⟨rfl, H10.out⟩
          | true =>
            have HRc := Lib.hid (result_c wr P.co HF.out.rt.2 hql hTl hd)
            rw [hd] at HPd
            have hqM : s1.qs.length = M := by
              have h := of_decide_eq_true (show decide (s1.qs.length = (roots.map rootP).length ∧ s1.sc = s1.c.top) = true from hd)
              rw [h.1, List.length_map, ← HF.out.M1]
            obtain ⟨M1, hM1⟩ : ∃ M1, M1 = s1.qs.length := ⟨_, rfl⟩
            rw [← hM1] at HRc
            have HM1 := Lib.hid (show M1 = (backZ s1.qs).length ∧ M1 ≤ 1000 from ⟨by rw [hM1]; simp [backZ], by have := HF.out.M8; omega⟩)
            have HTl := Lib.hid hTl
            have HM9 := Lib.hid hM1
            clear P hS hql hTl hd hqM hM1
            go_wp2_with fail
            refine Calls.mono HRc.out ?_
            rintro r w9 ⟨s9, g9, v9, A9, c9, rfl, hsp9, how9, b9⟩
            have H9 := Lib.hid (And.intro b9 (And.intro hsp9 how9))
            clear b9 hsp9 how9 HRc
            go_wp2_with fail
            refine Calls.mono (HPd.out w9 H9.out.1) ?_
            rintro r w10 ⟨rfl, b10⟩
            have b910 := H9.out.1.trans (b10.mono H9.out.1.size)
            have pa10 := HP.out.pa.below b910
            obtain ⟨cP, cX, cN, p0, x1, x4, x5, n2⟩ := pa10.cells
            obtain ⟨oA, oc, nA, nc, p2, hro, hrf⟩ := pa10.last
            rw [← HM9.out] at p2
            have HSa := Lib.hid (same15_t w10 wr.heap.size s9 g9 N1 nc 0 s1.c.top s1.c.T.length v9 s1.c.T nA (H9.out.2.1.below b10) hrf (by have := HTl.out; omega))
            have hro9 : Rd zV w10 w10.heap.size A9 (backZ s1.qs) := by
              have h3 : Ow zV 3 w9 wr.heap.size (.slice A9 (backZ s1.qs).length c9) (backZ s1.qs) := by rw [← HM1.out.1]; exact H9.out.2.2
              exact (h3.rd.below b10).more b10.size
            have HIn := Lib.hid (fun W (hb : Below w10.heap.size w10 W) => ints_z W A9 oA c9 oc M1 (backZ s1.qs) HM1.out.1 HM1.out.2 ((hro9.below hb).more hb.size) ((hro.below hb).more hb.size))
            have H10 := Lib.hid (show Below w4.heap.size w4 w10 from HP.out.bl.trans (b910.mono HP.out.bl.size))
            clear b10 b910 pa10 hro hrf hro9
            go_wp2_with fail
            refine Calls.mono HSa.out ?_
            rintro r w12 ⟨rfl, b12⟩
            have H12 := Lib.hid b12
            have p0 := (b12.cell (p := ⟨Pb, 0, none⟩) cP).trans p0
            have p2 := (b12.cell (p := ⟨Pb, 2, none⟩) cP).trans p2
            have cP2 := Nat.lt_of_lt_of_le cP b12.size
            clear b12 x1 x4 x5 n2
            go_wp2_with fail
            refine Calls.mono (HIn.out w12 H12.out) ?_
            rintro r w13 ⟨rfl, b13⟩
            have h12 := H10.out.trans (H12.out.mono H10.out.size)
            have H13 := Lib.hid (H4.out.trans ((h12.trans (b13.mono h12.size)).mono H4.out.size))
            clear b13 h12
            go_wp2_with fail
            go_ret
            exact ⟨rfl, H13.out⟩
end Go.Proofs.Ytbanbpphadgoiaa
/- Part of the law StepPlays. No conditions. -/
namespace Go.Proofs.Ytbanbpphadgoiaa
set_option linter.unusedVariables false
set_option linter.unusedSimpArgs false
open Go.RowKit Go.Maps
set_option maxHeartbeats 16000000
set_option maxRecDepth 100000
theorem pl_d0 (w : World) (A : Option Addr) (ws : List (BitVec 64)) (c : Nat) (_g : ws.length ≤ c) (_m : c ≤ maxLen) (hr : Rd u64v w w.heap.size A ws) (b : Int) (_w1 : (Lit.int .i64 b).wf = true) (t : Int) (_w2 : (Lit.int .i64 t).wf = true) (A2 : Option Addr) (roots : List Int) (c2 : Nat) (_g2 : roots.length ≤ c2) (_m2 : c2 ≤ maxLen) (hr2 : Rd inV w w.heap.size A2 roots ∧ ∀ x ∈ roots, (Lit.int .i64 x).wf = true) (words : Int) (_w3 : (Lit.int .i64 words).wf = true) (Al : Option Addr) (ls : List Int) (cl : Nat) (_g3 : ls.length ≤ cl) (_m3 : cl ≤ maxLen) (hr3 : Rd i8V w w.heap.size Al ls ∧ ∀ x ∈ ls, (Lit.int .i8 x).wf = true) (h1 : ws.length ≤ 250) (h2 : roots.length ≤ 30) (h6 : ls.length ≤ 60) (h3 : ¬ 400 < words) (hz : copyC ws words.toNat (roots.map rootP) ≠ none) :
    Calls Try.prog 3 #[.slice A ws.length c, .int .i64 b, .int .i64 t, .slice A2 roots.length c2, .int .i64 words, .slice Al ls.length cl] w (RetP (.bool true) w) := by
  have HK := Lib.hid (known22_c w)
  have HR := Lib.hid hr
  have HR2 := Lib.hid (show Rd zV w w.heap.size A2 roots ∧ ∀ x ∈ roots, kW x from hr2)
  have HR3 := Lib.hid hr3
  have HkW := Lib.hid (show kW words from _w3)
  obtain ⟨N, hN⟩ : ∃ N, N = ws.length := ⟨_, rfl⟩
  obtain ⟨M, hM⟩ : ∃ N, N = roots.length := ⟨_, rfl⟩
  obtain ⟨L, hL⟩ : ∃ N, N = ls.length := ⟨_, rfl⟩
  rw [← hN] at h1
  rw [← hM] at h2
  rw [← hL] at h6
  have q1 : ¬ (250 : Int) < (N : Int) := by omega
  have q2 : ¬ (30 : Int) < (M : Int) := by omega
  have q3 : ¬ (60 : Int) < (L : Int) := by omega
  have q4 : (L : Int) ≤ 60 := by omega
  have HTo := Lib.hid (fun W hr => to_c W A ws c hr (by omega) b t (ws.length : Int))
  have HCp := Lib.hid (fun (W : World) (B s g R : Nat) (v : Value) (b t e : Nat) (A0 : Option Addr) (c0 : Nat) (l : List Nat) (p : SpAt W B s g v ws b t e) (q : RefAt W R A0 c0 ws b t e) (ho : objF ws t (t + 1) b = some l) (hr : Rd zV W W.heap.size A2 roots) => nw_both (c2 := c2) p q (by omega) ho hr (by omega) HR2.out.2 words HkW.out)
  have HNl := Lib.hid (And.intro hN (And.intro hM hL))
  have HNle := Lib.hid (show ([] : List (BitVec 64)).length + ws.length ≤ 4294967296 by simp; omega)
  have HN2 := Lib.hid (show ws.length ≤ 8192 ∧ M ≤ 1000 ∧ L ≤ 60 by omega)
  have HL3 := Lib.hid h3
  rw [← hN] at HTo ⊢
  rw [← hM] at HCp ⊢
  rw [← hL]
  clear hN hM hL h1 h2 h6 _g _m hr _w1 _w2 _g2 _m2 hr2 _w3 _g3 _m3 hr3
  go_enter Try.func3, Try.ntmps3
  go_wp2_with fail
  refine Calls.mono HK.out ?_
  rintro r w1 ⟨rfl, b1⟩
  have HB1 := Lib.hid b1
  clear b1
  go_wp2_with fail
  refine Calls.mono (HTo.out w1 ((HR.out.below HB1.out).more HB1.out.size)) ?_
  rintro r w2 (⟨rfl, b2⟩ | ⟨B, T, E, s, g, v, l, rfl, rfl, hE, hBT, hTE, hEl, hob, rfl, hsp, b2⟩)
  · have HB2 := Lib.hid (HB1.out.trans (b2.mono HB1.out.size))
    clear b2
    go_wp2_with fail
    go_ret
    exact ⟨rfl, HB2.out⟩
  · have HB2 := Lib.hid (HB1.out.trans (b2.mono HB1.out.size))
    have hEN : E = N := by omega
    subst hEN
    have HSp0 := Lib.hid (And.intro hsp (And.intro hob (And.intro hBT hTE)))
    have HRw := Lib.hid ((HR.out.below HB2.out).more HB2.out.size)
    clear b2 hsp hE hBT hTE hEl hob HTo HK HB1
    go_wp2_with (at_builtin; refine wp_app one64 u64v_one rfl (.tmp 66) (.tmp 67) rfl w2.heap.size _ [] rfl (ow_empty u64v 62 w2 w2.heap.size (Nat.le_refl _)) A E c ws rfl HNl.out.1 w2.heap.size (HRw.out.alloc (Nat.le_refl _) _) HNle.out (by decide) (by simp) ?_; intro v3 w3 ho3 hb3 hg3 hv3; rw [List.nil_append] at ho3; obtain ⟨A3, c3, e3, _⟩ := ho3.form; rw [← HNl.out.1] at e3; subst e3; have H3 := Lib.hid (And.intro ho3 ((Gw.alloc w2 _).trans hb3)); clear ho3 hb3 hg3 hv3)
    obtain ⟨N0, hR⟩ : ∃ H, H = w3.heap.size := ⟨_, rfl⟩
    obtain ⟨w4, hw4⟩ : ∃ w4, w4 = w3.alloc (.cells #[.slice A3 E c3, .int .i64 (B : Int), .int .i64 (T : Int), .int .i64 (E : Int)] 30) := ⟨_, rfl⟩
    have hbk : Bk w4 N0 30 #[.slice A3 E c3, .int .i64 (B : Int), .int .i64 (T : Int), .int .i64 (E : Int)] := by rw [hw4, hR]; exact Bk.new w3 _ _
    have hb34 : Below w3.heap.size w3 w4 := by rw [hw4]; exact Gw.alloc w3 _
    have hb24 : Below w2.heap.size w2 w4 := H3.out.2.trans (hb34.mono H3.out.2.size)
    have hrf : RefAt w4 N0 A3 c3 ws B T E := ⟨by rw [← HNl.out.1]; exact hbk, by
      have h3 : Ow u64v 62 w3 w2.heap.size (.slice A3 ws.length c3) ws := by rw [← HNl.out.1]; exact H3.out.1
      exact (h3.rd.below hb34).more hb34.size⟩
    have hs4 := HSp0.out.1.below hb24
    have H4 := Lib.hid (HB2.out.trans (hb24.mono HB2.out.size))
    have hcp := HCp.out w4 w1.heap.size s g N0 v B T E A3 c3 l hs4 hrf HSp0.out.2.1 ((HR2.out.1.below H4.out).more H4.out.size)
    have HSm := Lib.hid (fun W (hb : Below w4.heap.size w4 W) => same15_t W w1.heap.size s g N0 c3 B T E v ws A3 (hs4.below hb) (hrf.below hb) (by have := HN2.out; omega))
    have HSp := Lib.hid (And.intro hs4 hrf)
    rw [← hw4, ← hR]
    clear hw4 hR hbk hb34 hb24 hrf hs4 HRw H3 HCp
    rcases hcp with ⟨Er, hEr, hE6, k1, k2⟩ | ⟨m, hm1, hm2, hOk, hwl, hra, k1, k2⟩
    · have HC1 := Lib.hid (k1 w4 (Below.refl _ _))
      have HC2 := Lib.hid k2
      have hB0 : (Er != 0) = true := by simpa using hEr
      have hB6 : (Er != 6) = true := by simpa using hE6
      have hEr : ¬ Er = 0 := hEr
      have hE6 : ¬ Er = 6 := hE6
      clear k1 k2
      go_wp2_with fail
      refine Calls.mono HC1.out ?_
      rintro r w5 ⟨rfl, b5⟩
      have H5 := Lib.hid b5
      clear b5
      go_wp2_with fail
      refine Calls.mono (HC2.out w5 H5.out) ?_
      rintro r w6 ⟨rfl, b6⟩
      have H6 := Lib.hid (H4.out.trans ((H5.out.trans (b6.mono H5.out.size)).mono H4.out.size))
      clear b6
      go_wp2_with fail
      go_ret
      exact ⟨rfl, H6.out⟩
    · have HF0 : Hid (∀ Br, w4.heap.size ≤ Br → PlF w4 Br N0 A3 ws B T l m A2 M roots) := Lib.hid fun Br hBr => ⟨heap_of HSp0.out.2.1 hwl (by have := HSp0.out.2.2.2; have := HNl.out.1; omega) HN2.out.1, hm2, ⟨hra, by have := HN2.out; have := HNl.out.2.1; omega⟩, HNl.out.2.1, HN2.out.2.1, (HR2.out.1.below H4.out).more H4.out.size, HSp.out.2.blk.lt, fun ad had hne => (by
        cases hws : ws with
        | nil => exact absurd hws hne
        | cons z zs =>
          obtain ⟨a2, ha2, hlt, _⟩ := HSp.out.2.rd 0 (by rw [hws]; simp)
          rw [had] at ha2
          injection ha2 with ha2
          subst ha2
          exact hlt), hBr⟩
      have HOk := Lib.hid hOk
      obtain ⟨Z, hZ⟩ : ∃ Z, Z = copyC ws m (roots.map rootP) := ⟨_, rfl⟩
      have HRun := Lib.hid (show RunR m (roots.map rootP) Z (NewS ws m) by rw [hZ]; exact run_r0)
      have hz2 : copyC ws words.toNat (roots.map rootP) = Z := by rw [hZ, hm1]; rfl
      rw [hz2] at hz
      rw [← hZ] at k2
      have HZ := Lib.hid hz
      have HC1 := Lib.hid (k1 w4 (Below.refl _ _))
      have HC2 := Lib.hid k2
      have HM := Lib.hid hm2
      have HSt := Lib.hid (fun W (hb : Below w4.heap.size w4 W) => rstart_c W N0 A3 c3 ws B T E (HSp.out.2.below hb) m hm2)
      have m0 : (0 : Int) ≤ (m : Int) := by omega
      have m8 : (m : Int) ≤ 8192 := by omega
      clear hOk hwl hra k1 k2 hm2 hZ hz hz2 HkW
      subst hm1
      have HC2n := Lib.hid (show ∀ W, Below w4.heap.size w4 W → Calls Try.prog 11 #[.pointer (some ⟨N0, 0, none⟩), .slice A2 M c2, .int .i64 (m : Int)] W (fun r w' => ∃ (N : Nat) (A : Option Addr) (c9 : Nat), r = .returned (.tuple #[.pointer (some ⟨N, 0, none⟩), .slice A M c9, .int .i64 0]) ∧ Below W.heap.size W w') from fun W hb => by
        have h := HC2.out W hb
        obtain ⟨z9, hz9⟩ := Option.ne_none_iff_exists'.1 HZ.out
        rw [hz9] at h
        refine h.mono ?_
        rintro r w' ⟨N9, A9, nc9, A8, c8, rfl, _, _, _, _, b9⟩
        exact ⟨N9, A8, c8, rfl, b9⟩)
      clear HC2
      go_wp2_with fail
      refine Calls.mono HC1.out ?_
      rintro r w5 ⟨S0, Q0, f0, xw0, rfl, hco, fb, ft, b5⟩
      have H5 := Lib.hid (And.intro b5 (And.intro hco (And.intro fb ft)))
      clear hco fb ft b5 HC1
      go_wp2_with fail
      refine Calls.mono (HC2n.out w5 H5.out.1) ?_
      rintro r w6 ⟨N9, A9, c9, rfl, b6⟩
      have H6 := Lib.hid (H5.out.1.trans (b6.mono H5.out.1.size))
      have H56 := Lib.hid b6
      clear b6 HC2n
      go_wp2_with fail
      refine Calls.mono (HSt.out w6 H6.out) ?_
      rintro r w7 ⟨X, N1, q1', rfl, hrc, b7⟩
      have H7 := Lib.hid (And.intro hrc b7)
      obtain ⟨Br, hBr⟩ : ∃ Br, Br = w6.heap.size := ⟨_, rfl⟩
      have HF := Lib.hid (HF0.out Br (by rw [hBr]; exact H6.out.size))
      clear hrc b7 HSt
      go_wp2_with fail
      obtain ⟨Pb, hPb⟩ : ∃ Pb, Pb = w7.heap.size := ⟨_, rfl⟩
      obtain ⟨w8, hw8⟩ : ∃ w8, w8 = w7.alloc (.cells #[.pointer (some ⟨X, 0, none⟩), .slice A2 M c2, .slice none 0 0] 41) := ⟨_, rfl⟩
      have b78 : Below w7.heap.size w7 w8 := by rw [hw8]; exact Gw.alloc w7 _
      have HJ0 : Hid (PlJ w4 Br X N0 N1 Pb A3 c3 ws B T E l m A2 M c2 roots Z (.pointer (some ⟨Q0, 0, none⟩)) w8) := by
        have c5 := H5.out.2.1
        have b57 : Below w5.heap.size w5 w7 := H56.out.trans (H7.out.2.mono H56.out.size)
        have b58 := b57.trans (b78.mono b57.size)
        refine Lib.hid ⟨S0, Q0, f0, xw0, NewS ws m, 0, rfl, c5.below b58, H5.out.2.2.1, H5.out.2.2.2, si_start HF.out.hp HF.out.m8, HRun.out, rfl, ?_, ?_, H5.out.1.trans (b58.mono H5.out.1.size)⟩
        · have h1 := HF.out.M1
          have h2 := HF.out.M8
          have h3 := HM.out
          show 0 + (((roots.map rootP).length - 0) + (m - 0)) ≤ 1000000
          rw [List.length_map]
          omega
        · rw [hw8, hPb, hBr]
          have e : E = ws.length := HNl.out.1
          exact pa_start H7.out.1 HF.out.hp HF.out.m8 (fun k hk => Nat.lt_of_lt_of_le (c5.own k hk).2 H56.out.size)
      rw [← hw8, ← hPb]
      clear b78 hw8 hPb hBr H7 H5 H56 HF0 HRun HM H6
      go_loopw [15, 21] (fun cv iv W => ∃ i : Nat, iv = .int .i64 i ∧ i ≤ L ∧ Hid (PlJ w4 Br X N0 N1 Pb A3 c3 ws B T E l m A2 M c2 roots Z cv W)) (fun _ iv _ => L - (Go.RowKit.intOf iv).toNat)
      case atStart => exact ⟨0, rfl, Nat.zero_le _, HJ0⟩
      case round =>
        obtain ⟨i, rfl, hi, hS⟩ := hrel
        clear HJ0
        obtain ⟨S, Q, f, xw, s1, cnt, rfl, P⟩ := hS.out
        have HP := Lib.hid P
        have i0 : (0 : Int) ≤ (i : Int) := by omega
        by_cases hlt : i < L
        · have i1 : (i : Int) < (L : Int) := by omega
          have hil : i < ls.length := by rw [← HNl.out.2.2]; exact hlt
          obtain ⟨y, hy⟩ : ∃ y, y = ls[i] := ⟨_, rfl⟩
          obtain ⟨ad9, rfl, hlt9, hc9⟩ := (HR3.out.1.below H4.out) i hil
          rw [← hy] at hc9
          unfold i8V at hc9
          obtain ⟨y1, y2⟩ := i8I (HR3.out.2 y (by rw [hy]; exact List.getElem_mem _))
          have hl9 : (ad9.add i).block < w4.heap.size := by rw [add_block]; exact Nat.lt_of_lt_of_le hlt9 H4.out.size
          have HLc := Lib.hid (fun W (hb : Below w4.heap.size w4 W) => show (ad9.add i).block < W.heap.size ∧ W.cell? (ad9.add i) = some (.int .i8 y) from ⟨Nat.lt_of_lt_of_le hl9 hb.size, (hb.cell (p := ad9.add i) hl9).trans hc9⟩)
          obtain ⟨lb, hcy⟩ := HLc.out wr P.bl
          have HStt := Lib.hid (state_c wr cnt (by have := P.ms; omega) P.co)
          clear P hS hy hc9 hlt9 hl9 hil
          obtain ⟨w11, hw11⟩ : ∃ w11, w11 = wr := ⟨_, rfl⟩
          rw [← hw11] at HP HStt hcy lb ⊢
          clear hw11
          by_cases hv : y < 0
          · skip
            go_wp2_with fail
            refine Calls.mono (HStt.out) ?_
            rintro r w9 ⟨A9, c9, rfl, hc9, hst9, b9, _⟩
            obtain ⟨n9, hn9⟩ : ∃ n9, n9 = (uintL (BitVec.ofNat 64 cnt)).length := ⟨_, rfl⟩
            have HRs := Lib.hid (res_step HF.out HP.out w9 b9 HSp.out.1 (by have := HN2.out; omega) HR2.out.2 HOk.out A9 c9 n9 hn9 hst9)
            have H9 := Lib.hid b9
            rw [← hn9]
            clear hc9 hst9 b9 hn9 HStt hcy lb
            go_wp2_with fail
            refine Calls.mono HRs.out ?_
            rintro r w10 ⟨S2, Q2, f2, xw2, rfl, hco2, fb2, ft2, b10⟩
            have H10 := Lib.hid (And.intro hco2 (And.intro fb2 (And.intro ft2 b10)))
            have HS3 := Lib.hid (step3 HF.out HP.out w10 (H9.out.trans (b10.mono H9.out.size)))
            clear hco2 fb2 ft2 b10 HRs
            go_wp2_with fail
            refine Calls.mono HS3.out ?_
            rintro r w20 ⟨x3, e3, rfl, k11⟩
            have HP2 := Lib.hid (PlC.swap HF.out HP.out H9.out H10.out.1 H10.out.2.1 H10.out.2.2.1 H10.out.2.2.2 k11)
            clear k11 HS3 H9 H10
            obtain ⟨Y, hY⟩ : ∃ Y, Y = y.toNat := ⟨_, rfl⟩
            obtain ⟨Rn, hRn⟩ : ∃ Rn, Rn = itF (roots.map rootP) y.toNat s1 := ⟨_, rfl⟩
            have HIn := Lib.hid (HP2.out.in0 y.toNat)
            rw [← hRn, ← hY] at HIn
            have HRn := Lib.hid hRn
            clear hRn
            go_wp2_with fail
            go_loopw [24] (fun x W => ∃ k : Nat, x = .int .i8 k ∧ k ≤ Y ∧ Hid (InJ S2 w20 w4 Br X N0 N1 Pb A3 c3 ws B T E l m A2 M c2 roots Y k Rn W)) (fun x _ => Y - (Go.RowKit.intOf x).toNat)
            case atStart => exact ⟨0, rfl, Nat.zero_le _, HIn⟩
            case round =>
              obtain ⟨k, rfl, hk, hI⟩ := hrel
              clear HIn
              obtain ⟨fu, s2, pa, hb2, hk2, hc2⟩ := hI.out
              obtain ⟨cP, cX, cN, p0, x1, x4, x5, n2⟩ := pa.cells
              have hw4 : Below w4.heap.size w4 wr := HP2.out.bl.trans (hb2.mono HF.out.Br4)
              obtain ⟨lb, hcy⟩ := HLc.out wr hw4
              have k0 : (0 : Int) ≤ (k : Int) := by omega
              have kY : k ≤ Y := hk
              clear hI hk
              rcases hc2 with ⟨rfl, si, it⟩ | ⟨rfl, hn⟩
              · by_cases hkv : (k : Int) < y
                · exact absurd hkv (by omega)
                · have it2 : itF (roots.map rootP) y.toNat s1 = some s2 := by
                    rw [← HRn.out, ← it, show Y - k = 0 by omega]
                    rfl
                  have HFs := Lib.hid (fin_step HF.out HP2.out wr y (by omega) pa hb2 hk2 it2)
                  have h0 := hkv
                  clear pa hb2 hk2 si it it2 hw4 n2 x1 x4
                  go_wp2_with fail
                  refine Calls.mono HFs.out ?_
                  rintro r w13 ⟨rfl, S3, xw3, c3', P3⟩
                  obtain ⟨cP, cX, cN, p0, x1, x4, x5, n2⟩ := P3.pa.cells
                  have H3 := Lib.hid P3
                  have HPd := Lib.hid (fun W (hb : Below w13.heap.size w13 W) => pdone_c W (roots.map rootP) (P3.pa.below hb) (by rw [List.length_map]; exact HF.out.M1) P3.si)
                  have hql : s2.qs.length ≤ 100000 := by have h1 := P3.si.qs; rw [List.length_map] at h1; have := HF.out.rt.2; omega
                  have HCd : Hid (∀ W, Below w13.heap.size w13 W → Calls Try.prog 19 #[.pointer (some ⟨Q2, 0, none⟩)] W (RetP (.bool (doneS (roots.map rootP) s2)) W)) := Lib.hid fun W hb => by
                    have h := done_c W (P3.co.below hb) HF.out.rt.2 hql
                    rwa [show decide (s2.qs.length = roots.length ∧ s2.sc = s2.c.top) = doneS (roots.map rootP) s2 from by unfold doneS; rw [List.length_map]] at h
                  have HCs := Lib.hid (fun W (hb : Below w13.heap.size w13 W) => scscan_c W (P3.co.below hb))
                  have HCf := Lib.hid (fun W (hb : Below w13.heap.size w13 W) => scfree_c W (P3.co.below hb))
                  have HSm3 := Lib.hid (fun W (hb : Below w13.heap.size w13 W) => HSm.out W (P3.bl.trans (hb.mono P3.bl.size)))
                  obtain ⟨dn, hdn⟩ : ∃ dn, dn = doneS (roots.map rootP) s2 := ⟨_, rfl⟩
                  rw [← hdn] at HPd HCd ⊢
                  clear P3 hql hdn HFs
                  go_wp2_with fail
                  refine r34 _ _ _ s N0 Q2 Pb X N1 dn (s2.sc : Int) (s2.c.top : Int) cP cX cN p0 x1 x4 n2 HPd HCd HCs HCf HSm3 rfl ?_ ?_ ?_ ?_ ?_ ?_ ?_
                  · rfl
                  · rfl
                  · rfl
                  · rfl
                  · rfl
                  · rfl
                  intro vals5 w16 hG h253
                  unfold IsV at h253
                  simp only [putD, Act.put, List.setIfInBounds_toArray, List.set_cons_zero, List.set_cons_succ, h253]
                  have P16 := H3.out
                  have HNx : Hid (PlJ w4 Br X N0 N1 Pb A3 c3 ws B T E l m A2 M c2 roots Z (.pointer (some ⟨Q2, 0, none⟩)) w16) := Lib.hid ⟨S3, Q2, f2, xw3, s2, c3', rfl, P16.co.below hG, P16.fb, P16.ft, P16.si, P16.run, P16.re, P16.ms, P16.pa.below hG, P16.bl.trans (hG.mono P16.bl.size)⟩
                  clear hG h253 P16 HPd HCd HCs HCf HSm3 p0 x1 x4 x5 n2
                  go_wp2_with fail
                  go_roundw
                  case rel => first | exact ⟨i + 1, by go_num, by omega, HNx⟩ | ((repeat apply Exists.intro); refine ⟨?_, rfl⟩; exact ⟨i + 1, by go_num, by omega, HNx⟩)
                  case measure => simp [Go.RowKit.intOf]; omega
              · have it2 : itF (roots.map rootP) y.toNat s1 = none := HRn.out.symm.trans hn
                by_cases hkv : (k : Int) < y
                · exact absurd (it_run HF.out.hp HF.out.rt.ps _ _ HP2.out.si HP2.out.run it2) HZ.out
                · skip
                  exact absurd (it_run HF.out.hp HF.out.rt.ps _ _ HP2.out.si HP2.out.run it2) HZ.out
          · skip
            have HP2 := HP
            clear HStt
            obtain ⟨Y, hY⟩ : ∃ Y, Y = y.toNat := ⟨_, rfl⟩
            obtain ⟨Rn, hRn⟩ : ∃ Rn, Rn = itF (roots.map rootP) y.toNat s1 := ⟨_, rfl⟩
            have HIn := Lib.hid (HP.out.in0 y.toNat)
            rw [← hRn, ← hY] at HIn
            have HRn := Lib.hid hRn
            clear hRn
            go_wp2_with fail
            go_loopw [24] (fun x W => ∃ k : Nat, x = .int .i8 k ∧ k ≤ Y ∧ Hid (InJ S w11 w4 Br X N0 N1 Pb A3 c3 ws B T E l m A2 M c2 roots Y k Rn W)) (fun x _ => Y - (Go.RowKit.intOf x).toNat)
            case atStart => exact ⟨0, rfl, Nat.zero_le _, HIn⟩
            case round =>
              obtain ⟨k, rfl, hk, hI⟩ := hrel
              clear HIn
              obtain ⟨fu, s2, pa, hb2, hk2, hc2⟩ := hI.out
              obtain ⟨cP, cX, cN, p0, x1, x4, x5, n2⟩ := pa.cells
              have hw4 : Below w4.heap.size w4 wr := HP.out.bl.trans (hb2.mono HF.out.Br4)
              obtain ⟨lb, hcy⟩ := HLc.out wr hw4
              have k0 : (0 : Int) ≤ (k : Int) := by omega
              have kY : k ≤ Y := hk
              clear hI hk
              rcases hc2 with ⟨rfl, si, it⟩ | ⟨rfl, hn⟩
              · by_cases hkv : (k : Int) < y
                · have HO := Lib.hid (in_step HF.out wr hw4 pa hb2 hk2 si it (by omega))
                  have hk9 : k + 1 ≤ Y := by omega
                  have hk8 : (k : Int) + 1 ≤ 127 := by omega
                  clear pa hb2 hk2 si it hw4 n2 x1 x4
                  go_wp2_with fail
                  refine Calls.mono HO.out ?_
                  rintro r w12 ⟨rfl, hI2⟩
                  have HI2 := Lib.hid hI2
                  clear hI2
                  go_wp2_with fail
                  go_roundw
                  case rel => first | exact ⟨k + 1, by go_num, hk9, HI2⟩ | ((repeat apply Exists.intro); refine ⟨?_, rfl⟩; exact ⟨k + 1, by go_num, hk9, HI2⟩)
                  case measure => simp [Go.RowKit.intOf]; omega
                · have it2 : itF (roots.map rootP) y.toNat s1 = some s2 := by
                    rw [← HRn.out, ← it, show Y - k = 0 by omega]
                    rfl
                  have HFs := Lib.hid (fin_step HF.out HP.out wr y (by omega) pa hb2 hk2 it2)
                  have h0 := hkv
                  clear pa hb2 hk2 si it it2 hw4 n2 x1 x4
                  go_wp2_with fail
                  refine Calls.mono HFs.out ?_
                  rintro r w13 ⟨rfl, S3, xw3, c3', P3⟩
                  obtain ⟨cP, cX, cN, p0, x1, x4, x5, n2⟩ := P3.pa.cells
                  have H3 := Lib.hid P3
                  have HPd := Lib.hid (fun W (hb : Below w13.heap.size w13 W) => pdone_c W (roots.map rootP) (P3.pa.below hb) (by rw [List.length_map]; exact HF.out.M1) P3.si)
                  have hql : s2.qs.length ≤ 100000 := by have h1 := P3.si.qs; rw [List.length_map] at h1; have := HF.out.rt.2; omega
                  have HCd : Hid (∀ W, Below w13.heap.size w13 W → Calls Try.prog 19 #[.pointer (some ⟨Q, 0, none⟩)] W (RetP (.bool (doneS (roots.map rootP) s2)) W)) := Lib.hid fun W hb => by
                    have h := done_c W (P3.co.below hb) HF.out.rt.2 hql
                    rwa [show decide (s2.qs.length = roots.length ∧ s2.sc = s2.c.top) = doneS (roots.map rootP) s2 from by unfold doneS; rw [List.length_map]] at h
                  have HCs := Lib.hid (fun W (hb : Below w13.heap.size w13 W) => scscan_c W (P3.co.below hb))
                  have HCf := Lib.hid (fun W (hb : Below w13.heap.size w13 W) => scfree_c W (P3.co.below hb))
                  have HSm3 := Lib.hid (fun W (hb : Below w13.heap.size w13 W) => HSm.out W (P3.bl.trans (hb.mono P3.bl.size)))
                  obtain ⟨dn, hdn⟩ : ∃ dn, dn = doneS (roots.map rootP) s2 := ⟨_, rfl⟩
                  rw [← hdn] at HPd HCd ⊢
                  clear P3 hql hdn HFs
                  go_wp2_with fail
                  refine r34 _ _ _ s N0 Q Pb X N1 dn (s2.sc : Int) (s2.c.top : Int) cP cX cN p0 x1 x4 n2 HPd HCd HCs HCf HSm3 rfl ?_ ?_ ?_ ?_ ?_ ?_ ?_
                  · rfl
                  · rfl
                  · rfl
                  · rfl
                  · rfl
                  · rfl
                  intro vals5 w16 hG h253
                  unfold IsV at h253
                  simp only [putD, Act.put, List.setIfInBounds_toArray, List.set_cons_zero, List.set_cons_succ, h253]
                  have P16 := H3.out
                  have HNx : Hid (PlJ w4 Br X N0 N1 Pb A3 c3 ws B T E l m A2 M c2 roots Z (.pointer (some ⟨Q, 0, none⟩)) w16) := Lib.hid ⟨S3, Q, f, xw3, s2, c3', rfl, P16.co.below hG, P16.fb, P16.ft, P16.si, P16.run, P16.re, P16.ms, P16.pa.below hG, P16.bl.trans (hG.mono P16.bl.size)⟩
                  clear hG h253 P16 HPd HCd HCs HCf HSm3 p0 x1 x4 x5 n2
                  go_wp2_with fail
                  go_roundw
                  case rel => first | exact ⟨i + 1, by go_num, by omega, HNx⟩ | ((repeat apply Exists.intro); refine ⟨?_, rfl⟩; exact ⟨i + 1, by go_num, by omega, HNx⟩)
                  case measure => simp [Go.RowKit.intOf]; omega
              · have it2 : itF (roots.map rootP) y.toNat s1 = none := HRn.out.symm.trans hn
                by_cases hkv : (k : Int) < y
                · exact absurd (it_run HF.out.hp HF.out.rt.ps _ _ HP.out.si HP.out.run it2) HZ.out
                · skip
                  exact absurd (it_run HF.out.hp HF.out.rt.ps _ _ HP.out.si HP.out.run it2) HZ.out
        · have hiL : i = L := by omega
          have p1 : ¬ (i : Int) < (L : Int) := by omega
          have HPd := Lib.hid (fun W (hb : Below wr.heap.size wr W) => pdone_c W (roots.map rootP) (P.pa.below hb) (by rw [List.length_map]; exact HF.out.M1) P.si)
          have hql : s1.qs.length ≤ 100000 := by have h1 := P.si.qs; rw [List.length_map] at h1; have := HF.out.rt.2; omega
          have hTl : s1.c.T.length ≤ 8192 := P.si.inv.2.1.2.1
          cases hd : doneS (roots.map rootP) s1 with
          | false =>
            have HRb := Lib.hid (result_busy wr P.co HF.out.rt.2 hql hd)
            rw [hd] at HPd
            clear P hS hql hTl hd
            go_wp2_with fail
            refine Calls.mono HRb.out ?_
            rintro r w9 ⟨rfl, b9⟩
            have H9 := Lib.hid b9
            clear b9
            go_wp2_with fail
            refine Calls.mono (HPd.out w9 H9.out) ?_
            rintro r w10 ⟨rfl, b10⟩
            have h9 := HP.out.bl.trans (H9.out.mono HP.out.bl.size)
            have H10 := Lib.hid (H4.out.trans ((h9.trans (b10.mono h9.size)).mono H4.out.size))
            clear b10 h9
            go_wp2_with fail
            go_ret
            exact ⟨rfl, H10.out⟩
          | true =>
            have HRc := Lib.hid (result_c wr P.co HF.out.rt.2 hql hTl hd)
            rw [hd] at HPd
            have hqM : s1.qs.length = M := by
              have h := of_decide_eq_true (show decide (s1.qs.length = (roots.map rootP).length ∧ s1.sc = s1.c.top) = true from hd)
              rw [h.1, List.length_map, ← HF.out.M1]
            obtain ⟨M1, hM1⟩ : ∃ M1, M1 = s1.qs.length := ⟨_, rfl⟩
            rw [← hM1] at HRc
            have HM1 := Lib.hid (show M1 = (backZ s1.qs).length ∧ M1 ≤ 1000 from ⟨by rw [hM1]; simp [backZ], by have := HF.out.M8; omega⟩)
            have HTl := Lib.hid hTl
            have HM9 := Lib.hid hM1
            clear P hS hql hTl hd hqM hM1
            go_wp2_with fail
            refine Calls.mono HRc.out ?_
            rintro r w9 ⟨s9, g9, v9, A9, c9, rfl, hsp9, how9, b9⟩
            have H9 := Lib.hid (And.intro b9 (And.intro hsp9 how9))
            clear b9 hsp9 how9 HRc
            go_wp2_with fail
            refine Calls.mono (HPd.out w9 H9.out.1) ?_
            rintro r w10 ⟨rfl, b10⟩
            have b910 := H9.out.1.trans (b10.mono H9.out.1.size)
            have pa10 := HP.out.pa.below b910
            obtain ⟨cP, cX, cN, p0, x1, x4, x5, n2⟩ := pa10.cells
            obtain ⟨oA, oc, nA, nc, p2, hro, hrf⟩ := pa10.last
            rw [← HM9.out] at p2
            have HSa := Lib.hid (same15_t w10 wr.heap.size s9 g9 N1 nc 0 s1.c.top s1.c.T.length v9 s1.c.T nA (H9.out.2.1.below b10) hrf (by have := HTl.out; omega))
            have hro9 : Rd zV w10 w10.heap.size A9 (backZ s1.qs) := by
              have h3 : Ow zV 3 w9 wr.heap.size (.slice A9 (backZ s1.qs).length c9) (backZ s1.qs) := by rw [← HM1.out.1]; exact H9.out.2.2
              exact (h3.rd.below b10).more b10.size
            have HIn := Lib.hid (fun W (hb : Below w10.heap.size w10 W) => ints_z W A9 oA c9 oc M1 (backZ s1.qs) HM1.out.1 HM1.out.2 ((hro9.below hb).more hb.size) ((hro.below hb).more hb.size))
            have H10 := Lib.hid (show Below w4.heap.size w4 w10 from HP.out.bl.trans (b910.mono HP.out.bl.size))
            clear b10 b910 pa10 hro hrf hro9
            go_wp2_with fail
            refine Calls.mono HSa.out ?_
            rintro r w12 ⟨rfl, b12⟩
            have H12 := Lib.hid b12
            have p0 := (b12.cell (p := ⟨Pb, 0, none⟩) cP).trans p0
            have p2 := (b12.cell (p := ⟨Pb, 2, none⟩) cP).trans p2
            have cP2 := Nat.lt_of_lt_of_le cP b12.size
            clear b12 x1 x4 x5 n2
            go_wp2_with fail
            refine Calls.mono (HIn.out w12 H12.out) ?_
            rintro r w13 ⟨rfl, b13⟩
            have h12 := H10.out.trans (H12.out.mono H10.out.size)
            have H13 := Lib.hid (H4.out.trans ((h12.trans (b13.mono h12.size)).mono H4.out.size))
            clear b13 h12
            go_wp2_with fail
            go_ret
            exact ⟨rfl, H13.out⟩
end Go.Proofs.Ytbanbpphadgoiaa
