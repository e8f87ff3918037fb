/- The law ImageUnlike of layer 23 returns true for every argument. -/
import Derived.Test.YtkkjnahjmomjgaaWa10
namespace Go.Proofs.Ytkkjnahjmomjgaa
set_option linter.unusedVariables false
set_option linter.unusedSimpArgs false
open Go.RowKit Go.Maps
set_option maxHeartbeats 8000000
set_option maxRecDepth 100000
theorem iu9 (Q : Exit → Act → World → Prop) (a0 : Act) (w : World) (sa sb : Nat) (ga gb : Gv) (A A2 B B2 : Option Addr) (N M K L a1 a2 b1 b2 : Nat) (xA yA : Option Addr) (xn xc yn yc : Nat) (p : Bool) (hga : ga.v = .agg #[.slice A N a1, .slice A2 M a2]) (hgb : gb.v = .agg #[.slice B K b1, .slice B2 L b2]) (hfa : FewP ga) (hfb : FewP gb) (ha : Hid (GBx w sa ga (.slice A N a1) (.slice A2 M a2))) (hb : Hid (GBx w sb gb (.slice B K b1) (.slice B2 L b2))) (hsame : sameG ga gb = p) (hpp : (p == p) = true) (hwd : Hid (∀ W, Below w.heap.size w W → Calls Try.prog 12 #[.slice xA xn xc, .slice yA yn yc] W (RetP (.bool p) W))) (hsz : a0.tmps.size = 42) (sl2 : a0.tmps.getD 2 undef = .pointer (some ⟨sa, 0, none⟩)) (sl3 : a0.tmps.getD 3 undef = .pointer (some ⟨sb, 0, none⟩)) (sl5 : a0.tmps.getD 5 undef = .slice xA xn xc) (sl7 : a0.tmps.getD 7 undef = .slice yA yn yc)
    (fin : ∀ (vals : Nat → Value) (w1 : World), Below w.heap.size w w1 → (IsV (.bool true)) (vals 9) w1 → Q .normal (putD vals [33, 34, 35, 36, 37, 38, 39, 40, 41, 4] 0 a0) w1) :
    (Code.region 9 (regIn Try.f5 9) true).wp Try.prog Q a0 w := by
  refine region_by (G := fun w w1 => Below w.heap.size w w1) [IsV (.slice xA xn xc),
    IsV (.slice yA yn yc),
    IsV (.bool p),
    IsV (.agg #[.slice A N a1, .slice A2 M a2]),
    OfV ga,
    IsV (.agg #[.slice B K b1, .slice B2 L b2]),
    OfV gb,
    IsV (.bool p),
    IsV (.bool true),
    IsV (.bool true)]
    [33, 34, 35, 36, 37, 38, 39, 40, 41, 4] (by kernel_rfl) (Gw.drew _) Gw.trans (by rw [hsz]; kernel_rfl) (by kernel_rfl) ?_ ?_ ?_
  · intro f hf
    simp only [List.mem_cons, List.not_mem_nil, or_false] at hf
    rcases hf with rfl | rfl | rfl | rfl | rfl | rfl | rfl | rfl | rfl | rfl <;> intro v a b h g <;> first | exact IsV.mono h | exact OfV.mono h g
  · refine ⟨?_, ?_, ?_, ?_, ?_, ?_, ?_, ?_, ?_, ?_, trivial⟩
    · exact owes_mv 5 (by kernel_rfl) (by kernel_rfl) (by kernel_rfl) sl5 (fun _ => rfl)
    · exact owes_mv 7 (by kernel_rfl) (by kernel_rfl) (by kernel_rfl) sl7 (fun _ => rfl)
    · refine owes_v (Go.Op.call { callee := Go.Callee.value (Go.Operand.func 12), args := #[Go.Operand.tmp 33, Go.Operand.tmp 34], argTypes := #[33, 33] }) 4 [0, 1] (by kernel_rfl) (by kernel_rfl) (by kernel_rfl) rfl fun vals w1 ρ hG hF hρ hcst hfun => ?_
      have e33 : ρ (.tmp 33) = .slice xA xn xc := ((hρ 33).trans (slotJ [0, 1] (by rw [hsz]; decide) (by kernel_rfl))).trans (hF 0 (by decide))
      have e34 : ρ (.tmp 34) = .slice yA yn yc := ((hρ 34).trans (slotJ [0, 1] (by rw [hsz]; decide) (by kernel_rfl))).trans (hF 1 (by decide))
      clear hρ hF hcst sl2 sl3 sl5 sl7 fin
      exact opv_enter (by go_simp <;> rfl) (of_ret (hwd.out w1 hG))
    · refine owes_v (Go.Op.load 25 (Go.Operand.tmp 2)) 25 [] (by kernel_rfl) (by kernel_rfl) (by kernel_rfl) rfl fun vals w1 ρ hG hF hρ hcst hfun => ?_
      have e2 : ρ (.tmp 2) = .pointer (some ⟨sa, 0, none⟩) := ((hρ 2).trans (slotO [] (by kernel_rfl))).trans sl2
      obtain ⟨d0, d1, _⟩ := ha.out w1 hG
      clear hρ hF hcst hfun sl2 sl3 sl5 sl7 fin
      exact opv_val (by go_simp <;> rfl) ⟨gw_self _, rfl⟩
    · refine owes_v (Go.Op.call { callee := Go.Callee.value (Go.Operand.func 9), args := #[Go.Operand.tmp 36], argTypes := #[25] }) 31 [3] (by kernel_rfl) (by kernel_rfl) (by kernel_rfl) rfl fun vals w1 ρ hG hF hρ hcst hfun => ?_
      have e36 : ρ (.tmp 36) = .agg #[.slice A N a1, .slice A2 M a2] := ((hρ 36).trans (slotJ [3] (by rw [hsz]; decide) (by kernel_rfl))).trans (hF 3 (by decide))
      clear hρ hF hcst sl2 sl3 sl5 sl7 fin
      exact opv_enter (by go_simp <;> rfl) (of_k hga hfa (ha.out w1 hG).2.2)
    · refine owes_v (Go.Op.load 25 (Go.Operand.tmp 3)) 25 [] (by kernel_rfl) (by kernel_rfl) (by kernel_rfl) rfl fun vals w1 ρ hG hF hρ hcst hfun => ?_
      have e3 : ρ (.tmp 3) = .pointer (some ⟨sb, 0, none⟩) := ((hρ 3).trans (slotO [] (by kernel_rfl))).trans sl3
      obtain ⟨d0, d1, _⟩ := hb.out w1 hG
      clear hρ hF hcst hfun sl2 sl3 sl5 sl7 fin
      exact opv_val (by go_simp <;> rfl) ⟨gw_self _, rfl⟩
    · refine owes_v (Go.Op.call { callee := Go.Callee.value (Go.Operand.func 9), args := #[Go.Operand.tmp 38], argTypes := #[25] }) 31 [5] (by kernel_rfl) (by kernel_rfl) (by kernel_rfl) rfl fun vals w1 ρ hG hF hρ hcst hfun => ?_
      have e38 : ρ (.tmp 38) = .agg #[.slice B K b1, .slice B2 L b2] := ((hρ 38).trans (slotJ [5] (by rw [hsz]; decide) (by kernel_rfl))).trans (hF 5 (by decide))
      clear hρ hF hcst sl2 sl3 sl5 sl7 fin
      exact opv_enter (by go_simp <;> rfl) (of_k hgb hfb (hb.out w1 hG).2.2)
    · refine owes_v (Go.Op.call { callee := Go.Callee.value (Go.Operand.func 19), args := #[Go.Operand.tmp 37, Go.Operand.tmp 39], argTypes := #[31, 31] }) 4 [4, 6] (by kernel_rfl) (by kernel_rfl) (by kernel_rfl) rfl fun vals w1 ρ hG hF hρ hcst hfun => ?_
      have f37 : (OfV ga) (vals 4) w1 := hF 4 (by decide)
      have e37 : ρ (.tmp 37) = vals 4 := (hρ 37).trans (slotJ [4, 6] (by rw [hsz]; decide) (by kernel_rfl))
      have f39 : (OfV gb) (vals 6) w1 := hF 6 (by decide)
      have e39 : ρ (.tmp 39) = vals 6 := (hρ 39).trans (slotJ [4, 6] (by rw [hsz]; decide) (by kernel_rfl))
      clear hρ hF hcst sl2 sl3 sl5 sl7 fin
      exact opv_enter (by go_simp <;> rfl) (of_ret (req_k hfa hsame f37 f39))
    · refine owes_v (Go.Op.binOp Go.BinOp.eql 4 (Go.Operand.tmp 35) (Go.Operand.tmp 40) 4) 4 [2, 7] (by kernel_rfl) (by kernel_rfl) (by kernel_rfl) rfl fun vals w1 ρ hG hF hρ hcst hfun => ?_
      have e35 : ρ (.tmp 35) = .bool p := ((hρ 35).trans (slotJ [2, 7] (by rw [hsz]; decide) (by kernel_rfl))).trans (hF 2 (by decide))
      have e40 : ρ (.tmp 40) = .bool p := ((hρ 40).trans (slotJ [2, 7] (by rw [hsz]; decide) (by kernel_rfl))).trans (hF 7 (by decide))
      have k := hpp
      clear hρ hF hcst hfun sl2 sl3 sl5 sl7 fin
      exact opv_val (by go_simp <;> rfl) ⟨gw_self _, rfl⟩
    · exact owes_mvj 8 41 (by kernel_rfl) (by kernel_rfl) (by kernel_rfl) (by kernel_rfl) (by rw [hsz]; decide) (fun v w h => h)
  · intro vals w1 hG hF
    exact fin vals w1 hG (hF 9 (by decide +kernel))
theorem unlike_walk (w : World) (ga : Gv) (wa : GvOk w ga) (gb : Gv) (wb : GvOk w gb) : Calls Try.prog 5 #[ga.v, gb.v] w (RetP (.bool true) w) := by
  have HK := Lib.hid known23_c
  have HFa := Lib.hid (fun W (b : Below w.heap.size w W) => few_c W ga (wa.at_.up b))
  have HFb := Lib.hid (fun W (b : Below w.heap.size w W) => few_c W gb (wb.at_.up b))
  have HEa := Lib.hid (fun W (b : Below w.heap.size w W) (hs : FewP ga) => (iencode_c W ga (wa.at_.up b) hs.small).mono fun r w' h => encX_e h)
  have HEb := Lib.hid (fun W (b : Below w.heap.size w W) (hs : FewP gb) => (iencode_c W gb (wb.at_.up b) hs.small).mono fun r w' h => encX_e h)
  have HAt := Lib.hid (And.intro wa.at_ wb.at_)
  obtain ⟨va, hva⟩ : ∃ v, v = ga.v := ⟨_, rfl⟩
  obtain ⟨vb, hvb⟩ : ∃ v, v = gb.v := ⟨_, rfl⟩
  obtain ⟨A, N, a1, A2, M, a2, ea⟩ : ∃ A N a1 A2 M a2, va = .agg #[.slice A N a1, .slice A2 M a2] := ⟨_, _, _, _, _, _, hva⟩
  obtain ⟨B, K, b1, B2, L, b2, eb⟩ : ∃ A N a1 A2 M a2, vb = .agg #[.slice A N a1, .slice A2 M a2] := ⟨_, _, _, _, _, _, hvb⟩
  rw [← hva] at HFa HEa ⊢
  rw [← hvb] at HFb HEb ⊢
  subst ea eb
  have HVa := Lib.hid hva.symm
  have HVb := Lib.hid hvb.symm
  clear hva hvb wa wb
  go_enter Try.func5, Try.ntmps5
  go_wp2_with fail
  obtain ⟨Sa, hSa⟩ : ∃ S, S = w.heap.size := ⟨_, rfl⟩
  obtain ⟨w0, hw0⟩ : ∃ W, W = w.alloc (.cells #[.slice A N a1, .slice A2 M a2] 25) := ⟨_, rfl⟩
  obtain ⟨Sb, hSb⟩ : ∃ S, S = Sa + 1 := ⟨_, rfl⟩
  obtain ⟨w1, hw1⟩ : ∃ W, W = w0.alloc (.cells #[.slice B K b1, .slice B2 L b2] 25) := ⟨_, rfl⟩
  have z0 : w0.heap.size = Sb := by rw [hw0, hSb, hSa]; unfold World.alloc; simp
  have hka : Bk w1 Sa 25 #[.slice A N a1, .slice A2 M a2] := by rw [hw1, hw0, hSa]; exact (Bk.new w _ _).alloc _
  have hkb : Bk w1 Sb 25 #[.slice B K b1, .slice B2 L b2] := by rw [hw1, ← z0]; exact Bk.new w0 _ _
  have hb1 : Below w.heap.size w w1 := by rw [hw1, hw0]; exact (Gw.alloc w _).trans ((Gw.alloc _ _).mono (Gw.alloc w _).size)
  rw [← hw0, ← hw1, ← hSa, ← hSb]
  have H1 := Lib.hid (And.intro hka (And.intro hkb hb1))
  clear hw0 hw1 hSa hSb z0 hka hkb hb1
  refine Calls.mono (HK.out w1) ?_
  rintro r w2 ⟨rfl, b2'⟩
  have H2 := Lib.hid (show Bk w2 Sa 25 #[.slice A N a1, .slice A2 M a2] ∧ Bk w2 Sb 25 #[.slice B K b1, .slice B2 L b2] ∧ Below w.heap.size w w2 from ⟨H1.out.1.below b2' H1.out.1.lt, H1.out.2.1.below b2' H1.out.2.1.lt, H1.out.2.2.trans (b2'.mono H1.out.2.2.size)⟩)
  obtain ⟨g0, g1⟩ := H2.out.1.two
  have hGl := H2.out.1.lt
  clear b2' H1
  go_wp2_with fail
  refine Calls.mono (HFa.out w2 H2.out.2.2) ?_
  rintro r w3 ⟨bf, rfl, hfa, b3⟩
  have H3 := Lib.hid (show Bk w3 Sa 25 #[.slice A N a1, .slice A2 M a2] ∧ Bk w3 Sb 25 #[.slice B K b1, .slice B2 L b2] ∧ Below w.heap.size w w3 from ⟨H2.out.1.below b3 H2.out.1.lt, H2.out.2.1.below b3 H2.out.2.1.lt, H2.out.2.2.trans (b3.mono H2.out.2.2.size)⟩)
  clear b3 H2 g0 g1 hGl
  cases bf with
  | false =>
    clear hfa
    go_wp2_with fail
    go_ret
    exact ⟨rfl, H3.out.2.2⟩
  | true =>
    have HPa := Lib.hid (hfa rfl)
    clear hfa
    obtain ⟨g0, g1⟩ := H3.out.2.1.two
    have hGl := H3.out.2.1.lt
    go_wp2_with fail
    refine Calls.mono (HFb.out w3 H3.out.2.2) ?_
    rintro r w4 ⟨bf, rfl, hfb, b4⟩
    have H4 := Lib.hid (show Bk w4 Sa 25 #[.slice A N a1, .slice A2 M a2] ∧ Bk w4 Sb 25 #[.slice B K b1, .slice B2 L b2] ∧ Below w.heap.size w w4 from ⟨H3.out.1.below b4 H3.out.1.lt, H3.out.2.1.below b4 H3.out.2.1.lt, H3.out.2.2.trans (b4.mono H3.out.2.2.size)⟩)
    clear b4 H3 g0 g1 hGl
    cases bf with
    | false =>
      clear hfb
      go_wp2_with fail
      go_ret
      exact ⟨rfl, H4.out.2.2⟩
    | true =>
      have HPb := Lib.hid (hfb rfl)
      clear hfb
      obtain ⟨g0, g1⟩ := H4.out.1.two
      have hGl := H4.out.1.lt
      go_wp2_with fail
      refine Calls.mono (HEa.out w4 H4.out.2.2 HPa.out) ?_
      rintro r w5 ⟨xA, xn, xc, rfl, b5, hx1, hx2⟩
      have H5 := Lib.hid (show Bk w5 Sa 25 #[.slice A N a1, .slice A2 M a2] ∧ Bk w5 Sb 25 #[.slice B K b1, .slice B2 L b2] ∧ Below w.heap.size w w5 from ⟨H4.out.1.below b5 H4.out.1.lt, H4.out.2.1.below b5 H4.out.2.1.lt, H4.out.2.2.trans (b5.mono H4.out.2.2.size)⟩)
      have HX := Lib.hid hx1
      obtain ⟨ea, hea⟩ : ∃ e, e = errG ga := ⟨_, rfl⟩
      have HEa2 := Lib.hid (And.intro hea (err_nn ga))
      rw [← hea]
      clear b5 H4 g0 g1 hGl hx1 hx2 hea
      obtain ⟨g0, g1⟩ := H5.out.2.1.two
      have hGl := H5.out.2.1.lt
      go_wp2_with fail
      refine Calls.mono (HEb.out w5 H5.out.2.2 HPb.out) ?_
      rintro r w6 ⟨yA, yn, yc, rfl, b6, hy1, hy2⟩
      have H6 := Lib.hid (show Bk w6 Sa 25 #[.slice A N a1, .slice A2 M a2] ∧ Bk w6 Sb 25 #[.slice B K b1, .slice B2 L b2] ∧ Below w.heap.size w w6 ∧ Below w5.heap.size w5 w6 from ⟨H5.out.1.below b6 H5.out.1.lt, H5.out.2.1.below b6 H5.out.2.1.lt, H5.out.2.2.trans (b6.mono H5.out.2.2.size), b6⟩)
      have HYy := Lib.hid hy1
      obtain ⟨eb, heb⟩ : ∃ e, e = errG gb := ⟨_, rfl⟩
      have HEb2 := Lib.hid (And.intro heb (err_nn gb))
      rw [← heb]
      clear b6 H5 g0 g1 hGl hy1 hy2 heb
      by_cases hs : ea + eb = 0
      · have ha0 : errG ga = 0 := by have h1 := HEa2.out; have h2 := HEb2.out; omega
        have hb0 : errG gb = 0 := by have h1 := HEa2.out; have h2 := HEb2.out; omega
        obtain ⟨c1, c2, c3, c4, c5⟩ := HX.out ha0
        obtain ⟨d1, d2, d3, d4, d5⟩ := HYy.out hb0
        obtain ⟨p, hp⟩ : ∃ p, p = sameG ga gb := ⟨_, rfl⟩
        have hwd : decide (encW ga.n ga.r = encW gb.n gb.r) = p := by
          rw [hp]
          by_cases he : encW ga.n ga.r = encW gb.n gb.r
          · rw [decide_eq_true he]
            exact (same_norm.2 (enc_inj c1 c2 d1 d2 he)).symm
          · rw [decide_eq_false he]
            cases hq : sameG ga gb with
            | false => rfl
            | true =>
              obtain ⟨n1, n2⟩ := same_norm.1 hq
              exact absurd (enc_same n1 n2).1 he
        have HWd := Lib.hid (fun W (b : Below w6.heap.size w6 W) => show Calls Try.prog 12 #[.slice xA xn xc, .slice yA yn yc] W (RetP (.bool p) W) from by
          have l1 := encW_len ga.n ga.r (fun r hr => (goodS_size ((ckG_ok c1).2.2 r hr).1).2)
          have l2 := encW_len gb.n gb.r (fun r hr => (goodS_size ((ckG_ok d1).2.2 r hr).1).2)
          have h1 := words23_c W xA yA xc yc (encW ga.n ga.r) (encW gb.n gb.r) ((((c5.below H6.out.2.2.2).more H6.out.2.2.2.size).below b).more b.size) ((d5.below b).more b.size) (by omega) (by omega)
          rw [hwd, ← c3, ← d3] at h1
          exact h1)
        have HSa := Lib.hid (GBx.of H6.out.1 (HAt.out.1.up H6.out.2.2.1))
        have HSb := Lib.hid (GBx.of H6.out.2.1 (HAt.out.2.up H6.out.2.2.1))
        have hea0 : ea = 0 := by have h1 := HEa2.out; omega
        have heb0 : eb = 0 := by have h1 := HEb2.out; omega
        have HHp := Lib.hid hp.symm
        subst hea0 heb0
        clear hs ha0 hb0 c1 c2 c3 c4 c5 d1 d2 d3 d4 d5 hwd hp
        go_wp2_with fail
        refine iu9 _ _ _ Sa Sb ga gb A A2 B B2 N M K L a1 a2 b1 b2 xA yA xn xc yn yc p HVa.out HVb.out HPa.out HPb.out HSa HSb HHp.out (by cases p <;> rfl) HWd rfl ?_ ?_ ?_ ?_ ?_
        · rfl
        · rfl
        · rfl
        · rfl
        intro vals w7 hG h4
        unfold IsV at h4
        simp only [putD, Act.put, List.setIfInBounds_toArray, List.set_cons_zero, List.set_cons_succ, h4]
        have H7 := Lib.hid (H6.out.2.2.1.trans (hG.mono H6.out.2.2.1.size))
        clear hG h4
        go_wp2_with fail
        go_ret
        exact ⟨rfl, H7.out⟩
      · have hs1 : ((ea + eb) != 0) = true := by simpa using hs
        have q1 : 0 ≤ ea ∧ ea ≤ 4 := by have h1 := HEa2.out; omega
        have q2 : 0 ≤ eb ∧ eb ≤ 4 := by have h1 := HEb2.out; omega
        obtain ⟨q3, q4⟩ := q1
        obtain ⟨q5, q6⟩ := q2
        clear hs
        go_wp2_with fail
        go_ret
        exact ⟨rfl, H6.out.2.2.1⟩
end Go.Proofs.Ytkkjnahjmomjgaa
namespace Go.Proofs.Ytkkjnahjmomjgaa.imageUnlike
open Go.ChangeShapes Go.WideShapes Go.ChangeAt Go.RowKit
open Go.ChangeMaps (open_string shut_string)
set_option linter.unusedVariables false
set_option maxRecDepth 100000 in
theorem lifted (os : Os) (started : os.Started) (H : Type) (enc : TypeId × Value → H) :
    ReturnsInHanded {} Try.checked os 5 .any (Rows.imageUnlikeSpec.pre6 enc Try.prog Try.f5 Rows.imageUnlikeRow.domain false) (Rows.imageUnlikeSpec.post enc Try.prog Try.f5 false true false false) := by
  refine returnsInHanded_of_change (C := Try.checked) own started (by kernel_rfl) Try.func5
    (ChangeSpec.witness6 (enc := enc) (C := Try.checked) false ⟨#[], #[.agg #[.slice none 0 0, .slice none 0 0], .agg #[.slice none 0 0, .slice none 0 0]], []⟩ 8 (by kernel_rfl) (by kernel_rfl) (by kernel_rfl) (by kernel_rfl)) ?_
  intro W base args ds gs before hval0 hW hcnd _
  have hval : ∀ (j : Nat) t v, Try.f5.params[j]? = some t → args[j]? = some v → Value.okWide Try.prog W .any base t v := hval0
  have hW' := hW
  obtain ⟨p, q, hA0, hV, rfl, hfz, hnd⟩ := hW
  have hA : DataW.TrodAll enc Try.prog W 0 (fun _ => true) true Try.f5.params.toList args.toList ds p := hA0
  rw [Try.params5] at hA hval
  obtain ⟨v0, vs0, d0, ds0, p0, q0, hargs, rfl, rfl, h0, r0⟩ := trodAll_cons hA
  obtain ⟨v1, vs1, d1, ds1, p1, q1, rfl, rfl, rfl, h1, r1⟩ := trodAll_cons r0
  obtain ⟨rfl, rfl, rfl⟩ := trodAll_nil r1
  obtain rfl : args = #[v0, v1] := by cases args; simp_all
  obtain ⟨rfl, rfl⟩ := trodVars_none hV
  have k0 := h0
  have lt0 : ∀ x ∈ p0, x.block < W.heap.size := by obtain ⟨m, hm⟩ := k0; exact DataW.trod_lt m _ _ _ hm
  obtain ⟨a0, e0v, w0⟩ := open_str_Graph (hval 0 25 v0 rfl rfl) h0; subst e0v
  have k1 := h1
  have lt1 : ∀ x ∈ p1, x.block < W.heap.size := by obtain ⟨m, hm⟩ := k1; exact DataW.trod_lt m _ _ _ hm
  obtain ⟨a1, e1v, w1⟩ := open_str_Graph (hval 1 25 v1 rfl rfl) h1; subst e1v
  clear hA0 hval0
  refine (unlike_walk W a0 w0 a1 w1).mono fun e W' ⟨he, bel⟩ => ?_
  subst he
  exact ⟨_, rfl, _, _, _, [], _, [], hW', trodAll_mk1 (shut_bool Try.underlying4 _), (trodAll_cons_mk (Below.trod laidOut (by kernel_rfl) (of_decide_eq_true (by kernel_rfl)) k0 bel lt0) (trodAll_cons_mk (Below.trod laidOut (by kernel_rfl) (of_decide_eq_true (by kernel_rfl)) k1 bel lt1) trodAll_mk0)), rfl, bel.frame _, fun h => by cases h⟩
theorem over : Rows.imageUnlikeRow.holds Try.pinned (OpenSpec.ofChange Rows.imageUnlikeSpec) :=
  OpenClaim.holds_of_wide 5 Try.f5 rfl rfl rfl rfl rfl rfl rfl ⟨rfl, rfl, rfl, rfl, rfl⟩ rfl rfl rfl rfl rfl (by kernel_rfl) Try.func5 (by kernel_rfl)
    (of_decide_eq_true (by kernel_rfl)) (by unfold Func.isWrapper; first | (rw [if_pos (by decide +kernel)]; kernel_rfl) | (rw [if_neg (by decide +kernel)]; exact ⟨rfl, rfl⟩))
    (fun os started H enc _ => lifted os started H enc)
theorem proved : Rows.ImageUnlikeSaid := over
end Go.Proofs.Ytkkjnahjmomjgaa.imageUnlike
