/- The law CheckRight of layer 26 returns true for every argument. -/
import Derived.Test.YtaminpfgkegibaaXc9
namespace Go.Proofs.Ytaminpfgkegibaa
set_option linter.unusedVariables false
set_option linter.unusedSimpArgs false
open Go.RowKit Go.Maps
set_option maxHeartbeats 8000000
set_option maxRecDepth 100000
theorem ow_some {w : World} {B : Nat} {v : Value} {x : BitVec 64} {l : List (BitVec 64)} (h : Ow u64v 57 w B v (x :: l)) : ∃ q c, v = .slice (some ⟨q, 0, none⟩) (x :: l).length c ∧ (x :: l).length ≤ c ∧ B ≤ q ∧ q < w.heap.size := by
  rcases h.2 with ⟨e, hn⟩ | ⟨g, cap, cur, e, hb, hh, hc, _⟩
  · cases hn
  · exact ⟨g, cap, e, hc, hb, (Array.getElem?_eq_some_iff.1 hh).1⟩
theorem right_walk (w : World) (g : Gv) (wg : GvOk w g) : Calls Try.prog 5 #[g.v] w (RetP (.bool true) w) := by
  have HFew := Lib.hid (fun W (b : Below w.heap.size w W) => few_c W g (wg.at_.up b))
  have HOf := Lib.hid (fun W (b : Below w.heap.size w W) (hs : FewP g) => of_c W g (wg.at_.up b) hs)
  have HK := Lib.hid known26_c
  obtain ⟨A, ca, A2, ca2, ns, rs⟩ := g
  obtain ⟨N, hN⟩ : ∃ N, N = ns.length := ⟨_, rfl⟩
  obtain ⟨M, hM⟩ : ∃ M, M = rs.length := ⟨_, rfl⟩
  unfold Gv.v Gv.vn Gv.vr at HFew HOf ⊢
  simp only at HFew HOf ⊢
  rw [← hN, ← hM] at HFew HOf ⊢
  clear wg hN hM
  go_enter Try.func5, Try.ntmps5
  go_wp2_with fail
  obtain ⟨G, hG⟩ : ∃ G, G = w.heap.size := ⟨_, rfl⟩
  obtain ⟨w1, hw1⟩ : ∃ W, W = w.alloc (.cells #[.slice A N ca, .slice A2 M ca2] 29) := ⟨_, rfl⟩
  have hbk : Bk w1 G 29 #[.slice A N ca, .slice A2 M ca2] := by rw [hw1, hG]; exact Bk.new w _ _
  have b1 : Below w.heap.size w w1 := by rw [hw1]; exact Gw.alloc w _
  rw [← hw1, ← hG]
  have H1 := Lib.hid (And.intro hbk b1)
  clear hw1 hG hbk b1
  refine Calls.mono (HK.out w1) ?_
  rintro r w2 ⟨rfl, b2⟩
  have H2 := Lib.hid (And.intro (H1.out.1.below b2 H1.out.1.lt) (H1.out.2.trans (b2.mono H1.out.2.size)))
  obtain ⟨g0, g1⟩ := H2.out.1.two
  clear b2
  go_wp2_with fail
  refine Calls.mono (HFew.out w2 H2.out.2) ?_
  rintro r w3 ⟨bf, rfl, hfew, b3⟩
  have H3 := Lib.hid (And.intro (H2.out.1.below b3 H2.out.1.lt) (H2.out.2.trans (b3.mono H2.out.2.size)))
  clear b3 g0 g1
  obtain ⟨g0, g1⟩ := H3.out.1.two
  cases bf with
  | false =>
    clear hfew
    go_wp2_with fail
    go_ret
    exact ⟨rfl, H3.out.2⟩
  | true =>
    have HFp := Lib.hid (hfew rfl)
    clear hfew
    go_wp2_with fail
    refine Calls.mono (HOf.out w3 H3.out.2 HFp.out) ?_
    rintro r w4 ⟨g', rfl, hg', en, er', b4⟩
    have hf' : FewP g' := by
      have h := HFp.out
      unfold FewP at h ⊢
      rw [en, er']
      exact h
    obtain ⟨gv, hgv⟩ : ∃ v : Value, v = .agg #[.slice g'.A g'.n.length g'.c, .slice g'.A2 g'.r.length g'.c2] := ⟨_, rfl⟩
    have HEnc := Lib.hid (show Calls Try.prog 18 #[gv] w4 (EncP g' w4) from by rw [hgv]; exact rencode_c w4 g' hg' hf')
    have H4 := Lib.hid (H3.out.2.trans (b4.mono H3.out.2.size))
    rw [← hgv]
    clear hg' b4 g0 g1 hf' hgv en er'
    go_wp2_with fail
    refine Calls.mono HEnc.out ?_
    rintro r w5 (⟨er, hne, rfl, b5⟩ | ⟨hck, hend, v, rfl, how, b5⟩)
    · have H5 := Lib.hid (H4.out.trans (b5.mono H4.out.size))
      have e1 : (er != 0) = true := by simpa using hne
      clear b5 hne
      go_wp2_with fail
      go_ret
      exact ⟨rfl, H5.out⟩
    · have hlen := encW_len g'.n g'.r (fun r hr => (goodS_size ((ckG_ok hck).2.2 r hr).1).2)
      obtain ⟨x0, zs, hzs⟩ : ∃ x0 zs, encW g'.n g'.r = x0 :: zs := ⟨_, _, rfl⟩
      have how2 := how
      rw [hzs] at how2
      obtain ⟨q, c, rfl, hc, hq1, hq2⟩ := ow_some how2
      rw [← hzs] at hc how ⊢
      have hrd := how.rd
      obtain ⟨t, ht⟩ : ∃ t, t = (encW g'.n g'.r).length := ⟨_, rfl⟩
      have HI := Lib.hid (fun W (b : Below w5.heap.size w5 W) => imageE_c W q c t g' hck hend ht ((hrd.below b).more b.size))
      rw [← ht] at hc ⊢
      have H5 := Lib.hid (H4.out.trans (b5.mono H4.out.size))
      clear hrd how how2 b5 hlen hzs hq1 hq2 hck hend ht HEnc HOf HFew hc
      go_wp2_with fail
      refine Calls.mono (rightR_c w5 q t c (HI.out w5 (Below.refl _ _))) ?_
      rintro r w6 ⟨rfl, b6⟩
      have H6 := Lib.hid (And.intro b6 (H5.out.trans (b6.mono H5.out.size)))
      clear b6
      go_wp2_with fail
      refine Calls.mono (HI.out w6 H6.out.1) ?_
      rintro r w7 ⟨lf, rfl, h7, b7⟩
      obtain ⟨A7, c7, e0, _⟩ := h7.slice_
      replace e0 : lf = .slice A7 0 c7 := e0
      subst e0
      have H7 := Lib.hid (H6.out.2.trans (b7.mono H6.out.2.size))
      clear h7 b7
      go_wp2_with fail
      go_ret
      exact ⟨rfl, H7.out⟩
end Go.Proofs.Ytaminpfgkegibaa
namespace Go.Proofs.Ytaminpfgkegibaa.checkRight
open Go.ChangeShapes Go.WideShapes Go.ChangeAt Go.RowKit
open Go.ChangeMaps (open_string shut_string)
set_option linter.unusedVariables false
set_option maxRecDepth 100000 in
theorem lifted (os : Os) (started : os.Started) (H : Type) (enc : TypeId × Value → H) :
    ReturnsInHanded {} Try.checked os 5 .any (Rows.checkRightSpec.pre6 enc Try.prog Try.f5 Rows.checkRightRow.domain false) (Rows.checkRightSpec.post enc Try.prog Try.f5 false true false false) := by
  refine returnsInHanded_of_change (C := Try.checked) own started (by kernel_rfl) Try.func5
    (ChangeSpec.witness6 (enc := enc) (C := Try.checked) false ⟨#[], #[.agg #[.slice none 0 0, .slice none 0 0]], []⟩ 8 (by kernel_rfl) (by kernel_rfl) (by kernel_rfl) (by kernel_rfl)) ?_
  intro W base args ds gs before hval0 hW hcnd _
  have hval : ∀ (j : Nat) t v, Try.f5.params[j]? = some t → args[j]? = some v → Value.okWide Try.prog W .any base t v := hval0
  have hW' := hW
  obtain ⟨p, q, hA0, hV, rfl, hfz, hnd⟩ := hW
  have hA : DataW.TrodAll enc Try.prog W 0 (fun _ => true) true Try.f5.params.toList args.toList ds p := hA0
  rw [Try.params5] at hA hval
  obtain ⟨v0, vs0, d0, ds0, p0, q0, hargs, rfl, rfl, h0, r0⟩ := trodAll_cons hA
  obtain ⟨rfl, rfl, rfl⟩ := trodAll_nil r0
  obtain rfl : args = #[v0] := by cases args; simp_all
  obtain ⟨rfl, rfl⟩ := trodVars_none hV
  have k0 := h0
  have lt0 : ∀ x ∈ p0, x.block < W.heap.size := by obtain ⟨m, hm⟩ := k0; exact DataW.trod_lt m _ _ _ hm
  obtain ⟨a0, e0v, w0⟩ := open_str_Graph (hval 0 29 v0 rfl rfl) h0; subst e0v
  clear hA0 hval0
  refine (right_walk W a0 w0).mono fun e W' ⟨he, bel⟩ => ?_
  subst he
  exact ⟨_, rfl, _, _, _, [], _, [], hW', trodAll_mk1 (shut_bool Try.underlying4 _), (trodAll_cons_mk (Below.trod laidOut (by kernel_rfl) (of_decide_eq_true (by kernel_rfl)) k0 bel lt0) trodAll_mk0), rfl, bel.frame _, fun h => by cases h⟩
theorem over : Rows.checkRightRow.holds Try.pinned (OpenSpec.ofChange Rows.checkRightSpec) :=
  OpenClaim.holds_of_wide 5 Try.f5 rfl rfl rfl rfl rfl rfl rfl ⟨rfl, rfl, rfl, rfl, rfl⟩ rfl rfl rfl rfl rfl (by kernel_rfl) Try.func5 (by kernel_rfl)
    (of_decide_eq_true (by kernel_rfl)) (by unfold Func.isWrapper; first | (rw [if_pos (by decide +kernel)]; kernel_rfl) | (rw [if_neg (by decide +kernel)]; exact ⟨rfl, rfl⟩))
    (fun os started H enc _ => lifted os started H enc)
theorem proved : Rows.CheckRightSaid := over
end Go.Proofs.Ytaminpfgkegibaa.checkRight
