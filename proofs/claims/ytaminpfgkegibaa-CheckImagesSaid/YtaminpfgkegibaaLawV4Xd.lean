/- The law CheckImages of layer 26 returns true for every argument. -/
import Derived.Test.YtaminpfgkegibaaXd13
namespace Go.Proofs.Ytaminpfgkegibaa
set_option linter.unusedVariables false
set_option linter.unusedSimpArgs false
open Go.RowKit Go.Maps
set_option maxHeartbeats 4000000
set_option maxRecDepth 100000
theorem images_walk (w : World) (A : Option Addr) (ws : List (BitVec 64)) (c : Nat) (_g : ws.length ≤ c) (_m : c ≤ maxLen) (hr : Rd u64v w w.heap.size A ws) :
    Calls Try.prog 3 #[.slice A ws.length c] w (RetP (.bool true) w) := by
  have HK := Lib.hid (known26_c w)
  have HR := Lib.hid hr
  by_cases hl : 300 < ws.length
  · obtain ⟨N, hN⟩ : ∃ N, N = ws.length := ⟨_, rfl⟩
    rw [← hN] at hl ⊢
    have t1 : (300 : Int) < (N : Int) := by omega
    clear hN hr _g
    go_enter Try.func3, Try.ntmps3
    go_wp2_with fail
    refine Calls.mono HK.out ?_
    rintro r w1 ⟨rfl, b1⟩
    have HB1 := Lib.hid b1
    clear b1
    go_wp2_with fail
    go_ret
    exact ⟨rfl, HB1.out⟩
  · have hl3 : ws.length ≤ 300 := by omega
    have h5 := imgF_leB hl3
    have HImg := Lib.hid (fun W (b : Below w.heap.size w W) => imageG_c W A c ws ((hr.below b).more b.size) (by omega) h5)
    have HRim := Lib.hid (fun W (b : Below w.heap.size w W) => rimageG_c W A c ws ((hr.below b).more b.size) (by omega) h5)
    have HDec := Lib.hid (fun W (b : Below w.heap.size w W) => decode_c W A c ws ((hr.below b).more b.size) (by omega))
    obtain ⟨G, hG⟩ : ∃ G, G = imgF ws := ⟨_, rfl⟩
    have hbad : BadW ws → G ≠ [] := fun h => by rw [hG]; exact bad_img (by omega) h
    have hok : ∀ g : Gv, ckG g = 0 → endL g.n (2 + 5 * g.r.length) ≤ 8192 → encW g.n g.r = ws → G = [] := fun g h1 h2 h3 => by rw [hG, ← h3]; exact img_enc h1 h2
    rw [← hG] at HImg HRim h5
    obtain ⟨N, hN⟩ : ∃ N, N = ws.length := ⟨_, rfl⟩
    rw [← hN] at hl HImg HRim HDec ⊢
    have HRi := Lib.hid (fun W (b : Below w.heap.size w W) (y : Bool) (hy : y = decide (G.length = 0)) => rightG_c W A N c G y hy (HImg.out W b))
    have HX := Lib.hid (And.intro hbad (And.intro hok h5))
    have t1 : ¬ (300 : Int) < (N : Int) := by omega
    clear hN hr _g hl hl3 h5 hG hbad hok HR
    go_enter Try.func3, Try.ntmps3
    go_wp2_with fail
    refine Calls.mono HK.out ?_
    rintro r w1 ⟨rfl, b1⟩
    have HB1 := Lib.hid b1
    clear b1
    go_wp2_with fail
    refine Calls.mono (HImg.out w1 HB1.out) ?_
    rintro r w2 ⟨lv, rfl, h2, b2⟩
    have HB2 := Lib.hid (HB1.out.trans (b2.mono HB1.out.size))
    obtain ⟨A2, c2, e0, _⟩ := h2.slice_
    obtain ⟨M, hM⟩ : ∃ N, N = G.length := ⟨_, rfl⟩
    rw [← hM] at e0
    subst e0
    have HM := Lib.hid hM
    have H2 := Lib.hid h2
    clear b2 h2 hM HImg HB1
    go_wp2_with fail
    refine Calls.mono (HDec.out w2 HB2.out) ?_
    rintro r w3 (⟨rfl, b3, hbd⟩ | ⟨g, rfl, hgat, k1, k2, k3, b3, _, _⟩)
    · have HG := Lib.hid (HX.out.1 hbd)
      have HB3 := Lib.hid (HB2.out.trans (b3.mono HB2.out.size))
      have H3 := Lib.hid (H2.out.below b3)
      clear b3 H2 HB2 HDec hbd
      go_wp2_with fail
      obtain ⟨w4, hw4⟩ : ∃ W, W = w3.alloc (.cells #[.slice none 0 0, .slice none 0 0] 29) := ⟨_, rfl⟩
      have b34 : Below w3.heap.size w3 w4 := by rw [hw4]; exact Gw.alloc w3 _
      rw [← hw4]
      have HB4 := Lib.hid (HB3.out.trans (b34.mono HB3.out.size))
      have H4 := Lib.hid (H3.out.below b34)
      clear hw4 b34 H3 HB3
      refine Calls.mono (HRim.out w4 HB4.out) ?_
      rintro r w5 ⟨lv2, rfl, h5, b5⟩
      have HB5 := Lib.hid (HB4.out.trans (b5.mono HB4.out.size))
      have HSm := Lib.hid (same_c w5 _ _ _ lv2 G (H4.out.below b5) h5 (by have := HX.out.2.2; omega))
      clear b5 h5 H4 HB4 HRim
      go_wp2_with fail
      refine Calls.mono HSm.out ?_
      rintro r w6 ⟨rfl, b6⟩
      have HB6 := Lib.hid (HB5.out.trans (b6.mono HB5.out.size))
      clear b6 HSm HB5
      have hz : ¬ M = 0 := by rw [HM.out]; exact fun h => HG.out (List.eq_nil_of_length_eq_zero h)
      have e1 : ((M : Int) == 0) = false := by simpa using hz
      have HR6 := Lib.hid (HRi.out w6 HB6.out false (by rw [← HM.out]; exact (decide_eq_false hz).symm))
      clear HRi
      go_wp2_with fail
      refine Calls.mono HR6.out ?_
      rintro r w7 ⟨rfl, b7⟩
      have HB7 := Lib.hid (HB6.out.trans (b7.mono HB6.out.size))
      clear b7 HR6 HB6
      go_wp2_with fail
      go_ret
      exact ⟨rfl, HB7.out⟩
    · have HG := Lib.hid (HX.out.2.1 g k1 k2 k3)
      have HB3 := Lib.hid (HB2.out.trans (b3.mono HB2.out.size))
      have H3 := Lib.hid (H2.out.below b3)
      obtain ⟨gA, gc, gA2, gc2, gns, grs⟩ := g
      obtain ⟨gN, hgN⟩ : ∃ z, z = gns.length := ⟨_, rfl⟩
      obtain ⟨gM, hgM⟩ : ∃ z, z = grs.length := ⟨_, rfl⟩
      unfold Gv.v Gv.vn Gv.vr
      simp only
      rw [← hgN, ← hgM]
      clear b3 H2 HB2 HDec hgat k1 k2 k3 hgN hgM
      go_wp2_with fail
      obtain ⟨w4, hw4⟩ : ∃ W, W = w3.alloc (.cells #[.slice gA gN gc, .slice gA2 gM gc2] 29) := ⟨_, rfl⟩
      have b34 : Below w3.heap.size w3 w4 := by rw [hw4]; exact Gw.alloc w3 _
      rw [← hw4]
      have HB4 := Lib.hid (HB3.out.trans (b34.mono HB3.out.size))
      have H4 := Lib.hid (H3.out.below b34)
      clear hw4 b34 H3 HB3
      refine Calls.mono (HRim.out w4 HB4.out) ?_
      rintro r w5 ⟨lv2, rfl, h5, b5⟩
      have HB5 := Lib.hid (HB4.out.trans (b5.mono HB4.out.size))
      have HSm := Lib.hid (same_c w5 _ _ _ lv2 G (H4.out.below b5) h5 (by have := HX.out.2.2; omega))
      clear b5 h5 H4 HB4 HRim
      go_wp2_with fail
      refine Calls.mono HSm.out ?_
      rintro r w6 ⟨rfl, b6⟩
      have HB6 := Lib.hid (HB5.out.trans (b6.mono HB5.out.size))
      clear b6 HSm HB5
      have hz : M = 0 := by rw [HM.out, HG.out]; rfl
      subst hz
      have HR6 := Lib.hid (HRi.out w6 HB6.out true (by rw [← HM.out]; rfl))
      clear HRi
      go_wp2_with fail
      refine Calls.mono HR6.out ?_
      rintro r w7 ⟨rfl, b7⟩
      have HB7 := Lib.hid (HB6.out.trans (b7.mono HB6.out.size))
      clear b7 HR6 HB6
      go_wp2_with fail
      go_ret
      exact ⟨rfl, HB7.out⟩
end Go.Proofs.Ytaminpfgkegibaa
namespace Go.Proofs.Ytaminpfgkegibaa.checkImages
open Go.ChangeShapes Go.WideShapes Go.ChangeAt Go.RowKit
open Go.ChangeMaps (open_string shut_string)
set_option linter.unusedVariables false
set_option maxRecDepth 100000 in
theorem lifted (os : Os) (started : os.Started) (H : Type) (enc : TypeId × Value → H) :
    ReturnsInHanded {} Try.checked os 3 .any (Rows.checkImagesSpec.pre6 enc Try.prog Try.f3 Rows.checkImagesRow.domain false) (Rows.checkImagesSpec.post enc Try.prog Try.f3 false true false false) := by
  refine returnsInHanded_of_change (C := Try.checked) own started (by kernel_rfl) Try.func3
    (ChangeSpec.witness6 (enc := enc) (C := Try.checked) false ⟨#[], #[.slice none 0 0], []⟩ 8 (by kernel_rfl) (by kernel_rfl) (by kernel_rfl) (by kernel_rfl)) ?_
  intro W base args ds gs before hval0 hW hcnd _
  have hval : ∀ (j : Nat) t v, Try.f3.params[j]? = some t → args[j]? = some v → Value.okWide Try.prog W .any base t v := hval0
  have hW' := hW
  obtain ⟨p, q, hA0, hV, rfl, hfz, hnd⟩ := hW
  have hA : DataW.TrodAll enc Try.prog W 0 (fun _ => true) true Try.f3.params.toList args.toList ds p := hA0
  rw [Try.params3] at hA hval
  obtain ⟨v0, vs0, d0, ds0, p0, q0, hargs, rfl, rfl, h0, r0⟩ := trodAll_cons hA
  obtain ⟨rfl, rfl, rfl⟩ := trodAll_nil r0
  obtain rfl : args = #[v0] := by cases args; simp_all
  obtain ⟨rfl, rfl⟩ := trodVars_none hV
  have k0 := h0
  have lt0 : ∀ x ∈ p0, x.block < W.heap.size := by obtain ⟨m, hm⟩ := k0; exact DataW.trod_lt m _ _ _ hm
  obtain ⟨A0, a0, c0, e0v, g0, m0, w0⟩ := open_words Try.underlying22 Try.underlying57 (by kernel_rfl) (hval 0 22 v0 rfl rfl) h0; subst e0v
  clear hA0 hval0
  refine (images_walk W A0 a0 c0 g0 m0 w0).mono fun e W' ⟨he, bel⟩ => ?_
  subst he
  exact ⟨_, rfl, _, _, _, [], _, [], hW', trodAll_mk1 (shut_bool Try.underlying4 _), (trodAll_cons_mk (Below.trod laidOut (by kernel_rfl) (of_decide_eq_true (by kernel_rfl)) k0 bel lt0) trodAll_mk0), rfl, bel.frame _, fun h => by cases h⟩
theorem over : Rows.checkImagesRow.holds Try.pinned (OpenSpec.ofChange Rows.checkImagesSpec) :=
  OpenClaim.holds_of_wide 3 Try.f3 rfl rfl rfl rfl rfl rfl rfl ⟨rfl, rfl, rfl, rfl, rfl⟩ rfl rfl rfl rfl rfl (by kernel_rfl) Try.func3 (by kernel_rfl)
    (of_decide_eq_true (by kernel_rfl)) (by unfold Func.isWrapper; first | (rw [if_pos (by decide +kernel)]; kernel_rfl) | (rw [if_neg (by decide +kernel)]; exact ⟨rfl, rfl⟩))
    (fun os started H enc _ => lifted os started H enc)
theorem proved : Rows.CheckImagesSaid := over
end Go.Proofs.Ytaminpfgkegibaa.checkImages
