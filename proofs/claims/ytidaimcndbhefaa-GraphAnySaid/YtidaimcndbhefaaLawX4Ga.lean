/- The law GraphAny of layer 17 returns true for every argument. No conditions. -/
import Derived.Test.YtidaimcndbhefaaGa8
namespace Go.Proofs.Ytidaimcndbhefaa
set_option linter.unusedVariables false
set_option linter.unusedSimpArgs false
open Go.RowKit Go.Maps
set_option maxHeartbeats 4000000
set_option maxRecDepth 100000
theorem any_walk (w : World) (g : Gv) (wg : GvOk w g) (FA : Option Addr) (fr : List Int) (fc : Nat) (_ : fr.length ≤ fc) (hm : fc ≤ maxLen) (hr : Rd inV w w.heap.size FA fr ∧ ∀ x ∈ fr, (Lit.int .i64 x).wf = true) : Calls Try.prog 3 #[g.v, .slice FA fr.length fc] w (TruP (.bool true) w) := by
  have HG := Lib.hid wg.at_
  have HR := Lib.hid (show Rd iV w w.heap.size FA fr from hr.1)
  obtain ⟨N, M, hN, hM, hva⟩ := @gv_cut g
  have HVa := Lib.hid hva
  rw [hva]
  obtain ⟨A, hA⟩ : ∃ A, A = g.A := ⟨_, rfl⟩
  obtain ⟨A2, hA2⟩ : ∃ A2, A2 = g.A2 := ⟨_, rfl⟩
  obtain ⟨a1, ha1⟩ : ∃ a1, a1 = g.c := ⟨_, rfl⟩
  obtain ⟨a2, ha2⟩ : ∃ a2, a2 = g.c2 := ⟨_, rfl⟩
  obtain ⟨K, hK⟩ : ∃ K, K = fr.length := ⟨_, rfl⟩
  rw [← hA, ← hA2, ← ha1, ← ha2] at HVa ⊢
  rw [← hK]
  have HN := Lib.hid (And.intro hN (And.intro hM hK))
  clear wg hva hA hA2 ha1 ha2 hN hM hK hr hm
  go_enter Try.func3, Try.ntmps3
  go_wp2_with fail
  have H0 := Lib.hid (show Bk (w.alloc (.cells #[.slice A N a1, .slice A2 M a2] 25)) w.heap.size 25 #[.slice A N a1, .slice A2 M a2] ∧ Below w.heap.size w (w.alloc (.cells #[.slice A N a1, .slice A2 M a2] 25)) from ⟨Bk.new w _ _, Gw.alloc w _⟩)
  obtain ⟨W0, hW0⟩ : ∃ W0, W0 = (w.alloc (.cells #[.slice A N a1, .slice A2 M a2] 25)) := ⟨_, rfl⟩
  rw [← hW0] at H0 ⊢
  clear hW0
  refine Calls.mono (known17_c _) ?_
  rintro r w1 ⟨rfl, b1⟩
  have H1 := Lib.hid (show Bk w1 w.heap.size 25 #[.slice A N a1, .slice A2 M a2] ∧ Below w.heap.size w w1 from ⟨H0.out.1.below b1 H0.out.1.lt, H0.out.2.trans (b1.mono H0.out.2.size)⟩)
  have c0 := H1.out.1.two.1
  have c1 := H1.out.1.two.2
  have cl := H1.out.1.lt
  clear b1 H0
  have HFa := Lib.hid (few_c w1 g (HG.out.up H1.out.2))
  rw [HVa.out] at HFa
  go_wp2_with fail
  refine Calls.mono HFa.out ?_
  rintro r w2 ⟨f1, rfl, hf1, b2⟩
  have H2 := Lib.hid (show Bk w2 w.heap.size 25 #[.slice A N a1, .slice A2 M a2] ∧ Below w.heap.size w w2 from ⟨H1.out.1.below b2 H1.out.1.lt, H1.out.2.trans (b2.mono H1.out.2.size)⟩)
  have HF1 := Lib.hid hf1
  clear c0 c1 cl hf1 b2 HFa H1
  cases f1 with
  | false =>
    go_wp2_with fail
    go_ret
    exact ⟨rfl, H2.out.2⟩
  | true =>
    have HF := Lib.hid (HF1.out (by first | rfl | trivial))
    have c0 := H2.out.1.two.1
    have c1 := H2.out.1.two.2
    have cl := H2.out.1.lt
    clear HF1
    by_cases h40 : (40 : Int) < (K : Int)
    · go_wp2_with fail
      all_goals first | (go_ret; exact ⟨rfl, H2.out.2⟩) | skip
    · have q1 : (K : Int) ≤ 40 := by omega
      have HGa := Lib.hid (GBx.of H2.out.1 (HG.out.up H2.out.2))
      have HOf := Lib.hid (of_c w2 g (HG.out.up H2.out.2) HF.out)
      rw [HVa.out] at HOf
      go_wp2_with fail
      refine Calls.mono HOf.out ?_
      rintro r w3 ⟨gx, rfl, hxat, hxn, hxr, b3⟩
      obtain ⟨N', M', hN', hM', hvx⟩ := @gv_cut gx
      have HVx := Lib.hid hvx
      rw [hvx]
      obtain ⟨X, hX⟩ : ∃ A, A = gx.A := ⟨_, rfl⟩
      obtain ⟨X2, hX2⟩ : ∃ A2, A2 = gx.A2 := ⟨_, rfl⟩
      obtain ⟨x1, hx1⟩ : ∃ a1, a1 = gx.c := ⟨_, rfl⟩
      obtain ⟨x2, hx2⟩ : ∃ a2, a2 = gx.c2 := ⟨_, rfl⟩
      rw [← hX, ← hX2, ← hx1, ← hx2] at HVx ⊢
      have HX := Lib.hid (And.intro hxat (And.intro hxn (And.intro hxr b3)))
      have HFx := Lib.hid (show FewP gx from HF.out.same (by rw [hxn]) hxr)
      have d0 := (HGa.out w3 b3).1
      have d1 := (HGa.out w3 b3).2.1
      have hcl : w.heap.size < w3.heap.size := cell_lt d0
      clear hN' hM' hvx hX hX2 hx1 hx2 hxat hxn hxr b3 HOf c0 c1 cl
      go_wp2_with fail
      obtain ⟨sx, hsx⟩ : ∃ sx, sx = w3.heap.size := ⟨_, rfl⟩
      obtain ⟨w4, hw4⟩ : ∃ w4, w4 = w3.alloc (.cells #[.slice X N' x1, .slice X2 M' x2] 32) := ⟨_, rfl⟩
      have hb34 : Below w3.heap.size w3 w4 := by rw [hw4]; exact Gw.alloc w3 _
      have hk4 : Bk w4 sx 32 #[.slice X N' x1, .slice X2 M' x2] := by rw [hw4, hsx]; exact Bk.new w3 _ _
      rw [← hsx, ← hw4]
      have HGa4 := Lib.hid (HGa.out.up (HX.out.2.2.2.trans (hb34.mono HX.out.2.2.2.size)))
      have HGx4 := Lib.hid (GBx.of2 hk4 (HX.out.1.up hb34))
      have H4 := Lib.hid (show Below w.heap.size w w4 from H2.out.2.trans ((HX.out.2.2.2.trans (hb34.mono HX.out.2.2.2.size)).mono H2.out.2.size))
      obtain ⟨E, hE⟩ : ∃ E, E = ckG g := ⟨_, rfl⟩
      have HE := Lib.hid hE
      have HCk := Lib.hid (check_c w4 g (HGa4.out w4 (Below.refl _ _)).2.2 HF.out.small)
      rw [HVa.out, ← HE.out] at HCk
      have HCx := Lib.hid (fun W (hb : Below w4.heap.size w4 W) => rcheck_c W gx (HGx4.out W hb).2.2 HFx.out)
      rw [HVx.out, ck_same HX.out.2.1 HX.out.2.2.1, ← HE.out] at HCx
      clear hsx hw4 hb34 hk4 d0 d1 hcl hE
      refine Calls.mono HCk.out ?_
      rintro r w5 ⟨rfl, b5⟩
      have HB5 := Lib.hid b5
      have d0 := (HGx4.out w5 b5).1
      have d1 := (HGx4.out w5 b5).2.1
      clear b5
      go_wp2_with fail
      refine Calls.mono (HCx.out w5 HB5.out) ?_
      rintro r w6 ⟨rfl, b6⟩
      have HB6 := Lib.hid (HB5.out.trans (b6.mono HB5.out.size))
      clear b6 d0 d1
      by_cases hE0 : E = 0
      · obtain rfl := hE0
        have d0 := (HGa4.out w6 HB6.out).1
        have d1 := (HGa4.out w6 HB6.out).2.1
        have hcl := cell_lt d0
        have HOk := Lib.hid (ck_ok HE.out.symm)
        have HRd := Lib.hid (fun (W : World) (hb : Below w4.heap.size w4 W) => show Rd iV W W.heap.size FA fr from (HR.out.below (H4.out.trans (hb.mono H4.out.size))).more (Nat.le_trans H4.out.size hb.size))
        have HRe := Lib.hid (reach_c w6 g (HGa4.out w6 HB6.out).2.2 HF.out.small FA fc fr (HRd.out w6 HB6.out) (by have := HN.out.2.2; omega))
        rw [HVa.out, ← HN.out.1, ← HN.out.2.2] at HRe
        have HWa := Lib.hid (fun W (hb : Below w4.heap.size w4 W) => walk_c W gx (HGx4.out W hb).2.2 HFx.out (by rw [HX.out.2.1]; exact HOk.out.1) FA fc fr (HRd.out W hb) (by have := HN.out.2.2; omega))
        rw [HVx.out, HX.out.2.1, ← HN.out.2.2] at HWa
        have qN : (N : Int) ≤ 60 := by have := HN.out.1; have := HF.out.1; omega
        go_wp2_with fail
        refine Calls.mono HRe.out ?_
        rintro r w7 ⟨q1', L, rfl, hoL, hLl, hLi, b7⟩
        have HB7 := Lib.hid (HB6.out.trans (b7.mono HB6.out.size))
        have HL := Lib.hid (And.intro hoL (And.intro hLl hLi))
        have e0 := (HGx4.out w7 HB7.out).1
        have e1 := (HGx4.out w7 HB7.out).2.1
        clear b7 hoL hLl hLi d0 d1 hcl HRe
        go_wp2_with fail
        refine Calls.mono (HWa.out w7 HB7.out) ?_
        rintro r w8 ⟨v, seen, out, rfl, hoW, hwk, hiff, b8⟩
        have HB8 := Lib.hid (HB7.out.trans (b8.mono HB7.out.size))
        obtain ⟨OA, oc, rfl, _⟩ := hoW.form
        obtain ⟨F, hF⟩ : ∃ F, F = out.length := ⟨_, rfl⟩
        have HFl := Lib.hid hF
        have HO := Lib.hid (And.intro hoW.rd (And.intro hwk hiff))
        rw [← hF]
        have qF : (F : Int) ≤ 61 := by have h1 := hwk.le; have h2 := HN.out.1; omega
        have HL8 := Lib.hid (show Ow tV 4 w8 (w6.heap.size + 1) (.slice (some ⟨q1', 0, none⟩) N N) L from HL.out.1.below b8)
        have d0 := (HGa4.out w8 HB8.out).1
        have d1 := (HGa4.out w8 HB8.out).2.1
        have hcl := cell_lt d0
        have hcl' : w.heap.size < w8.heap.size := hcl
        clear b8 hoW hwk hiff hF e0 e1 hcl
        go_wp2_with (at_make; refine wp_make (f := tV) oneT rfl _ _ rfl false rfl w8.heap.size N _ _ _ _ rfl rfl rfl rfl (by omega) (by decide) (Nat.le_refl _) ?_; rintro q w9 hq ho9 hb9 _; have H9 := Lib.hid (And.intro ho9 hb9); have HQ := Lib.hid hq; clear ho9 hb9 hq)
        clear d0 d1 hcl'
        have HLe := Lib.hid (seen_all HN.out.1 HL.out.2.1 HL.out.2.2 HO.out.2.2)
        go_loopw [10] (fun i W => ∃ k : Nat, i = .int .i64 k ∧ k ≤ F ∧ Hid (Below w8.heap.size w8 W ∧ Ow tV 4 W w8.heap.size (.slice (some ⟨q, 0, none⟩) N N) (inL N (out.take k)))) (fun i _ => F - (Go.RowKit.intOf i).toNat)
        case atStart => exact ⟨0, rfl, Nat.zero_le _, Lib.hid ⟨H9.out.2, by rw [show out.take 0 = [] from rfl, inL_nil]; exact H9.out.1⟩⟩
        case round =>
          obtain ⟨k, rfl, hk, hS⟩ := hrel
          by_cases hlt : k < F
          · have hko : k < out.length := by rw [← HFl.out]; exact hlt
            obtain ⟨p, hp⟩ : ∃ p, p = out[k] := ⟨_, rfl⟩
            have hpg := hasG_iff.1 ((HO.out.2.2 p).1 (by rw [hp]; exact List.getElem_mem _)).has
            rw [← HN.out.1] at hpg
            obtain ⟨n, rfl, hnN⟩ : ∃ n : Nat, p = (n : Int) + 1 ∧ n < N := ⟨(p - 1).toNat, by omega, by omega⟩
            obtain ⟨a, rfl, ha, hca⟩ := (HO.out.1.below hS.out.1) k hko
            rw [← hp] at hca
            unfold iV at hca
            have hnl : n < (inL N (out.take k)).length := by rw [inL_len]; exact hnN
            have hst := hS.out.2.set hnl true
            rw [inL_set, hp, ← take_snoc out k hko] at hst
            have HSt := Lib.hid (And.intro (hS.out.1.setCell (p := ⟨q, n, none⟩) (show w8.heap.size ≤ q from hS.out.2.ge.1) (.bool true)) hst)
            have hcn := hS.out.2.cell hnl
            have hfn := hS.out.2.free n
            obtain ⟨u, hu⟩ : ∃ u, u = (inL N (out.take k))[n] := ⟨_, rfl⟩
            rw [← hu] at hcn
            unfold tV at hcn
            have p0 : (0 : Int) ≤ (n : Int) := by omega
            have p1 : (0 : Int) ≤ (k : Int) := by omega
            have p2 : (k : Int) < (F : Int) := by omega
            have p3 : (n : Int) < (N : Int) := by omega
            clear hp hpg ha hst hu hko hnl hnN
            go_wp2_with fail
            clear hca hcn hfn
            go_roundw
            case rel => first | exact ⟨k + 1, by go_num, by omega, HSt⟩ | exact ⟨_, ⟨k + 1, by go_num, by omega, HSt⟩, rfl⟩
            case measure => simp [Go.RowKit.intOf]; omega
          · have hkF : k = F := by omega
            have hS2 := hS.out
            rw [hkF, List.take_of_length_le (by rw [← HFl.out]; exact Nat.le_refl _)] at hS2
            have HS2 := Lib.hid hS2
            obtain ⟨WA, hWA⟩ : ∃ WA, WA = wr := ⟨_, rfl⟩
            rw [← hWA] at HS2 ⊢
            clear hS2 hS hkF hWA
            go_wp2_with fail
            clear hlt hk
            go_loopw [11] (fun i W => ∃ k : Nat, i = .int .i64 k ∧ k ≤ N ∧ Hid (Below w8.heap.size w8 W ∧ Ow tV 4 W w8.heap.size (.slice (some ⟨q, 0, none⟩) N N) (inL N out))) (fun i _ => N - (Go.RowKit.intOf i).toNat)
            case atStart => exact ⟨0, rfl, Nat.zero_le _, Lib.hid HS2.out⟩
            case round =>
              obtain ⟨k, rfl, hk, hS⟩ := hrel
              by_cases hlt : k < N
              · have hnl : k < (inL N out).length := by rw [inL_len]; exact hlt
                have hcn := hS.out.2.cell hnl
                obtain ⟨y, hy⟩ : ∃ y, y = (inL N out)[k] := ⟨_, rfl⟩
                rw [← hy] at hcn
                unfold tV at hcn
                have hcl : wr.cell? ⟨q1', k, none⟩ = some (.bool y) := by
                  have hb := hS.out.1
                  have h := HL8.out.below hb
                  have hkl : k < L.length := by rw [HLe.out]; exact hnl
                  have h2 := h.cell hkl
                  rw [h2, hy]
                  simp only [HLe.out]
                  rfl
                have HC := Lib.hid (fun (W : World) (b : Below wr.heap.size wr W) => show W.cell? ⟨q1', k, none⟩ = some (.bool y) ∧ W.cell? ⟨q, k, none⟩ = some (.bool y) from ⟨(b.cell (cell_lt hcl)).trans hcl, (b.cell (cell_lt hcn)).trans hcn⟩)
                have p1 : (0 : Int) ≤ (k : Int) := by omega
                have p2 : (k : Int) < (N : Int) := by omega
                have hyy : (y != y) = false := by cases y <;> rfl
                clear hnl hcn hy hcl
                go_wp2_with fail
                refine any23_r _ _ _ q1' q k N y HC p1 p2 rfl rfl rfl rfl ?_
                intro vals w10 hG h78
                unfold IsV at h78
                rw [hyy] at h78
                simp only [putD, Act.put, List.setIfInBounds_toArray, List.set_cons_zero, List.set_cons_succ, h78]
                have HS4 := Lib.hid (And.intro (hS.out.1.trans (hG.mono hS.out.1.size)) (hS.out.2.below hG))
                clear hG h78 hyy
                go_wp2_with fail
                go_roundw
                case rel => first | exact ⟨k + 1, by go_num, by omega, HS4⟩ | exact ⟨_, ⟨k + 1, by go_num, by omega, HS4⟩, rfl⟩
                case measure => simp [Go.RowKit.intOf]; omega
              · have HB10 := Lib.hid (HB8.out.trans (hS.out.1.mono HB8.out.size))
                have d0 := (HGa4.out wr HB10.out).1
                have d1 := (HGa4.out wr HB10.out).2.1
                have hcl := cell_lt d0
                have hcl' : w.heap.size < wr.heap.size := hcl
                clear hcl hS
                have HTr := Lib.hid (trim_g wr g (HGa4.out wr HB10.out).2.2 HF.out.small (by have := HF.out.2.1; omega) (fun x hx p hp => okP_wf (by have := HF.out.1; omega) (HOk.out.1 x hx p hp)) (fun r hr => okP_wf (by have := HF.out.1; omega) (HOk.out.2 r hr)) FA fc fr (HRd.out wr HB10.out) (by have := HN.out.2.2; omega))
                rw [HVa.out, ← HN.out.1, ← HN.out.2.2] at HTr
                have HTu := Lib.hid (fun W (hb : Below w4.heap.size w4 W) => rtrim_c W gx (HGx4.out W hb).2.2 HFx.out (by rw [HX.out.2.1]; exact HOk.out.1) (by rw [HX.out.2.1, HX.out.2.2.1]; exact HOk.out.2) FA fc fr (HRd.out W hb) (by have := HN.out.2.2; omega))
                rw [HVx.out, HX.out.2.1, HX.out.2.2.1, ← HN.out.1, ← HN.out.2.2] at HTu
                go_wp2_with fail
                refine Calls.mono HTr.out ?_
                rintro r w11 ⟨L1, gt, q3, rfl, hT1, hT2, hT3, hT4, hT5, hT6, hT7, b11⟩
                have hgt : gt.At w11 w11.heap.size := ⟨hT1.rows.1, hT2.rows.1, hT1.rows.2.2, hT2.rows.2.2⟩
                have HFt := Lib.hid (HF.out.trim hT4 hT5)
                obtain ⟨TK, TL, hTK, hTL, hvt⟩ := @gv_cut gt
                have HVt := Lib.hid hvt
                rw [hvt]
                obtain ⟨T, hT⟩ : ∃ A, A = gt.A := ⟨_, rfl⟩
                obtain ⟨T2, hT2'⟩ : ∃ A2, A2 = gt.A2 := ⟨_, rfl⟩
                obtain ⟨t1, ht1⟩ : ∃ a1, a1 = gt.c := ⟨_, rfl⟩
                obtain ⟨t2, ht2⟩ : ∃ a2, a2 = gt.c2 := ⟨_, rfl⟩
                rw [← hT, ← hT2', ← ht1, ← ht2] at HVt ⊢
                have HT := Lib.hid (And.intro hgt (And.intro hT3 (And.intro hT4 (And.intro hT5 (And.intro hT6 hT7)))))
                have HB11 := Lib.hid (HB10.out.trans (b11.mono HB10.out.size))
                have e0 := (HGx4.out w11 HB11.out).1
                have e1 := (HGx4.out w11 HB11.out).2.1
                have hcl := cell_lt e0
                have hcl2 : sx < w11.heap.size := hcl
                clear hcl b11 hTK hTL hvt hT hT2' ht1 ht2 hgt hT1 hT2 hT3 hT4 hT5 hT6 hT7 d0 d1 hcl' HTr
                go_wp2_with fail
                obtain ⟨st, hst⟩ : ∃ st, st = w11.heap.size := ⟨_, rfl⟩
                obtain ⟨w12, hw12⟩ : ∃ w12, w12 = w11.alloc (.cells #[.slice T TK t1, .slice T2 TL t2] 25) := ⟨_, rfl⟩
                have hb12 : Below w11.heap.size w11 w12 := by rw [hw12]; exact Gw.alloc w11 _
                have hk12 : Bk w12 st 25 #[.slice T TK t1, .slice T2 TL t2] := by rw [hw12, hst]; exact Bk.new w11 _ _
                rw [← hst, ← hw12]
                have HGt := Lib.hid (GBx.of hk12 (HT.out.1.up hb12))
                have HB12 := Lib.hid (HB11.out.trans (hb12.mono HB11.out.size))
                have HO3 := Lib.hid (show Ow iV 3 w12 wr.heap.size (.slice (some ⟨q3, 0, none⟩) N N) (toB L1 0) from HT.out.2.1.below hb12)
                clear hst hw12 hb12 hk12 e0 e1 hcl2
                refine Calls.mono (HTu.out w12 HB12.out) ?_
                rintro r w13 ⟨gu, q4, L2, rfl, hU1, hU2, hU3, hU4, hU5, hU6, b13⟩
                obtain ⟨UK, UL, hUK, hUL, hvu⟩ := @gv_cut gu
                have HVu := Lib.hid hvu
                rw [hvu]
                obtain ⟨U, hU⟩ : ∃ A, A = gu.A := ⟨_, rfl⟩
                obtain ⟨U2, hU2'⟩ : ∃ A2, A2 = gu.A2 := ⟨_, rfl⟩
                obtain ⟨u1, hu1⟩ : ∃ a1, a1 = gu.c := ⟨_, rfl⟩
                obtain ⟨u2, hu2⟩ : ∃ a2, a2 = gu.c2 := ⟨_, rfl⟩
                rw [← hU, ← hU2', ← hu1, ← hu2] at HVu ⊢
                obtain rfl : L2 = L1 := seen_two hU5 HT.out.2.2.2.2.1 hU6 HT.out.2.2.2.2.2
                have HU := Lib.hid (And.intro hU1.at_ (And.intro hU2 (And.intro hU3 hU4)))
                have HB13 := Lib.hid (HB12.out.trans (b13.mono HB12.out.size))
                have HGt13 := Lib.hid (HGt.out.up b13)
                have HO13 := Lib.hid (HO3.out.below b13)
                clear b13 hUK hUL hvu hU hU2' hu1 hu2 hU1 hU2 hU3 hU4 hU5 hU6
                go_wp2_with fail
                obtain ⟨su, hsu⟩ : ∃ su, su = w13.heap.size := ⟨_, rfl⟩
                obtain ⟨w14, hw14⟩ : ∃ w14, w14 = w13.alloc (.cells #[.slice U UK u1, .slice U2 UL u2] 32) := ⟨_, rfl⟩
                have hb14 : Below w13.heap.size w13 w14 := by rw [hw14]; exact Gw.alloc w13 _
                have hk14 : Bk w14 su 32 #[.slice U UK u1, .slice U2 UL u2] := by rw [hw14, hsu]; exact Bk.new w13 _ _
                rw [← hsu, ← hw14]
                have HGu := Lib.hid (GBx.of2 hk14 (HU.out.1.up hb14))
                have HGt14 := Lib.hid (HGt13.out.up hb14)
                have HB14 := Lib.hid (HB13.out.trans (hb14.mono HB13.out.size))
                have HGa14 := Lib.hid (HGa4.out.up HB14.out)
                have HGx14 := Lib.hid (HGx4.out.up HB14.out)
                obtain ⟨TO, hTO⟩ : ∃ l, l = toB L2 0 := ⟨_, rfl⟩
                have hTl : TO.length = N := by rw [hTO, toB_len]; exact HT.out.2.2.2.2.1
                have HTo := Lib.hid (fun (W : World) (b : Below w14.heap.size w14 W) => show IntsV TO (.slice (some ⟨q3, 0, none⟩) N N) W ∧ IntsV TO (.slice (some ⟨q4, 0, none⟩) N N) W from by
                  have h1 := (HO13.out.below hb14).below b
                  have h2 := (HU.out.2.1.below hb14).below b
                  rw [← hTO] at h1 h2
                  refine ⟨⟨_, N, by rw [hTl], ?_⟩, ⟨_, N, by rw [hTl], ?_⟩⟩
                  · rw [← hTl] at h1; exact h1.rd
                  · rw [← hTl] at h2; exact h2.rd)
                have hsame : sameG gt gu = true := same_true (by rw [HT.out.2.2.2.1, HU.out.2.2.2]) (by rw [HT.out.2.2.1, HU.out.2.2.1])
                clear hsu hw14 hb14 hk14 hTO
                refine any27_r _ _ _ w.heap.size sx st su q3 q4 N g gx gt gu A A2 X X2 T T2 U U2 N M N' M' TK TL UK UL a1 a2 x1 x2 t1 t2 u1 u2 TO HVa.out HVx.out HVt.out HVu.out HF.out HFx.out HFt.out HX.out.2.1 HX.out.2.2.1 HGa14 HGx14 HGt14 HGu hsame HTo (by rw [hTl]; omega) (by rw [List.length_map]; have := HF.out.2.1; omega) rfl rfl rfl rfl rfl rfl rfl ?_
                intro vals w15 hG h4
                unfold IsV at h4
                simp only [putD, Act.put, List.setIfInBounds_toArray, List.set_cons_zero, List.set_cons_succ, h4]
                have H15 := Lib.hid (show Below w.heap.size w w15 from by
                  have h1 := H4.out
                  have h2 := h1.trans (HB14.out.mono h1.size)
                  exact h2.trans (hG.mono h2.size))
                clear hG h4 hsame hTl
                go_wp2_with fail
                go_ret
                exact ⟨rfl, H15.out⟩
      · have e1 : (E == 0) = false := by simpa using hE0
        have e2 : (E != 0) = true := by simpa using hE0
        go_wp2_with fail
        go_ret
        exact ⟨rfl, H4.out.trans (HB6.out.mono H4.out.size)⟩
end Go.Proofs.Ytidaimcndbhefaa
namespace Go.Proofs.Ytidaimcndbhefaa.graphAny
open Go.ChangeShapes Go.WideShapes Go.ChangeAt Go.RowKit
open Go.ChangeMaps (open_string shut_string)
set_option linter.unusedVariables false
set_option maxRecDepth 100000 in
theorem lifted (os : Os) (started : os.Started) (H : Type) (enc : TypeId × Value → H) :
    ReturnsInHanded {} Try.checked os 3 .any (Rows.graphAnySpec.pre6 enc Try.prog Try.f3 Rows.graphAnyRow.domain false) (Rows.graphAnySpec.post enc Try.prog Try.f3 false true false false) := by
  refine returnsInHanded_of_change (C := Try.checked) own started (by kernel_rfl) Try.func3
    (ChangeSpec.witness6 (enc := enc) (C := Try.checked) false ⟨#[], #[.agg #[.slice none 0 0, .slice none 0 0], .slice none 0 0], []⟩ 8 (by kernel_rfl) (by kernel_rfl) (by kernel_rfl) (by kernel_rfl)) ?_
  intro W base args ds gs before hval0 hW hcnd _
  have hval : ∀ (j : Nat) t v, Try.f3.params[j]? = some t → args[j]? = some v → Value.okWide Try.prog W .any base t v := hval0
  have hW' := hW
  obtain ⟨p, q, hA0, hV, rfl, hfz, hnd⟩ := hW
  have hA : DataW.TrodAll enc Try.prog W 0 (fun _ => true) true Try.f3.params.toList args.toList ds p := hA0
  rw [Try.params3] at hA hval
  obtain ⟨v0, vs0, d0, ds0, p0, q0, hargs, rfl, rfl, h0, r0⟩ := trodAll_cons hA
  obtain ⟨v1, vs1, d1, ds1, p1, q1, rfl, rfl, rfl, h1, r1⟩ := trodAll_cons r0
  obtain ⟨rfl, rfl, rfl⟩ := trodAll_nil r1
  obtain rfl : args = #[v0, v1] := by cases args; simp_all
  obtain ⟨rfl, rfl⟩ := trodVars_none hV
  have k0 := h0
  have lt0 : ∀ x ∈ p0, x.block < W.heap.size := by obtain ⟨m, hm⟩ := k0; exact DataW.trod_lt m _ _ _ hm
  obtain ⟨a0, e0v, w0⟩ := open_str_Graph (hval 0 25 v0 rfl rfl) h0; subst e0v
  have k1 := h1
  have lt1 : ∀ x ∈ p1, x.block < W.heap.size := by obtain ⟨m, hm⟩ := k1; exact DataW.trod_lt m _ _ _ hm
  obtain ⟨A1, a1, c1, e1v, g1, m1, w1⟩ := open_intz Try.underlying26 Try.underlying3 (by kernel_rfl) (hval 1 26 v1 rfl rfl) h1; subst e1v
  clear hA0 hval0
  refine (any_walk W a0 w0 A1 a1 c1 g1 m1 w1).mono fun e W' ⟨he, bel⟩ => ?_
  subst he
  exact ⟨_, rfl, _, _, _, [], _, [], hW', trodAll_mk1 (shut_bool Try.underlying4 _), (trodAll_cons_mk (Below.trod laidOut (by kernel_rfl) (of_decide_eq_true (by kernel_rfl)) k0 bel lt0) (trodAll_cons_mk (Below.trod laidOut (by kernel_rfl) (of_decide_eq_true (by kernel_rfl)) k1 bel lt1) trodAll_mk0)), rfl, bel.frame _, fun h => by cases h⟩
theorem over : Rows.graphAnyRow.holds Try.pinned (OpenSpec.ofChange Rows.graphAnySpec) :=
  OpenClaim.holds_of_wide 3 Try.f3 rfl rfl rfl rfl rfl rfl rfl ⟨rfl, rfl, rfl, rfl, rfl⟩ rfl rfl rfl rfl rfl (by kernel_rfl) Try.func3 (by kernel_rfl)
    (of_decide_eq_true (by kernel_rfl)) (by unfold Func.isWrapper; first | (rw [if_pos (by decide +kernel)]; kernel_rfl) | (rw [if_neg (by decide +kernel)]; exact ⟨rfl, rfl⟩))
    (fun os started H enc _ => lifted os started H enc)
theorem proved : Rows.GraphAnySaid := over
end Go.Proofs.Ytidaimcndbhefaa.graphAny
