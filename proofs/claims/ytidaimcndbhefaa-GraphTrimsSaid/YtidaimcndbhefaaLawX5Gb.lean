/- The law GraphTrims of layer 17 returns true for every argument. No conditions. -/
import Derived.Test.YtidaimcndbhefaaGb2
namespace Go.Proofs.Ytidaimcndbhefaa
set_option linter.unusedVariables false
set_option linter.unusedSimpArgs false
open Go.RowKit Go.Maps
set_option maxHeartbeats 4000000
set_option maxRecDepth 100000
theorem trims_walk (w : World) (g : Gv) (wg : GvOk w g) (FA : Option Addr) (fr : List Int) (fc : Nat) (_ : fr.length ≤ fc) (hm : fc ≤ maxLen) (hr : Rd inV w w.heap.size FA fr ∧ ∀ x ∈ fr, (Lit.int .i64 x).wf = true) : Calls Try.prog 5 #[g.v, .slice FA fr.length fc] w (TruP (.bool true) w) := by
  have HG := Lib.hid wg.at_
  have HR := Lib.hid (show Rd iV w w.heap.size FA fr from hr.1)
  obtain ⟨N, M, hN, hM, hva⟩ := @gv_cut g
  have HVa := Lib.hid hva
  rw [hva]
  obtain ⟨A, hA⟩ : ∃ A, A = g.A := ⟨_, rfl⟩
  obtain ⟨A2, hA2⟩ : ∃ A2, A2 = g.A2 := ⟨_, rfl⟩
  obtain ⟨a1, ha1⟩ : ∃ a1, a1 = g.c := ⟨_, rfl⟩
  obtain ⟨a2, ha2⟩ : ∃ a2, a2 = g.c2 := ⟨_, rfl⟩
  obtain ⟨K, hK⟩ : ∃ K, K = fr.length := ⟨_, rfl⟩
  rw [← hA, ← hA2, ← ha1, ← ha2] at HVa ⊢
  rw [← hK]
  have HN := Lib.hid (And.intro hN (And.intro hM hK))
  clear wg hva hA hA2 ha1 ha2 hN hM hK hr hm
  go_enter Try.func5, Try.ntmps5
  go_wp2_with fail
  have H0 := Lib.hid (show Bk (w.alloc (.cells #[.slice A N a1, .slice A2 M a2] 25)) w.heap.size 25 #[.slice A N a1, .slice A2 M a2] ∧ Below w.heap.size w (w.alloc (.cells #[.slice A N a1, .slice A2 M a2] 25)) from ⟨Bk.new w _ _, Gw.alloc w _⟩)
  obtain ⟨W0, hW0⟩ : ∃ W0, W0 = (w.alloc (.cells #[.slice A N a1, .slice A2 M a2] 25)) := ⟨_, rfl⟩
  rw [← hW0] at H0 ⊢
  clear hW0
  refine Calls.mono (known17_c _) ?_
  rintro r w1 ⟨rfl, b1⟩
  have H1 := Lib.hid (show Bk w1 w.heap.size 25 #[.slice A N a1, .slice A2 M a2] ∧ Below w.heap.size w w1 from ⟨H0.out.1.below b1 H0.out.1.lt, H0.out.2.trans (b1.mono H0.out.2.size)⟩)
  have c0 := H1.out.1.two.1
  have c1 := H1.out.1.two.2
  have cl := H1.out.1.lt
  clear b1 H0
  have HFa := Lib.hid (few_c w1 g (HG.out.up H1.out.2))
  rw [HVa.out] at HFa
  go_wp2_with fail
  refine Calls.mono HFa.out ?_
  rintro r w2 ⟨f1, rfl, hf1, b2⟩
  have H2 := Lib.hid (show Bk w2 w.heap.size 25 #[.slice A N a1, .slice A2 M a2] ∧ Below w.heap.size w w2 from ⟨H1.out.1.below b2 H1.out.1.lt, H1.out.2.trans (b2.mono H1.out.2.size)⟩)
  have HF1 := Lib.hid hf1
  clear c0 c1 cl hf1 b2 HFa H1
  cases f1 with
  | false =>
    go_wp2_with fail
    go_ret
    exact ⟨rfl, H2.out.2⟩
  | true =>
    have HF := Lib.hid (HF1.out (by first | rfl | trivial))
    have c0 := H2.out.1.two.1
    have c1 := H2.out.1.two.2
    have cl := H2.out.1.lt
    clear HF1
    by_cases h40 : (40 : Int) < (K : Int)
    · go_wp2_with fail
      all_goals first | (go_ret; exact ⟨rfl, H2.out.2⟩) | skip
    · have q1 : (K : Int) ≤ 40 := by omega
      have HGa := Lib.hid (GBx.of H2.out.1 (HG.out.up H2.out.2))
      obtain ⟨E, hE⟩ : ∃ E, E = ckG g := ⟨_, rfl⟩
      have HE := Lib.hid hE
      have HCk := Lib.hid (check_c w2 g (HGa.out w2 (Below.refl _ _)).2.2 HF.out.small)
      rw [HVa.out, ← HE.out] at HCk
      clear hE
      go_wp2_with fail
      refine Calls.mono HCk.out ?_
      rintro r w3 ⟨rfl, b3⟩
      have HB3 := Lib.hid b3
      clear b3 c0 c1 cl
      by_cases hE0 : E = 0
      · obtain rfl := hE0
        have d0 := (HGa.out w3 HB3.out).1
        have d1 := (HGa.out w3 HB3.out).2.1
        have hcl := cell_lt d0
        have HOk := Lib.hid (ck_ok HE.out.symm)
        have HRd := Lib.hid (fun (W : World) (hb : Below w2.heap.size w2 W) => show Rd iV W W.heap.size FA fr from (HR.out.below (H2.out.2.trans (hb.mono H2.out.2.size))).more (Nat.le_trans H2.out.2.size hb.size))
        have HTr := Lib.hid (trim_g w3 g (HGa.out w3 HB3.out).2.2 HF.out.small (by have := HF.out.2.1; omega) (fun x hx p hp => okP_wf (by have := HF.out.1; omega) (HOk.out.1 x hx p hp)) (fun r hr => okP_wf (by have := HF.out.1; omega) (HOk.out.2 r hr)) FA fc fr (HRd.out w3 HB3.out) (by have := HN.out.2.2; omega))
        rw [HVa.out, ← HN.out.1, ← HN.out.2.2] at HTr
        have qN : (N : Int) ≤ 60 := by have := HN.out.1; have := HF.out.1; omega
        go_wp2_with fail
        refine Calls.mono HTr.out ?_
        rintro r w4 ⟨L1, gt, q3, rfl, hT1, hT2, hT3, hT4, hT5, hT6, hT7, b4⟩
        have hgt : gt.At w4 w4.heap.size := ⟨hT1.rows.1, hT2.rows.1, hT1.rows.2.2, hT2.rows.2.2⟩
        have HFt := Lib.hid (HF.out.trim hT4 hT5)
        obtain ⟨TK, TL, hTK, hTL, hvt⟩ := @gv_cut gt
        have HVt := Lib.hid hvt
        rw [hvt]
        obtain ⟨T, hT⟩ : ∃ A, A = gt.A := ⟨_, rfl⟩
        obtain ⟨T2, hT2'⟩ : ∃ A2, A2 = gt.A2 := ⟨_, rfl⟩
        obtain ⟨t1, ht1⟩ : ∃ a1, a1 = gt.c := ⟨_, rfl⟩
        obtain ⟨t2, ht2⟩ : ∃ a2, a2 = gt.c2 := ⟨_, rfl⟩
        rw [← hT, ← hT2', ← ht1, ← ht2] at HVt ⊢
        have hpk : Pk g.n (ordB L1 0) gt.n := pk_of (by rw [hT6, HN.out.1]) (by rw [← HN.out.1]; exact hT7) HOk.out.1 hT4
        have hmem := pk_mem (by rw [hT6, HN.out.1]) (fr := g.r.map (·.t) ++ fr) (by rw [← HN.out.1]; exact hT7)
        have HT := Lib.hid (And.intro hpk (And.intro hT4 (And.intro (show gt.r = g.r.map (fun r => (⟨r.s, newO (ordB L1 0) r.t⟩ : Rv)) from by rw [hT5]; exact List.map_congr_left fun r _ => by rw [newO_pairs]) (And.intro hmem hT6))))
        have HTK := Lib.hid hTK
        obtain ⟨st, hst⟩ : ∃ st, st = w4.heap.size := ⟨_, rfl⟩
        have HB4 := Lib.hid (HB3.out.trans (b4.mono HB3.out.size))
        have HO4 := Lib.hid (show Ow iV 3 w4 w3.heap.size (.slice (some ⟨q3, 0, none⟩) N N) (toB L1 0) from hT3)
        have HAt := Lib.hid hgt
        clear hcl b4 hTK hTL hvt hT hT2' ht1 ht2 hgt hT1 hT2 hT3 hT4 hT5 hT6 hT7 d0 d1 HTr hpk hmem
        go_wp2_with fail
        rw [← hst]
        obtain ⟨w5, hw5⟩ : ∃ w5, w5 = w4.alloc (.cells #[.slice T TK t1, .slice T2 TL t2] 25) := ⟨_, rfl⟩
        have hb5 : Below w4.heap.size w4 w5 := by rw [hw5]; exact Gw.alloc w4 _
        have hk5 : Bk w5 st 25 #[.slice T TK t1, .slice T2 TL t2] := by rw [hw5, hst]; exact Bk.new w4 _ _
        rw [← hw5]
        have HGt := Lib.hid (GBx.of hk5 (HAt.out.up hb5))
        have HB5 := Lib.hid (HB4.out.trans (hb5.mono HB4.out.size))
        have HO5 := Lib.hid (HO4.out.below hb5)
        clear hst hw5 hb5 hk5
        have hB5 : w2.heap.size ≤ w5.heap.size := HB5.out.size
        have hTo : ∀ n : Nat, n < N → (toB L1 0)[n]? = some (newO (ordB L1 0) ((n : Int) + 1)) := fun n hn => by
          rw [← toO_ordB HT.out.2.2.2.2]
          exact toO_get hn
        have HTo := Lib.hid hTo
        clear hTo
        go_loopw [7, 8] (fun o i W => ∃ k : Nat, i = .int .i64 k ∧ k ≤ K ∧ Hid (Below w5.heap.size w5 W ∧ Ow iV 3 W w5.heap.size o (((fr.take k).filter (hasG N)).map (newO (ordB L1 0))))) (fun _ i _ => K - (Go.RowKit.intOf i).toNat)
        case atStart => exact ⟨0, rfl, Nat.zero_le _, Lib.hid ⟨Below.refl _ _, Ow.nil_ _ _ _ _⟩⟩
        case round =>
          obtain ⟨k, rfl, hk, hS⟩ := hrel
          by_cases hlt : k < K
          · have hko : k < fr.length := by rw [← HN.out.2.2]; exact hlt
            obtain ⟨p, hp⟩ : ∃ p, p = fr[k] := ⟨_, rfl⟩
            obtain ⟨a, rfl, ha, hca⟩ := (HRd.out wr (HB5.out.trans (hS.out.1.mono HB5.out.size))) k hko
            rw [← hp] at hca
            unfold iV at hca
            have HT1 := Lib.hid (show fr.take (k + 1) = fr.take k ++ [p] from by rw [take_snoc fr k hko, hp])
            have p1 : (0 : Int) ≤ (k : Int) := by omega
            have p2 : (k : Int) < (K : Int) := by omega
            clear hp ha hko
            by_cases hx1 : p < 1
            · have HX := Lib.hid (show ((fr.take (k + 1)).filter (hasG N)).map (newO (ordB L1 0)) = ((fr.take k).filter (hasG N)).map (newO (ordB L1 0)) from by
                have h0 : hasG N p = false := by
                  cases h : hasG N p with
                  | false => rfl
                  | true => have := hasG_iff.1 h; omega
                rw [HT1.out, List.filter_append, List.filter_cons_of_neg (by rw [h0]; simp), List.filter_nil, List.append_nil])
              have hx2 : ¬ (1 : Int) ≤ p := by omega
              go_wp2_with fail
              clear hca
              go_roundw
              case rel => exact ⟨k + 1, by go_num, by omega, Lib.hid (by rw [HX.out]; exact hS.out)⟩
              case measure => simp [Go.RowKit.intOf]; omega
            · have hx2 : (1 : Int) ≤ p := by omega
              by_cases hx3 : (N : Int) < p
              · have HX := Lib.hid (show ((fr.take (k + 1)).filter (hasG N)).map (newO (ordB L1 0)) = ((fr.take k).filter (hasG N)).map (newO (ordB L1 0)) from by
                  have h0 : hasG N p = false := by
                    cases h : hasG N p with
                    | false => rfl
                    | true => have := hasG_iff.1 h; omega
                  rw [HT1.out, List.filter_append, List.filter_cons_of_neg (by rw [h0]; simp), List.filter_nil, List.append_nil])
                have hx4 : ¬ p ≤ (N : Int) := by omega
                go_wp2_with fail
                clear hca
                go_roundw
                case rel => exact ⟨k + 1, by go_num, by omega, Lib.hid (by rw [HX.out]; exact hS.out)⟩
                case measure => simp [Go.RowKit.intOf]; omega
              · obtain ⟨n, rfl, hnN⟩ : ∃ n : Nat, p = (n : Int) + 1 ∧ n < N := ⟨(p - 1).toNat, by omega, by omega⟩
                have hx4 : (n : Int) + 1 ≤ (N : Int) := by omega
                obtain ⟨z, hz⟩ : ∃ z, z = newO (ordB L1 0) ((n : Int) + 1) := ⟨_, rfl⟩
                have HX := Lib.hid (show ((fr.take (k + 1)).filter (hasG N)).map (newO (ordB L1 0)) = ((fr.take k).filter (hasG N)).map (newO (ordB L1 0)) ++ [z] from by
                  have h0 : hasG N ((n : Int) + 1) = true := hasG_iff.2 (by omega)
                  rw [HT1.out, List.filter_append, List.filter_cons_of_pos h0, List.filter_nil, List.map_append, List.map_singleton, hz])
                obtain ⟨xs, hxs⟩ : ∃ xs, xs = ((fr.take k).filter (hasG N)).map (newO (ordB L1 0)) := ⟨_, rfl⟩
                have hxl : xs.length ≤ k := by
                  rw [hxs, List.length_map]
                  have h1 := List.length_filter_le (hasG N) (fr.take k)
                  rw [List.length_take] at h1
                  omega
                rw [← hxs] at hS HX
                obtain ⟨VA, m, vc, rfl⟩ : ∃ A m n, u7 = Value.slice A m n := by
                  obtain ⟨A, c, e, _⟩ := hS.out.2.form
                  exact ⟨A, _, c, e⟩
                have hcz : wr.cell? ⟨q3, n, none⟩ = some (.int .i64 z) := by
                  have h := HO5.out.below hS.out.1
                  have hl : n < (toB L1 0).length := by rw [toB_len, HT.out.2.2.2.2]; exact hnN
                  have h2 := h.cell hl
                  have h3 := HTo.out n hnN
                  rw [List.getElem?_eq_getElem hl] at h3
                  injection h3 with h3
                  rw [h2, h3, hz]; rfl
                have p0 : (0 : Int) ≤ (n : Int) := by omega
                have p3 : (n : Int) < (N : Int) := by omega
                have HRz := Lib.hid (show Rd iV (wr.alloc (.cells #[.int .i64 z] 3)) (wr.heap.size + 1) (some ⟨wr.heap.size, 0, none⟩) [z] from rd1_new (f := iV) (w := wr) (E := 3) (y := z) (u := .int .i64 z) rfl)
                have hml : xs.length + 1 ≤ 4294967296 := by omega
                have HSz := Lib.hid (show w5.heap.size ≤ (wr.alloc (.cells #[.int .i64 z] 3)).heap.size from Nat.le_trans hS.out.1.size (Gw.alloc wr _).size)
                clear hz hxs hxl hnN hx3 hx1
                go_wp2_with (at_builtin; refine wp_app oneI iV_one rfl (.tmp 52) (.tmp 61) rfl w5.heap.size _ xs rfl (hS.out.2.alloc _) (some ⟨wr.heap.size, 0, none⟩) 1 1 [z] rfl rfl (wr.heap.size + 1) HRz.out hml (by decide) HSz.out ?_; intro v5 w6 ho5 hb5 hg5 _; have HS6 := Lib.hid (show Below w5.heap.size w5 w6 ∧ Ow iV 3 w6 w5.heap.size v5 (((fr.take (k + 1)).filter (hasG N)).map (newO (ordB L1 0))) from ⟨hS.out.1.trans (((Gw.alloc wr _).mono hS.out.1.size).trans (hb5.mono (Nat.le_refl _))), by rw [HX.out]; exact ho5⟩); clear ho5 hb5 hg5)
                clear hca hcz
                go_roundw
                case rel => exact ⟨k + 1, by go_num, by omega, HS6⟩
                case measure => simp [Go.RowKit.intOf]; omega
          · have hkK : k = K := by omega
            have hS2 := hS.out
            rw [hkK, List.take_of_length_le (by rw [← HN.out.2.2]; exact Nat.le_refl _)] at hS2
            obtain ⟨nx, hnx⟩ : ∃ nx, nx = (fr.filter (hasG N)).map (newO (ordB L1 0)) := ⟨_, rfl⟩
            rw [← hnx] at hS2
            obtain ⟨VA, m, vc, rfl, hm⟩ : ∃ A m n, u7 = Value.slice A m n ∧ m = nx.length := by
              obtain ⟨A, c, e, _⟩ := hS2.2.form
              exact ⟨A, _, c, e, rfl⟩
            have hxl : nx.length ≤ 40 := by
              have h1 := List.length_filter_le (hasG N) fr
              rw [hnx, List.length_map]
              have := HN.out.2.2
              omega
            have HS2 := Lib.hid (And.intro hS2.1 (And.intro hm hnx))
            have hr := hS2.2
            rw [hm] at hr
            have d0 := (HGt.out wr hS2.1).1
            have d1 := (HGt.out wr hS2.1).2.1
            have HTu := Lib.hid (trim_g wr gt (HGt.out wr hS2.1).2.2 HFt.out.small (by have := HFt.out.2.1; omega) (fun x hx p hp => okP_wf (by have := HFt.out.1; omega) (HT.out.1.okn x hx p hp)) (fun r hr => by
              rw [HT.out.2.2.1] at hr
              obtain ⟨r0, h0, rfl⟩ := List.mem_map.1 hr
              refine okP_wf (N := gt.n.length) (by have := HFt.out.1; omega) (HT.out.1.okp ?_)
              have h5 := HOk.out.2 r0 h0
              by_cases e : r0.t = 0
              · exact .inl e
              · refine .inr ((HT.out.2.2.2.1 _).2 (.base _ (List.mem_append.2 (.inl (List.mem_map.2 ⟨r0, h0, rfl⟩))) ?_))
                have := okP_iff.1 h5
                exact hasG_iff.2 (by omega)) VA vc nx hr.rd (by omega))
            rw [HVt.out, ← HTK.out, ← hm] at HTu
            clear hS hS2 hkK hnx hm hxl hr
            go_wp2_with fail
            refine Calls.mono HTu.out ?_
            rintro r w7 ⟨L2, gu, q4, rfl, hU1, hU2, hU3, hU4, hU5, hU6, hU7, b7⟩
            have hgu : gu.At w7 w7.heap.size := ⟨hU1.rows.1, hU2.rows.1, hU1.rows.2.2, hU2.rows.2.2⟩
            have hpure := trims_pure (gu := gu) HF.out HE.out.symm HT.out.1 HT.out.2.1 HT.out.2.2.1 HT.out.2.2.2.1 hU4 hU5 (by rw [hU6, HTK.out]) (by rw [← HTK.out, ← HN.out.1, ← HS2.out.2.2]; exact hU7)
            have HFu := Lib.hid (HFt.out.trim hU4 hU5)
            obtain ⟨UK, UL, hUK, hUL, hvu⟩ := @gv_cut gu
            have HVu := Lib.hid hvu
            rw [hvu]
            obtain ⟨U, hU⟩ : ∃ A, A = gu.A := ⟨_, rfl⟩
            obtain ⟨U2, hU2'⟩ : ∃ A2, A2 = gu.A2 := ⟨_, rfl⟩
            obtain ⟨u1, hu1⟩ : ∃ a1, a1 = gu.c := ⟨_, rfl⟩
            obtain ⟨u2, hu2⟩ : ∃ a2, a2 = gu.c2 := ⟨_, rfl⟩
            rw [← hU, ← hU2', ← hu1, ← hu2] at HVu ⊢
            have HPu := Lib.hid hpure
            have HAu := Lib.hid hgu
            have HB7 := Lib.hid (HS2.out.1.trans (b7.mono HS2.out.1.size))
            clear b7 hUK hUL hvu hU hU2' hu1 hu2 hU1 hU2 hU3 hU4 hU5 hU6 hU7 hpure hgu d0 d1
            go_wp2_with fail
            obtain ⟨su, hsu⟩ : ∃ su, su = w7.heap.size := ⟨_, rfl⟩
            obtain ⟨w8, hw8⟩ : ∃ w8, w8 = w7.alloc (.cells #[.slice U UK u1, .slice U2 UL u2] 25) := ⟨_, rfl⟩
            have hb8 : Below w7.heap.size w7 w8 := by rw [hw8]; exact Gw.alloc w7 _
            have hk8 : Bk w8 su 25 #[.slice U UK u1, .slice U2 UL u2] := by rw [hw8, hsu]; exact Bk.new w7 _ _
            rw [← hsu, ← hw8]
            have HGu := Lib.hid (GBx.of hk8 (HAu.out.up hb8))
            have HB8 := Lib.hid (HB7.out.trans (hb8.mono HB7.out.size))
            have HGt8 := Lib.hid (HGt.out.up HB8.out)
            have HGa8 := Lib.hid (HGa.out.up (HB5.out.trans (HB8.out.mono HB5.out.size)))
            have H8 := Lib.hid (show Below w.heap.size w w8 from H2.out.2.trans ((HB5.out.trans (HB8.out.mono HB5.out.size)).mono H2.out.2.size))
            clear hsu hw8 hb8 hk8
            obtain ⟨z1, z2, z3, z4, z5, z6, z7, z8⟩ := HPu.out
            have q5 : (TK : Int) ≤ (N : Int) := by have := HTK.out; have := HN.out.1; omega
            refine trims13_r _ _ _ w.heap.size st su g gt gu A A2 T T2 U U2 N M TK TL UK UL a1 a2 t1 t2 u1 u2 _ _ (wordsL g.n) (wordsL gt.n) HVa.out HVt.out HVu.out HF.out HFt.out HFu.out HGa8 HGt8 HGu (Lib.hid z1) z2 q5 (Lib.hid rfl) (Lib.hid rfl) z4 HOk (Lib.hid z5) (Lib.hid rfl) (Lib.hid rfl) (Lib.hid z6) (Lib.hid z7) (Lib.hid z8) rfl rfl rfl rfl ?_
            intro vals w15 hG h4
            unfold IsV at h4
            simp only [putD, Act.put, List.setIfInBounds_toArray, List.set_cons_zero, List.set_cons_succ, h4]
            have H15 := Lib.hid (H8.out.trans (hG.mono H8.out.size))
            clear hG h4 z1 z2 z3 z4 z5 z6 z7 z8 q5
            go_wp2_with fail
            go_ret
            exact ⟨rfl, H15.out⟩
      · have e1 : (E == 0) = false := by simpa using hE0
        have e2 : (E != 0) = true := by simpa using hE0
        go_wp2_with fail
        all_goals first | (go_ret; exact ⟨rfl, H2.out.2.trans (HB3.out.mono H2.out.2.size)⟩) | skip
end Go.Proofs.Ytidaimcndbhefaa
namespace Go.Proofs.Ytidaimcndbhefaa.graphTrims
open Go.ChangeShapes Go.WideShapes Go.ChangeAt Go.RowKit
open Go.ChangeMaps (open_string shut_string)
set_option linter.unusedVariables false
set_option maxRecDepth 100000 in
theorem lifted (os : Os) (started : os.Started) (H : Type) (enc : TypeId × Value → H) :
    ReturnsInHanded {} Try.checked os 5 .any (Rows.graphTrimsSpec.pre6 enc Try.prog Try.f5 Rows.graphTrimsRow.domain false) (Rows.graphTrimsSpec.post enc Try.prog Try.f5 false true false false) := by
  refine returnsInHanded_of_change (C := Try.checked) own started (by kernel_rfl) Try.func5
    (ChangeSpec.witness6 (enc := enc) (C := Try.checked) false ⟨#[], #[.agg #[.slice none 0 0, .slice none 0 0], .slice none 0 0], []⟩ 8 (by kernel_rfl) (by kernel_rfl) (by kernel_rfl) (by kernel_rfl)) ?_
  intro W base args ds gs before hval0 hW hcnd _
  have hval : ∀ (j : Nat) t v, Try.f5.params[j]? = some t → args[j]? = some v → Value.okWide Try.prog W .any base t v := hval0
  have hW' := hW
  obtain ⟨p, q, hA0, hV, rfl, hfz, hnd⟩ := hW
  have hA : DataW.TrodAll enc Try.prog W 0 (fun _ => true) true Try.f5.params.toList args.toList ds p := hA0
  rw [Try.params5] at hA hval
  obtain ⟨v0, vs0, d0, ds0, p0, q0, hargs, rfl, rfl, h0, r0⟩ := trodAll_cons hA
  obtain ⟨v1, vs1, d1, ds1, p1, q1, rfl, rfl, rfl, h1, r1⟩ := trodAll_cons r0
  obtain ⟨rfl, rfl, rfl⟩ := trodAll_nil r1
  obtain rfl : args = #[v0, v1] := by cases args; simp_all
  obtain ⟨rfl, rfl⟩ := trodVars_none hV
  have k0 := h0
  have lt0 : ∀ x ∈ p0, x.block < W.heap.size := by obtain ⟨m, hm⟩ := k0; exact DataW.trod_lt m _ _ _ hm
  obtain ⟨a0, e0v, w0⟩ := open_str_Graph (hval 0 25 v0 rfl rfl) h0; subst e0v
  have k1 := h1
  have lt1 : ∀ x ∈ p1, x.block < W.heap.size := by obtain ⟨m, hm⟩ := k1; exact DataW.trod_lt m _ _ _ hm
  obtain ⟨A1, a1, c1, e1v, g1, m1, w1⟩ := open_intz Try.underlying26 Try.underlying3 (by kernel_rfl) (hval 1 26 v1 rfl rfl) h1; subst e1v
  clear hA0 hval0
  refine (trims_walk W a0 w0 A1 a1 c1 g1 m1 w1).mono fun e W' ⟨he, bel⟩ => ?_
  subst he
  exact ⟨_, rfl, _, _, _, [], _, [], hW', trodAll_mk1 (shut_bool Try.underlying4 _), (trodAll_cons_mk (Below.trod laidOut (by kernel_rfl) (of_decide_eq_true (by kernel_rfl)) k0 bel lt0) (trodAll_cons_mk (Below.trod laidOut (by kernel_rfl) (of_decide_eq_true (by kernel_rfl)) k1 bel lt1) trodAll_mk0)), rfl, bel.frame _, fun h => by cases h⟩
theorem over : Rows.graphTrimsRow.holds Try.pinned (OpenSpec.ofChange Rows.graphTrimsSpec) :=
  OpenClaim.holds_of_wide 5 Try.f5 rfl rfl rfl rfl rfl rfl rfl ⟨rfl, rfl, rfl, rfl, rfl⟩ rfl rfl rfl rfl rfl (by kernel_rfl) Try.func5 (by kernel_rfl)
    (of_decide_eq_true (by kernel_rfl)) (by unfold Func.isWrapper; first | (rw [if_pos (by decide +kernel)]; kernel_rfl) | (rw [if_neg (by decide +kernel)]; exact ⟨rfl, rfl⟩))
    (fun os started H enc _ => lifted os started H enc)
theorem proved : Rows.GraphTrimsSaid := over
end Go.Proofs.Ytidaimcndbhefaa.graphTrims
