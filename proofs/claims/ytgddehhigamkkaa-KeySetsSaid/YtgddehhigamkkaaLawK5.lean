/- The law KeySets of layer 10 returns true for every argument. No conditions. -/
import Derived.Test.YtgddehhigamkkaaKyU
import Derived.Deep.CutRange
import Derived.Deep.CutBlock
namespace Go.Proofs.Ytgddehhigamkkaa
set_option linter.unusedVariables false
set_option linter.unusedSimpArgs false
open Go.RowKit Go.Maps
set_option maxHeartbeats 8000000
set_option maxRecDepth 100000
theorem ksets_walk (w : World) (A : Option Addr) (l : List Stp) (c : Nat) (g0 : l.length ≤ c) (m0 : c ≤ maxLen) (hs : Sts w w.heap.size A l) (kx : Int) (wx : (Lit.int .i64 kx).wf = true) (ky : Int) (wy : (Lit.int .i64 ky).wf = true) :
    Calls Try.prog 4 #[.slice A l.length c, .agg #[.int .i64 kx, .int .i64 ky]] w (TruP (.bool true) w) := by
  obtain ⟨n, hn⟩ : ∃ n, n = l.length := ⟨_, rfl⟩
  rw [← hn]
  have HN := Lib.hid hn
  obtain ⟨W0, hW0⟩ : ∃ X, X = w.alloc (.cells #[.int .i64 kx, .int .i64 ky] 23) := ⟨_, rfl⟩
  obtain ⟨H, hH⟩ : ∃ H, H = w.heap.size := ⟨_, rfl⟩
  have HA := Lib.hid (show Bk W0 H 23 #[.int .i64 kx, .int .i64 ky] from by rw [hW0, hH]; exact Bk.new w _ _)
  have HW := Lib.hid (show Below w.heap.size w W0 from by rw [hW0]; exact Gw.alloc w _)
  have HS := Lib.hid hs
  have HKW := Lib.hid (show kW (kx, ky) from ⟨wx, wy⟩)
  have HE := Lib.hid hH
  clear wx wy hs g0 m0 hn
  go_enter Try.func4, Try.ntmps4
  go_wp2_with fail
  rw [← hW0, ← hH]
  clear hW0 hH
  refine Calls.mono (known10_c _) ?_
  rintro e w1 ⟨rfl, b1⟩
  obtain ⟨B, hB⟩ : ∃ B, B = w1.heap.size := ⟨_, rfl⟩
  have HK1 := Lib.hid (show KS w B H A l kx ky w1 from ⟨HW.out.trans (b1.mono HW.out.size), by omega, HA.out.below b1 HA.out.lt, HS.out.bel (HW.out.trans (b1.mono HW.out.size)), by have := b1.size; have := HW.out.size; omega, by have := HA.out.lt; have := b1.size; omega⟩)
  have HEB := Lib.hid hB
  clear b1 HA HW HS
  by_cases h40 : (40 : Int) < (n : Int)
  · go_wp2_with fail
    go_ret
    exact ⟨rfl, HK1.out.bel⟩
  have q1 : (n : Int) ≤ 40 := by omega
  clear h40
  obtain ⟨W2, hW2⟩ : ∃ X, X = w1.alloc (.cells #[.map none] 37) := ⟨_, rfl⟩
  have HK2 := Lib.hid (show KS w B H A l kx ky W2 from by rw [hW2]; exact HK1.out.go (Gw.alloc w1 _))
  have HSE := Lib.hid (show SetX B (fun k => (Value.slice none 0 0).ownBlock = some k) W2 B [] from ⟨none, ⟨by rw [hW2, hB]; exact Bk.new w1 _ _, rfl⟩, fun k e => by
    rcases e with rfl | e
    · exact ⟨Nat.le_refl _, fun f => by cases f⟩
    · cases e⟩)
  have HWQ := Lib.hid (And.intro hB hW2)
  clear hW2 hB HK1 HEB
  go_wp2_with fail
  rw [← HWQ.out.2, ← HWQ.out.1]
  clear HWQ
  go_loopw [6, 7] (fun mv iv wr => ∃ (j : Nat) (m : List (Int × Int)), j ≤ n ∧ iv = .int .i64 j ∧ Hid (JR wr B mv m) ∧ Hid (SetX B (fun k => mv.ownBlock = some k) wr B m) ∧ Hid (m.Nodup ∧ m.length ≤ 40 * j) ∧ Hid (KS w B H A l kx ky wr)) (fun _ iv _ => n - (intOf iv).toNat)
  case atStart => exact ⟨0, [], Nat.zero_le _, rfl, Lib.hid (JR.nil _ _), HSE, Lib.hid ⟨List.nodup_nil, Nat.zero_le _⟩, HK2⟩
  case round =>
    clear HSE HK2
    obtain ⟨j, m, hj, rfl, hO, hX, hM, hK⟩ := hrel
    obtain ⟨A6, c6, rfl, hc6, hm6⟩ := hO.out.slice
    obtain ⟨N6, hN6⟩ : ∃ N, N = m.length := ⟨_, rfl⟩
    have HO := Lib.hid (show JR wr B (.slice A6 N6 c6) m from by rw [hN6]; exact hO.out)
    rw [← hN6] at hX hc6 ⊢
    have HN6 := Lib.hid hN6
    have HC6 := Lib.hid (And.intro hc6 hm6)
    clear hN6 hO hc6 hm6
    by_cases hlt : j < n
    · have p1 : (0 : Int) ≤ (j : Int) := by omega
      have p2 : (j : Int) < (n : Int) := by omega
      have hjl : j < l.length := by rw [← HN.out]; exact hlt
      obtain ⟨ad, rfl, hS⟩ := hK.out.sts j hjl
      obtain ⟨op, hop⟩ : ∃ o, o = l[j].op := ⟨_, rfl⟩
      obtain ⟨la, hla⟩ : ∃ o, o = l[j].la := ⟨_, rfl⟩
      obtain ⟨ll, hll⟩ : ∃ o, o = l[j].ll := ⟨_, rfl⟩
      obtain ⟨lc, hlc⟩ : ∃ o, o = l[j].lc := ⟨_, rfl⟩
      obtain ⟨nl, hnl⟩ : ∃ o, o = ll.length := ⟨_, rfl⟩
      have co := hS.op
      have cl := hS.l
      rw [← hop] at co
      rw [← hla, ← hll, ← hlc, ← hnl] at cl
      have HL := Lib.hid (show nl = ll.length ∧ nl ≤ lc ∧ (∀ p ∈ ll, kW p) ∧ ad.block < w.heap.size from ⟨hnl, by rw [hnl, hll, hlc]; exact hS.lcc, by rw [hll]; exact hS.lw, hS.blk⟩)
      have HALL := Lib.hid (show ∀ W, KS w B H (some ad) l kx ky W → W.cell? (ad.add (j * 2)) = some (.int .i64 op) ∧ W.cell? ⟨(ad.add (j * 2)).block, (ad.add (j * 2)).off + 1, none⟩ = some (.slice la nl lc) ∧ KRd W w.heap.size la ll from fun W hW => by
        obtain ⟨ad2, e, hS2⟩ := hW.sts j hjl
        injection e with e
        subst e
        refine ⟨by rw [hop]; exact hS2.op, by rw [hla, hnl, hll, hlc]; exact hS2.l, by rw [hla, hll]; exact hS2.lr⟩)
      clear hop hla hll hlc hnl hS
      by_cases h41 : (40 : Int) < (nl : Int)
      · go_wp2_with fail
        go_ret
        exact ⟨rfl, hK.out.bel⟩
      have q2 : (nl : Int) ≤ 40 := by omega
      clear h41
      go_upto_block 2 with fail
      go_cut [6, 8, 9, 10, 11, 12] from 34 to 106 (fun mv nv jv xv av hv wx => ∃ z : Int, nv = .int .i64 z ∧ Hid (z = nL op m ll) ∧ Hid (JR wx B mv (mL op m ll)) ∧ Hid (SetX B (fun k => mv.ownBlock = some k) wx B m) ∧ Hid (KS w B H (some ad) l kx ky wx))
      case first =>
        clear co cl
        go_wp2_with fail
        go_loopw [6, 8, 9] (fun mv nv jv wx => ∃ (i : Nat) (z : Int), i ≤ nl ∧ jv = .int .i64 i ∧ nv = .int .i64 z ∧ Hid (z = nL op m (ll.take i)) ∧ Hid (JR wx B mv (mL op m (ll.take i))) ∧ Hid (SetX B (fun k => mv.ownBlock = some k) wx B m) ∧ Hid (KS w B H (some ad) l kx ky wx)) (fun _ _ jv _ => nl - (intOf jv).toNat)
        case atStart => exact ⟨0, 0, Nat.zero_le _, rfl, rfl, Lib.hid (by rw [List.take_zero, nL_nil]), Lib.hid (by rw [List.take_zero, mL_nil]; exact HO.out), hX, hK⟩
        case round =>
          obtain ⟨i, z, hi, rfl, rfl, hz, hO2, hX2, hK2⟩ := hrel
          clear hX hK HO
          obtain ⟨A7, c7, rfl, hc7, hm7⟩ := hO2.out.slice
          obtain ⟨M, hMe⟩ : ∃ M, M = mL op m (ll.take i) := ⟨_, rfl⟩
          rw [← hMe] at hO2 hX2 hc7 ⊢
          have hMl : M.length ≤ 1700 := by
            have h1 := mL_len op m (ll.take i)
            rw [← hMe, List.length_take] at h1
            have := hM.out.2
            have := HL.out.1
            omega
          have hMn : M.Nodup := by rw [hMe]; exact mL_nodup _ _ hM.out.1
          have hz2 : 0 ≤ z ∧ z ≤ 2000 := by
            have h1 := nL_lo op m (ll.take i)
            rw [← hz.out, List.length_take] at h1
            have := hM.out.2
            have := HL.out.1
            omega
          obtain ⟨N7, hN7⟩ : ∃ N, N = M.length := ⟨_, rfl⟩
          have HO2 := Lib.hid (show JR wr B (.slice A7 N7 c7) M from by rw [hN7]; exact hO2.out)
          rw [← hN7] at hX2 hc7 ⊢
          have HM2 := Lib.hid (And.intro hMe (And.intro hMn (And.intro hMl (And.intro hN7 hc7))))
          have q4 : (N7 : Int) ≤ 2000 := by omega
          obtain ⟨z1, z2⟩ := hz2
          clear hMe hMl hMn hN7 hc7 hm7 hO2
          obtain ⟨co, cl, hkd⟩ := HALL.out _ hK2.out
          have HKD := Lib.hid hkd
          clear hkd
          by_cases hil : i < nl
          · have r1 : (0 : Int) ≤ (i : Int) := by omega
            have r2 : (i : Int) < (nl : Int) := by omega
            have hilm : i < ll.length := by rw [← HL.out.1]; exact hil
            obtain ⟨ae, rfl, hab, cx, cy⟩ := HKD.out i hilm
            obtain ⟨x, hx⟩ : ∃ x, x = ll[i].1 := ⟨_, rfl⟩
            obtain ⟨y, hy⟩ : ∃ y, y = ll[i].2 := ⟨_, rfl⟩
            have htk : ll.take (i + 1) = ll.take i ++ [(x, y)] := by
              rw [List.take_succ_eq_append_getElem hilm]
              congr 2
              exact Prod.ext hx.symm hy.symm
            rw [← hx] at cx
            rw [← hy] at cy
            have HT := Lib.hid htk
            clear hx hy htk
            have HOF := Lib.hid (show ∀ W, Calls Try.prog 11 #[.agg #[.int .i64 x, .int .i64 y]] W fun e w' => e = .returned (.agg #[.int .i64 x, .int .i64 y]) ∧ Below W.heap.size W w' from fun W => kof_c (x, y) W)
            go_upto_block 4 with fail
            refine Calls.mono (HOF.out _) ?_
            rintro e w7 ⟨rfl, b7⟩
            have HB7 := Lib.hid b7
            clear b7 cx cy co cl
            go_upto_block 4 with fail
            obtain ⟨qx, hqx⟩ : ∃ q, q = w7.heap.size := ⟨_, rfl⟩
            obtain ⟨W8, hW8⟩ : ∃ X, X = w7.alloc (.cells #[.int .i64 x, .int .i64 y] 27) := ⟨_, rfl⟩
            have hb8 : Below wr.heap.size wr W8 := by rw [hW8]; exact HB7.out.trans ((Gw.alloc w7 _).mono HB7.out.size)
            have HX8 := Lib.hid (show Bk W8 qx 27 #[.int .i64 x, .int .i64 y] from by rw [hW8, hqx]; exact Bk.new w7 _ _)
            have HO8 := Lib.hid (HO2.out.below hb8)
            have HS8 := Lib.hid (hX2.out.below hb8)
            have HK8 := Lib.hid (hK2.out.go hb8)
            rw [← hW8, ← hqx]
            clear hW8 hqx hb8 HB7 HO2 hX2 hK2 HOF HKD
            go_cut [11, 12] from 53 to 66 (fun av hv wx => Hid (Fnd M (x, y) N7 av) ∧ Hid (Below W8.heap.size W8 wx))
            case first =>
              go_wp2_with fail
              go_loopw [11, 12] (fun av hv wz => ∃ k : Nat, k ≤ N7 ∧ hv = .int .i64 k ∧ Hid (Fnd M (x, y) k av) ∧ Hid (Below W8.heap.size W8 wz)) (fun _ hv _ => N7 - (intOf hv).toNat)
              case atStart => exact ⟨0, Nat.zero_le _, rfl, Lib.hid (Fnd.none _ _), Lib.hid (Below.refl _ _)⟩
              case round =>
                obtain ⟨k, hk, rfl, hF, hBz⟩ := hrel
                by_cases hkl : k < N7
                · have s1 : (0 : Int) ≤ (k : Int) := by omega
                  have s2 : (k : Int) < (N7 : Int) := by omega
                  have hkm : k < M.length := by rw [← HM2.out.2.2.2.1]; exact hkl
                  obtain ⟨q, rfl, _, hq, c1, c2⟩ := (HO8.out.below hBz.out).at_ k hkm
                  obtain ⟨u, hu⟩ : ∃ u, u = M[k].1 := ⟨_, rfl⟩
                  obtain ⟨v, hv⟩ : ∃ v, v = M[k].2 := ⟨_, rfl⟩
                  have huv : M[k] = (u, v) := Prod.ext hu.symm hv.symm
                  rw [← hu] at c1
                  rw [← hv] at c2
                  obtain ⟨cc, hcc⟩ : ∃ cc, cc = cmpN (u, v) (x, y) := ⟨_, rfl⟩
                  obtain ⟨r, hr⟩ : ∃ r, r = (cc == 0) := ⟨_, rfl⟩
                  have HCL := Lib.hid (show ∀ W, Calls Try.prog 10 #[.agg #[.int .i64 u, .int .i64 v], .agg #[.int .i64 x, .int .i64 y]] W fun e w' => e = .returned (.int .i64 cc) ∧ Below W.heap.size W w' from fun W => by rw [hcc]; exact refcmp_c (u, v) (x, y) W)
                  have HR := Lib.hid (show r = decide (M[k] = (x, y)) from by rw [hr, huv, Bool.eq_iff_iff, beq_iff_eq, decide_eq_true_eq, hcc, cmpN_zero])
                  have HR2 := Lib.hid hr
                  have HD := Lib.hid (And.intro c1 (And.intro c2 hq))
                  have HXB := Lib.hid (HX8.out.below hBz.out HX8.out.lt)
                  clear hu hv huv hcc hr c1 c2 hq
                  go_wp2_with fail
                  refine s21_reg _ _ _ q qx N7 c7 k x y u v cc r HD.out.2.2 HXB.out.lt HD.out.1 HD.out.2.1 HXB.out.two.1 HXB.out.two.2 s1 s2 HR2.out.symm HCL rfl rfl rfl rfl ?_
                  intro vals w9 h9 h29
                  unfold IsV at h29
                  simp only [putD, Act.put, List.setIfInBounds_toArray, List.set_cons_zero, List.set_cons_succ, h29]
                  have HB9 := Lib.hid (hBz.out.trans (h9.mono hBz.out.size))
                  clear h29 h9
                  cases r with
                  | true =>
                    go_wp2_with fail
                    go_roundw
                    case rel => exact ⟨k + 1, by omega, by go_num, Lib.hid (Fnd.hit hkm (by have h := HR.out; rw [eq_comm, decide_eq_true_eq] at h; exact h)), HB9⟩
                    case measure => (first | (simp [intOf]; done) | (simp [intOf]; omega))
                  | false =>
                    go_wp2_with fail
                    go_roundw
                    case rel => exact ⟨k + 1, by omega, by go_num, Lib.hid (hF.out.miss hkm (by have h := HR.out; rw [eq_comm, decide_eq_false_iff_not] at h; exact h)), HB9⟩
                    case measure => (first | (simp [intOf]; done) | (simp [intOf]; omega))
                · obtain rfl : k = N7 := by omega
                  go_wp2_with fail
                  go_meet
                  exact ⟨hF, hBz⟩
            case rest =>
              obtain ⟨hF, hBc⟩ := hcut
              have HO9 := Lib.hid (HO8.out.below hBc.out)
              have HS9 := Lib.hid (HS8.out.below hBc.out)
              have HK9 := Lib.hid (HK8.out.go hBc.out)
              have HX9 := Lib.hid (HX8.out.below hBc.out HX8.out.lt)
              clear HO8 HS8 HK8 HX8 hBc
              obtain ⟨co, cl, hkd⟩ := HALL.out _ HK9.out
              clear hkd
              rcases hF.out with ⟨rfl, hno⟩ | ⟨t, ht, htm, hte, rfl⟩
              · have hno2 : (x, y) ∉ M := by rw [List.take_of_length_le (by rw [← HM2.out.2.2.2.1]; exact Nat.le_refl _)] at hno; exact hno
                have HNO := Lib.hid hno2
                clear hno hno2 hF
                by_cases hop1 : op = 1
                · subst hop1
                  go_wp2_with fail
                  refine ks24_law _ _ wc A7 N7 c7 qx B M x y (Lib.hid HM2.out.2.2.2.1) (by have := HM2.out.2.2.1; omega) (by have h := HO9.out; rw [HM2.out.2.2.2.1] at h; exact h) HX9.out.lt HX9.out.two.1 HX9.out.two.2 rfl rfl rfl ?_
                  intro v0 v2 v7 v8 w8 hp8 hb8
                  simp only [putA, putD, Act.put, List.setIfInBounds_toArray, List.set_cons_zero, List.set_cons_succ]
                  have HP8 := Lib.hid (show JR w8 B v8 (mL 1 m (ll.take (i + 1))) from by
                    rw [HT.out, mL_snoc, ← HM2.out.1]
                    unfold mK
                    rw [if_pos rfl, addK_out HNO.out]
                    exact hp8.mono HK9.out.sz)
                  have HZ8 := Lib.hid (show z + 1 = nL 1 m (ll.take (i + 1)) from by
                    rw [HT.out, nL_more, hz.out]
                    · intro _
                      rw [← HM2.out.1]
                      unfold mK
                      rw [if_pos rfl, addK_out HNO.out, List.length_append]; rfl
                    · intro h; exact absurd rfl h)
                  have HS8 := Lib.hid (SetX.below (HS9.out.besides (X' := fun k => v8.ownBlock = some k) (fun k e => .inr (hp8.lt k e).1)) hb8)
                  have HK8 := Lib.hid (HK9.out.go hb8)
                  obtain ⟨co, cl, hkd⟩ := HALL.out _ HK8.out
                  clear hp8 hb8 hkd
                  go_wp2_with fail
                  go_roundw
                  case rel => exact ⟨i + 1, z + 1, by omega, by go_num, by go_num, HZ8, HP8, HS8, HK8⟩
                  case measure => (first | (simp [intOf]; done) | (simp [intOf]; omega))
                · have HSAME := Lib.hid (show mK op M (x, y) = M from by unfold mK; rw [if_neg hop1, offK_out HNO.out])
                  have HPX := Lib.hid (show JR wc B (.slice A7 N7 c7) (mL op m (ll.take (i + 1))) from by rw [HT.out, mL_snoc, ← HM2.out.1, HSAME.out]; exact HO9.out)
                  have HZX := Lib.hid (show z = nL op m (ll.take (i + 1)) from by rw [HT.out, nL_same, hz.out]; rw [← HM2.out.1]; exact HSAME.out)
                  have hop2 : (op == 1) = false := by simpa using hop1
                  go_wp2_with fail
                  go_roundw
                  case rel => exact ⟨i + 1, z, by omega, by go_num, rfl, HZX, HPX, HS9, HK9⟩
                  case measure => (first | (simp [intOf]; done) | (simp [intOf]; omega))
              · have t1 : (0 : Int) ≤ (t : Int) := by omega
                have t2 : (t : Int) < (N7 : Int) := by omega
                have hin : (x, y) ∈ M := by rw [← hte]; exact List.getElem_mem _
                have HIN := Lib.hid (And.intro hin (And.intro htm hte))
                clear hin hte hF
                by_cases hop1 : op = 1
                · subst hop1
                  have HSAME := Lib.hid (show mK 1 M (x, y) = M from by unfold mK; rw [if_pos rfl, addK_in HIN.out.1])
                  have HPX := Lib.hid (show JR wc B (.slice A7 N7 c7) (mL 1 m (ll.take (i + 1))) from by rw [HT.out, mL_snoc, ← HM2.out.1, HSAME.out]; exact HO9.out)
                  have HZX := Lib.hid (show z = nL 1 m (ll.take (i + 1)) from by rw [HT.out, nL_same, hz.out]; rw [← HM2.out.1]; exact HSAME.out)
                  go_wp2_with fail
                  go_roundw
                  case rel => exact ⟨i + 1, z, by omega, by go_num, rfl, HZX, HPX, HS9, HK9⟩
                  case measure => (first | (simp [intOf]; done) | (simp [intOf]; omega))
                · have hop2 : (op == 1) = false := by simpa using hop1
                  obtain ⟨q, rfl, _, hq, _, _⟩ := HO9.out.at_ t htm
                  go_wp2_with fail
                  refine ks27_law _ _ wc q N7 c7 t B M (Lib.hid HM2.out.2.2.2.1) HM2.out.2.2.2.2 ht (by have := HM2.out.2.2.1; omega) (by have h := HO9.out; rw [HM2.out.2.2.2.1] at h; exact h) rfl rfl rfl ?_
                  intro XA v0 v2 v3 w8 hp8 hb8
                  simp only [putA, putD, Act.put, List.setIfInBounds_toArray, List.set_cons_zero, List.set_cons_succ]
                  have HP8 := Lib.hid (show JR w8 B v3 (mL op m (ll.take (i + 1))) from by
                    rw [HT.out, mL_snoc, ← HM2.out.1]
                    unfold mK
                    rw [if_neg hop1, ← offK_in HM2.out.2.1 t htm HIN.out.2.2]
                    exact hp8.mono HK9.out.sz)
                  have HZ8 := Lib.hid (show z + 1 = nL op m (ll.take (i + 1)) from by
                    rw [HT.out, nL_more, hz.out]
                    · intro h; exact absurd h hop1
                    · intro _
                      rw [← HM2.out.1]
                      unfold mK
                      rw [if_neg hop1]
                      exact offK_len HM2.out.2.1 HIN.out.1)
                  have HS8 := Lib.hid (SetX.below (HS9.out.besides (X' := fun k => v3.ownBlock = some k) (fun k e => .inr (hp8.lt k e).1)) hb8)
                  have HK8 := Lib.hid (HK9.out.go hb8)
                  obtain ⟨co, cl, hkd⟩ := HALL.out _ HK8.out
                  clear hp8 hb8 hkd
                  go_wp2_with fail
                  go_roundw
                  case rel => exact ⟨i + 1, z + 1, by omega, by go_num, by go_num, HZ8, HP8, HS8, HK8⟩
                  case measure => (first | (simp [intOf]; done) | (simp [intOf]; omega))
          · obtain rfl : i = nl := by omega
            go_wp2_with fail
            go_meet
            have htl : ll.take i = ll := List.take_of_length_le (by rw [← HL.out.1]; exact Nat.le_refl _)
            exact ⟨z, rfl, Lib.hid (by rw [hz.out, htl]), Lib.hid (by have h5 := HO2.out; rw [HM2.out.1, htl] at h5; exact h5), hX2, hK2⟩
      case rest =>
        obtain ⟨z, rfl, hz, hO3, hX3, hK3⟩ := hcut
        clear hX hK HO co cl
        obtain ⟨A7, c7, rfl, hc7, hm7⟩ := hO3.out.slice
        obtain ⟨M, hMe⟩ : ∃ M, M = mL op m ll := ⟨_, rfl⟩
        rw [← hMe] at hO3 hX3 hc7 ⊢
        have hMl : M.length ≤ 40 * (j + 1) := by
          have h1 := mL_len op m ll
          rw [← hMe] at h1
          have := hM.out.2
          have := HL.out.1
          omega
        have hMn : M.Nodup := by rw [hMe]; exact mL_nodup _ _ hM.out.1
        obtain ⟨N7, hN7⟩ : ∃ N, N = M.length := ⟨_, rfl⟩
        have HO2 := Lib.hid (show JR wc B (.slice A7 N7 c7) M from by rw [hN7]; exact hO3.out)
        rw [← hN7] at hX3 ⊢
        have HM2 := Lib.hid (And.intro hMe (And.intro hMn (And.intro hMl hN7)))
        have q4 : (N7 : Int) ≤ 2000 := by omega
        clear hMe hMl hMn hN7 hc7 hm7 hO3
        obtain ⟨co, cl, hkd⟩ := HALL.out _ hK3.out
        have HAX := Lib.hid (show ∀ a, la = some a → ll ≠ [] → a.block < B ∨ (fun k => (Value.slice A7 N7 c7).ownBlock = some k) a.block from fun a e hne => .inl (Nat.lt_of_lt_of_le (hkd.lt a e hne) hK3.out.le))
        have HKD := Lib.hid (hkd.up hK3.out.bel.size)
        have HXL := Lib.hid (show ∀ k, (fun k => (Value.slice A7 N7 c7).ownBlock = some k) k → k < wc.heap.size from fun k e => (HO2.out.lt k e).2)
        clear hkd
        by_cases hop1 : op = 1
        · subst hop1
          have HAD := Lib.hid (show Calls Try.prog 15 #[.pointer (some ⟨B, 0, none⟩), .slice la nl lc] wc (SxP B (fun k => (Value.slice A7 N7 c7).ownBlock = some k) wc B M (.int .i64 z)) from by
            have h := sadd_c hX3.out HXL.out hK3.out.sz la lc ll HKD.out HAX.out HL.out.2.2.1 (by have := HL.out.1; omega) (by have := hM.out.2; omega)
            rw [← HL.out.1] at h
            have e1 : addL m ll = M := by rw [HM2.out.1]; unfold mL; rw [if_pos rfl]
            have e2 : (((addL m ll).length : Int) - (m.length : Int)) = z := by rw [hz.out]; unfold nL; rw [if_pos rfl]
            rw [e2, e1] at h
            exact h)
          go_wp2_with fail
          refine Calls.mono HAD.out ?_
          rintro e w5 ⟨rfl, hx5, hk5⟩
          have HX5 := Lib.hid hx5
          have HK5 := Lib.hid (hK3.out.on (hk5.below hK3.out.sz (fun _ e => e.1)))
          have HO5 := Lib.hid (HO2.out.kept hk5 (fun k e f => f.2 e))
          clear hx5 hk5 co cl hX3 hK3 HO2 HAD HKD HXL
          go_wp2_with fail
          refine Calls.mono (slen_c HX5.out) ?_
          rintro e w6 ⟨rfl, rfl⟩
          rw [← HM2.out.2.2.2]
          have HSR := Lib.hid (srow_c HX5.out (by have := HM2.out.2.2.2; omega))
          go_wp2_with fail
          refine Calls.mono HSR.out ?_
          rintro e w7 ⟨v7, rfl, h7, b7⟩
          obtain ⟨A9, c9, rfl, _, _⟩ := h7.slice
          obtain ⟨N9, hN9⟩ : ∃ N, N = (sortN M).length := ⟨_, rfl⟩
          have hN9b : N9 = N7 := by rw [hN9, sortN_len, HM2.out.2.2.2]
          rw [← hN9, hN9b] at h7 ⊢
          have H7 := Lib.hid h7
          have HX7 := Lib.hid (HX5.out.below b7)
          have HK7 := Lib.hid (HK5.out.go b7)
          have HO7 := Lib.hid (HO5.out.below b7)
          clear h7 b7 hN9 hN9b HX5 HK5 HO5 HSR
          have HRF := Lib.hid (refsort_c w7 A7 c7 M HO7.out.jrd (by have := HM2.out.2.2.2; omega))
          rw [← HM2.out.2.2.2] at HRF
          go_wp2_with fail
          refine Calls.mono HRF.out ?_
          rintro e w8 ⟨v8, rfl, h8, b8⟩
          obtain ⟨A10, c10, rfl, _, _⟩ := h8.slice
          obtain ⟨N9, hN9⟩ : ∃ N, N = (sortN M).length := ⟨_, rfl⟩
          have hN9b : N9 = N7 := by rw [hN9, sortN_len, HM2.out.2.2.2]
          rw [← hN9, hN9b] at h8 ⊢
          have HRW := Lib.hid (rowq_c w8 A9 A10 c9 c10 N7 (sortN M) (by rw [sortN_len]; exact HM2.out.2.2.2) (by omega) (H7.out.below b8).krd h8.jrd)
          have HX8 := Lib.hid (HX7.out.below b8)
          have HK8 := Lib.hid (HK7.out.go b8)
          have HO8 := Lib.hid (HO7.out.below b8)
          clear h8 b8 hN9 hN9b HX7 HK7 HO7 HRF H7
          go_wp2_with fail
          refine Calls.mono HRW.out ?_
          rintro e w9 ⟨rfl, b9⟩
          have HX9 := Lib.hid (HX8.out.below b9)
          have HK9 := Lib.hid (HK8.out.go b9)
          have HO9 := Lib.hid (HO8.out.below b9)
          clear b9 HX8 HK8 HO8 HRW
          go_wp2_with fail
          go_roundw
          case rel => exact ⟨j + 1, M, by omega, by go_num, HO9, HX9, Lib.hid ⟨HM2.out.2.1, HM2.out.2.2.1⟩, HK9⟩
          case measure => (first | (simp [intOf]; done) | (simp [intOf]; omega))
        · have hop2 : (op == 1) = false := by simpa using hop1
          have HAD := Lib.hid (show Calls Try.prog 16 #[.pointer (some ⟨B, 0, none⟩), .slice la nl lc] wc (SxP B (fun k => (Value.slice A7 N7 c7).ownBlock = some k) wc B M (.int .i64 z)) from by
            have h := srem_c hX3.out la lc ll HKD.out HAX.out HL.out.2.2.1 (by have := HL.out.1; omega) (by have := hM.out.2; omega)
            rw [← HL.out.1] at h
            have e1 : offL m ll = M := by rw [HM2.out.1]; unfold mL; rw [if_neg hop1]
            have e2 : ((m.length : Int) - ((offL m ll).length : Int)) = z := by rw [hz.out]; unfold nL; rw [if_neg hop1]
            rw [e2, e1] at h
            exact h)
          go_wp2_with fail
          refine Calls.mono HAD.out ?_
          rintro e w5 ⟨rfl, hx5, hk5⟩
          have HX5 := Lib.hid hx5
          have HK5 := Lib.hid (hK3.out.on (hk5.below hK3.out.sz (fun _ e => e.1)))
          have HO5 := Lib.hid (HO2.out.kept hk5 (fun k e f => f.2 e))
          clear hx5 hk5 co cl hX3 hK3 HO2 HAD HKD HXL hop2
          go_wp2_with fail
          refine Calls.mono (slen_c HX5.out) ?_
          rintro e w6 ⟨rfl, rfl⟩
          rw [← HM2.out.2.2.2]
          have HSR := Lib.hid (srow_c HX5.out (by have := HM2.out.2.2.2; omega))
          go_wp2_with fail
          refine Calls.mono HSR.out ?_
          rintro e w7 ⟨v7, rfl, h7, b7⟩
          obtain ⟨A9, c9, rfl, _, _⟩ := h7.slice
          obtain ⟨N9, hN9⟩ : ∃ N, N = (sortN M).length := ⟨_, rfl⟩
          have hN9b : N9 = N7 := by rw [hN9, sortN_len, HM2.out.2.2.2]
          rw [← hN9, hN9b] at h7 ⊢
          have H7 := Lib.hid h7
          have HX7 := Lib.hid (HX5.out.below b7)
          have HK7 := Lib.hid (HK5.out.go b7)
          have HO7 := Lib.hid (HO5.out.below b7)
          clear h7 b7 hN9 hN9b HX5 HK5 HO5 HSR
          have HRF := Lib.hid (refsort_c w7 A7 c7 M HO7.out.jrd (by have := HM2.out.2.2.2; omega))
          rw [← HM2.out.2.2.2] at HRF
          go_wp2_with fail
          refine Calls.mono HRF.out ?_
          rintro e w8 ⟨v8, rfl, h8, b8⟩
          obtain ⟨A10, c10, rfl, _, _⟩ := h8.slice
          obtain ⟨N9, hN9⟩ : ∃ N, N = (sortN M).length := ⟨_, rfl⟩
          have hN9b : N9 = N7 := by rw [hN9, sortN_len, HM2.out.2.2.2]
          rw [← hN9, hN9b] at h8 ⊢
          have HRW := Lib.hid (rowq_c w8 A9 A10 c9 c10 N7 (sortN M) (by rw [sortN_len]; exact HM2.out.2.2.2) (by omega) (H7.out.below b8).krd h8.jrd)
          have HX8 := Lib.hid (HX7.out.below b8)
          have HK8 := Lib.hid (HK7.out.go b8)
          have HO8 := Lib.hid (HO7.out.below b8)
          clear h8 b8 hN9 hN9b HX7 HK7 HO7 HRF H7
          go_wp2_with fail
          refine Calls.mono HRW.out ?_
          rintro e w9 ⟨rfl, b9⟩
          have HX9 := Lib.hid (HX8.out.below b9)
          have HK9 := Lib.hid (HK8.out.go b9)
          have HO9 := Lib.hid (HO8.out.below b9)
          clear b9 HX8 HK8 HO8 HRW
          go_wp2_with fail
          go_roundw
          case rel => exact ⟨j + 1, M, by omega, by go_num, HO9, HX9, Lib.hid ⟨HM2.out.2.1, HM2.out.2.2.1⟩, HK9⟩
          case measure => (first | (simp [intOf]; done) | (simp [intOf]; omega))
    · obtain rfl : j = n := by omega
      go_wp2_with fail
      go_loopw [14, 15] (fun inv hv wz => ∃ k : Nat, k ≤ N6 ∧ hv = .int .i64 k ∧ inv = .bool (decide ((kx, ky) ∈ m.take k)) ∧ Hid (Below wr.heap.size wr wz)) (fun _ hv _ => N6 - (intOf hv).toNat)
      case atStart => exact ⟨0, Nat.zero_le _, rfl, by simp, Lib.hid (Below.refl _ _)⟩
      case round =>
        obtain ⟨k, hk, rfl, rfl, hB⟩ := hrel
        obtain ⟨r, hr⟩ : ∃ r, r = decide ((kx, ky) ∈ m.take k) := ⟨_, rfl⟩
        rw [← hr]
        have HR := Lib.hid hr
        clear hr
        by_cases hkl : k < N6
        · have p1 : (0 : Int) ≤ (k : Int) := by omega
          have p2 : (k : Int) < (N6 : Int) := by omega
          have hkm : k < m.length := by rw [← HN6.out]; exact hkl
          have q3 : (k : Int) ≤ 2000 := by have := hM.out.2; have := HN6.out; omega
          obtain ⟨q, rfl, _, hq, c1, c2⟩ := (HO.out.below hB.out).at_ k hkm
          have HTK := Lib.hid (show m.take (k + 1) = m.take k ++ [m[k]] from List.take_succ_eq_append_getElem hkm)
          cases r with
          | true =>
            clear c1 c2
            go_wp2_with fail
            refine s39t_reg _ _ _ rfl rfl ?_
            intro vals w7 h7 h29
            unfold IsV at h29
            simp only [putD, Act.put, List.setIfInBounds_toArray, List.set_cons_zero, List.set_cons_succ, h29]
            have HB7 := Lib.hid (hB.out.trans (h7.mono hB.out.size))
            clear h29 h7
            go_wp2_with fail
            go_roundw
            case rel => exact ⟨k + 1, by omega, by go_num, by
              have h4 := HR.out
              rw [eq_comm, decide_eq_true_eq] at h4
              rw [HTK.out, decide_eq_true (List.mem_append_left _ h4)], HB7⟩
            case measure => (first | (simp [intOf]; done) | (simp [intOf]; omega))
          | false =>
            obtain ⟨u, hu⟩ : ∃ u, u = m[k].1 := ⟨_, rfl⟩
            obtain ⟨v, hv⟩ : ∃ v, v = m[k].2 := ⟨_, rfl⟩
            have huv : m[k] = (u, v) := Prod.ext hu.symm hv.symm
            rw [← hu] at c1
            rw [← hv] at c2
            obtain ⟨cc, hcc⟩ : ∃ cc, cc = cmpN (u, v) (kx, ky) := ⟨_, rfl⟩
            obtain ⟨r2, hr2⟩ : ∃ r, r = (cc == 0) := ⟨_, rfl⟩
            have HCL := Lib.hid (show ∀ W, Calls Try.prog 10 #[.agg #[.int .i64 u, .int .i64 v], .agg #[.int .i64 kx, .int .i64 ky]] W fun e w' => e = .returned (.int .i64 cc) ∧ Below W.heap.size W w' from fun W => by rw [hcc]; exact refcmp_c (u, v) (kx, ky) W)
            have HOF := Lib.hid (show ∀ W, Calls Try.prog 11 #[.agg #[.int .i64 kx, .int .i64 ky]] W fun e w' => e = .returned (.agg #[.int .i64 kx, .int .i64 ky]) ∧ Below W.heap.size W w' from fun W => kof_c (kx, ky) W)
            have HR2 := Lib.hid (And.intro hr2 (And.intro hcc huv))
            have HD := Lib.hid (And.intro c1 (And.intro c2 hq))
            have HBX := Lib.hid (hK.out.go hB.out)
            clear hu hv huv hcc hr2 c1 c2 hq
            go_wp2_with fail
            refine s39f_reg _ _ _ q H N6 c6 k kx ky u v cc r2 HD.out.2.2 HBX.out.box.lt HD.out.1 HD.out.2.1 HBX.out.box.two.1 HBX.out.box.two.2 p1 p2 HR2.out.1.symm HOF HCL rfl rfl rfl rfl rfl ?_
            intro vals w7 h7 h29
            unfold IsV at h29
            simp only [putD, Act.put, List.setIfInBounds_toArray, List.set_cons_zero, List.set_cons_succ, h29]
            have HB7 := Lib.hid (hB.out.trans (h7.mono hB.out.size))
            clear h29 h7
            go_wp2_with fail
            go_roundw
            case rel => exact ⟨k + 1, by omega, by go_num, by
              have h4 := HR.out
              obtain ⟨h5, h6, h7⟩ := HR2.out
              rw [eq_comm, decide_eq_false_iff_not] at h4
              rw [HTK.out, h5]
              congr 1
              rw [Bool.eq_iff_iff, beq_iff_eq, decide_eq_true_eq, h6, cmpN_zero, h7, List.mem_append, List.mem_singleton]
              constructor
              · intro e; exact .inr e.symm
              · rintro (e | e)
                · exact absurd e h4
                · exact e.symm, HB7⟩
            case measure => (first | (simp [intOf]; done) | (simp [intOf]; omega))
        · obtain rfl : k = N6 := by omega
          have HR3 := Lib.hid (show r = decide ((kx, ky) ∈ m) from by rw [HR.out, List.take_of_length_le (by rw [← HN6.out]; exact Nat.le_refl _)])
          have HB2 := Lib.hid (hK.out.go hB.out)
          obtain ⟨b1, b2⟩ := HB2.out.box.two
          have HHS := Lib.hid (show Calls Try.prog 21 #[.pointer (some ⟨B, 0, none⟩), .agg #[.int .i64 kx, .int .i64 ky]] wr fun e w' => e = .returned (.bool r) ∧ Below wr.heap.size wr w' from by rw [HR3.out]; exact shas_c (hX.out.below hB.out) (kx, ky) HKW.out)
          go_wp2_with fail
          refine Calls.mono HHS.out ?_
          rintro e w9 ⟨rfl, b9⟩
          have HB9 := Lib.hid (HB2.out.go b9)
          clear b9 b1 b2
          cases r with
          | true =>
            go_wp2_with fail
            go_ret
            exact ⟨rfl, HB9.out.bel⟩
          | false =>
            go_wp2_with fail
            go_ret
            exact ⟨rfl, HB9.out.bel⟩
end Go.Proofs.Ytgddehhigamkkaa
namespace Go.Proofs.Ytgddehhigamkkaa.keySets
open Go.ChangeShapes Go.WideShapes Go.ChangeAt Go.RowKit
open Go.ChangeMaps (open_string shut_string)
set_option linter.unusedVariables false
set_option maxRecDepth 100000 in
theorem lifted (os : Os) (started : os.Started) (H : Type) (enc : TypeId × Value → H) :
    ReturnsInHanded {} Try.checked os 4 .any (Rows.keySetsSpec.pre6 enc Try.prog Try.f4 Rows.keySetsRow.domain false) (Rows.keySetsSpec.post enc Try.prog Try.f4 false true false false) := by
  refine returnsInHanded_of_change (C := Try.checked) own started (by kernel_rfl) Try.func4
    (ChangeSpec.witness6 (enc := enc) (C := Try.checked) false ⟨#[], #[.slice none 0 0, .agg #[.int .i64 0, .int .i64 0]], []⟩ 8 (by kernel_rfl) (by kernel_rfl) (by kernel_rfl) (by kernel_rfl)) ?_
  intro W base args ds gs before hval0 hW hcnd _
  have hval : ∀ (j : Nat) t v, Try.f4.params[j]? = some t → args[j]? = some v → Value.okWide Try.prog W .any base t v := hval0
  have hW' := hW
  obtain ⟨p, q, hA0, hV, rfl, hfz, hnd⟩ := hW
  have hA : DataW.TrodAll enc Try.prog W 0 (fun _ => true) true Try.f4.params.toList args.toList ds p := hA0
  rw [Try.params4] at hA hval
  obtain ⟨v0, vs0, d0, ds0, p0, q0, hargs, rfl, rfl, h0, r0⟩ := trodAll_cons hA
  obtain ⟨v1, vs1, d1, ds1, p1, q1, rfl, rfl, rfl, h1, r1⟩ := trodAll_cons r0
  obtain ⟨rfl, rfl, rfl⟩ := trodAll_nil r1
  obtain rfl : args = #[v0, v1] := by cases args; simp_all
  obtain ⟨rfl, rfl⟩ := trodVars_none hV
  have k0 := h0
  have lt0 : ∀ x ∈ p0, x.block < W.heap.size := by obtain ⟨m, hm⟩ := k0; exact DataW.trod_lt m _ _ _ hm
  obtain ⟨A0, a0, c0, e0v, g0, m0, w0⟩ := open_rows_Step (hval 0 34 v0 rfl rfl) h0; subst e0v
  have k1 := h1
  have lt1 : ∀ x ∈ p1, x.block < W.heap.size := by obtain ⟨m, hm⟩ := k1; exact DataW.trod_lt m _ _ _ hm
  obtain ⟨a1x, a1y, e1v, w1x, w1y⟩ := open_ints2 .i64 .i64 Try.underlying23 (by kernel_rfl) (by kernel_rfl) (by kernel_rfl) (by kernel_rfl) (hval 1 23 v1 rfl rfl) h1; subst e1v
  clear hA0 hval0
  refine (ksets_walk W A0 a0 c0 g0 m0 w0 a1x w1x a1y w1y).mono fun e W' ⟨he, bel⟩ => ?_
  subst he
  exact ⟨_, rfl, _, _, _, [], _, [], hW', trodAll_mk1 (shut_bool Try.underlying4 _), (trodAll_cons_mk (Below.trod laidOut (by kernel_rfl) (of_decide_eq_true (by kernel_rfl)) k0 bel lt0) (trodAll_cons_mk (Below.trod laidOut (by kernel_rfl) (of_decide_eq_true (by kernel_rfl)) k1 bel lt1) trodAll_mk0)), rfl, bel.frame _, fun h => by cases h⟩
theorem over : Rows.keySetsRow.holds Try.pinned (OpenSpec.ofChange Rows.keySetsSpec) :=
  OpenClaim.holds_of_wide 4 Try.f4 rfl rfl rfl rfl rfl rfl rfl ⟨rfl, rfl, rfl, rfl, rfl⟩ rfl rfl rfl rfl rfl (by kernel_rfl) Try.func4 (by kernel_rfl)
    (of_decide_eq_true (by kernel_rfl)) (by unfold Func.isWrapper; first | (rw [if_pos (by decide +kernel)]; kernel_rfl) | (rw [if_neg (by decide +kernel)]; exact ⟨rfl, rfl⟩))
    (fun os started H enc _ => lifted os started H enc)
theorem proved : Rows.KeySetsSaid := over
end Go.Proofs.Ytgddehhigamkkaa.keySets
