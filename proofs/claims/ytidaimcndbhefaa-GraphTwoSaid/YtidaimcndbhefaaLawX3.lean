/- The law GraphTwo of layer 17 returns true for every argument. No conditions. -/
import Derived.Test.YtidaimcndbhefaaGtE
namespace Go.Proofs.Ytidaimcndbhefaa
set_option linter.unusedVariables false
set_option linter.unusedSimpArgs false
open Go.RowKit Go.Maps
theorem gv_split {g : Gv} : ∃ (N M : Nat), N = g.n.length ∧ M = g.r.length ∧ g.v = .agg #[.slice g.A N g.c, .slice g.A2 M g.c2] := ⟨_, _, rfl, rfl, rfl⟩
set_option maxHeartbeats 4000000
set_option maxRecDepth 100000
theorem two_walk (w : World) (a : Gv) (wa : GvOk w a) (b : Gv) (wb : GvOk w b) : Calls Try.prog 4 #[a.v, b.v] w (TruP (.bool true) w) := by
  have HA := Lib.hid wa.at_
  have HB := Lib.hid wb.at_
  obtain ⟨N, M, hN, hM, hva⟩ := @gv_split a
  obtain ⟨K, L, hK, hL, hvb⟩ := @gv_split b
  have HVa := Lib.hid hva
  have HVb := Lib.hid hvb
  rw [hva, hvb]
  obtain ⟨A, hA⟩ : ∃ A, A = a.A := ⟨_, rfl⟩
  obtain ⟨A2, hA2⟩ : ∃ A2, A2 = a.A2 := ⟨_, rfl⟩
  obtain ⟨a1, ha1⟩ : ∃ a1, a1 = a.c := ⟨_, rfl⟩
  obtain ⟨a2, ha2⟩ : ∃ a2, a2 = a.c2 := ⟨_, rfl⟩
  obtain ⟨B, hB⟩ : ∃ A, A = b.A := ⟨_, rfl⟩
  obtain ⟨B2, hB2⟩ : ∃ A2, A2 = b.A2 := ⟨_, rfl⟩
  obtain ⟨e1, he1⟩ : ∃ a1, a1 = b.c := ⟨_, rfl⟩
  obtain ⟨e2, he2⟩ : ∃ a2, a2 = b.c2 := ⟨_, rfl⟩
  rw [← hA, ← hA2, ← ha1, ← ha2] at HVa ⊢
  rw [← hB, ← hB2, ← he1, ← he2] at HVb ⊢
  clear wa wb hva hvb hA hA2 ha1 ha2 hB hB2 he1 he2
  clear hN hM hK hL
  go_enter Try.func4, Try.ntmps4
  go_wp2_with fail
  obtain ⟨W0, hW0⟩ : ∃ W0, W0 = (w.alloc (.cells #[.slice A N a1, .slice A2 M a2] 25)).alloc (.cells #[.slice B K e1, .slice B2 L e2] 25) := ⟨_, rfl⟩
  have H0 := Lib.hid (show Bk W0 w.heap.size 25 #[.slice A N a1, .slice A2 M a2] ∧ Bk W0 (w.heap.size + 1) 25 #[.slice B K e1, .slice B2 L e2] ∧ Below w.heap.size w W0 from by
    rw [hW0]
    have k1 := Bk.new (w.alloc (.cells #[.slice A N a1, .slice A2 M a2] 25)) 25 #[.slice B K e1, .slice B2 L e2]
    simp only [World.size_alloc] at k1
    exact ⟨(Bk.new w _ _).alloc _, k1, (Gw.alloc w _).trans ((Gw.alloc _ _).mono (by simp))⟩)
  rw [← hW0]
  clear hW0
  refine Calls.mono (known17_c _) ?_
  rintro r w1 ⟨rfl, b1⟩
  have H1 := Lib.hid (show Bk w1 w.heap.size 25 #[.slice A N a1, .slice A2 M a2] ∧ Bk w1 (w.heap.size + 1) 25 #[.slice B K e1, .slice B2 L e2] ∧ Below w.heap.size w w1 from ⟨H0.out.1.below b1 H0.out.1.lt, H0.out.2.1.below b1 H0.out.2.1.lt, H0.out.2.2.trans (b1.mono H0.out.2.2.size)⟩)
  have c0 := H1.out.1.two.1
  have c1 := H1.out.1.two.2
  have cl := H1.out.1.lt
  clear b1 H0
  have HFa := Lib.hid (few_c w1 a (HA.out.up H1.out.2.2))
  rw [HVa.out] at HFa
  go_wp2_with fail
  refine Calls.mono HFa.out ?_
  rintro r w2 ⟨f1, rfl, hf1, b2⟩
  have H2 := Lib.hid (show Bk w2 w.heap.size 25 #[.slice A N a1, .slice A2 M a2] ∧ Bk w2 (w.heap.size + 1) 25 #[.slice B K e1, .slice B2 L e2] ∧ Below w.heap.size w w2 from ⟨H1.out.1.below b2 H1.out.1.lt, H1.out.2.1.below b2 H1.out.2.1.lt, H1.out.2.2.trans (b2.mono H1.out.2.2.size)⟩)
  have HF1 := Lib.hid hf1
  clear c0 c1 cl hf1 b2 HFa H1
  cases f1 with
  | false =>
    go_wp2_with fail
    go_ret
    exact ⟨rfl, H2.out.2.2⟩
  | true =>
    have c0 := H2.out.2.1.two.1
    have c1 := H2.out.2.1.two.2
    have cl := H2.out.2.1.lt
    have HFb := Lib.hid (few_c w2 b (HB.out.up H2.out.2.2))
    rw [HVb.out] at HFb
    go_wp2_with fail
    refine Calls.mono HFb.out ?_
    rintro r w3 ⟨f2, rfl, hf2, b3⟩
    have H3 := Lib.hid (show Bk w3 w.heap.size 25 #[.slice A N a1, .slice A2 M a2] ∧ Bk w3 (w.heap.size + 1) 25 #[.slice B K e1, .slice B2 L e2] ∧ Below w.heap.size w w3 from ⟨H2.out.1.below b3 H2.out.1.lt, H2.out.2.1.below b3 H2.out.2.1.lt, H2.out.2.2.trans (b3.mono H2.out.2.2.size)⟩)
    have HF2 := Lib.hid hf2
    clear c0 c1 cl hf2 b3 HFb H2
    cases f2 with
    | false =>
      go_wp2_with fail
      go_ret
      exact ⟨rfl, H3.out.2.2⟩
    | true =>
      have HP := Lib.hid (And.intro (HF1.out (by first | rfl | trivial)) (HF2.out (by first | rfl | trivial)))
      have c0 := H3.out.1.two.1
      have c1 := H3.out.1.two.2
      have cl := H3.out.1.lt
      have HBa := Lib.hid (GBx.of H3.out.1 (HA.out.up H3.out.2.2))
      have HBb := Lib.hid (GBx.of H3.out.2.1 (HB.out.up H3.out.2.2))
      have HTw := Lib.hid (fun (W : World) (hb : Below w3.heap.size w3 W) => twin_g W a ((HBa.out W hb).2.2) HP.out.1.small)
      rw [HVa.out] at HTw
      clear HF1 HF2
      go_wp2_with fail
      refine Calls.mono (HTw.out w3 (Below.refl _ _)) ?_
      rintro r w4 ⟨c, rfl, hn4, hr4, hm4, hr4e, b4⟩
      obtain ⟨X, Y, hX, hY, hvc⟩ := @gv_split c
      have HVc := Lib.hid hvc
      obtain ⟨C, c1', C2, c2', ms, us⟩ := c
      simp only at HVc hX hY
      have HX := Lib.hid (And.intro hX hY)
      rw [HVc.out]
      have H4 := Lib.hid (And.intro hn4 (And.intro hr4 (And.intro hm4 (And.intro hr4e b4))))
      clear hX hY hvc hn4 hr4 hm4 hr4e b4 c0 c1 cl
      go_wp2_with fail
      obtain ⟨sc, hsc⟩ : ∃ sc, sc = w4.heap.size := ⟨_, rfl⟩
      obtain ⟨w5, hw5⟩ : ∃ w5, w5 = w4.alloc (.cells #[.slice C X c1', .slice C2 Y c2'] 25) := ⟨_, rfl⟩
      have hal : Below w4.heap.size w4 w5 := by rw [hw5]; exact Gw.alloc w4 _
      have H5 := Lib.hid (show Bk w5 sc 25 #[.slice C X c1', .slice C2 Y c2'] ∧ Below w3.heap.size w3 w5 ∧ NOwn w5 w3.heap.size (.slice C X c1') ms ∧ ROwn w5 w3.heap.size (.slice C2 Y c2') us from by
        obtain ⟨h1, h2, h3, h4, h5⟩ := H4.out
        have g1 := h1.below hal
        have g2 := h2.below hal
        rw [HX.out.1, HX.out.2]
        refine ⟨?_, h5.trans (hal.mono h5.size), g1, g2⟩
        rw [← HX.out.1, ← HX.out.2, hw5, hsc]
        exact Bk.new w4 _ _)
      rw [← hsc, ← hw5]
      clear hal hsc hw5
      have HFc := Lib.hid (show FewP ⟨C, c1', C2, c2', ms, us⟩ from HP.out.1.same H4.out.2.2.1 H4.out.2.2.2.1)
      have HGa := Lib.hid (HBa.out.up H5.out.2.1)
      have HGc := Lib.hid (GBx.of H5.out.1 (show (⟨C, c1', C2, c2', ms, us⟩ : Gv).At w5 w5.heap.size from ⟨H5.out.2.2.1.rows.1, H5.out.2.2.2.rows.1, H5.out.2.2.1.rows.2.2, H5.out.2.2.2.rows.2.2⟩))
      have hsame : sameG a ⟨C, c1', C2, c2', ms, us⟩ = true := same_true H4.out.2.2.2.1.symm H4.out.2.2.1.symm
      refine two6_r _ _ _ w.heap.size sc a ⟨C, c1', C2, c2', ms, us⟩ A A2 C C2 N M X Y a1 a2 c1' c2' HVa.out HVc.out HP.out.1 HFc.out HGa HGc hsame rfl rfl rfl ?_
      intro vals w6 hG h6
      unfold IsV at h6
      simp only [putD, Act.put, List.setIfInBounds_toArray, List.set_cons_zero, List.set_cons_succ, h6]
      have H6 := Lib.hid (show TwoS w3.heap.size sc w3 w6 C X c1' (.slice C2 Y c2') ms from by
        obtain ⟨h1, h2, h3, h4⟩ := H5.out
        exact ⟨h3.below hG, HX.out.1.symm, HFc.out.2.2.1, h1.below hG h1.lt, h2.trans (hG.mono h2.size)⟩)
      have qX : (X : Int) ≤ 60 := by rw [HX.out.1]; exact Int.ofNat_le.2 HFc.out.1
      clear hG h6 hsame HGa HGc H4
      go_wp2_with fail
      go_loopw [7] (fun i W => ∃ (k : Nat) (xs : List Nv), i = .int .i64 k ∧ k ≤ X ∧ TwoS w3.heap.size sc w3 W C X c1' (.slice C2 Y c2') xs) (fun i _ => X - (Go.RowKit.intOf i).toNat)
      case atStart => exact ⟨0, ms, rfl, Nat.zero_le _, H6.out⟩
      case round =>
        obtain ⟨k, xs, rfl, hk, hS⟩ := hrel
        have c0 := hS.bk.two.1
        by_cases hlt : k < X
        · have hkl : k < xs.length := by rw [hS.len]; exact hlt
          obtain ⟨x, hx⟩ : ∃ x, xs[k]? = some x := ⟨_, List.getElem?_eq_getElem hkl⟩
          obtain ⟨ad, rfl, hbl, _, _, _⟩ := hS.spot hx
          have hsm := hS.sm x (List.mem_of_getElem? hx)
          obtain ⟨m, hm⟩ : ∃ m, m = x.bs.length := ⟨_, rfl⟩
          have p1 : (0 : Int) ≤ (k : Int) := by omega
          have p2 : (k : Int) < (X : Int) := by omega
          have q1 : (m : Int) ≤ 1100 := by omega
          have HS := Lib.hid (And.intro hx (And.intro hm.symm hS))
          clear hx hm hS hkl hbl hsm
          go_wp2_with fail
          go_loopw [8] (fun i W => ∃ (j : Nat) (xs : List Nv) (x : Nv), i = .int .i64 j ∧ j ≤ m ∧ xs[k]? = some x ∧ x.bs.length = m ∧ TwoS w3.heap.size sc w3 W (some ad) X c1' (.slice C2 Y c2') xs) (fun i _ => m - (Go.RowKit.intOf i).toNat)
          case atStart => exact ⟨0, xs, x, rfl, Nat.zero_le _, HS.out.1, HS.out.2.1, HS.out.2.2⟩
          case round =>
            obtain ⟨j, ys, y, rfl, hj, hy, hym, hT⟩ := hrel
            obtain ⟨ad', e, hbl, c0, c1, c2⟩ := hT.spot hy
            injection e with e
            subst e
            have HT := Lib.hid (And.intro hy (And.intro hym hT))
            obtain ⟨yA, yc, yD, yd, yps, ybs⟩ := y
            unfold Nv.vd at c2
            simp only at c2 hym
            rw [hym] at c2
            by_cases hjm : j < m
            · have hj2 : j < ybs.length := by rw [hym]; exact hjm
              have how := (hT.own.each _ (List.mem_of_getElem? hy)).2
              obtain ⟨q, rfl, hqc, hqf, hqg, hql⟩ := ow_spot how hj2
              obtain ⟨z, hz⟩ : ∃ z, z = ybs[j] := ⟨_, rfl⟩
              simp only at hqc
              rw [← hz] at hqc
              unfold b8 at hqc
              have HR := Lib.hid (fun (W : World) (b : Below wr.heap.size wr W) => show W.cell? ⟨sc, 0, none⟩ = some (.slice (some ad) X c1') ∧ W.cell? ⟨(ad.add (k * 2)).block, (ad.add (k * 2)).off + 1, none⟩ = some (.slice (some ⟨q, 0, none⟩) m yd) ∧ W.cell? ⟨q, j, none⟩ = some (.int .u8 (U8 z)) from ⟨(b.cell (cell_lt c0)).trans c0, (b.cell (cell_lt c2)).trans c2, (b.cell (cell_lt hqc)).trans hqc⟩)
              have p3 : (0 : Int) ≤ (j : Int) := by omega
              have p4 : (j : Int) < (m : Int) := by omega
              have HJ := Lib.hid hj2
              have HQl := Lib.hid hql
              clear how hqc hqf hqg hql hz hy hym hT hj2 c1
              go_wp2_with fail
              refine two13_r _ _ _ sc q k j X c1' m yd ad z HR p1 p2 p3 p4 rfl rfl rfl rfl ?_
              intro vals w7 hG h62 h63
              unfold IsV at h62 h63
              simp only [putD, Act.put, List.setIfInBounds_toArray, List.set_cons_zero, List.set_cons_succ, h62, h63]
              obtain ⟨g1, g2, g3⟩ := HT.out
              have g4 := g3.below (by have := g3.bl.size; exact this) hG
              have HT7 := Lib.hid (And.intro g1 (And.intro g2 (g4.setB g1 HJ.out rfl (z + 1#8))))
              have hqc := (HR.out w7 hG).2.2
              obtain ⟨q2, e2, _, hqf, _⟩ := ow_spot (g4.own.each _ (List.mem_of_getElem? g1)).2 HJ.out
              injection e2 with e2
              injection e2 with e2
              subst e2
              have X2 : ∃ (j' : Nat) (xs' : List Nv) (x' : Nv), (Value.int .i64 ((j : Int) + 1)) = .int .i64 j' ∧ j' ≤ m ∧ xs'[k]? = some x' ∧ x'.bs.length = m ∧ TwoS w3.heap.size sc w3 (w7.setCell ⟨q, j, none⟩ (.int .u8 (U8 (z + 1#8)))) (some ad) X c1' (.slice C2 Y c2') xs' :=
                ⟨j + 1, _, _, by go_num, by omega, List.getElem?_set_self (by obtain ⟨h, e⟩ := List.getElem?_eq_some_iff.1 g1; exact h), (by simp only [List.length_set]; exact g2), HT7.out.2.2⟩
              clear g1 g2 g3 g4 hG h62 h63 HR HT HT7 c0 c2
              go_wp2_with fail
              clear hqc hqf
              go_roundw
              case rel => first | exact X2 | (obtain ⟨j', xs', x', h1, h2, h3, h4, h5⟩ := X2; exact ⟨j', by simpa using h1, h2, xs', x', h3, h4, h5⟩)
              case measure => simp [Go.RowKit.intOf]; omega
            · have hjm2 : j = m := by omega
              obtain ⟨n, hn⟩ : ∃ n, n = yps.length := ⟨_, rfl⟩
              have hsm := hT.sm _ (List.mem_of_getElem? hy)
              have q2 : (n : Int) ≤ 70 := by have := hsm.1; simp only at this; omega
              have HN := Lib.hid hn.symm
              clear hn hsm hy hym hT c1
              go_wp2_with fail
              clear c0 c2 hjm hjm2 hj
              go_loopw [9] (fun i W => ∃ (j : Nat) (xs : List Nv) (x : Nv), i = .int .i64 j ∧ j ≤ n ∧ xs[k]? = some x ∧ x.ps.length = n ∧ TwoS w3.heap.size sc w3 W (some ad) X c1' (.slice C2 Y c2') xs) (fun i _ => n - (Go.RowKit.intOf i).toNat)
              case atStart => exact ⟨0, ys, _, rfl, Nat.zero_le _, HT.out.1, HN.out, HT.out.2.2⟩
              case round =>
                obtain ⟨j, zs, z, rfl, hj, hz, hzn, hT⟩ := hrel
                obtain ⟨ad', e, hbl, c0, c1, c2⟩ := hT.spot hz
                injection e with e
                subst e
                have HT2 := Lib.hid (And.intro hz (And.intro hzn hT))
                obtain ⟨zA, zc, zD, zd, zps, zbs⟩ := z
                unfold Nv.vp at c1
                simp only at c1 hzn
                rw [hzn] at c1
                by_cases hjn : j < n
                · have hj2 : j < zps.length := by rw [hzn]; exact hjn
                  have how := (hT.own.each _ (List.mem_of_getElem? hz)).1
                  obtain ⟨q, rfl, hqc, hqf, hqg, hql⟩ := ow_spot how hj2
                  simp only at hqc
                  obtain ⟨u, hu⟩ : ∃ u, u = zps[j] := ⟨_, rfl⟩
                  rw [← hu] at hqc
                  unfold iV at hqc
                  have HT7 := Lib.hid (hT.setP hz hj2 rfl (-7))
                  have X2 : ∃ (j' : Nat) (xs' : List Nv) (x' : Nv), (Value.int .i64 ((j : Int) + 1)) = .int .i64 j' ∧ j' ≤ n ∧ xs'[k]? = some x' ∧ x'.ps.length = n ∧ TwoS w3.heap.size sc w3 (wr.setCell ⟨q, j, none⟩ (.int .i64 (-7))) (some ad) X c1' (.slice C2 Y c2') xs' :=
                    ⟨j + 1, _, _, by go_num, by omega, List.getElem?_set_self (by obtain ⟨h, e⟩ := List.getElem?_eq_some_iff.1 hz; exact h), (by simp only [List.length_set]; exact hzn), HT7.out⟩
                  have p3 : (0 : Int) ≤ (j : Int) := by omega
                  have p4 : (j : Int) < (n : Int) := by omega
                  clear how hqg hql hu hz hzn hT hj2 c2 HT7 HT2
                  go_wp2_with fail
                  clear hqc hqf
                  go_roundw
                  case rel => first | exact X2 | (obtain ⟨j', xs', x', h1, h2, h3, h4, h5⟩ := X2; exact ⟨j', by simpa using h1, h2, xs', x', h3, h4, h5⟩)
                  case measure => simp [Go.RowKit.intOf]; omega
                · clear hz hzn hT c2
                  go_wp2_with fail
                  go_roundw
                  case rel => first | exact ⟨k + 1, zs, by go_num, by omega, HT2.out.2.2⟩ | exact ⟨k + 1, by go_num, by omega, zs, HT2.out.2.2⟩
                  case measure => simp [Go.RowKit.intOf]; omega
        · have hkX : k = X := by omega
          have hb := hS.bl
          have d0 := (HBa.out wr hb).1
          have d1 := (HBa.out wr hb).2.1
          have hcl := cell_lt d0
          have hcl' : w.heap.size < wr.heap.size := hcl
          have HBl := Lib.hid hb
          clear hkX hS hb hcl
          go_wp2_with fail
          clear c0
          refine Calls.mono (HTw.out wr HBl.out) ?_
          rintro r w7 ⟨d, rfl, hn4, hr4, hm4, hr4e, b4⟩
          obtain ⟨U, V, hU, hV, hvd⟩ := @gv_split d
          have HVd := Lib.hid hvd
          obtain ⟨D, d1', D2, d2', ns, rs⟩ := d
          simp only at HVd hU hV
          have HU := Lib.hid (And.intro hU hV)
          rw [HVd.out]
          have H7 := Lib.hid (And.intro hn4 (And.intro hr4 (And.intro hm4 (And.intro hr4e b4))))
          clear hU hV hvd hn4 hr4 hm4 hr4e b4 d0 d1 hcl'
          go_wp2_with fail
          obtain ⟨sd, hsd⟩ : ∃ sd, sd = w7.heap.size := ⟨_, rfl⟩
          obtain ⟨w8, hw8⟩ : ∃ w8, w8 = w7.alloc (.cells #[.slice D U d1', .slice D2 V d2'] 25) := ⟨_, rfl⟩
          have hal : Below w7.heap.size w7 w8 := by rw [hw8]; exact Gw.alloc w7 _
          have H8 := Lib.hid (show Bk w8 sd 25 #[.slice D U d1', .slice D2 V d2'] ∧ Below w3.heap.size w3 w8 ∧ NOwn w8 wr.heap.size (.slice D U d1') ns ∧ ROwn w8 wr.heap.size (.slice D2 V d2') rs from by
            obtain ⟨h1, h2, h3, h4, h5⟩ := H7.out
            have g1 := h1.below hal
            have g2 := h2.below hal
            rw [HU.out.1, HU.out.2]
            refine ⟨?_, (HBl.out.trans (h5.mono HBl.out.size)).trans (hal.mono (Nat.le_trans HBl.out.size h5.size)), g1, g2⟩
            rw [← HU.out.1, ← HU.out.2, hw8, hsd]
            exact Bk.new w7 _ _)
          rw [← hsd, ← hw8]
          clear hal hsd hw8
          have HFd := Lib.hid (show FewP ⟨D, d1', D2, d2', ns, rs⟩ from HP.out.1.same H7.out.2.2.1 H7.out.2.2.2.1)
          have HGa := Lib.hid (HBa.out.up H8.out.2.1)
          have HGb := Lib.hid (HBb.out.up H8.out.2.1)
          have HGd := Lib.hid (GBx.of H8.out.1 (show (⟨D, d1', D2, d2', ns, rs⟩ : Gv).At w8 w8.heap.size from ⟨H8.out.2.2.1.rows.1, H8.out.2.2.2.rows.1, H8.out.2.2.1.rows.2.2, H8.out.2.2.2.rows.2.2⟩))
          refine two19_r _ _ _ w.heap.size (w.heap.size + 1) sd a b ⟨D, d1', D2, d2', ns, rs⟩ A A2 B B2 D D2 N M K L U V a1 a2 e1 e2 d1' d2' (sameG a b) HVa.out HVb.out HVd.out HP.out.1 HP.out.2 HFd.out HGa HGb HGd rfl (same_sym a b) (same_true H7.out.2.2.2.1 H7.out.2.2.1) (same_true rfl rfl) rfl rfl rfl rfl rfl ?_
          intro vals w9 hG h4
          unfold IsV at h4
          simp only [putD, Act.put, List.setIfInBounds_toArray, List.set_cons_zero, List.set_cons_succ, h4]
          have H9 := Lib.hid (show Below w.heap.size w w9 from by
            have h1 := H3.out.2.2
            have h2 := h1.trans (H8.out.2.1.mono h1.size)
            exact h2.trans (hG.mono h2.size))
          clear hG h4
          go_wp2_with fail
          go_ret
          exact ⟨rfl, H9.out⟩
end Go.Proofs.Ytidaimcndbhefaa
namespace Go.Proofs.Ytidaimcndbhefaa.graphTwo
open Go.ChangeShapes Go.WideShapes Go.ChangeAt Go.RowKit
open Go.ChangeMaps (open_string shut_string)
set_option linter.unusedVariables false
set_option maxRecDepth 100000 in
theorem lifted (os : Os) (started : os.Started) (H : Type) (enc : TypeId × Value → H) :
    ReturnsInHanded {} Try.checked os 4 .any (Rows.graphTwoSpec.pre6 enc Try.prog Try.f4 Rows.graphTwoRow.domain false) (Rows.graphTwoSpec.post enc Try.prog Try.f4 false true false false) := by
  refine returnsInHanded_of_change (C := Try.checked) own started (by kernel_rfl) Try.func4
    (ChangeSpec.witness6 (enc := enc) (C := Try.checked) false ⟨#[], #[.agg #[.slice none 0 0, .slice none 0 0], .agg #[.slice none 0 0, .slice none 0 0]], []⟩ 8 (by kernel_rfl) (by kernel_rfl) (by kernel_rfl) (by kernel_rfl)) ?_
  intro W base args ds gs before hval0 hW hcnd _
  have hval : ∀ (j : Nat) t v, Try.f4.params[j]? = some t → args[j]? = some v → Value.okWide Try.prog W .any base t v := hval0
  have hW' := hW
  obtain ⟨p, q, hA0, hV, rfl, hfz, hnd⟩ := hW
  have hA : DataW.TrodAll enc Try.prog W 0 (fun _ => true) true Try.f4.params.toList args.toList ds p := hA0
  rw [Try.params4] at hA hval
  obtain ⟨v0, vs0, d0, ds0, p0, q0, hargs, rfl, rfl, h0, r0⟩ := trodAll_cons hA
  obtain ⟨v1, vs1, d1, ds1, p1, q1, rfl, rfl, rfl, h1, r1⟩ := trodAll_cons r0
  obtain ⟨rfl, rfl, rfl⟩ := trodAll_nil r1
  obtain rfl : args = #[v0, v1] := by cases args; simp_all
  obtain ⟨rfl, rfl⟩ := trodVars_none hV
  have k0 := h0
  have lt0 : ∀ x ∈ p0, x.block < W.heap.size := by obtain ⟨m, hm⟩ := k0; exact DataW.trod_lt m _ _ _ hm
  obtain ⟨a0, e0v, w0⟩ := open_str_Graph (hval 0 25 v0 rfl rfl) h0; subst e0v
  have k1 := h1
  have lt1 : ∀ x ∈ p1, x.block < W.heap.size := by obtain ⟨m, hm⟩ := k1; exact DataW.trod_lt m _ _ _ hm
  obtain ⟨a1, e1v, w1⟩ := open_str_Graph (hval 1 25 v1 rfl rfl) h1; subst e1v
  clear hA0 hval0
  refine (two_walk W a0 w0 a1 w1).mono fun e W' ⟨he, bel⟩ => ?_
  subst he
  exact ⟨_, rfl, _, _, _, [], _, [], hW', trodAll_mk1 (shut_bool Try.underlying4 _), (trodAll_cons_mk (Below.trod laidOut (by kernel_rfl) (of_decide_eq_true (by kernel_rfl)) k0 bel lt0) (trodAll_cons_mk (Below.trod laidOut (by kernel_rfl) (of_decide_eq_true (by kernel_rfl)) k1 bel lt1) trodAll_mk0)), rfl, bel.frame _, fun h => by cases h⟩
theorem over : Rows.graphTwoRow.holds Try.pinned (OpenSpec.ofChange Rows.graphTwoSpec) :=
  OpenClaim.holds_of_wide 4 Try.f4 rfl rfl rfl rfl rfl rfl rfl ⟨rfl, rfl, rfl, rfl, rfl⟩ rfl rfl rfl rfl rfl (by kernel_rfl) Try.func4 (by kernel_rfl)
    (of_decide_eq_true (by kernel_rfl)) (by unfold Func.isWrapper; first | (rw [if_pos (by decide +kernel)]; kernel_rfl) | (rw [if_neg (by decide +kernel)]; exact ⟨rfl, rfl⟩))
    (fun os started H enc _ => lifted os started H enc)
theorem proved : Rows.GraphTwoSaid := over
end Go.Proofs.Ytidaimcndbhefaa.graphTwo
