/- The law CachePins of layer 11 returns true for every argument. No conditions. -/
import Derived.Test.YthmaofbnhfgfaaaCmU
import Derived.Test.YthmaofbnhfgfaaaOpenZ
import Derived.Test.YthmaofbnhfgfaaaFrame
namespace Go.Proofs.Ythmaofbnhfgfaaa
set_option linter.unusedVariables false
set_option linter.unusedSimpArgs false
open Go.RowKit Go.Maps
set_option maxHeartbeats 8000000
set_option maxRecDepth 100000
theorem pins_bad (w : World) (a : Int) (A : Option Addr) (n c : Nat) (h : a < 1 ∨ 64 < a ∨ (n : Int) < a ∨ 100 < n) : Calls Try.prog 4 #[.int .i64 a, .slice A n c] w (TruP (.bool true) w) := by
  by_cases h1 : a < 1
  · have t1 : decide (a < 1) = true := by simpa using h1
    clear h h1
    go_enter Try.func4, Try.ntmps4
    go_wp2_with fail
    refine Calls.mono (known11_c w) ?_
    rintro e w1 ⟨rfl, d1⟩
    have HB1 := Lib.hid d1
    clear d1
    go_wp2_with fail
    go_ret
    exact ⟨rfl, HB1.out⟩
  have t1 : decide (a < 1) = false := by simpa using h1
  by_cases h2 : 64 < a
  · have t2 : decide (64 < a) = true := by simpa using h2
    clear h h1 h2
    go_enter Try.func4, Try.ntmps4
    go_wp2_with fail
    refine Calls.mono (known11_c w) ?_
    rintro e w1 ⟨rfl, d1⟩
    have HB1 := Lib.hid d1
    clear d1
    go_wp2_with fail
    go_ret
    exact ⟨rfl, HB1.out⟩
  have t2 : decide (64 < a) = false := by simpa using h2
  by_cases h3 : (n : Int) < a
  · have t3 : decide ((n : Int) < a) = true := by simpa using h3
    clear h h1 h2 h3
    go_enter Try.func4, Try.ntmps4
    go_wp2_with fail
    refine Calls.mono (known11_c w) ?_
    rintro e w1 ⟨rfl, d1⟩
    have HB1 := Lib.hid d1
    clear d1
    go_wp2_with fail
    go_ret
    exact ⟨rfl, HB1.out⟩
  have t3 : decide ((n : Int) < a) = false := by simpa using h3
  have t4 : decide ((100 : Int) < (n : Int)) = true := by simp; omega
  clear h h1 h2 h3
  go_enter Try.func4, Try.ntmps4
  go_wp2_with fail
  refine Calls.mono (known11_c w) ?_
  rintro e w1 ⟨rfl, d1⟩
  have HB1 := Lib.hid d1
  clear d1
  go_wp2_with fail
  go_ret
  exact ⟨rfl, HB1.out⟩
theorem pins_in (w : World) (N : Nat) (A : Option Addr) (pq : List Bool) (n c : Nat) (hn : n = pq.length) (h1 : 1 ≤ N) (h2 : N ≤ 64) (h3 : N ≤ n) (h4 : n ≤ 100) (hr : Rd boZ w w.heap.size A pq) : Calls Try.prog 4 #[.int .i64 N, .slice A n c] w (TruP (.bool true) w) := by
  have t1 : decide ((N : Int) < 1) = false := by simp; omega
  have t2 : decide (64 < (N : Int)) = false := by simp; omega
  have t3 : decide ((n : Int) < (N : Int)) = false := by simp; omega
  have t3n : decide (n < N) = false := by simp; omega
  have t3m : ¬ n < N := by omega
  have t4 : decide ((100 : Int) < (n : Int)) = false := by simp; omega
  obtain ⟨ad, hA, hab, hc0⟩ := hr 0 (by omega)
  clear hc0
  subst hA
  have hcell : ∀ V, Below w.heap.size w V → ∀ j, j < N → V.cell? (ad.add j) = some (.bool (pq.getD j false)) := fun V hV j hj => by
    have hjl : j < pq.length := by omega
    obtain ⟨ad', e, _, hc⟩ := hr j hjl
    injection e with e
    subst e
    rw [List.getD_eq_getElem?_getD, List.getElem?_eq_getElem hjl]
    exact (hV.cell (p := ad.add j) (by rw [add_block]; exact hab)).trans hc
  have HC := Lib.hid hcell
  have kw2N : IntKind.i64.wrap (2 * (N : Int)) = 2 * (N : Int) := wrapIn (by omega) (by omega)
  have HN := Lib.hid (show 1 ≤ N ∧ N ≤ 64 ∧ N ≤ n from ⟨h1, h2, h3⟩)
  have HNew := Lib.hid (fun w => new_c w N h1 h2)
  clear hr hab hcell hn h1 h2 h3 h4
  go_enter Try.func4, Try.ntmps4
  go_wp2_with fail
  refine Calls.mono (known11_c w) ?_
  rintro e w1 ⟨rfl, d1⟩
  have HB1 := Lib.hid d1
  clear d1
  go_wp2_with fail
  refine Calls.mono (HNew.out _) ?_
  rintro e w2 ⟨g, fb, mb, rfl, h2, x2, b2⟩
  have hlt : ∀ k, Cx g fb mb k → k < w2.heap.size := fun k e => by
    have a1 := h2.blk.lt
    have a2 := h2.fr.lt
    have a3 := h2.map.lt
    rcases e with e | e | e <;> omega
  have HX := Lib.hid (show (∀ k, Cx g fb mb k → w.heap.size ≤ k ∧ k < w2.heap.size) ∧ Below w.heap.size w w2 from ⟨fun k e => ⟨Nat.le_trans HB1.out.size (x2 k e), hlt k e⟩, HB1.out.trans (b2.mono HB1.out.size)⟩)
  have HW := Lib.hid (show ∀ V, Kept (Cx g fb mb) w2 V → Below w.heap.size w V from fun V hV => HX.out.2.trans (hV.below HX.out.2.size (fun j e => (HX.out.1 j e).1)))
  have H2 := Lib.hid (q1_zero pq h2)
  clear h2 x2 b2 hlt HNew
  go_wp2_with fail
  go_loopw [7, 8] (fun a b wr => ∃ (j cc : Nat), j ≤ N ∧ cc ≤ 64 ∧ a = .int .i64 cc ∧ b = .int .i64 j ∧ Hid (cc = cntP pq j) ∧ Hid (Q1 g fb mb N pq j j wr ∧ Kept (Cx g fb mb) w2 wr)) (fun _ b _ => N - (Go.RowKit.intOf b).toNat)
  case atStart => exact ⟨0, 0, by omega, by omega, rfl, rfl, Lib.hid rfl, Lib.hid ⟨H2.out, Kept.refl _ _⟩⟩
  case round =>
    obtain ⟨j, cc, hj, hcc, rfl, rfl, HCC, HK⟩ := hrel
    by_cases hlt : j < N
    · have lt1 : (j : Int) < (N : Int) := by omega
      have lt2 : (0 : Int) ≤ (j : Int) := by omega
      have lt3 : (j : Int) ≤ 64 := by have := HN.out; omega
      have lt4 : (j : Int) < (n : Int) := by have := HN.out; omega
      have lc1 : (cc : Int) ≤ 64 := by omega
      have lc2 : (0 : Int) ≤ (cc : Int) := by omega
      have kwc : IntKind.i64.wrap ((cc : Int) + 1) = (cc : Int) + 1 := wrapIn (by omega) (by omega)
      have HP := Lib.hid (q1_put j hlt HN.out.2.1 HK.out.1)
      go_wp2_with fail
      refine Calls.mono HP.out ?_
      rintro e w3 ⟨rfl, h3, k3⟩
      have H3 := Lib.hid (show Q1 g fb mb N pq (j + 1) j w3 ∧ Kept (Cx g fb mb) w2 w3 from ⟨h3, HK.out.2.trans k3⟩)
      clear h3 k3 HP
      have hc := HC.out w3 (HW.out w3 H3.out.2) j hlt
      cases ha : pq.getD j false with
      | true =>
        rw [ha] at hc
        have HPi := Lib.hid (q1_pin j hlt HN.out.2.1 H3.out.1 ha)
        have HC2 := Lib.hid (show cc + 1 = cntP pq (j + 1) ∧ cc + 1 ≤ 64 from by have h9 := cntP_le pq (j + 1); have h1 := HN.out; have h8 : cntP pq (j + 1) = cntP pq j + (if pq.getD j false = true then 1 else 0) := rfl; rw [ha, if_pos rfl] at h8; have := HCC.out; omega)
        clear ha
        go_wp2_with fail
        refine Calls.mono HPi.out ?_
        rintro e w4 ⟨rfl, h4, k4⟩
        have H4 := Lib.hid (show Q1 g fb mb N pq (j + 1) (j + 1) w4 ∧ Kept (Cx g fb mb) w2 w4 from ⟨h4, H3.out.2.trans k4⟩)
        clear h4 k4 HPi hc
        go_wp2_with fail
        exact ⟨⟨j + 1, cc + 1, by omega, HC2.out.2, by simp, by simp, Lib.hid HC2.out.1, H4⟩, by simp only [Go.RowKit.intOf]; omega⟩
      | false =>
        rw [ha] at hc
        have H4 := Lib.hid (show Q1 g fb mb N pq (j + 1) (j + 1) w3 ∧ Kept (Cx g fb mb) w2 w3 from ⟨q1_skip j H3.out.1 ha, H3.out.2⟩)
        have HC2 := Lib.hid (show cc = cntP pq (j + 1) from by have h8 : cntP pq (j + 1) = cntP pq j + (if pq.getD j false = true then 1 else 0) := rfl; rw [ha, if_neg (by decide)] at h8; have := HCC.out; omega)
        clear ha
        go_wp2_with fail
        exact ⟨⟨j + 1, cc, by omega, hcc, rfl, by simp, HC2, H4⟩, by simp only [Go.RowKit.intOf]; omega⟩
    · have hjN : j = N := by omega
      subst hjN
      have l1 : decide ((j : Int) < (j : Int)) = false := by simp
      have hle := cntP_le pq j
      clear hlt hj
      by_cases hall : cc = j
      · subst hall
        have HAll := Lib.hid (cntP_all pq cc HCC.out.symm)
        have HQ := Lib.hid (q3_of1 HAll.out HK.out.1)
        go_wp2_with fail
        go_loopw [9] (fun a wr => ∃ e : Nat, e ≤ 2 * cc ∧ a = .int .i64 e ∧ Hid (Q3 g fb mb cc pq wr ∧ Kept (Cx g fb mb) w2 wr)) (fun a _ => 2 * cc - (Go.RowKit.intOf a).toNat)
        case atStart => exact ⟨0, Nat.zero_le _, rfl, Lib.hid ⟨HQ.out, HK.out.2⟩⟩
        case round =>
          obtain ⟨e, he, rfl, HE2⟩ := hrel
          by_cases hel : e < 2 * cc
          · have el1 : (e : Int) < 2 * (cc : Int) := by omega
            have el2 : (0 : Int) ≤ (e : Int) := by omega
            have el3 : (e : Int) ≤ 128 := by have := HN.out; omega
            have kwe : IntKind.i64.wrap (1000 + (e : Int)) = 1000 + (e : Int) := wrapIn (by omega) (by omega)
            have HP := Lib.hid (q3_full HN.out.2.1 HAll.out HE2.out.1 (1000 + (e : Int)) (by have := HN.out; omega))
            go_wp2_with fail
            refine Calls.mono HP.out ?_
            rintro r w4 ⟨rfl, b4⟩
            have H4 := Lib.hid (show ∀ o, Q3 g fb mb cc pq (w4.alloc o) ∧ Kept (Cx g fb mb) w2 (w4.alloc o) from fun o => ⟨(HE2.out.1.below b4).below (Gw.alloc w4 o), (HE2.out.2.trans (Kept.of_below b4 _)).trans (Kept.alloc _ _ _)⟩)
            clear b4 HP
            go_wp2_with fail
            exact ⟨⟨e + 1, by omega, by simp, Lib.hid (H4.out _)⟩, by simp only [Go.RowKit.intOf]; omega⟩
          · have heN : e = 2 * cc := by omega
            have l2 : decide ((e : Int) < 2 * (cc : Int)) = false := by simp; omega
            have HB3 := Lib.hid (show Q3 g fb mb cc pq wr ∧ Kept (Cx g fb mb) w2 wr from ⟨HE2.out.1, HE2.out.2⟩)
            clear hel he heN
            go_wp2_with fail
            go_loopw [12] (fun a wr => ∃ m : Nat, m ≤ cc ∧ a = .int .i64 m ∧ Hid (Q3 g fb mb cc pq wr ∧ Kept (Cx g fb mb) w2 wr)) (fun a _ => cc - (Go.RowKit.intOf a).toNat)
            case atStart => exact ⟨0, Nat.zero_le _, rfl, HB3⟩
            case round =>
              obtain ⟨m, hm, rfl, HM⟩ := hrel
              by_cases hml : m < cc
              · have ml1 : (m : Int) < (cc : Int) := by omega
                have ml2 : (0 : Int) ≤ (m : Int) := by omega
                have ml3 : (m : Int) ≤ 64 := by have := HN.out; omega
                have ml4 : (m : Int) < (n : Int) := by have := HN.out; omega
                cases ha : pq.getD m false with
                | true =>
                  have HG := Lib.hid (q3_get m hml HN.out.2.1 HM.out.1 true ha)
                  have HA := Lib.hid ha
                  clear ha
                  go_wp2_with fail
                  refine Calls.mono HG.out ?_
                  rintro e w6 ⟨A6, n6, c6, rfl, h6, k6⟩
                  have H6 := Lib.hid (show Q3 g fb mb cc pq w6 ∧ Kept (Cx g fb mb) w2 w6 from ⟨h6, HM.out.2.trans k6⟩)
                  have hc := HC.out w6 (HW.out w6 H6.out.2) m hml
                  rw [HA.out] at hc
                  clear h6 k6 HG
                  go_wp2_with fail
                  exact ⟨⟨m + 1, by omega, by simp, H6⟩, by simp only [Go.RowKit.intOf]; omega⟩
                | false =>
                  have HG := Lib.hid (q3_get m hml HN.out.2.1 HM.out.1 false ha)
                  have HA := Lib.hid ha
                  clear ha
                  go_wp2_with fail
                  refine Calls.mono HG.out ?_
                  rintro e w6 ⟨A6, n6, c6, rfl, h6, k6⟩
                  have H6 := Lib.hid (show Q3 g fb mb cc pq w6 ∧ Kept (Cx g fb mb) w2 w6 from ⟨h6, HM.out.2.trans k6⟩)
                  have hc := HC.out w6 (HW.out w6 H6.out.2) m hml
                  rw [HA.out] at hc
                  clear h6 k6 HG
                  go_wp2_with fail
                  exact ⟨⟨m + 1, by omega, by simp, H6⟩, by simp only [Go.RowKit.intOf]; omega⟩
              · have hmN : m = cc := by omega
                subst hmN
                have l3 : decide ((m : Int) < (m : Int)) = false := by simp
                clear hml hm
                have HU := Lib.hid (q3_unpin HN.out.1 HAll.out HM.out.1)
                go_wp2_with fail
                refine Calls.mono HU.out ?_
                rintro e w6 ⟨rfl, h6, k6⟩
                have H6 := Lib.hid (show Kept (Cx g fb mb) w2 w6 from HM.out.2.trans k6)
                have HP5 := Lib.hid (q4_put HN.out.1 HN.out.2.1 h6)
                clear h6 k6 HU
                go_wp2_with fail
                refine Calls.mono HP5.out ?_
                rintro e w7 ⟨A7, n7, c7, rfl, k7⟩
                have HE := Lib.hid (show ∀ o, Below w.heap.size w (w7.alloc o) from fun o => HW.out _ ((H6.out.trans k7).trans (Kept.alloc _ _ _)))
                clear k7 HP5
                go_wp2_with fail
                go_ret
                exact ⟨rfl, HE.out _⟩
      · have HUn := Lib.hid (cntP_un pq j (by rw [← HCC.out]; exact hall))
        have hcl : (cc : Int) < (j : Int) := by have := HCC.out; omega
        have hce : ((cc : Int) == (j : Int)) = false := by simp; omega
        have hcn : ¬ cc = j := hall
        have hcd : decide (cc < j) = true := by simp; have := HCC.out; omega
        have HQ := Lib.hid (q2_of HK.out.1)
        clear hall
        go_wp2_with fail
        go_loopw [9] (fun a wr => ∃ e : Nat, e ≤ 2 * j ∧ a = .int .i64 e ∧ Hid (Q2 g fb mb j pq e wr ∧ Kept (Cx g fb mb) w2 wr)) (fun a _ => 2 * j - (Go.RowKit.intOf a).toNat)
        case atStart => exact ⟨0, Nat.zero_le _, rfl, Lib.hid ⟨HQ.out, HK.out.2⟩⟩
        case round =>
          obtain ⟨e, he, rfl, HE2⟩ := hrel
          by_cases hel : e < 2 * j
          · have el1 : (e : Int) < 2 * (j : Int) := by omega
            have el2 : (0 : Int) ≤ (e : Int) := by omega
            have el3 : (e : Int) ≤ 128 := by have := HN.out; omega
            have kwe : IntKind.i64.wrap (1000 + (e : Int)) = 1000 + (e : Int) := wrapIn (by omega) (by omega)
            have HP := Lib.hid (q2_put HN.out.2.1 HUn.out (by have := HN.out; omega) HE2.out.1 (1000 + (e : Int)) rfl)
            go_wp2_with fail
            refine Calls.mono HP.out ?_
            rintro r w4 ⟨z, A4, n4, c4, d4, rfl, hz, h4, k4⟩
            have H4 := Lib.hid (show ∀ o, Q2 g fb mb j pq (e + 1) (w4.alloc o) ∧ Kept (Cx g fb mb) w2 (w4.alloc o) from fun o => ⟨h4.below (Gw.alloc w4 o), (HE2.out.2.trans k4).trans (Kept.alloc _ _ _)⟩)
            have HZ := Lib.hid hz
            clear h4 k4 HP hz
            by_cases hzN : z < j
            · have zz1 : (z : Int) < (j : Int) := by omega
              have zz2 : (0 : Int) ≤ (z : Int) := by omega
              have zz3 : (z : Int) < (n : Int) := by have := HN.out; omega
              have zz4 : decide (z < j) = true := by simpa using hzN
              have hc := HC.out (w4.alloc (.cells #[.int .i64 0, .int .i64 z, .slice A4 n4 c4, .bool d4, .bool true] 32)) (HW.out _ (H4.out _).2) z hzN
              rw [HZ.out.2 hzN] at hc
              go_wp2_with fail
              exact ⟨⟨e + 1, by omega, by simp, Lib.hid (H4.out _)⟩, by simp only [Go.RowKit.intOf]; omega⟩
            · have zz1 : decide ((z : Int) < (j : Int)) = false := by simp; omega
              have zz4 : decide (z < j) = false := by simpa using hzN
              have zz5 : ¬ z < j := hzN
              have zz2 : (0 : Int) ≤ (z : Int) := by omega
              go_wp2_with fail
              exact ⟨⟨e + 1, by omega, by simp, Lib.hid (H4.out _)⟩, by simp only [Go.RowKit.intOf]; omega⟩
          · have heN : e = 2 * j := by omega
            have l2 : decide ((e : Int) < 2 * (j : Int)) = false := by simp; omega
            have HB3 := Lib.hid (show Q3 g fb mb j pq wr ∧ Kept (Cx g fb mb) w2 wr from ⟨q3_of2 (by omega) HE2.out.1, HE2.out.2⟩)
            clear hel he heN
            go_wp2_with fail
            go_loopw [12] (fun a wr => ∃ m : Nat, m ≤ j ∧ a = .int .i64 m ∧ Hid (Q3 g fb mb j pq wr ∧ Kept (Cx g fb mb) w2 wr)) (fun a _ => j - (Go.RowKit.intOf a).toNat)
            case atStart => exact ⟨0, Nat.zero_le _, rfl, HB3⟩
            case round =>
              obtain ⟨m, hm, rfl, HM⟩ := hrel
              by_cases hml : m < j
              · have ml1 : (m : Int) < (j : Int) := by omega
                have ml2 : (0 : Int) ≤ (m : Int) := by omega
                have ml3 : (m : Int) ≤ 64 := by have := HN.out; omega
                have ml4 : (m : Int) < (n : Int) := by have := HN.out; omega
                cases ha : pq.getD m false with
                | true =>
                  have HG := Lib.hid (q3_get m hml HN.out.2.1 HM.out.1 true ha)
                  have HA := Lib.hid ha
                  clear ha
                  go_wp2_with fail
                  refine Calls.mono HG.out ?_
                  rintro e w6 ⟨A6, n6, c6, rfl, h6, k6⟩
                  have H6 := Lib.hid (show Q3 g fb mb j pq w6 ∧ Kept (Cx g fb mb) w2 w6 from ⟨h6, HM.out.2.trans k6⟩)
                  have hc := HC.out w6 (HW.out w6 H6.out.2) m hml
                  rw [HA.out] at hc
                  clear h6 k6 HG
                  go_wp2_with fail
                  exact ⟨⟨m + 1, by omega, by simp, H6⟩, by simp only [Go.RowKit.intOf]; omega⟩
                | false =>
                  have HG := Lib.hid (q3_get m hml HN.out.2.1 HM.out.1 false ha)
                  have HA := Lib.hid ha
                  clear ha
                  go_wp2_with fail
                  refine Calls.mono HG.out ?_
                  rintro e w6 ⟨A6, n6, c6, rfl, h6, k6⟩
                  have H6 := Lib.hid (show Q3 g fb mb j pq w6 ∧ Kept (Cx g fb mb) w2 w6 from ⟨h6, HM.out.2.trans k6⟩)
                  have hc := HC.out w6 (HW.out w6 H6.out.2) m hml
                  rw [HA.out] at hc
                  clear h6 k6 HG
                  go_wp2_with fail
                  exact ⟨⟨m + 1, by omega, by simp, H6⟩, by simp only [Go.RowKit.intOf]; omega⟩
              · have hmN : m = j := by omega
                subst hmN
                have l3 : decide ((m : Int) < (m : Int)) = false := by simp
                clear hml hm
                have HLn := Lib.hid (q3_len HM.out.1)
                have HE := Lib.hid (HW.out wr HM.out.2)
                go_wp2_with fail
                refine Calls.mono HLn.out ?_
                rintro e w6 ⟨rfl, rfl⟩
                go_wp2_with fail
                go_ret
                exact ⟨rfl, HE.out⟩
theorem pins_w (w : World) (a : Int) (wa : (Lit.int .i64 a).wf = true) (A : Option Addr) (pq : List Bool) (c : Nat) (_ : pq.length ≤ c) (_ : c ≤ maxLen) (hr : Rd boZ w w.heap.size A pq ∧ ∀ a, A = some a → a.block < w.heap.size) : Calls Try.prog 4 #[.int .i64 a, .slice A pq.length c] w (TruP (.bool true) w) := by
  by_cases h : a < 1 ∨ 64 < a ∨ (pq.length : Int) < a ∨ 100 < pq.length
  · exact pins_bad w a A _ c h
  · obtain ⟨N, rfl⟩ : ∃ N : Nat, a = (N : Int) := ⟨a.toNat, by omega⟩
    exact pins_in w N A pq _ c rfl (by omega) (by omega) (by omega) (by omega) hr.1
end Go.Proofs.Ythmaofbnhfgfaaa
namespace Go.Proofs.Ythmaofbnhfgfaaa.cachePins
open Go.ChangeShapes Go.WideShapes Go.ChangeAt Go.RowKit
open Go.ChangeMaps (open_string shut_string)
set_option linter.unusedVariables false
set_option maxRecDepth 100000 in
theorem lifted (os : Os) (started : os.Started) (H : Type) (enc : TypeId × Value → H) :
    ReturnsInHanded {} Try.checked os 4 .any (Rows.cachePinsSpec.pre6 enc Try.prog Try.f4 Rows.cachePinsRow.domain false) (Rows.cachePinsSpec.post enc Try.prog Try.f4 false true false false) := by
  refine returnsInHanded_of_change (C := Try.checked) own started (by kernel_rfl) Try.func4
    (ChangeSpec.witness6 (enc := enc) (C := Try.checked) false ⟨#[], #[.int .i64 0, .slice none 0 0], []⟩ 8 (by kernel_rfl) (by kernel_rfl) (by kernel_rfl) (by kernel_rfl)) ?_
  intro W base args ds gs before hval0 hW hcnd _
  have hval : ∀ (j : Nat) t v, Try.f4.params[j]? = some t → args[j]? = some v → Value.okWide Try.prog W .any base t v := hval0
  have hW' := hW
  obtain ⟨p, q, hA0, hV, rfl, hfz, hnd⟩ := hW
  have hA : DataW.TrodAll enc Try.prog W 0 (fun _ => true) true Try.f4.params.toList args.toList ds p := hA0
  rw [Try.params4] at hA hval
  obtain ⟨v0, vs0, d0, ds0, p0, q0, hargs, rfl, rfl, h0, r0⟩ := trodAll_cons hA
  obtain ⟨v1, vs1, d1, ds1, p1, q1, rfl, rfl, rfl, h1, r1⟩ := trodAll_cons r0
  obtain ⟨rfl, rfl, rfl⟩ := trodAll_nil r1
  obtain rfl : args = #[v0, v1] := by cases args; simp_all
  obtain ⟨rfl, rfl⟩ := trodVars_none hV
  have k0 := h0
  have lt0 : ∀ x ∈ p0, x.block < W.heap.size := by obtain ⟨m, hm⟩ := k0; exact DataW.trod_lt m _ _ _ hm
  obtain ⟨a0, e0v, _, _, w0⟩ := open_int Try.underlying3 (hval 0 3 v0 rfl rfl) h0; subst e0v
  have k1 := h1
  have lt1 : ∀ x ∈ p1, x.block < W.heap.size := by obtain ⟨m, hm⟩ := k1; exact DataW.trod_lt m _ _ _ hm
  obtain ⟨A1, a1, c1, e1v, g1, m1, w1⟩ := open_bools Try.underlying22 Try.underlying4 (by kernel_rfl) (hval 1 22 v1 rfl rfl) h1; subst e1v
  clear hA0 hval0
  refine (pins_w W a0 w0 A1 a1 c1 g1 m1 w1).mono fun e W' ⟨he, bel⟩ => ?_
  subst he
  exact ⟨_, rfl, _, _, _, [], _, [], hW', trodAll_mk1 (shut_bool Try.underlying4 _), (trodAll_cons_mk (Below.trod laidOut (by kernel_rfl) (of_decide_eq_true (by kernel_rfl)) k0 bel lt0) (trodAll_cons_mk (Below.trod laidOut (by kernel_rfl) (of_decide_eq_true (by kernel_rfl)) k1 bel lt1) trodAll_mk0)), rfl, bel.frame _, fun h => by cases h⟩
theorem over : Rows.cachePinsRow.holds Try.pinned (OpenSpec.ofChange Rows.cachePinsSpec) :=
  OpenClaim.holds_of_wide 4 Try.f4 rfl rfl rfl rfl rfl rfl rfl ⟨rfl, rfl, rfl, rfl, rfl⟩ rfl rfl rfl rfl rfl (by kernel_rfl) Try.func4 (by kernel_rfl)
    (of_decide_eq_true (by kernel_rfl)) (by unfold Func.isWrapper; first | (rw [if_pos (by decide +kernel)]; kernel_rfl) | (rw [if_neg (by decide +kernel)]; exact ⟨rfl, rfl⟩))
    (fun os started H enc _ => lifted os started H enc)
theorem proved : Rows.CachePinsSaid := over
end Go.Proofs.Ythmaofbnhfgfaaa.cachePins
