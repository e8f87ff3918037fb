/- The law MemPlays of layer 13 returns true for every argument. No conditions. -/
import Derived.Test.YtobcpcobgdmleaaMmP
import Derived.Test.YtobcpcobgdmleaaOpenW
import Derived.Test.YtobcpcobgdmleaaStr
namespace Go.Proofs.Ytobcpcobgdmleaa
set_option linter.unusedVariables false
set_option linter.unusedSimpArgs false
open Go.RowKit
set_option maxHeartbeats 2000000
set_option maxRecDepth 100000
theorem plays_far (w : World) (A A2 : Option Addr) (n c n2 c2 : Nat) (h : 100 < n ∨ (¬ 100 < n ∧ 60 < n2)) : Calls Try.prog 3 #[.slice A n c, .slice A2 n2 c2] w (TruP (.bool true) w) := by
  rcases h with h | ⟨h, h2⟩
  all_goals
    go_enter Try.func3, Try.ntmps3
    go_wp2_with fail
    refine Calls.mono (known13_c _) ?_
    rintro e w1 ⟨rfl, b1⟩
    go_wp2_with fail
    go_ret
    exact ⟨rfl, b1⟩
theorem plays_ok (w : World) (A : Option Addr) (ws : List (BitVec 64)) (c : Nat) (hr : Rd u64v w w.heap.size A ws) (hl : ws.length ≤ 100) (A2 : Option Addr) (l : List Ac) (c2 : Nat) (hA : Acs w w.heap.size A2 l) (hl2 : l.length ≤ 60) :
    Calls Try.prog 3 #[.slice A ws.length c, .slice A2 l.length c2] w (TruP (.bool true) w) := by
  have HOf := Lib.hid (fun W hr => of_in W A c ws hr (by omega))
  have HR := Lib.hid hr
  have HA := Lib.hid hA
  obtain ⟨N, hN⟩ : ∃ N, N = ws.length := ⟨_, rfl⟩
  obtain ⟨M, hM⟩ : ∃ M, M = l.length := ⟨_, rfl⟩
  rw [← hN] at HOf ⊢
  rw [← hM]
  have u1 : ¬ 100 < N := by omega
  have u2 : ¬ 60 < M := by omega
  have q1 : (N : Int) ≤ 100 := by omega
  have q2 : (M : Int) ≤ 60 := by omega
  have HN := Lib.hid hN
  have HM := Lib.hid hM
  clear hr hl hA hl2 hN hM
  go_enter Try.func3, Try.ntmps3
  go_wp2_with fail
  refine Calls.mono (known13_c _) ?_
  rintro e w1 ⟨rfl, b1⟩
  have HB1 := Lib.hid b1
  clear b1
  go_wp2_with fail
  refine Calls.mono (HOf.out w1 ((HR.out.below HB1.out).more HB1.out.size)) ?_
  rintro e w2 ⟨g, v, rfl, h2, b2⟩
  have HB2 := Lib.hid (HB1.out.trans (b2.mono HB1.out.size))
  have HM2 := Lib.hid h2
  have hlt2 := h2.le
  have HB12 := Lib.hid b2
  clear h2 b2 HOf
  go_wp2_with (at_builtin; refine wp_app one64 u64v_one rfl (.tmp 36) (.tmp 37) rfl w1.heap.size _ [] rfl (ow_empty u64v 29 w2 w1.heap.size hlt2) A N c ws rfl HN.out w2.heap.size (((HR.out.below HB2.out).more HB2.out.size).alloc (Nat.le_refl _) _) (by have := HN.out; simp; omega) (by decide) (by simp; omega) ?_; intro v4 w4 ho4 hb4 hg4 hv4)
  rw [List.nil_append] at ho4
  have hP : PlayS w1 w1.heap.size (.pointer (some ⟨g, 0, none⟩)) v4 ws w4 := by
    have hm := HM2.out
    have hal := hm.below (Gw.alloc w2 (.cells #[] 29))
    have hgl := hm.blk.lt
    refine ⟨g, v, rfl, hal.grown hg4 ?_ ?_, ho4, ?_, (HB12.out.alloc hlt2 _).trans hb4⟩
    · intro e
      have e2 : g = w2.heap.size := by injection e
      omega
    · right
      intro e
      have e2 : v.ownBlock = some w2.heap.size := e
      have := (hm.row.lt _ e2).2
      omega
    · intro q hq
      have hqq : w2.heap.size ≤ q := by
        rcases hv4 with h | h
        · rw [h] at hq
          have e2 : w2.heap.size = q := by injection hq
          omega
        · rw [h] at hq
          have e2 : (w2.alloc (.cells #[] 29)).heap.size = q := by injection hq
          simp at e2
          omega
      exact ⟨by omega, fun e => by have := (hm.row.lt q e).2; omega⟩
  have HP := Lib.hid hP
  clear ho4 hb4 hg4 hv4 hP
  go_wp2_with fail
  go_loopw [5, 7, 8] (fun pm vr i wr => ∃ (k : Nat) (cur : List (BitVec 64)), k ≤ M ∧ i = .int .i64 k ∧ Hid (cur.length = N) ∧ PlayS w1 w1.heap.size pm vr cur wr) (fun _ _ i _ => M - (intOf i).toNat)
  case atStart => exact ⟨0, ws, by omega, rfl, Lib.hid HN.out.symm, HP.out⟩
  case round =>
    obtain ⟨k, cur, hk, rfl, hcl, hp⟩ := hrel
    have HBW : Hid (Below w.heap.size w wr) := Lib.hid (by
      obtain ⟨_, _, _, _, _, _, h⟩ := hp
      exact HB1.out.trans (h.mono HB1.out.size))
    by_cases hlt : k < M
    · have p1 : (0 : Int) ≤ (k : Int) := by omega
      have p2 : (k : Int) < (M : Int) := by omega
      have hlw : k < l.length := by rw [← HM.out]; exact hlt
      obtain ⟨ad, rfl, m⟩ := (HA.out.below HBW.out) k hlw
      obtain ⟨x, hx⟩ : ∃ x, x = l[k] := ⟨_, rfl⟩
      rw [← hx] at m
      obtain ⟨op, at_, fr, n, u, ba, bb, bc⟩ := x
      obtain ⟨m0, m1, m2, m3, m4, m5, m6, z0, z1, z2, z3, m7, m8, m9⟩ := m
      dsimp only at m1 m2 m3 m4 m5 m6 z0 z1 z2 z3 m7 m8 m9
      have HM9 := Lib.hid m9
      have HZ := Lib.hid (And.intro (wf64 z0) (And.intro (wf64 z1) (And.intro (wf64 z2) (wf64 z3))))
      have HP := Lib.hid hp
      clear hx hlw z0 z1 z2 z3 m7 m8 m9 m0 hp
      obtain ⟨nb, hnb⟩ : ∃ nb, nb = bb.length := ⟨_, rfl⟩
      rw [← hnb] at m6
      have HNB := Lib.hid hnb
      clear hnb
      by_cases hb3 : 300 < nb
      · go_wp2_with fail
        go_ret
        exact ⟨rfl, HBW.out.alloc HBW.out.size _⟩
      · obtain ⟨g, v, rfl, hm, hrow, hra, hold⟩ := HP.out
        obtain ⟨A7, c7, e7, hc7⟩ := hrow.form
        subst e7
        rw [hcl.out] at hrow hra ⊢
        have G0 := Lib.hid (PlayS.enter (cs := #[.int .i64 op, .int .i64 at_, .int .i64 fr, .int .i64 n, .int .u64 (U64 u), .slice ba nb bc]) hm hrow hra hold)
        obtain ⟨H, hH⟩ : ∃ H, H = wr.heap.size := ⟨_, rfl⟩
        clear hm hrow hra hold hc7
        have u3 : (nb : Int) ≤ 300 := by omega
        rcases (show op = 1 ∨ op = 2 ∨ op = 3 ∨ op = 4 ∨ op = 5 ∨ op = 6 ∨ (¬ op = 1 ∧ ¬ op = 2 ∧ ¬ op = 3 ∧ ¬ op = 4 ∧ ¬ op = 5 ∧ ¬ op = 6) by omega) with rfl | rfl | rfl | rfl | rfl | rfl | ⟨n1, n2, n3, n4, n5, n6⟩
        · as_aux_lemma =>
          by_cases hin : 0 ≤ at_ ∧ at_ < (N : Int)
          · obtain ⟨i, rfl⟩ : ∃ i : Nat, at_ = (i : Int) := ⟨at_.toNat, by omega⟩
            have hiN : i < cur.length := by rw [hcl.out]; omega
            have K1 := Lib.hid (G0.out.memCall (set_in _ _ _ _ _ i u hiN (by rw [hcl.out]; omega) G0.out.mem))
            have p3 : (0 : Int) ≤ (i : Int) := by omega
            have p4 : (i : Int) < (N : Int) := by omega
            have HI := Lib.hid hiN
            clear hin hiN
            go_wp2_with fail
            refine Calls.mono K1.out ?_
            rintro e w3 ⟨rfl, G1⟩
            obtain ⟨q, rfl⟩ : ∃ q, A7 = some ⟨q, 0, none⟩ := by
              rcases G1.row.2 with ⟨e, hn⟩ | ⟨q, _, _, e, _⟩
              · have hn' : cur.length = 0 := hn
                have := HI.out
                omega
              · injection e with e
                exact ⟨q, e⟩
            obtain ⟨d0, d1, d2, d3, d4, d5⟩ := G1.six
            have hf := G1.row.free i
            have hc := G1.row.cell HI.out
            obtain ⟨z, hz⟩ : ∃ z, z = cur[i]'HI.out := ⟨_, rfl⟩
            rw [← hz] at hc
            unfold u64v at hc
            have G2 := Lib.hid (G1.rowSet HI.out u)
            clear hz G1 K1
            go_wp2_with fail
            refine Calls.mono (PlayG.same G2.out (by rw [List.length_set]; exact hcl.out) (by omega)) ?_
            rintro e w9 ⟨rfl, G9⟩
            have GF := Lib.hid G9.out
            clear G9 G2
            go_wp2_with fail
            go_roundw
            case rel => exact ⟨k + 1, cur.set i u, by omega, by go_num, Lib.hid (by rw [List.length_set]; exact hcl.out), GF.out⟩
            case measure => (first | (simp [intOf]; done) | (simp [intOf]; omega))
          · have hi : inM (cur.length : Int) at_ 1 = false := by
              rw [hcl.out]
              unfold inM
              rw [Bool.eq_false_iff]
              intro h
              simp only [Bool.and_eq_true, decide_eq_true_eq] at h
              omega
            have K1 := Lib.hid (set_out _ _ _ _ _ at_ (U64 u) hi (by rw [hcl.out]; omega) HZ.out.2.1.1 HZ.out.2.1.2 G0.out.mem)
            have hcase : at_ < 0 ∨ (0 ≤ at_ ∧ ¬ at_ < (N : Int)) := by omega
            have KS := Lib.hid (PlayG.same G0.out hcl.out (by omega))
            clear hi hin
            rcases hcase with f1 | ⟨f1, f2⟩
            all_goals
              go_wp2_with fail
              refine Calls.mono K1.out ?_
              rintro e w3 ⟨rfl, rfl⟩
              go_wp2_with fail
              refine Calls.mono KS.out ?_
              rintro e w9 ⟨rfl, G9⟩
              have GF := Lib.hid G9.out
              clear G9 KS
              go_wp2_with fail
              go_roundw
              case rel => exact ⟨k + 1, cur, by omega, by go_num, hcl, GF.out⟩
              case measure => (first | (simp [intOf]; done) | (simp [intOf]; omega))
        · as_aux_lemma =>
          obtain ⟨M8, hM8⟩ : ∃ M8, M8 = 8 * cur.length := ⟨_, rfl⟩
          have HIn := Lib.hid (fun w => inL_c w ((8 * cur.length : Nat) : Int) at_ nb (by have := hcl.out; omega) (by have := hcl.out; omega) HZ.out.2.1.1 HZ.out.2.1.2 (by omega) (by omega))
          have q8 : (8 : Int) * (N : Int) = (M8 : Int) := by have := hcl.out; omega
          have q9 : (M8 : Int) ≤ 800 := by have := hcl.out; omega
          have HRB := Lib.hid (fun W (h : Below w.heap.size w W) => show Rd b8 W w.heap.size ba bb from HM9.out.keep (fun p hp => (h.cell hp).trans (HBW.out.cell hp).symm))
          cases hin : inM ((8 * cur.length : Nat) : Int) at_ nb with
          | true =>
            have hb := hin
            unfold inM at hb
            simp only [Bool.and_eq_true, decide_eq_true_eq] at hb
            obtain ⟨a, rfl⟩ : ∃ a : Nat, at_ = (a : Int) := ⟨at_.toNat, by omega⟩
            rw [hin] at HIn
            have hfit : a + bb.length ≤ 8 * cur.length := by have := HNB.out; omega
            have hr0 : Rd b8 (wr.alloc (.cells #[.int .i64 2, .int .i64 a, .int .i64 fr, .int .i64 n, .int .u64 (U64 u), .slice ba nb bc] 32)) (wr.alloc (.cells #[.int .i64 2, .int .i64 a, .int .i64 fr, .int .i64 n, .int .u64 (U64 u), .slice ba nb bc] 32)).heap.size ba bb := (HM9.out.below ((Below.refl _ _).alloc HBW.out.size _)).more (by have := HBW.out.size; simp; omega)
            have K1 := Lib.hid (G0.out.memCall (setBytes_in _ _ _ _ cur a ba bc bb hfit (by have := hcl.out; omega) G0.out.mem hr0 (fun h0 x e e2 => by
              obtain ⟨ad, e3, hb, _⟩ := HM9.out 0 h0
              rw [e] at e3
              injection e3 with e3
              have h1 := (G0.out.mem.row.lt x.block e2.symm).1
              have h2 := HB1.out.size
              rw [← e3] at hb
              omega)))
            rw [← HNB.out] at K1
            rw [← hM8] at HIn
            have HFit := Lib.hid hfit
            clear hr0 hb hin hM8 hfit
            go_wp2_with fail
            refine Calls.mono K1.out ?_
            rintro e w3 ⟨rfl, G1⟩
            obtain ⟨d0, d1, d2, d3, d4, d5⟩ := G1.six
            have HG1 := Lib.hid G1
            clear G1 K1
            go_wp2_with fail
            refine Calls.mono (HIn.out w3) ?_
            rintro e w4 ⟨rfl, rfl⟩
            have HRS := Lib.hid (rsetb_c w4 A7 ba c7 bc cur bb a (by
              obtain ⟨A', c', e', _⟩ := HG1.out.row.form
              injection e' with e1 e2 e3
              have hro := HG1.out.row
              rw [e2] at hro
              exact hro.rd) ((HRB.out w4 (HB1.out.trans (HG1.out.old.mono HB1.out.size))).more (by have := HB1.out.size; have := HG1.out.old.size; omega)) HFit.out (by have := hcl.out; omega))
            rw [hcl.out, ← HNB.out] at HRS
            go_wp2_with fail
            refine Calls.mono HRS.out ?_
            rintro e w5 ⟨A5, c5, rfl, hc5, ho5, hb5⟩
            have G2 := HG1.out.rowTo hb5 ho5
            have hpl : (putK cur a bb nb).length = N := by rw [putK_len]; exact hcl.out
            rw [hpl] at G2 ⊢
            have HPL := Lib.hid hpl
            have KS := Lib.hid (PlayG.same G2 hpl (by omega))
            clear hpl G2 ho5 hb5 hc5 HRS HG1
            go_wp2_with fail
            refine Calls.mono KS.out ?_
            rintro e w9 ⟨rfl, G9⟩
            have GF := Lib.hid G9.out
            clear G9 KS
            go_wp2_with fail
            go_roundw
            case rel => exact ⟨k + 1, putK cur a bb nb, by omega, by go_num, HPL, GF.out⟩
            case measure => (first | (simp [intOf]; done) | (simp [intOf]; omega))
          | false =>
            rw [hin] at HIn
            have hin2 := hin
            rw [HNB.out] at hin2
            have K1 := Lib.hid (setBytes_out _ _ _ _ cur at_ ba bb.length bc hin2 (by have := hcl.out; omega) HZ.out.2.1.1 HZ.out.2.1.2 (by have := HNB.out; omega) G0.out.mem)
            rw [← HNB.out] at K1
            rw [← hM8] at HIn
            have KS := Lib.hid (PlayG.same G0.out hcl.out (by omega))
            clear hin hin2 hM8
            go_wp2_with fail
            refine Calls.mono K1.out ?_
            rintro e w3 ⟨rfl, rfl⟩
            go_wp2_with fail
            refine Calls.mono (HIn.out _) ?_
            rintro e w4 ⟨rfl, rfl⟩
            go_wp2_with fail
            refine Calls.mono KS.out ?_
            rintro e w9 ⟨rfl, G9⟩
            have GF := Lib.hid G9.out
            clear G9 KS
            go_wp2_with fail
            go_roundw
            case rel => exact ⟨k + 1, cur, by omega, by go_num, hcl, GF.out⟩
            case measure => (first | (simp [intOf]; done) | (simp [intOf]; omega))
        · as_aux_lemma =>
          have HI1 := Lib.hid (fun w => inL_c w (cur.length : Int) at_ n (by omega) (by have := hcl.out; omega) HZ.out.2.1.1 HZ.out.2.1.2 HZ.out.2.2.2.1 HZ.out.2.2.2.2)
          have HI2 := Lib.hid (fun w => inL_c w (cur.length : Int) fr n (by omega) (by have := hcl.out; omega) HZ.out.2.2.1.1 HZ.out.2.2.1.2 HZ.out.2.2.2.1 HZ.out.2.2.2.2)
          cases hin1 : inM (cur.length : Int) at_ n with
          | false =>
            rw [hin1, hcl.out] at HI1
            have K1 := Lib.hid (move_out1 _ _ _ _ cur at_ fr n hin1 (by have := hcl.out; omega) HZ.out.2.1.1 HZ.out.2.1.2 HZ.out.2.2.2.1 HZ.out.2.2.2.2 G0.out.mem)
            have KS := Lib.hid (PlayG.same G0.out hcl.out (by omega))
            clear hin1 HI2
            go_wp2_with fail
            refine Calls.mono K1.out ?_
            rintro e w3 ⟨rfl, rfl⟩
            go_wp2_with fail
            refine Calls.mono (HI1.out _) ?_
            rintro e w4 ⟨rfl, rfl⟩
            go_wp2_with fail
            refine Calls.mono KS.out ?_
            rintro e w9 ⟨rfl, G9⟩
            have GF := Lib.hid G9.out
            clear G9 KS
            go_wp2_with fail
            go_roundw
            case rel => exact ⟨k + 1, cur, by omega, by go_num, hcl, GF.out⟩
            case measure => (first | (simp [intOf]; done) | (simp [intOf]; omega))
          | true =>
            cases hin2 : inM (cur.length : Int) fr n with
            | false =>
              rw [hin1, hcl.out] at HI1
              rw [hin2, hcl.out] at HI2
              have K1 := Lib.hid (move_out2 _ _ _ _ cur at_ fr n hin1 hin2 (by have := hcl.out; omega) HZ.out.2.1.1 HZ.out.2.1.2 HZ.out.2.2.1.1 HZ.out.2.2.1.2 HZ.out.2.2.2.1 HZ.out.2.2.2.2 G0.out.mem)
              have KS := Lib.hid (PlayG.same G0.out hcl.out (by omega))
              clear hin1 hin2
              go_wp2_with fail
              refine Calls.mono K1.out ?_
              rintro e w3 ⟨rfl, rfl⟩
              go_wp2_with fail
              refine Calls.mono (HI1.out _) ?_
              rintro e w4 ⟨rfl, rfl⟩
              go_wp2_with fail
              refine Calls.mono (HI2.out _) ?_
              rintro e w5 ⟨rfl, rfl⟩
              go_wp2_with fail
              refine Calls.mono KS.out ?_
              rintro e w9 ⟨rfl, G9⟩
              have GF := Lib.hid G9.out
              clear G9 KS
              go_wp2_with fail
              go_roundw
              case rel => exact ⟨k + 1, cur, by omega, by go_num, hcl, GF.out⟩
              case measure => (first | (simp [intOf]; done) | (simp [intOf]; omega))
            | true =>
              have hb1 := hin1
              have hb2 := hin2
              unfold inM at hb1 hb2
              simp only [Bool.and_eq_true, decide_eq_true_eq] at hb1 hb2
              obtain ⟨to, rfl⟩ : ∃ a : Nat, at_ = (a : Int) := ⟨at_.toNat, by omega⟩
              obtain ⟨f, rfl⟩ : ∃ a : Nat, fr = (a : Int) := ⟨fr.toNat, by omega⟩
              obtain ⟨m, rfl⟩ : ∃ a : Nat, n = (a : Int) := ⟨n.toNat, by omega⟩
              rw [hin1, hcl.out] at HI1
              rw [hin2, hcl.out] at HI2
              have h1 : to + m ≤ cur.length := by omega
              have h2 : f + m ≤ cur.length := by omega
              have K1 := Lib.hid (G0.out.memCall (move_in _ _ _ _ cur to f m h1 h2 (by have := hcl.out; omega) G0.out.mem))
              have H1 := Lib.hid h1
              have H2 := Lib.hid h2
              have q5 : (m : Int) ≤ 100 := by have := hcl.out; omega
              have q6 : (0 : Int) ≤ (m : Int) := by omega
              clear hin1 hin2 hb1 hb2 h1 h2
              go_wp2_with fail
              refine Calls.mono K1.out ?_
              rintro e w3 ⟨rfl, G1⟩
              obtain ⟨d0, d1, d2, d3, d4, d5⟩ := G1.six
              have HG1 := Lib.hid G1
              clear G1 K1
              go_wp2_with fail
              refine Calls.mono (HI1.out _) ?_
              rintro e w4 ⟨rfl, rfl⟩
              go_wp2_with fail
              refine Calls.mono (HI2.out _) ?_
              rintro e w5 ⟨rfl, rfl⟩
              have hro : Rd u64v w5 w5.heap.size A7 cur := by
                obtain ⟨A', c', e', _⟩ := HG1.out.row.form
                injection e' with e1 e2 e3
                have h := HG1.out.row
                rw [e2] at h
                exact h.rd
              have HRO := Lib.hid hro
              clear hro
              go_wp2_with (at_builtin; refine wp_app one64 u64v_one rfl (.tmp 131) (.tmp 132) rfl w5.heap.size _ [] rfl (ow_empty u64v 29 w5 w5.heap.size (Nat.le_refl _)) A7 N c7 cur rfl hcl.out.symm w5.heap.size (HRO.out.alloc (Nat.le_refl _) _) (by have := hcl.out; simp; omega) (by decide) (by simp) ?_; intro v6 w6 ho6 hb6 hg6 hv6)
              rw [List.nil_append] at ho6
              obtain ⟨A6, c6, rfl, hc6⟩ := ho6.form
              rw [hcl.out] at ho6 ⊢
              have HB6 : Hid (Below w5.heap.size w5 w6) := Lib.hid ((Gw.alloc w5 _).trans hb6)
              have HG6 := Lib.hid (HG1.out.below HB6.out)
              have HO6 := Lib.hid ho6
              have HSZ := Lib.hid (And.intro HG1.out.mem.blk.lt (And.intro HG1.out.blk.lt (show (∀ q, v.ownBlock = some q → q < w5.heap.size) ∧ (∀ q, (Value.slice A7 N c7).ownBlock = some q → q < w5.heap.size) from ⟨fun q e => (HG1.out.mem.row.lt q e).2, fun q e => (HG1.out.row.lt q e).2⟩)))
              have HLE := Lib.hid HG1.out.mem.le
              clear hb6 hg6 hv6 hc6 ho6 HRO
              go_wp2_with fail
              obtain ⟨W0, rfl⟩ : ∃ x, x = wr := ⟨wr, rfl⟩
              go_loopw [13] (fun i W => ∃ j : Nat, j ≤ m ∧ i = .int .i64 j ∧ Ow u64v 29 W w5.heap.size (.slice A6 N c6) (moveM cur to f j) ∧ PlayG w1 w1.heap.size g W0.heap.size #[.int .i64 3, .int .i64 to, .int .i64 f, .int .i64 m, .int .u64 (U64 u), .slice ba nb bc] v (.slice A7 N c7) (moveM cur to f m) cur W) (fun i _ => m - (intOf i).toNat)
              case atStart =>
                refine ⟨0, by omega, rfl, ?_, HG6.out⟩
                have h := HO6.out
                have e : moveM cur to f 0 = cur := by unfold moveM; simp
                rw [e]
                exact h
              case round =>
                obtain ⟨j, hj, rfl, hox, hpg⟩ := hrel
                have HX := Lib.hid (And.intro hox hpg)
                obtain ⟨d0, d1, d2, d3, d4, d5⟩ := hpg.six
                by_cases hjm : j < m
                · have hcl0 := hcl.out
                  have h10 := H1.out
                  have h20 := H2.out
                  obtain ⟨q12, rfl⟩ : ∃ q, A6 = some ⟨q, 0, none⟩ := by
                    rcases hox.2 with ⟨e, hn⟩ | ⟨q, _, _, e, _⟩
                    · have hn' : (moveM cur to f j).length = 0 := hn
                      rw [moveM_len _ _ _ _ (by omega) (by omega)] at hn'
                      omega
                    · injection e with e
                      exact ⟨q, e⟩
                  obtain ⟨q7, rfl⟩ : ∃ q, A7 = some ⟨q, 0, none⟩ := by
                    rcases hpg.row.2 with ⟨e, hn⟩ | ⟨q, _, _, e, _⟩
                    · have hn' : cur.length = 0 := hn
                      omega
                    · injection e with e
                      exact ⟨q, e⟩
                  obtain ⟨t, ht⟩ : ∃ t, t = to + j := ⟨_, rfl⟩
                  obtain ⟨s, hs⟩ : ∃ s, s = f + j := ⟨_, rfl⟩
                  have hsl : s < cur.length := by omega
                  have htl : t < (moveM cur to f j).length := by rw [moveM_len _ _ _ _ (by omega) (by omega)]; omega
                  obtain ⟨y, hy⟩ : ∃ y, y = cur[s] := ⟨_, rfl⟩
                  have hc7 := hpg.row.cell hsl
                  rw [← hy] at hc7
                  unfold u64v at hc7
                  have hnext : (moveM cur to f j).set t y = moveM cur to f (j + 1) := by
                    have h := moveM_set cur to f j (by omega) (by omega)
                    have e : cur[f + j]'(by omega) = y := by rw [hy]; congr 1; exact hs.symm
                    rw [e, ← ht] at h
                    exact h
                  have hq12 := hox.ge
                  have HSX := HSZ.out
                  have hvq : v.ownBlock ≠ some q12 := fun e => by have := HSX.2.2.1 q12 e; omega
                  have h77 := HSX.2.2.2 q7 rfl
                  have HS := Lib.hid (fun (W : World) (hW : Below wr.heap.size wr W) => show Ow u64v 29 (W.setCell ⟨q12, t, none⟩ (.int .u64 (U64 y))) w5.heap.size (.slice (some ⟨q12, 0, none⟩) N c6) (moveM cur to f (j + 1)) ∧ PlayG w1 w1.heap.size g W0.heap.size #[.int .i64 3, .int .i64 to, .int .i64 f, .int .i64 m, .int .u64 (U64 u), .slice ba nb bc] v (.slice (some ⟨q7, 0, none⟩) N c7) (moveM cur to f m) cur (W.setCell ⟨q12, t, none⟩ (.int .u64 (U64 y))) from by
                    have hox' := (hox.below hW).set htl y
                    rw [hnext] at hox'
                    refine ⟨hox', (hpg.below hW).other (grown_set W ⟨q12, t, none⟩ _) ?_ ?_ ?_ ?_ ?_⟩
                    · intro e; have e2 : g = q12 := by injection e
                      omega
                    · exact .inr hvq
                    · right
                      intro e
                      have e2 : q7 = q12 := by injection e
                      omega
                    · intro e; have e2 : W0.heap.size = q12 := by injection e
                      omega
                    · intro k2 e; have e2 : q12 = k2 := by injection e
                      have := HLE.out
                      omega)
                  have HFZ := Lib.hid (fun (W : World) (hW : Below wr.heap.size wr W) => (hox.below hW).free t)
                  have HCL := Lib.hid (fun (W : World) (hW : Below wr.heap.size wr W) => (hox.below hW).cell htl)
                  obtain ⟨z, hz⟩ : ∃ z, z = (moveM cur to f j)[t] := ⟨_, rfl⟩
                  rw [← hz] at HCL
                  have HD := Lib.hid (show (W0.heap.size < wr.heap.size ∧ q7 < wr.heap.size) ∧ ((to : Int) + (j : Int) = (t : Int) ∧ (f : Int) + (j : Int) = (s : Int)) ∧ ((0 : Int) ≤ (t : Int) ∧ (t : Int) < (N : Int)) ∧ ((0 : Int) ≤ (s : Int) ∧ (s : Int) < (N : Int)) from ⟨⟨hpg.blk.lt, hpg.row.ge.2⟩, ⟨by omega, by omega⟩, ⟨by omega, by omega⟩, by omega, by omega⟩)
                  have HC := Lib.hid (And.intro d1 (And.intro d2 hc7))
                  have pj1 : (0 : Int) ≤ (j : Int) := by omega
                  have pj2 : (j : Int) < (m : Int) := by omega
                  clear hcl0 h10 h20 hsl htl hy hc7 hnext hq12 HSX hvq h77 hz ht hs hox hpg
                  go_wp2_with fail
                  obtain ⟨⟨x1, x2⟩, ⟨x3, x4⟩, ⟨x5, x6⟩, x7, x8⟩ := HD.out
                  refine pm_reg _ _ _ W0.heap.size to f j t s q7 q12 N c7 c6 y x1 x2 HC.out.1 HC.out.2.1 HC.out.2.2 x3 x4 x5 x6 x7 x8 (by omega) rfl rfl rfl rfl rfl ?_
                  clear x1 x2 x3 x4 x5 x6 x7 x8
                  intro vals w7 hG h151 h152
                  unfold IsV at h151 h152
                  simp only [putD, Act.put, List.setIfInBounds_toArray, List.set_cons_zero, List.set_cons_succ, h151, h152]
                  have hS := Lib.hid (HS.out w7 hG)
                  have hf7 := HFZ.out w7 hG
                  have hc7 := HCL.out w7 hG
                  unfold u64v at hc7
                  clear h151 h152 HC HD HS HFZ HCL d0 d1 d2 d3 d4 d5 HX hG
                  go_wp2_with fail
                  go_roundw
                  case rel => exact ⟨j + 1, by omega, by go_num, hS.out.1, hS.out.2⟩
                  case measure => (first | (simp [intOf]; done) | (simp [intOf]; omega))
                · have hjm2 : j = m := by omega
                  have hml : (moveM cur to f m).length = N := by rw [moveM_len _ _ _ _ H1.out H2.out]; exact hcl.out
                  have HML := Lib.hid hml
                  have hox2 := hox
                  rw [hjm2] at hox2
                  have KS := Lib.hid (PlayG.same (hpg.rowNew hox2 HLE.out HSZ.out.1 HSZ.out.2.1 HSZ.out.2.2.1) hml (by omega))
                  clear hox hox2 hpg hml HX
                  have hjm3 : ¬ (j : Int) < (m : Int) := by omega
                  go_wp2_with fail
                  refine Calls.mono KS.out ?_
                  rintro e w9 ⟨rfl, G9⟩
                  have GF := Lib.hid G9.out
                  clear G9 KS
                  go_wp2_with fail
                  go_roundw
                  case rel => exact ⟨k + 1, moveM cur to f m, by omega, by go_num, HML, GF.out⟩
                  case measure => (first | (simp [intOf]; done) | (simp [intOf]; omega))
        · as_aux_lemma =>
          obtain ⟨M8, hM8⟩ : ∃ M8, M8 = 8 * cur.length := ⟨_, rfl⟩
          have HIn := Lib.hid (fun w => inL_c w ((8 * cur.length : Nat) : Int) at_ n (by have := hcl.out; omega) (by have := hcl.out; omega) HZ.out.2.1.1 HZ.out.2.1.2 HZ.out.2.2.2.1 HZ.out.2.2.2.2)
          have q8 : (8 : Int) * (N : Int) = (M8 : Int) := by have := hcl.out; omega
          have q9 : (M8 : Int) ≤ 800 := by have := hcl.out; omega
          cases hin : inM ((8 * cur.length : Nat) : Int) at_ n with
          | true =>
            have hb := hin
            unfold inM at hb
            simp only [Bool.and_eq_true, decide_eq_true_eq] at hb
            obtain ⟨a, rfl⟩ : ∃ a : Nat, at_ = (a : Int) := ⟨at_.toNat, by omega⟩
            obtain ⟨m, rfl⟩ : ∃ a : Nat, n = (a : Int) := ⟨n.toNat, by omega⟩
            rw [hin] at HIn
            have hfit : a + m ≤ 8 * cur.length := by omega
            have K1 := Lib.hid (bytes_in _ _ _ _ cur a m hfit (by have := hcl.out; omega) G0.out.mem)
            rw [← hM8] at HIn
            have HFit := Lib.hid hfit
            clear hb hin hM8 hfit
            go_wp2_with fail
            refine Calls.mono K1.out ?_
            rintro e w3 ⟨A3, n3, rfl, hc3, ho3, hb3'⟩
            have hxl : (bytesM cur a m).length = m := by simp [bytesM]
            have HXL := Lib.hid hxl
            have HR3 := Lib.hid ho3.rd
            rw [hxl]
            have G1 := G0.out.below hb3'
            obtain ⟨d0, d1, d2, d3, d4, d5⟩ := G1.six
            have hro : Rd u64v w3 w3.heap.size A7 cur := by
              obtain ⟨A', c', e', _⟩ := G1.row.form
              injection e' with e1 e2 e3
              have h := G1.row
              rw [e2] at h
              exact h.rd
            have HG1 := Lib.hid (And.intro hro G1)
            clear G1 K1 hc3 ho3 hb3' hxl hro
            go_wp2_with fail
            refine Calls.mono (HIn.out w3) ?_
            rintro e w4 ⟨rfl, rfl⟩
            go_wp2_with fail
            refine pb_reg _ _ _ wr.heap.size a m N c7 n3 A7 A3 cur (bytesM cur a m) HG1.out.2.blk.lt d1 d3 rfl HXL.out hcl.out.symm HG1.out.1 HR3.out HFit.out (by have := hcl.out; omega) rfl rfl rfl rfl rfl ?_
            intro vals w5 hG h186
            unfold IsV at h186
            simp only [putD, Act.put, List.setIfInBounds_toArray, List.set_cons_zero, List.set_cons_succ, h186]
            have KS := Lib.hid (PlayG.same (HG1.out.2.below hG) hcl.out (by omega))
            clear h186 hG HG1 HR3 HXL
            go_wp2_with fail
            refine Calls.mono KS.out ?_
            rintro e w9 ⟨rfl, G9⟩
            have GF := Lib.hid G9.out
            clear G9 KS
            go_wp2_with fail
            go_roundw
            case rel => exact ⟨k + 1, cur, by omega, by go_num, hcl, GF.out⟩
            case measure => (first | (simp [intOf]; done) | (simp [intOf]; omega))
          | false =>
            rw [hin] at HIn
            have K1 := Lib.hid (bytes_out _ _ _ _ cur at_ n hin (by have := hcl.out; omega) HZ.out.2.1.1 HZ.out.2.1.2 HZ.out.2.2.2.1 HZ.out.2.2.2.2 G0.out.mem)
            rw [← hM8] at HIn
            clear hin hM8
            go_wp2_with fail
            refine Calls.mono K1.out ?_
            rintro e w3 ⟨rfl, rfl⟩
            go_wp2_with fail
            refine Calls.mono (HIn.out _) ?_
            rintro e w4 ⟨rfl, rfl⟩
            go_wp2_with fail
            refine pn_reg _ _ _ rfl rfl ?_
            intro vals w5 hG h186
            unfold IsV at h186
            simp only [putD, Act.put, List.setIfInBounds_toArray, List.set_cons_zero, List.set_cons_succ, h186]
            have KS := Lib.hid (PlayG.same (G0.out.below hG) hcl.out (by omega))
            clear h186 hG
            go_wp2_with fail
            refine Calls.mono KS.out ?_
            rintro e w9 ⟨rfl, G9⟩
            have GF := Lib.hid G9.out
            clear G9 KS
            go_wp2_with fail
            go_roundw
            case rel => exact ⟨k + 1, cur, by omega, by go_num, hcl, GF.out⟩
            case measure => (first | (simp [intOf]; done) | (simp [intOf]; omega))
        · as_aux_lemma =>
          have K1 := Lib.hid (twin_c _ _ _ _ cur G0.out.mem (by have := hcl.out; omega))
          go_wp2_with fail
          refine Calls.mono K1.out ?_
          rintro e w3 ⟨g2, v2, rfl, hm2, hb3'⟩
          obtain ⟨t1, t2, t3, t4, t5, t6, t7⟩ := G0.out.twin hb3' hm2
          have hge2 := hm2.ge
          have HT := Lib.hid (And.intro t1 (And.intro t2 (And.intro t3 (And.intro t4 t5))))
          have hra2 := G0.out.ra
          have hhv2 := G0.out.hv
          have hmrow := G0.out.mem.row
          have HFin : Hid (∀ W, w3.grownBy W v.ownBlock → PlayG w1 w1.heap.size g2 wr.heap.size #[.int .i64 5, .int .i64 at_, .int .i64 fr, .int .i64 n, .int .u64 (U64 u), .slice ba nb bc] v2 (.slice A7 N c7) cur cur W) := Lib.hid (fun W hg => t2.other hg (fun e => t4 e.symm) t5 (by
            cases hq : (Value.slice A7 N c7).ownBlock with
            | none => exact .inl rfl
            | some q => exact .inr (fun e => (hra2 q hq).2.1 e.symm)) (fun e => hhv2 e.symm) (fun k2 e => (hmrow.lt k2 e).1))
          have K2 : Hid (∃ r, Calls Try.prog 10 #[.pointer (some ⟨g, 0, none⟩), .int .i64 0, .int .u64 99] w3 fun e w' => e = .returned (.int .i64 r) ∧ w3.grownBy w' v.ownBlock) := Lib.hid (by
            by_cases h0 : 0 < cur.length
            · refine ⟨0, ?_⟩
              have k2 := set_in w3 _ g v cur 0 99#64 h0 (by have := hcl.out; omega) t1
              rw [show U64 99#64 = 99 from by decide +kernel] at k2
              exact k2.mono fun e w' ⟨e1, _, e3⟩ => ⟨e1, e3⟩
            · refine ⟨1, ?_⟩
              have hn0 : inM (cur.length : Int) 0 1 = false := by
                unfold inM
                rw [Bool.eq_false_iff]
                intro h
                simp only [Bool.and_eq_true, decide_eq_true_eq] at h
                omega
              exact (set_out w3 _ g v cur 0 99 hn0 (by have := hcl.out; omega) (by decide) (by decide) t1).mono fun e w' ⟨e1, e3⟩ => ⟨e1, by rw [e3]; exact grown_refl _ _⟩)
          clear t1 t2 t3 t4 t5 t6 t7 hge2 hm2 hb3' hra2 hhv2 hmrow HT K1
          obtain ⟨r2, k2⟩ := K2.out
          have K2 := Lib.hid k2
          clear k2
          go_wp2_with fail
          refine Calls.mono K2.out ?_
          rintro e w4 ⟨rfl, hg4⟩
          have KS := Lib.hid (PlayG.same (HFin.out w4 hg4) hcl.out (by omega))
          clear hg4 HFin K2
          go_wp2_with fail
          refine Calls.mono KS.out ?_
          rintro e w9 ⟨rfl, G9⟩
          have GF := Lib.hid G9.out
          clear G9 KS
          go_wp2_with fail
          go_roundw
          case rel => exact ⟨k + 1, cur, by omega, by go_num, hcl, GF.out⟩
          case measure => (first | (simp [intOf]; done) | (simp [intOf]; omega))
        · as_aux_lemma =>
          have K1 := Lib.hid (words_c _ _ _ _ cur G0.out.mem (by have := hcl.out; omega))
          have HSZ := Lib.hid (And.intro G0.out.mem.blk.lt (And.intro G0.out.blk.lt (show (∀ q, v.ownBlock = some q → q < (wr.alloc (.cells #[.int .i64 6, .int .i64 at_, .int .i64 fr, .int .i64 n, .int .u64 (U64 u), .slice ba nb bc] 32)).heap.size) ∧ (∀ q, (Value.slice A7 N c7).ownBlock = some q → q < (wr.alloc (.cells #[.int .i64 6, .int .i64 at_, .int .i64 fr, .int .i64 n, .int .u64 (U64 u), .slice ba nb bc] 32)).heap.size) from ⟨fun q e => (G0.out.mem.row.lt q e).2, fun q e => (G0.out.row.lt q e).2⟩)))
          have HLE := Lib.hid G0.out.mem.le
          obtain ⟨S, hS⟩ : ∃ S, S = (wr.alloc (.cells #[.int .i64 6, .int .i64 at_, .int .i64 fr, .int .i64 n, .int .u64 (U64 u), .slice ba nb bc] 32)).heap.size := ⟨_, rfl⟩
          rw [← hS] at HSZ HLE
          have HSS := Lib.hid hS
          clear hS
          go_wp2_with fail
          refine Calls.mono K1.out ?_
          rintro e w3 ⟨A3, n3, rfl, hc3, ho3, hb3'⟩
          rw [← HSS.out] at ho3
          rw [hcl.out] at ho3 ⊢
          have HG1 := Lib.hid (G0.out.below hb3')
          have HO3 := Lib.hid ho3
          clear hc3 ho3 hb3' K1
          go_wp2_with fail
          obtain ⟨W0, rfl⟩ : ∃ x, x = wr := ⟨wr, rfl⟩
          go_loopw [18] (fun i W => ∃ (j : Nat) (xs : List (BitVec 64)), j ≤ N ∧ i = .int .i64 j ∧ Hid (xs.length = N) ∧ Ow u64v 29 W S (.slice A3 N n3) xs ∧ PlayG w1 w1.heap.size g W0.heap.size #[.int .i64 6, .int .i64 at_, .int .i64 fr, .int .i64 n, .int .u64 (U64 u), .slice ba nb bc] v (.slice A7 N c7) cur cur W) (fun i _ => N - (intOf i).toNat)
          case atStart => exact ⟨0, cur, by omega, rfl, hcl, HO3.out, HG1.out⟩
          case round =>
            obtain ⟨j, xs, hj, rfl, hxl, hox, hpg⟩ := hrel
            by_cases hjm : j < N
            · have hxl0 := hxl.out
              have hjx : j < xs.length := by omega
              obtain ⟨q12, rfl⟩ : ∃ q, A3 = some ⟨q, 0, none⟩ := by
                rcases hox.2 with ⟨e, hn⟩ | ⟨q, _, _, e, _⟩
                · have hn' : xs.length = 0 := hn
                  omega
                · injection e with e
                  exact ⟨q, e⟩
              have hq12 := hox.ge
              have HSX := HSZ.out
              have hset := hox.set hjx 77#64
              have hcell := hox.cell hjx
              have hf := hox.free j
              obtain ⟨z, hz⟩ : ∃ z, z = xs[j] := ⟨_, rfl⟩
              rw [← hz] at hcell
              unfold u64v at hcell
              have e77 : u64v 77#64 = .int .u64 77 := congrArg (fun i => Value.int .u64 i) (by decide +kernel)
              rw [e77] at hset
              have hoth := hpg.other (grown_set wr ⟨q12, j, none⟩ (.int .u64 77)) (fun e => by
                have e2 : g = q12 := by injection e
                omega) (.inr (fun e => by have := HSX.2.2.1 q12 e; omega)) (.inr (fun e => by have := HSX.2.2.2 q12 e; omega)) (fun e => by
                have e2 : W0.heap.size = q12 := by injection e
                omega) (fun k2 e => by
                have e2 : q12 = k2 := by injection e
                have := HLE.out
                omega)
              have HS := Lib.hid (And.intro (show (xs.set j 77#64).length = N by rw [List.length_set]; exact hxl0) (And.intro hset hoth))
              have pj1 : (0 : Int) ≤ (j : Int) := by omega
              have pj2 : (j : Int) < (N : Int) := by omega
              clear hxl0 hjx hq12 HSX hset hz e77 hoth hox hpg
              go_wp2_with fail
              go_roundw
              case rel => exact ⟨j + 1, xs.set j 77#64, by omega, by go_num, Lib.hid HS.out.1, HS.out.2.1, HS.out.2.2⟩
              case measure => (first | (simp [intOf]; done) | (simp [intOf]; omega))
            · have KS := Lib.hid (PlayG.same hpg hcl.out (by omega))
              clear hox hpg
              go_wp2_with fail
              refine Calls.mono KS.out ?_
              rintro e w9 ⟨rfl, G9⟩
              have GF := Lib.hid G9.out
              clear G9 KS
              go_wp2_with fail
              go_roundw
              case rel => exact ⟨k + 1, cur, by omega, by go_num, hcl, GF.out⟩
              case measure => (first | (simp [intOf]; done) | (simp [intOf]; omega))
        · as_aux_lemma =>
          have e1 : (op == 1) = false := by simp [n1]
          have e2 : (op == 2) = false := by simp [n2]
          have e3 : (op == 3) = false := by simp [n3]
          have e4 : (op == 4) = false := by simp [n4]
          have e5 : (op == 5) = false := by simp [n5]
          have e6 : (op == 6) = false := by simp [n6]
          have KS := Lib.hid (PlayG.same G0.out hcl.out (by omega))
          clear n1 n2 n3 n4 n5 n6
          go_wp2_with fail
          refine Calls.mono KS.out ?_
          rintro e w9 ⟨rfl, G9⟩
          have GF := Lib.hid G9.out
          clear G9 KS
          go_wp2_with fail
          go_roundw
          case rel => exact ⟨k + 1, cur, by omega, by go_num, hcl, GF.out⟩
          case measure => (first | (simp [intOf]; done) | (simp [intOf]; omega))
    · go_wp2_with fail
      go_ret
      exact ⟨rfl, HBW.out⟩
theorem plays_walk (w : World) (A : Option Addr) (ws : List (BitVec 64)) (c : Nat) (_g : ws.length ≤ c) (_m : c ≤ maxLen) (hr : Rd u64v w w.heap.size A ws) (A2 : Option Addr) (l : List Ac) (c2 : Nat) (_g2 : l.length ≤ c2) (_m2 : c2 ≤ maxLen) (hA : Acs w w.heap.size A2 l) :
    Calls Try.prog 3 #[.slice A ws.length c, .slice A2 l.length c2] w (TruP (.bool true) w) := by
  by_cases h : 100 < ws.length ∨ (¬ 100 < ws.length ∧ 60 < l.length)
  · exact plays_far w A A2 ws.length c l.length c2 h
  · exact plays_ok w A ws c hr (by omega) A2 l c2 hA (by omega)
end Go.Proofs.Ytobcpcobgdmleaa
namespace Go.Proofs.Ytobcpcobgdmleaa.memPlays
open Go.ChangeShapes Go.WideShapes Go.ChangeAt Go.RowKit
open Go.ChangeMaps (open_string shut_string)
set_option linter.unusedVariables false
set_option maxRecDepth 100000 in
theorem lifted (os : Os) (started : os.Started) (H : Type) (enc : TypeId × Value → H) :
    ReturnsInHanded {} Try.checked os 3 .any (Rows.memPlaysSpec.pre6 enc Try.prog Try.f3 Rows.memPlaysRow.domain false) (Rows.memPlaysSpec.post enc Try.prog Try.f3 false true false false) := by
  refine returnsInHanded_of_change (C := Try.checked) own started (by kernel_rfl) Try.func3
    (ChangeSpec.witness6 (enc := enc) (C := Try.checked) false ⟨#[], #[.slice none 0 0, .slice none 0 0], []⟩ 8 (by kernel_rfl) (by kernel_rfl) (by kernel_rfl) (by kernel_rfl)) ?_
  intro W base args ds gs before hval0 hW hcnd _
  have hval : ∀ (j : Nat) t v, Try.f3.params[j]? = some t → args[j]? = some v → Value.okWide Try.prog W .any base t v := hval0
  have hW' := hW
  obtain ⟨p, q, hA0, hV, rfl, hfz, hnd⟩ := hW
  have hA : DataW.TrodAll enc Try.prog W 0 (fun _ => true) true Try.f3.params.toList args.toList ds p := hA0
  rw [Try.params3] at hA hval
  obtain ⟨v0, vs0, d0, ds0, p0, q0, hargs, rfl, rfl, h0, r0⟩ := trodAll_cons hA
  obtain ⟨v1, vs1, d1, ds1, p1, q1, rfl, rfl, rfl, h1, r1⟩ := trodAll_cons r0
  obtain ⟨rfl, rfl, rfl⟩ := trodAll_nil r1
  obtain rfl : args = #[v0, v1] := by cases args; simp_all
  obtain ⟨rfl, rfl⟩ := trodVars_none hV
  have k0 := h0
  have lt0 : ∀ x ∈ p0, x.block < W.heap.size := by obtain ⟨m, hm⟩ := k0; exact DataW.trod_lt m _ _ _ hm
  obtain ⟨A0, a0, c0, e0v, g0, m0, w0⟩ := open_words Try.underlying22 Try.underlying29 (by kernel_rfl) (hval 0 22 v0 rfl rfl) h0; subst e0v
  have k1 := h1
  have lt1 : ∀ x ∈ p1, x.block < W.heap.size := by obtain ⟨m, hm⟩ := k1; exact DataW.trod_lt m _ _ _ hm
  obtain ⟨A1, a1, c1, e1v, g1, m1, w1⟩ := open_rows_Act (hval 1 23 v1 rfl rfl) h1; subst e1v
  clear hA0 hval0
  refine (plays_walk W A0 a0 c0 g0 m0 w0 A1 a1 c1 g1 m1 w1).mono fun e W' ⟨he, bel⟩ => ?_
  subst he
  exact ⟨_, rfl, _, _, _, [], _, [], hW', trodAll_mk1 (shut_bool Try.underlying4 _), (trodAll_cons_mk (Below.trod laidOut (by kernel_rfl) (of_decide_eq_true (by kernel_rfl)) k0 bel lt0) (trodAll_cons_mk (Below.trod laidOut (by kernel_rfl) (of_decide_eq_true (by kernel_rfl)) k1 bel lt1) trodAll_mk0)), rfl, bel.frame _, fun h => by cases h⟩
theorem over : Rows.memPlaysRow.holds Try.pinned (OpenSpec.ofChange Rows.memPlaysSpec) :=
  OpenClaim.holds_of_wide 3 Try.f3 rfl rfl rfl rfl rfl rfl rfl ⟨rfl, rfl, rfl, rfl, rfl⟩ rfl rfl rfl rfl rfl (by kernel_rfl) Try.func3 (by kernel_rfl)
    (of_decide_eq_true (by kernel_rfl)) (by unfold Func.isWrapper; first | (rw [if_pos (by decide +kernel)]; kernel_rfl) | (rw [if_neg (by decide +kernel)]; exact ⟨rfl, rfl⟩))
    (fun os started H enc _ => lifted os started H enc)
theorem proved : Rows.MemPlaysSaid := over
end Go.Proofs.Ytobcpcobgdmleaa.memPlays
