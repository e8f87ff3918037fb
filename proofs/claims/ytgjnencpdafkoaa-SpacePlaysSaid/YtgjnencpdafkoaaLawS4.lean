/- The law SpacePlays of layer 15 returns true for every argument. No conditions. -/
import Derived.Test.YtgjnencpdafkoaaSpL
import Derived.Test.YtgjnencpdafkoaaOpenW
namespace Go.Proofs.Ytgjnencpdafkoaa
set_option linter.unusedVariables false
set_option linter.unusedSimpArgs false
open Go.RowKit
set_option maxHeartbeats 2000000
set_option maxRecDepth 100000
theorem splays_far (w : World) (A A2 : Option Addr) (n c n2 c2 : Nat) (b e : Int) (h : 400 < n ∨ (¬ 400 < n ∧ 60 < n2)) : Calls Try.prog 3 #[.slice A n c, .int .i64 b, .int .i64 e, .slice A2 n2 c2] w (TruP (.bool true) w) := by
  rcases h with h | ⟨h, h2⟩
  all_goals
    go_enter Try.func3, Try.ntmps3
    go_wp2_with fail
    refine Calls.mono (known15_c _) ?_
    rintro r w1 ⟨rfl, b1⟩
    go_wp2_with fail
    go_ret
    exact ⟨rfl, b1⟩
theorem splays_out (w : World) (A A2 : Option Addr) (ws : List (BitVec 64)) (c n2 c2 : Nat) (hr : Rd u64v w w.heap.size A ws) (hl : ws.length ≤ 400) (hl2 : n2 ≤ 60) (b e : Int) (ho : b < 0 ∨ (¬ b < 0 ∧ e < b) ∨ (¬ b < 0 ∧ ¬ e < b ∧ (ws.length : Int) < e)) : Calls Try.prog 3 #[.slice A ws.length c, .int .i64 b, .int .i64 e, .slice A2 n2 c2] w (TruP (.bool true) w) := by
  have HMem := Lib.hid (fun W hr => mem15_c W A c ws hr (by omega))
  have HOf := Lib.hid (fun W B g v (h : MemAt W B g v ws) => snew_out W (.pointer (some ⟨g, 0, none⟩)) b e (bare_out W B g v ws b b e h (by
    rcases ho with h1 | ⟨h1, h2⟩ | ⟨h1, h2, h3⟩
    · exact .inl h1
    · exact .inr (.inr (.inl ⟨h1, by omega, h2⟩))
    · exact .inr (.inr (.inr ⟨h1, by omega, h2, h3⟩)))))
  have HR := Lib.hid hr
  obtain ⟨N, hN⟩ : ∃ N, N = ws.length := ⟨_, rfl⟩
  rw [← hN] at HMem ho ⊢
  have u0 : ¬ 400 < N := by omega
  have u9 : ¬ 60 < n2 := by omega
  clear hr hl hN hl2
  rcases (show b < 0 ∨ (¬ b < 0 ∧ e < b) ∨ (¬ b < 0 ∧ ¬ e < b ∧ (N : Int) < e ∧ ¬ e ≤ (N : Int)) by omega) with h1 | ⟨h1, h2⟩ | ⟨h1, h2, h3, h4⟩
  all_goals
    clear ho
    go_enter Try.func3, Try.ntmps3
    go_wp2_with fail
    refine Calls.mono (known15_c _) ?_
    rintro r w1 ⟨rfl, b1⟩
    have HB1 := Lib.hid b1
    clear b1
    go_wp2_with fail
    refine Calls.mono (HMem.out w1 ((HR.out.below HB1.out).more HB1.out.size)) ?_
    rintro r w2 ⟨g, v, rfl, h2', b2⟩
    have HM2 := Lib.hid h2'
    have HB2 := Lib.hid (HB1.out.trans (b2.mono HB1.out.size))
    clear h2' b2
    go_wp2_with fail
    refine Calls.mono (HOf.out w2 _ g v HM2.out) ?_
    rintro r w3 ⟨rfl, rfl⟩
    go_wp2_with fail
    all_goals first
      | (go_ret; exact ⟨rfl, HB2.out⟩)
      | (exfalso; simp at *; omega)
theorem splays_ok (w : World) (A : Option Addr) (ws : List (BitVec 64)) (c : Nat) (hr : Rd u64v w w.heap.size A ws) (hl : ws.length ≤ 400) (A2 : Option Addr) (l : List HdR) (c2 : Nat) (hA : Hds w w.heap.size A2 l) (hl2 : l.length ≤ 60) (b e : Nat) (hbe : b ≤ e) (hel : e ≤ ws.length) :
    Calls Try.prog 3 #[.slice A ws.length c, .int .i64 b, .int .i64 e, .slice A2 l.length c2] w (TruP (.bool true) w) := by
  have HMem := Lib.hid (fun W hr => mem15_c W A c ws hr (by omega))
  have HOf := Lib.hid (fun W B g v (h : MemAt W B g v ws) => snew_in W B g v ws b e h hbe hel (by omega))
  have HR := Lib.hid hr
  have HA := Lib.hid hA
  obtain ⟨N, hN⟩ : ∃ N, N = ws.length := ⟨_, rfl⟩
  obtain ⟨M, hM⟩ : ∃ M, M = l.length := ⟨_, rfl⟩
  rw [← hN] at HMem ⊢
  rw [← hM]
  have u1 : ¬ 400 < N := by omega
  have u2 : ¬ 60 < M := by omega
  have u3 : ¬ (b : Int) < 0 := by omega
  have u4 : ¬ e < b := by omega
  have u5 : ¬ N < e := by omega
  have q1 : (N : Int) ≤ 400 := by omega
  have q2 : (M : Int) ≤ 60 := by omega
  have q3 : (b : Int) ≤ 400 := by omega
  have q4 : (0 : Int) ≤ (b : Int) := by omega
  have q5 : (e : Int) ≤ 400 := by omega
  have HN := Lib.hid hN
  have HM := Lib.hid hM
  have HBE := Lib.hid (show b ≤ e ∧ e ≤ N ∧ N ≤ 400 from ⟨hbe, by omega, by omega⟩)
  clear hr hl hA hl2 hN hM hbe hel
  go_enter Try.func3, Try.ntmps3
  go_wp2_with fail
  refine Calls.mono (known15_c _) ?_
  rintro r w1 ⟨rfl, b1⟩
  have HB1 := Lib.hid b1
  clear b1
  go_wp2_with fail
  refine Calls.mono (HMem.out w1 ((HR.out.below HB1.out).more HB1.out.size)) ?_
  rintro r w2 ⟨g, v, rfl, h2', b2⟩
  have HM2 := Lib.hid (h2'.base15 HB1.out.size)
  have HB2 := Lib.hid (HB1.out.trans (b2.mono HB1.out.size))
  clear h2' b2
  go_wp2_with fail
  refine Calls.mono (HOf.out w2 _ g v HM2.out) ?_
  rintro r w3 ⟨s, rfl, hs3, b3⟩
  have HB3 := Lib.hid (HB2.out.trans (b3.mono HB2.out.size))
  have HS3 := Lib.hid hs3
  clear b3 hs3
  go_wp2_with (at_builtin; refine wp_app one64 u64v_one rfl (.tmp 76) (.tmp 77) rfl w3.heap.size _ [] rfl (ow_empty u64v 54 w3 w3.heap.size (Nat.le_refl _)) A N c ws rfl HN.out w3.heap.size (((HR.out.below HB3.out).more HB3.out.size).alloc (Nat.le_refl _) _) (by have := HN.out; simp; omega) (by decide) (by simp) ?_; intro v4 w4 ho4 hb4 hg4 hv4; rw [List.nil_append] at ho4; obtain ⟨A4, c4, rfl, hc4⟩ := ho4.form; have HO4 := Lib.hid (And.intro ho4 hb4); clear ho4 hb4 hg4 hv4 hc4; rw [← HN.out])
  obtain ⟨ho4, hb4⟩ := HO4.out
  have hb34 : Below w3.heap.size w3 w4 := (Gw.alloc w3 (.cells #[] 54)).trans hb4
  have hG0 : SpG w (w4.alloc (.cells #[.slice A4 ws.length c4, .int .i64 b, .int .i64 b, .int .i64 e] 33)) s g w4.heap.size v A4 c4 ws ws b b b e := by
    have hal := Gw.alloc w4 (.cells #[.slice A4 ws.length c4, .int .i64 b, .int .i64 b, .int .i64 e] 33)
    have hsl := HS3.out.blk.lt
    have hgl := HS3.out.mem.blk.lt
    have hsz := hb34.size
    refine ⟨(HS3.out.below hb34).below hal, Bk.new w4 _ _, (ho4.below hal).mono HB3.out.size, by omega, by omega, fun e => by have := (HS3.out.mem.row.lt _ e).2; omega, Nat.le_trans HB3.out.size hsz, fun q hq => ?_, (HB3.out.trans (hb34.mono HB3.out.size)).trans (hal.mono (Nat.le_trans HB3.out.size hsz))⟩
    have hq1 := (ho4.lt q hq).1
    have hq2 := (ho4.lt q hq).2
    exact ⟨by omega, fun e => by have := (HS3.out.mem.row.lt _ e).2; omega, by omega⟩
  rw [← HN.out] at hG0
  obtain ⟨W5, hW5⟩ : ∃ W, W = w4.alloc (.cells #[.slice A4 N c4, .int .i64 b, .int .i64 b, .int .i64 e] 33) := ⟨_, rfl⟩
  obtain ⟨R, hR⟩ : ∃ R, R = w4.heap.size := ⟨_, rfl⟩
  rw [← hW5, ← hR] at hG0
  have HG0 := Lib.hid hG0
  clear ho4 hb4 HO4 hb34 hG0
  rw [← hW5, ← hR]
  clear hW5 hR
  go_loopw [13] (fun i W => ∃ (k : Nat) (cur : List (BitVec 64)) (t : Nat) (Ar : Option Addr) (cr : Nat) (lo : List Nat), k ≤ M ∧ i = .int .i64 k ∧ Hid (cur.length = N) ∧ Hid (objF cur t (t + 1) b = some lo) ∧ SpG w W s g R v Ar cr cur cur b t t e) (fun i _ => M - (intOf i).toNat)
  case atStart => exact ⟨0, ws, b, A4, c4, [], by omega, rfl, Lib.hid HN.out.symm, Lib.hid (objF_end _ _ _ _ (by omega)), HG0.out⟩
  case round =>
    obtain ⟨k, cur, t, Ar, cr, lo, hk, rfl, hcl, hob, hG⟩ := hrel
    have HG := Lib.hid hG
    clear hG
    by_cases hlt : k < M
    · have p1 : (0 : Int) ≤ (k : Int) := by omega
      have p2 : (k : Int) < (M : Int) := by omega
      have hlw : k < l.length := by rw [← HM.out]; exact hlt
      obtain ⟨ad, rfl, m⟩ := HA.out k hlw
      obtain ⟨x, hx⟩ : ∃ x, x = l[k] := ⟨_, rfl⟩
      rw [← hx] at m
      obtain ⟨hp, hb, hm, ht⟩ := x
      have HXe := Lib.hid m
      obtain ⟨m0, m1, m2, m3, m4⟩ := m.below HG.out.old
      clear m
      dsimp only at m1 m2 m3 m4
      obtain ⟨a, f, cur2, t2, lo2, hl2, ho2, HA1, HA2⟩ := g_alloc w s g R v cur b t e lo hob.out HG.out.sp.bt HG.out.sp.te HG.out.sp.el (by rw [hcl.out]; have := HBE.out; omega) hp hb hm ht
      have HA1 := Lib.hid HA1
      have HA2 := Lib.hid HA2
      have HL2 := Lib.hid hl2
      have HO2 := Lib.hid ho2
      clear hx hlw m0 hl2 ho2
      go_wp2_with fail
      refine Calls.mono (HA1.out _ _ _ HG.out) ?_
      rintro r w6 ⟨rfl, hG6⟩
      have HG6 := Lib.hid hG6
      have hx6 := HXe.out.below hG6.old
      obtain ⟨n0, n1, n2, n3, n4⟩ := hx6
      dsimp only at n1 n2 n3 n4
      clear hG6 m1 m2 m3 m4 n0
      go_wp2_with fail
      refine Calls.mono (of_c hp hb hm ht w6) ?_
      rintro r w7 ⟨rfl, b7⟩
      have HG7 := Lib.hid (HG6.out.below b7)
      clear b7 n1 n2 n3 n4
      go_wp2_with fail
      refine Calls.mono (HA2.out _ _ _ HG7.out) ?_
      rintro r w8 ⟨rfl, A8, c8, hG8⟩
      have HG8 := Lib.hid hG8
      clear hG8
      have HSm := Lib.hid (same15_t w8 _ s g R c8 b t2 e v cur2 A8 HG8.out.sp HG8.out.ref (by rw [HL2.out, hcl.out]; have := HBE.out; omega))
      go_wp2_with fail
      refine Calls.mono HSm.out ?_
      rintro r w9 ⟨rfl, b9⟩
      have HG9 := Lib.hid (HG8.out.below b9)
      clear b9
      go_wp2_with fail
      go_roundw
      case rel => exact ⟨k + 1, cur2, t2, A8, c8, lo2, by omega, by go_num, Lib.hid (HL2.out.trans hcl.out), Lib.hid HO2.out, HG9.out⟩
      case measure => (first | (simp [intOf]; done) | (simp [intOf]; omega))
    · have HOb := Lib.hid (fun W A c (h : SpG w W s g R v A c cur cur b t t e) => objects_c W _ s g v cur b t e h.sp (by rw [hcl.out]; have := HBE.out; omega))
      have HRo := Lib.hid (fun W A c (h : SpG w W s g R v A c cur cur b t t e) => robjects_c W R A c cur b t e h.ref h.sp.bt (Nat.le_trans h.sp.te h.sp.el) (by rw [hcl.out]; have := HBE.out; omega))
      rw [hob.out] at HOb HRo
      have HLo := Lib.hid (show lo.length ≤ 1000000 from by
        have h1 := objF_len2 _ _ _ _ _ hob.out
        have h2 := HG.out.sp.te
        have h3 := HG.out.sp.el
        have h4 := hcl.out
        have h5 := HBE.out
        omega)
      have HTE := Lib.hid (show t ≤ 400 from by
        have h2 := HG.out.sp.te
        have h3 := HG.out.sp.el
        have h4 := hcl.out
        have h5 := HBE.out
        omega)
      clear hob
      go_wp2_with fail
      refine Calls.mono (HOb.out _ _ _ HG.out) ?_
      rintro r w6 ⟨A6, c6, rfl, _, ho6, b6⟩
      have H6 := Lib.hid (And.intro (HG.out.below b6) ho6.rd)
      clear b6 ho6
      go_wp2_with fail
      refine Calls.mono (HRo.out _ _ _ H6.out.1) ?_
      rintro r w7 ⟨A7, c7, rfl, _, ho7, b7⟩
      have H7 := Lib.hid (And.intro (H6.out.1.below b7) (And.intro ((H6.out.2.below b7).more b7.size) ho7.rd))
      clear b7 ho7 H6
      go_wp2_with fail
      refine Calls.mono (ints_t w7 A6 A7 c6 c7 lo H7.out.2.1 H7.out.2.2 HLo.out) ?_
      rintro r w8 ⟨rfl, b8⟩
      have H8 := Lib.hid (H7.out.1.below b8)
      clear b8 H7
      have kw1 : (-1 : Int) ≤ (b : Int) - 1 := by omega
      have kw2 : (b : Int) - 1 ≤ 400 := by omega
      go_wp2_with fail
      go_loopw [22] (fun i W => ∃ z : Int, i = .int .i64 z ∧ -1 ≤ z ∧ z ≤ (t : Int) + 1 ∧ SpG w W s g R v Ar cr cur cur b t t e) (fun i _ => ((t : Int) + 1 - intOf i).toNat)
      case atStart => exact ⟨(b : Int) - 1, rfl, kw1, by have := HG.out.sp.bt; omega, H8.out⟩
      case round =>
        obtain ⟨z, rfl, hz1, hz2, hG⟩ := hrel
        have HZ := Lib.hid hG
        have c2 := hG.blk.cell 2
        have hrl := hG.blk.lt
        have ht4 : (t : Int) ≤ 400 := by have := HTE.out; omega
        by_cases hlt2 : z ≤ (t : Int)
        · obtain ⟨p, bb, m, tt, f, K1, K2⟩ := g_head w s g R v cur b t e hG.sp.el hG.sp.te (by rw [hcl.out]; have := HBE.out; omega) z
          have K1 := Lib.hid K1
          have K2 := Lib.hid K2
          clear hG
          go_wp2_with fail
          refine Calls.mono (K1.out _ _ _ HZ.out) ?_
          rintro r w9 ⟨rfl, b9⟩
          have hk9 := Bk.new w9 37 #[.int .i64 p, .int .i64 bb, .bool m, .int .i64 tt]
          have HK9 := Lib.hid hk9
          have HG9 := Lib.hid ((HZ.out.below b9).below (Gw.alloc w9 (.cells #[.int .i64 p, .int .i64 bb, .bool m, .int .i64 tt] 37)))
          clear b9 hk9 c2 hrl
          go_wp2_with fail
          refine Calls.mono (K2.out _ _ _ HG9.out) ?_
          rintro r w10 ⟨rfl, b10⟩
          have hk10 := Bk.new w10 40 #[.int .i64 p, .int .i64 bb, .bool m, .int .i64 tt]
          have HK10 := Lib.hid hk10
          have HK9' := Lib.hid ((HK9.out.below b10 HK9.out.lt).alloc (.cells #[.int .i64 p, .int .i64 bb, .bool m, .int .i64 tt] 40))
          have HG10 := Lib.hid ((HG9.out.below b10).below (Gw.alloc w10 (.cells #[.int .i64 p, .int .i64 bb, .bool m, .int .i64 tt] 40)))
          clear b10 hk10
          go_wp2_with fail
          refine pl_reg _ _ _ w9.heap.size w10.heap.size p bb tt f m HK9'.out HK10.out rfl rfl rfl rfl rfl ?_
          intro vals w11 hb11 h175
          unfold IsV at h175
          simp only [putD, Act.put, List.setIfInBounds_toArray, List.set_cons_zero, List.set_cons_succ, h175]
          have HG11 := Lib.hid (HG10.out.below hb11)
          clear h175 hb11
          go_wp2_with fail
          go_roundw
          case rel => exact ⟨z + 1, by go_num, by omega, by omega, HG11.out⟩
          case measure => simp [intOf]; omega
        · have KA := Lib.hid (apart_c wr _ s g v cur b t e hG.sp (by rw [hcl.out]; have := HBE.out; omega))
          have HSl := Lib.hid (And.intro hG.sp.blk.lt (fun q (hq : v.ownBlock = some q) => (hG.sp.mem.row.lt q hq).2))
          obtain ⟨S, hS⟩ : ∃ S, S = wr.heap.size := ⟨_, rfl⟩
          rw [← hS] at KA HSl
          have HSS := Lib.hid hS
          clear hG hS
          go_wp2_with fail
          refine Calls.mono KA.out ?_
          clear c2 hrl hlt2
          rintro r w9 ⟨s2, g2, v2, rfl, hT, b9⟩
          rw [HSS.out] at b9
          have HT9 := Lib.hid hT
          have HG9 := Lib.hid (HZ.out.below b9)
          have KR := Lib.hid (reset_c3 w9 _ s g v cur b t e HG9.out.sp (by rw [hcl.out]; have := HBE.out; omega))
          clear hT b9 HZ
          go_wp2_with fail
          refine Calls.mono KR.out ?_
          rintro r w10 ⟨rfl, hS10, hB10, hT10⟩
          have HT10 := Lib.hid (HT9.out.two hT10 HSl.out.1 HSl.out.2)
          have HG10 := Lib.hid (HG9.out.spTo hS10 hB10 hT10)
          have HZr := Lib.hid (fun (W : World) (h : MemAt W w.heap.size g v (zeroW cur b (e - b))) (i : Nat) (h1 : b ≤ i) (h2 : i < e) => show Calls Try.prog 21 #[.pointer (some ⟨g, 0, none⟩), .int .i64 i] W fun r w' => r = .returned (.tuple #[.int .u64 0, .int .i64 0]) ∧ w' = W from by
            have hle : b + (e - b) ≤ cur.length := by rw [hcl.out]; have := HBE.out; omega
            have hi : i < (zeroW cur b (e - b)).length := by rw [zeroW_len]; omega
            have k := get_in W _ g v _ i hi (by rw [zeroW_len, hcl.out]; have := HBE.out; omega) h
            have ez : (zeroW cur b (e - b))[i] = 0#64 := by
              have h3 := zeroW_get cur b i (e - b) hle
              rw [if_pos ⟨h1, by omega⟩, List.getElem?_eq_getElem hi] at h3
              injection h3
            rw [ez, show U64 0#64 = 0 from by decide +kernel] at k
            exact k)
          clear hS10 hB10 hT10 HG9 HT9 KR KA
          go_wp2_with fail
          go_loopw [28] (fun i W => ∃ j : Nat, i = .int .i64 j ∧ Hid (b ≤ j) ∧ j ≤ e ∧ Below w10.heap.size w10 W) (fun i _ => e - (intOf i).toNat)
          case atStart => exact ⟨b, rfl, Lib.hid (Nat.le_refl _), HBE.out.1, Below.refl _ _⟩
          case round =>
            obtain ⟨j, rfl, hj1, hj2, hBj⟩ := hrel
            have HG11 := Lib.hid (HG10.out.below hBj)
            have HT11 := Lib.hid (HT10.out.below hBj)
            obtain ⟨d0, d1, d2, d3⟩ := HG11.out.sp.four
            have hsl := HG11.out.sp.blk.lt
            by_cases hlt3 : j < e
            · have KG := Lib.hid (HZr.out wr HG11.out.sp.mem j hj1.out hlt3)
              go_wp2_with fail
              refine Calls.mono KG.out ?_
              rintro r w12 ⟨rfl, rfl⟩
              go_wp2_with fail
              go_roundw
              case rel => exact ⟨j + 1, by go_num, Lib.hid (by have := hj1.out; omega), by omega, hBj⟩
              case measure => (first | (simp [intOf]; done) | (simp [intOf]; omega))
            · have KS := Lib.hid (same15_t wr _ s2 g2 R cr b t e v2 cur Ar HT11.out HG11.out.ref (by rw [hcl.out]; have := HBE.out; omega))
              go_wp2_with fail
              refine Calls.mono KS.out ?_
              rintro r w12 ⟨rfl, b12⟩
              have HF := Lib.hid (HG11.out.old.trans (b12.mono HG11.out.sp.mem.le))
              clear b12
              go_wp2_with fail
              go_ret
              exact ⟨rfl, HF.out⟩
theorem splays_walk (w : World) (A : Option Addr) (ws : List (BitVec 64)) (c : Nat) (_g : ws.length ≤ c) (_m : c ≤ maxLen) (hr : Rd u64v w w.heap.size A ws) (b : Int) (w1 : (Lit.int .i64 b).wf = true) (e : Int) (w2 : (Lit.int .i64 e).wf = true) (A2 : Option Addr) (l : List HdR) (c2 : Nat) (_g2 : l.length ≤ c2) (_m2 : c2 ≤ maxLen) (hA : Hds w w.heap.size A2 l) : Calls Try.prog 3 #[.slice A ws.length c, .int .i64 b, .int .i64 e, .slice A2 l.length c2] w (TruP (.bool true) w) := by
  by_cases h : 400 < ws.length ∨ (¬ 400 < ws.length ∧ 60 < l.length)
  · exact splays_far w A A2 ws.length c l.length c2 b e h
  · by_cases ho : b < 0 ∨ (¬ b < 0 ∧ e < b) ∨ (¬ b < 0 ∧ ¬ e < b ∧ (ws.length : Int) < e)
    · exact splays_out w A A2 ws c l.length c2 hr (by omega) (by omega) b e ho
    · obtain ⟨b', rfl⟩ : ∃ k : Nat, b = (k : Int) := ⟨b.toNat, by omega⟩
      obtain ⟨e', rfl⟩ : ∃ k : Nat, e = (k : Int) := ⟨e.toNat, by omega⟩
      exact splays_ok w A ws c hr (by omega) A2 l c2 hA (by omega) b' e' (by omega) (by omega)
end Go.Proofs.Ytgjnencpdafkoaa
namespace Go.Proofs.Ytgjnencpdafkoaa.spacePlays
open Go.ChangeShapes Go.WideShapes Go.ChangeAt Go.RowKit
open Go.ChangeMaps (open_string shut_string)
set_option linter.unusedVariables false
set_option maxRecDepth 100000 in
theorem lifted (os : Os) (started : os.Started) (H : Type) (enc : TypeId × Value → H) :
    ReturnsInHanded {} Try.checked os 3 .any (Rows.spacePlaysSpec.pre6 enc Try.prog Try.f3 Rows.spacePlaysRow.domain false) (Rows.spacePlaysSpec.post enc Try.prog Try.f3 false true false false) := by
  refine returnsInHanded_of_change (C := Try.checked) own started (by kernel_rfl) Try.func3
    (ChangeSpec.witness6 (enc := enc) (C := Try.checked) false ⟨#[], #[.slice none 0 0, .int .i64 0, .int .i64 0, .slice none 0 0], []⟩ 8 (by kernel_rfl) (by kernel_rfl) (by kernel_rfl) (by kernel_rfl)) ?_
  intro W base args ds gs before hval0 hW hcnd _
  have hval : ∀ (j : Nat) t v, Try.f3.params[j]? = some t → args[j]? = some v → Value.okWide Try.prog W .any base t v := hval0
  have hW' := hW
  obtain ⟨p, q, hA0, hV, rfl, hfz, hnd⟩ := hW
  have hA : DataW.TrodAll enc Try.prog W 0 (fun _ => true) true Try.f3.params.toList args.toList ds p := hA0
  rw [Try.params3] at hA hval
  obtain ⟨v0, vs0, d0, ds0, p0, q0, hargs, rfl, rfl, h0, r0⟩ := trodAll_cons hA
  obtain ⟨v1, vs1, d1, ds1, p1, q1, rfl, rfl, rfl, h1, r1⟩ := trodAll_cons r0
  obtain ⟨v2, vs2, d2, ds2, p2, q2, rfl, rfl, rfl, h2, r2⟩ := trodAll_cons r1
  obtain ⟨v3, vs3, d3, ds3, p3, q3, rfl, rfl, rfl, h3, r3⟩ := trodAll_cons r2
  obtain ⟨rfl, rfl, rfl⟩ := trodAll_nil r3
  obtain rfl : args = #[v0, v1, v2, v3] := by cases args; simp_all
  obtain ⟨rfl, rfl⟩ := trodVars_none hV
  have k0 := h0
  have lt0 : ∀ x ∈ p0, x.block < W.heap.size := by obtain ⟨m, hm⟩ := k0; exact DataW.trod_lt m _ _ _ hm
  obtain ⟨A0, a0, c0, e0v, g0, m0, w0⟩ := open_words Try.underlying22 Try.underlying54 (by kernel_rfl) (hval 0 22 v0 rfl rfl) h0; subst e0v
  have k1 := h1
  have lt1 : ∀ x ∈ p1, x.block < W.heap.size := by obtain ⟨m, hm⟩ := k1; exact DataW.trod_lt m _ _ _ hm
  obtain ⟨a1, e1v, _, _, w1⟩ := open_int Try.underlying3 (hval 1 3 v1 rfl rfl) h1; subst e1v
  have k2 := h2
  have lt2 : ∀ x ∈ p2, x.block < W.heap.size := by obtain ⟨m, hm⟩ := k2; exact DataW.trod_lt m _ _ _ hm
  obtain ⟨a2, e2v, _, _, w2⟩ := open_int Try.underlying3 (hval 2 3 v2 rfl rfl) h2; subst e2v
  have k3 := h3
  have lt3 : ∀ x ∈ p3, x.block < W.heap.size := by obtain ⟨m, hm⟩ := k3; exact DataW.trod_lt m _ _ _ hm
  obtain ⟨A3, a3, c3, e3v, g3, m3, w3⟩ := open_rows_Head (hval 3 23 v3 rfl rfl) h3; subst e3v
  clear hA0 hval0
  refine (splays_walk W A0 a0 c0 g0 m0 w0 a1 w1 a2 w2 A3 a3 c3 g3 m3 w3).mono fun e W' ⟨he, bel⟩ => ?_
  subst he
  exact ⟨_, rfl, _, _, _, [], _, [], hW', trodAll_mk1 (shut_bool Try.underlying4 _), (trodAll_cons_mk (Below.trod laidOut (by kernel_rfl) (of_decide_eq_true (by kernel_rfl)) k0 bel lt0) (trodAll_cons_mk (Below.trod laidOut (by kernel_rfl) (of_decide_eq_true (by kernel_rfl)) k1 bel lt1) (trodAll_cons_mk (Below.trod laidOut (by kernel_rfl) (of_decide_eq_true (by kernel_rfl)) k2 bel lt2) (trodAll_cons_mk (Below.trod laidOut (by kernel_rfl) (of_decide_eq_true (by kernel_rfl)) k3 bel lt3) trodAll_mk0)))), rfl, bel.frame _, fun h => by cases h⟩
theorem over : Rows.spacePlaysRow.holds Try.pinned (OpenSpec.ofChange Rows.spacePlaysSpec) :=
  OpenClaim.holds_of_wide 3 Try.f3 rfl rfl rfl rfl rfl rfl rfl ⟨rfl, rfl, rfl, rfl, rfl⟩ rfl rfl rfl rfl rfl (by kernel_rfl) Try.func3 (by kernel_rfl)
    (of_decide_eq_true (by kernel_rfl)) (by unfold Func.isWrapper; first | (rw [if_pos (by decide +kernel)]; kernel_rfl) | (rw [if_neg (by decide +kernel)]; exact ⟨rfl, rfl⟩))
    (fun os started H enc _ => lifted os started H enc)
theorem proved : Rows.SpacePlaysSaid := over
end Go.Proofs.Ytgjnencpdafkoaa.spacePlays
