/- The law CodeBack of layer 5 returns true for every argument. No conditions. -/
import Derived.Test.YteefcimepdbehaaCodI
import Derived.Test.YteefcimepdbehaaFrame
import Derived.Deep.RegionHeld3
import Derived.Deep.RegionWith
namespace Go.Proofs.Yteefcimepdbehaa
set_option linter.unusedVariables false
set_option linter.unusedSimpArgs false
open Go.RowKit
set_option maxHeartbeats 2000000
set_option maxRecDepth 100000
theorem few_far (w : World) (A : Option Addr) (n c : Nat) (h : 60 < n) : Calls Try.prog 16 #[.slice A n c] w (RetP (.bool false) w) := by
  have t1 : decide ((60 : Int) < (n : Int)) = true := by simp; omega
  clear h
  go_enter Try.func16, Try.ntmps16
  go_wp2_with fail
  go_ret
  exact ⟨rfl, Below.refl _ _⟩
theorem back_no (w : World) (A : Option Addr) (n c : Nat) (h : ∀ W, Below w.heap.size w W → Calls Try.prog 16 #[.slice A n c] W (RetP (.bool false) W)) : Calls Try.prog 3 #[.slice A n c] w (TruP (.bool true) w) := by
  have HF := Lib.hid h
  clear h
  go_enter Try.func3, Try.ntmps3
  go_wp2_with fail
  refine Calls.mono (known5_c _) ?_
  rintro e w1 ⟨rfl, b1⟩
  have HB1 := Lib.hid b1
  clear b1
  go_wp2_with fail
  refine Calls.mono (HF.out w1 HB1.out) ?_
  rintro e w2 ⟨rfl, b2⟩
  have HB2 := Lib.hid (HB1.out.trans (b2.mono HB1.out.size))
  clear b2
  go_wp2_with fail
  go_ret
  exact ⟨rfl, HB2.out⟩
theorem back_ok (w : World) (A : Option Addr) (l : List Itm) (c : Nat) (hI : Its w w.heap.size A l) (hl : l.length ≤ 60) (hf : fewI l = true) : Calls Try.prog 3 #[.slice A l.length c] w (TruP (.bool true) w) := by
  have HFew := Lib.hid (fun W (hb : Below w.heap.size w W) => few_c W A l c (fun k hk => by
    obtain ⟨ad, e, m⟩ := (hI.below hb) k hk
    have hs := hb.size
    exact ⟨ad, e, Nat.lt_of_lt_of_le m.blk hs, m.op, m.u, m.i, m.b, m.w, m.bbc, m.wwc, m.br.more hs, m.wr.more hs⟩) hl)
  rw [hf] at HFew
  have HI := Lib.hid hI
  have HF := Lib.hid hf
  obtain ⟨N, hN⟩ : ∃ N, N = l.length := ⟨_, rfl⟩
  rw [← hN] at HFew ⊢
  have q0 : (N : Int) ≤ 60 := by omega
  have HN := Lib.hid hN
  clear hI hl hf hN
  go_enter Try.func3, Try.ntmps3
  go_wp2_with fail
  refine Calls.mono (known5_c _) ?_
  rintro e w1 ⟨rfl, b1⟩
  have HB1 := Lib.hid b1
  clear b1
  go_wp2_with fail
  refine Calls.mono (HFew.out w1 HB1.out) ?_
  rintro e w2 ⟨rfl, b2⟩
  have HB2 := Lib.hid (HB1.out.trans (b2.mono HB1.out.size))
  clear b2 HFew HB1
  go_wp2_with fail
  have hS : BackS w2 w2.heap.size w2.heap.size (.slice none 0 0) [] [] (w2.alloc (.cells #[.slice none 0 0] 28)) :=
    ⟨.slice none 0 0, ⟨Bk.new w2 _ _, Nat.le_refl _, Ow.nil_ _ _ _ _, by intro h; cases h⟩, Ow.nil_ _ _ _ _, (by intro q h; cases h), (Below.refl _ _).alloc (Nat.le_refl _) _⟩
  have HS := Lib.hid hS
  clear hS
  go_loopw [4, 5] (fun t i wr => ∃ k : Nat, k ≤ N ∧ i = .int .i64 k ∧ BackS w2 w2.heap.size w2.heap.size t (flatI (l.take k)) (flatI (l.take k)) wr) (fun _ i _ => N - (intOf i).toNat)
  case atStart => exact ⟨0, by omega, rfl, HS.out⟩
  case round =>
    obtain ⟨k, hk, rfl, hb⟩ := hrel
    have hBw : Below w.heap.size w wr := by
      obtain ⟨_, _, _, _, h⟩ := hb
      exact HB2.out.trans (h.mono HB2.out.size)
    have HBK := Lib.hid hb
    have HBW := Lib.hid hBw
    clear hb hBw
    by_cases hlt : k < N
    · have p1 : (0 : Int) ≤ (k : Int) := by omega
      have p2 : (k : Int) < (N : Int) := by omega
      have hlw : k < l.length := by rw [← HN.out]; exact hlt
      have hflen : (flatI (l.take k)).length ≤ 60000 := by
        have h := flatI_len (l.take k) (fewI_take HF.out k)
        rw [List.length_take] at h
        have : l.length ≤ 60 := by rw [← HN.out]; omega
        omega
      have hsn := flatI_snoc l k hlw
      have hfew := fewI_out HF.out k hlw
      have HM0 := Lib.hid (fun W (h : Below w.heap.size w W) => (HI.out.below h) k hlw)
      obtain ⟨ad, rfl, hm0⟩ := HM0.out w (Below.refl _ _)
      have HM := Lib.hid (fun W (h : Below w.heap.size w W) => show ItmAt W w.heap.size ad k l[k] from by
        obtain ⟨ad2, e, m⟩ := HM0.out W h
        injection e with e
        subst e
        exact m)
      clear hm0 HM0
      obtain ⟨x, hx⟩ : ∃ x, x = l[k] := ⟨_, rfl⟩
      rw [← hx] at HM hsn hfew
      have HFL := Lib.hid hflen
      have HSN := Lib.hid hsn
      have HFW := Lib.hid hfew
      obtain ⟨es, hes⟩ : ∃ es, es = flatI (l.take k) := ⟨_, rfl⟩
      rw [← hes] at HBK HFL HSN
      obtain ⟨op, u, i, ba, bb, bc, wa, ww, wc⟩ := x
      have c0 := (HM.out wr HBW.out).op
      dsimp only at c0
      clear hx hlw hflen hsn hfew hes
      rcases (show op = 1 ∨ op = 2 ∨ op = 3 ∨ op = 4 ∨ (¬ op = 1 ∧ ¬ op = 2 ∧ ¬ op = 3 ∧ ¬ op = 4) by omega) with rfl | rfl | rfl | rfl | ⟨n1, n2, n3, n4⟩
      · have c1 := (HM.out wr HBW.out).u
        dsimp only at c1
        go_wp2_with fail
        refine Calls.mono (BackS.uint u HBK.out (by have := HFL.out; omega)) ?_
        rintro e w3 ⟨rfl, b3⟩
        have hbw3 : Below w.heap.size w w3 := by
          obtain ⟨_, _, _, _, h⟩ := b3
          exact HB2.out.trans (h.mono HB2.out.size)
        have c1 := (HM.out w3 hbw3).u
        dsimp only at c1
        have B3 := Lib.hid b3
        have BW3 := Lib.hid hbw3
        clear b3 hbw3
        go_wp2_with fail
        refine Calls.mono (ref_uint w3 u) ?_
        rintro e w4 ⟨A4, c4, rfl, hc4, ho4, hb4⟩
        have b4 := B3.out.below hb4
        obtain ⟨v4, he4, ho4b, ha4, hB4⟩ := b4
        have B4 : Hid (BackS w2 w2.heap.size w2.heap.size u4 (es ++ uintL u) es w4) := Lib.hid ⟨v4, he4, ho4b, ha4, hB4⟩
        have hsz4 := hB4.size
        have R4 := ho4.rd
        have hlen : es.length + (uintL u).length ≤ 4294967296 := by
          have h1 := HFL.out
          have h2 := itmL_len ⟨1, u, i, ba, bb, bc, wa, ww, wc⟩ HFW.out.1 HFW.out.2
          have h3 : itmL ⟨1, u, i, ba, bb, bc, wa, ww, wc⟩ = uintL u := rfl
          rw [h3] at h2
          omega
        have LEN := Lib.hid hlen
        have SZ := Lib.hid hsz4
        clear hlen hsz4 he4 ha4 hB4 B3
        go_wp2_with (at_builtin; refine wp_app one8 b8_one rfl (.tmp 36) (.tmp 42) rfl w2.heap.size _ es rfl ho4b A4 _ c4 (uintL u) rfl rfl w4.heap.size R4 LEN.out (by decide) SZ.out ?_; intro v5 w5 ho5 hb5 hg5 hv5)
        have B5 := Lib.hid (B4.out.app ho5 hg5 hv5 hb5)
        clear ho5 hb5 hg5 hv5 B4 R4 ho4 ho4b
        go_roundw
        case rel => exact ⟨k + 1, by omega, by go_num, by rw [HSN.out]; exact B5.out⟩
        case measure => (first | (simp [intOf]; done) | (simp [intOf]; omega))
      · have c1 := (HM.out wr HBW.out).i
        dsimp only at c1
        go_wp2_with fail
        refine Calls.mono (BackS.int i HBK.out (by have := HFL.out; omega)) ?_
        rintro e w3 ⟨rfl, b3⟩
        have hbw3 : Below w.heap.size w w3 := by
          obtain ⟨_, _, _, _, h⟩ := b3
          exact HB2.out.trans (h.mono HB2.out.size)
        have c1 := (HM.out w3 hbw3).i
        dsimp only at c1
        have B3 := Lib.hid b3
        have BW3 := Lib.hid hbw3
        clear b3 hbw3
        go_wp2_with fail
        refine Calls.mono (ref_zig w3 i) ?_
        rintro e w5z ⟨rfl, bz⟩
        have B3 := Lib.hid (B3.out.below bz)
        go_wp2_with fail
        refine Calls.mono (ref_uint w5z (zigL i)) ?_
        rintro e w4 ⟨A4, c4, rfl, hc4, ho4, hb4⟩
        have b4 := B3.out.below hb4
        obtain ⟨v4, he4, ho4b, ha4, hB4⟩ := b4
        have B4 : Hid (BackS w2 w2.heap.size w2.heap.size u4 (es ++ uintL (zigL i)) es w4) := Lib.hid ⟨v4, he4, ho4b, ha4, hB4⟩
        have hsz4 := hB4.size
        have R4 := ho4.rd
        have hlen : es.length + (uintL (zigL i)).length ≤ 4294967296 := by
          have h1 := HFL.out
          have h2 := itmL_len ⟨2, u, i, ba, bb, bc, wa, ww, wc⟩ HFW.out.1 HFW.out.2
          have h3 : itmL ⟨2, u, i, ba, bb, bc, wa, ww, wc⟩ = uintL (zigL i) := rfl
          rw [h3] at h2
          omega
        have LEN := Lib.hid hlen
        have SZ := Lib.hid hsz4
        clear hlen hsz4 he4 ha4 hB4 B3
        go_wp2_with (at_builtin; refine wp_app one8 b8_one rfl (.tmp 53) (.tmp 60) rfl w2.heap.size _ es rfl ho4b A4 _ c4 (uintL (zigL i)) rfl rfl w4.heap.size R4 LEN.out (by decide) SZ.out ?_; intro v5 w5 ho5 hb5 hg5 hv5)
        have B5 := Lib.hid (B4.out.app ho5 hg5 hv5 hb5)
        clear ho5 hb5 hg5 hv5 B4 R4 ho4 ho4b
        go_roundw
        case rel => exact ⟨k + 1, by omega, by go_num, by rw [HSN.out]; exact B5.out⟩
        case measure => (first | (simp [intOf]; done) | (simp [intOf]; omega))
      · have c1 := (HM.out wr HBW.out).b
        dsimp only at c1
        have r1 := (HM.out wr HBW.out).br
        dsimp only at r1
        go_wp2_with fail
        refine Calls.mono (BackS.raw ba bc bb HBK.out (r1.more HB2.out.size) (by have := HFL.out; omega) (by have := HFW.out.1; omega)) ?_
        rintro e w3 ⟨rfl, b3⟩
        have hbw3 : Below w.heap.size w w3 := by
          obtain ⟨_, _, _, _, h⟩ := b3
          exact HB2.out.trans (h.mono HB2.out.size)
        have c1 := (HM.out w3 hbw3).b
        dsimp only at c1
        have B3 := Lib.hid b3
        have BW3 := Lib.hid hbw3
        clear b3 hbw3
        go_wp2_with fail
        refine Calls.mono (ref_raw w3 ba bc bb ((HM.out w3 BW3.out).br.more BW3.out.size) (by have := HFW.out.1; omega)) ?_
        rintro e w4 ⟨A4, c4, rfl, hc4, ho4, hb4⟩
        have b4 := B3.out.below hb4
        obtain ⟨v4, he4, ho4b, ha4, hB4⟩ := b4
        have B4 : Hid (BackS w2 w2.heap.size w2.heap.size u4 (es ++ (uintL (BitVec.ofNat 64 bb.length) ++ bb)) es w4) := Lib.hid ⟨v4, he4, ho4b, ha4, hB4⟩
        have hsz4 := hB4.size
        have R4 := ho4.rd
        have hlen : es.length + ((uintL (BitVec.ofNat 64 bb.length) ++ bb)).length ≤ 4294967296 := by
          have h1 := HFL.out
          have h2 := itmL_len ⟨3, u, i, ba, bb, bc, wa, ww, wc⟩ HFW.out.1 HFW.out.2
          have h3 : itmL ⟨3, u, i, ba, bb, bc, wa, ww, wc⟩ = (uintL (BitVec.ofNat 64 bb.length) ++ bb) := rfl
          rw [h3] at h2
          omega
        have LEN := Lib.hid hlen
        have SZ := Lib.hid hsz4
        clear hlen hsz4 he4 ha4 hB4 B3
        go_wp2_with (at_builtin; refine wp_app one8 b8_one rfl (.tmp 71) (.tmp 77) rfl w2.heap.size _ es rfl ho4b A4 _ c4 ((uintL (BitVec.ofNat 64 bb.length) ++ bb)) rfl (by first | rfl | simp) w4.heap.size R4 LEN.out (by decide) SZ.out ?_; intro v5 w5 ho5 hb5 hg5 hv5)
        have B5 := Lib.hid (B4.out.app ho5 hg5 hv5 hb5)
        clear ho5 hb5 hg5 hv5 B4 R4 ho4 ho4b
        go_roundw
        case rel => exact ⟨k + 1, by omega, by go_num, by rw [HSN.out]; exact B5.out⟩
        case measure => (first | (simp [intOf]; done) | (simp [intOf]; omega))
      · have c1 := (HM.out wr HBW.out).w
        dsimp only at c1
        have r1 := (HM.out wr HBW.out).wr
        dsimp only at r1
        go_wp2_with fail
        refine Calls.mono (BackS.words wa wc ww HBK.out (r1.more HB2.out.size) (by have := HFL.out; omega) (by have := HFW.out.2; omega)) ?_
        rintro e w3 ⟨rfl, b3⟩
        have hbw3 : Below w.heap.size w w3 := by
          obtain ⟨_, _, _, _, h⟩ := b3
          exact HB2.out.trans (h.mono HB2.out.size)
        have c1 := (HM.out w3 hbw3).w
        dsimp only at c1
        have B3 := Lib.hid b3
        have BW3 := Lib.hid hbw3
        clear b3 hbw3
        go_wp2_with fail
        refine Calls.mono (ref_words w3 wa wc ww ((HM.out w3 BW3.out).wr.more BW3.out.size) (by have := HFW.out.2; omega)) ?_
        rintro e w4 ⟨A4, c4, rfl, hc4, ho4, hb4⟩
        have b4 := B3.out.below hb4
        obtain ⟨v4, he4, ho4b, ha4, hB4⟩ := b4
        have B4 : Hid (BackS w2 w2.heap.size w2.heap.size u4 (es ++ wordsL ww) es w4) := Lib.hid ⟨v4, he4, ho4b, ha4, hB4⟩
        have hsz4 := hB4.size
        have R4 := ho4.rd
        have hlen : es.length + (wordsL ww).length ≤ 4294967296 := by
          have h1 := HFL.out
          have h2 := itmL_len ⟨4, u, i, ba, bb, bc, wa, ww, wc⟩ HFW.out.1 HFW.out.2
          have h3 : itmL ⟨4, u, i, ba, bb, bc, wa, ww, wc⟩ = wordsL ww := rfl
          rw [h3] at h2
          omega
        have LEN := Lib.hid hlen
        have SZ := Lib.hid hsz4
        clear hlen hsz4 he4 ha4 hB4 B3
        go_wp2_with (at_builtin; refine wp_app one8 b8_one rfl (.tmp 88) (.tmp 94) rfl w2.heap.size _ es rfl ho4b A4 _ c4 (wordsL ww) rfl rfl w4.heap.size R4 LEN.out (by decide) SZ.out ?_; intro v5 w5 ho5 hb5 hg5 hv5)
        have B5 := Lib.hid (B4.out.app ho5 hg5 hv5 hb5)
        clear ho5 hb5 hg5 hv5 B4 R4 ho4 ho4b
        go_roundw
        case rel => exact ⟨k + 1, by omega, by go_num, by rw [HSN.out]; exact B5.out⟩
        case measure => (first | (simp [intOf]; done) | (simp [intOf]; omega))
      · have e1 : (op == 1) = false := by simp [n1]
        have e2 : (op == 2) = false := by simp [n2]
        have e3 : (op == 3) = false := by simp [n3]
        have e4 : (op == 4) = false := by simp [n4]
        have hi : itmL ⟨op, u, i, ba, bb, bc, wa, ww, wc⟩ = [] := by
          unfold itmL
          dsimp only
          rw [if_neg n1, if_neg n2, if_neg n3, if_neg n4]
        have HIT := Lib.hid hi
        clear hi n1 n2 n3 n4
        go_wp2_with fail
        go_roundw
        case rel => exact ⟨k + 1, by omega, by go_num, by rw [HSN.out, HIT.out, List.append_nil]; exact HBK.out⟩
        case measure => (first | (simp [intOf]; done) | (simp [intOf]; omega))
    · have hkk : k = N := by omega
      have hk2 : k = l.length := by rw [hkk]; exact HN.out
      obtain ⟨v, he, ho, ha, hB⟩ := HBK.out
      rw [hk2, List.take_length] at he ho
      have hfl : (flatI l).length ≤ 60000 := by
        have h := flatI_len l HF.out
        have : l.length ≤ 60 := by rw [← HN.out]; omega
        omega
      obtain ⟨es, hes⟩ : ∃ es, es = flatI l := ⟨_, rfl⟩
      rw [← hes] at he ho hfl
      have hF : flatI (l.drop 0) = es := by rw [List.drop_zero]; exact hes.symm
      have HES := Lib.hid hF
      obtain ⟨A4, n4, e4, hn4⟩ := ho.form
      subst e4
      obtain ⟨A3, n3, e3, hn3⟩ := he.row.form
      subst e3
      have HER : Hid (EncR w2.heap.size es wr) := Lib.hid ⟨A3, n3, he.blk, he.row.rd⟩
      have HRD := Lib.hid ho.rd
      have HFL := Lib.hid hfl
      clear hkk hk2 he ho ha hB hfl hes hF hn4 hn3
      go_wp2_with fail
      refine bytes_r _ _ _ w2.heap.size n4 A4 es HER.out HRD.out (by have := HFL.out; omega) rfl rfl rfl ?_
      intro vals w3 hG h101
      unfold IsV at h101
      simp only [putD, Act.put, List.setIfInBounds_toArray, List.set_cons_zero, List.set_cons_succ, h101]
      have HB3 := Lib.hid (HBW.out.trans (hG.mono HBW.out.size))
      have HO := Lib.hid (of_c es A4 n4 w3 ((HRD.out.below hG).more hG.size) (by have := HFL.out; omega))
      clear h101 hG HER HRD HBW HBK HS
      go_wp2_with fail
      refine Calls.mono HO.out ?_
      rintro e w4 ⟨d, rfl, hd1, hd2, hd, hb4⟩
      have HB4 := Lib.hid (HB3.out.trans (hb4.mono HB3.out.size))
      have HD4 : Hid (DecAt w4 d (flatI (l.drop 0)) 0) := Lib.hid (by rw [HES.out]; exact hd)
      have HDW : Hid (w.heap.size ≤ d) := Lib.hid (by have := HB3.out.size; omega)
      clear hd1 hd2 hd hb4 HO HB3
      go_wp2_with fail
      go_loopw [7, 8] (fun i _ wr => ∃ k : Nat, k ≤ N ∧ i = .int .i64 k ∧ DecAt wr d (flatI (l.drop k)) 0 ∧ Below w.heap.size w wr) (fun i _ _ => N - (intOf i).toNat)
      case atStart => exact ⟨0, by omega, rfl, HD4.out, HB4.out⟩
      case round =>
        obtain ⟨k, hk, rfl, hd, hBw⟩ := hrel
        by_cases hlt : k < N
        · have p1 : (0 : Int) ≤ (k : Int) := by omega
          have p2 : (k : Int) < (N : Int) := by omega
          have hlw : k < l.length := by rw [← HN.out]; exact hlt
          have hcons := flatI_cons l k hlw
          have hfew := fewI_out HF.out k hlw
          have hrl : (flatI (l.drop (k + 1))).length ≤ 60000 := by
            have h := flatI_len (l.drop (k + 1)) (fewI_drop HF.out (k + 1))
            rw [List.length_drop] at h
            have : l.length ≤ 60 := by rw [← HN.out]; omega
            omega
          have HM0 := Lib.hid (fun W (h : Below w.heap.size w W) => (HI.out.below h) k hlw)
          obtain ⟨ad, rfl, hm0⟩ := HM0.out w (Below.refl _ _)
          have HM := Lib.hid (fun W (h : Below w.heap.size w W) => show ItmAt W w.heap.size ad k l[k] from by
            obtain ⟨ad2, e, m⟩ := HM0.out W h
            injection e with e
            subst e
            exact m)
          clear hm0 HM0
          obtain ⟨x, hx⟩ : ∃ x, x = l[k] := ⟨_, rfl⟩
          rw [← hx] at HM hcons hfew
          rw [hcons] at hd
          obtain ⟨rest, hrest⟩ : ∃ r, r = flatI (l.drop (k + 1)) := ⟨_, rfl⟩
          rw [← hrest] at hd hrl
          have HRest := Lib.hid hrest
          have HRL := Lib.hid hrl
          have HFW := Lib.hid hfew
          have HBW := Lib.hid hBw
          obtain ⟨op, u, i, ba, bb, bc, wa, ww, wc⟩ := x
          have c0 := (HM.out wr HBW.out).op
          dsimp only at c0
          have HD := Lib.hid hd
          clear hx hlw hcons hfew hrl hrest hBw hd
          rcases (show op = 1 ∨ op = 2 ∨ op = 3 ∨ op = 4 ∨ (¬ op = 1 ∧ ¬ op = 2 ∧ ¬ op = 3 ∧ ¬ op = 4) by omega) with rfl | rfl | rfl | rfl | ⟨n1, n2, n3, n4⟩
          · have K := Lib.hid (fun W (h : DecAt W d (uintL u ++ rest) 0) => dec_u W d u rest h (by have := HRL.out; omega))
            have hd0 : Hid (DecAt wr.drew d (uintL u ++ rest) 0) := Lib.hid (DecAt.below HD.out (Below.refl _ _).drew)
            have hS : wr.cell? ⟨(ad.add (k * 5)).block, (ad.add (k * 5)).off + 1, none⟩ = some (.int .u64 (U64 u)) := (HM.out wr HBW.out).u
            have HBD := Lib.hid (show ∀ W, Only wr.drew W d → Below w.heap.size w W from fun W h => (HBW.out.drew).trans (h.below HDW.out HD.out.lt))
            have HC := Lib.hid (show ∀ W, Only wr.drew W d → W.cell? ⟨(ad.add (k * 5)).block, (ad.add (k * 5)).off + 1, none⟩ = some (.int .u64 (U64 u)) from fun W h => (HM.out W (HBD.out W h)).u)
            go_wp2_with fail
            go_region_held3 (fun w' => w'.cell? ⟨(ad.add (k * 5)).block, (ad.add (k * 5)).off + 1, none⟩ = some (.int .u64 (U64 u)))
              (first
                | with_reducible assumption
                | exact hS
                | exact HC.out _ ho5)
              (first
                | (go_at_call 27; refine Calls.mono (K.out wr.drew hd0.out) ?_; rintro e w5 ⟨rfl, hd5, ho5⟩))
            all_goals
              have HD5 := Lib.hid hd5
              have HB5 := Lib.hid (HBD.out _ ho5)
              clear hd5 ho5
              go_wp2_with fail
              go_roundw
              case rel => exact ⟨k + 1, by omega, by go_num, by rw [← HRest.out]; exact HD5.out, HB5.out⟩
              case measure => (first | (simp [intOf]; done) | (simp [intOf]; omega))
          · have K := Lib.hid (fun W (h : DecAt W d (uintL (zigL i) ++ rest) 0) => dec_i W d i rest h (by have := HRL.out; omega))
            have hd0 : Hid (DecAt wr.drew d (uintL (zigL i) ++ rest) 0) := Lib.hid (DecAt.below HD.out (Below.refl _ _).drew)
            have hS : wr.cell? ⟨(ad.add (k * 5)).block, (ad.add (k * 5)).off + 2, none⟩ = some (.int .i64 (I64 i)) := (HM.out wr HBW.out).i
            have HBD := Lib.hid (show ∀ W, Only wr.drew W d → Below w.heap.size w W from fun W h => (HBW.out.drew).trans (h.below HDW.out HD.out.lt))
            have HC := Lib.hid (show ∀ W, Only wr.drew W d → W.cell? ⟨(ad.add (k * 5)).block, (ad.add (k * 5)).off + 2, none⟩ = some (.int .i64 (I64 i)) from fun W h => (HM.out W (HBD.out W h)).i)
            go_wp2_with fail
            go_region_held3 (fun w' => w'.cell? ⟨(ad.add (k * 5)).block, (ad.add (k * 5)).off + 2, none⟩ = some (.int .i64 (I64 i)))
              (first
                | with_reducible assumption
                | exact hS
                | exact HC.out _ ho5)
              (first
                | (go_at_call 28; refine Calls.mono (K.out wr.drew hd0.out) ?_; rintro e w5 ⟨rfl, hd5, ho5⟩))
            all_goals
              have HD5 := Lib.hid hd5
              have HB5 := Lib.hid (HBD.out _ ho5)
              clear hd5 ho5
              go_wp2_with fail
              go_roundw
              case rel => exact ⟨k + 1, by omega, by go_num, by rw [← HRest.out]; exact HD5.out, HB5.out⟩
              case measure => (first | (simp [intOf]; done) | (simp [intOf]; omega))
          · have K := Lib.hid (fun W (h : DecAt W d ((uintL (BitVec.ofNat 64 bb.length) ++ bb) ++ rest) 0) => dec_r W d bb rest h (by have := HRL.out; have h5 : bb.length ≤ 500 := HFW.out.1; rw [List.length_append]; omega))
            have hd0 : Hid (DecAt wr.drew d ((uintL (BitVec.ofNat 64 bb.length) ++ bb) ++ rest) 0) := Lib.hid (DecAt.below HD.out (Below.refl _ _).drew)
            have HBD := Lib.hid (show ∀ W, Only wr.drew W d → Below w.heap.size w W from fun W h => (HBW.out.drew).trans (h.below HDW.out HD.out.lt))
            have HC := Lib.hid (show ∀ W, Below w.heap.size w W → (W.cell? ⟨(ad.add (k * 5)).block, (ad.add (k * 5)).off + 3, none⟩ = some (.slice ba bb.length bc) ∧ (convert 26 9 (.slice ba bb.length bc)).run Try.prog W = .ok (.string (strB bb)) W) from fun W h => ⟨(HM.out W h).b, str_conv bb ba bc _ W (HM.out W h).br⟩)
            have hS := HC.out wr.drew HBW.out.drew
            obtain ⟨hs1, hs2⟩ := hS
            have HQ := Lib.hid (fun W A c (h : Rd b8 W W.heap.size A bb) => str_conv bb A c _ W h)
            go_wp2_with fail
            go_region_with
              (go_at_call 29; refine Calls.mono (K.out wr.drew hd0.out) ?_; rintro e w5 ⟨A9, c9, rfl, hr9, hd5, ho5, ha9⟩; have q9 := HQ.out w5 A9 c9 hr9; obtain ⟨hs3, hs4⟩ := HC.out w5 (HBD.out _ ho5))
            all_goals
              have HD5 := Lib.hid hd5
              have HB5 := Lib.hid (HBD.out _ ho5)
              clear hd5 ho5
              go_wp2_with fail
              go_roundw
              case rel => exact ⟨k + 1, by omega, by go_num, by rw [← HRest.out]; exact HD5.out, HB5.out⟩
              case measure => (first | (simp [intOf]; done) | (simp [intOf]; omega))
          · have K := Lib.hid (fun W (h : DecAt W d (wordsL ww ++ rest) 0) => dec_w W d ww rest h (by have := HRL.out; have h5 : ww.length ≤ 100 := HFW.out.2; rw [List.length_append, flatW_len]; omega))
            have hd0 : Hid (DecAt wr.drew d (wordsL ww ++ rest) 0) := Lib.hid (DecAt.below HD.out (Below.refl _ _).drew)
            have HBD := Lib.hid (show ∀ W, Only wr.drew W d → Below w.heap.size w W from fun W h => (HBW.out.drew).trans (h.below HDW.out HD.out.lt))
            have HC := Lib.hid (show ∀ W, Below w.heap.size w W → (W.cell? ⟨(ad.add (k * 5)).block, (ad.add (k * 5)).off + 4, none⟩ = some (.slice wa ww.length wc)) from fun W h => (HM.out W h).w)
            have hS := HC.out wr HBW.out
            have HWd := Lib.hid (fun W q (hq : Rd u64v W W.heap.size (some ⟨q, 0, none⟩) ww) (h : Below w.heap.size w W) => words_t W (some ⟨q, 0, none⟩) wa ww.length wc ww hq ((HM.out W h).wr.more h.size) (by have h5 : ww.length ≤ 100 := HFW.out.2; omega))
            go_wp2_with fail
            go_region_held3 (fun w' => w'.cell? ⟨(ad.add (k * 5)).block, (ad.add (k * 5)).off + 4, none⟩ = some (.slice wa ww.length wc))
              (first
                | with_reducible assumption
                | exact hS
                | exact HC.out _ (HBD.out _ ho5)
                | exact HC.out _ ((HBD.out _ ho5).trans (b6.mono (HBD.out _ ho5).size)))
              (first
                | (go_at_call 31; refine Calls.mono (K.out wr.drew hd0.out) ?_; rintro e w5 ⟨q9, rfl, hr9, hd5, ho5, ha9⟩)
                | (go_at_call 30; refine Calls.mono (HWd.out w5 q9 hr9 (HBD.out _ ho5)) ?_; rintro e w6 ⟨rfl, b6⟩))
            all_goals
              have HD5 := Lib.hid (hd5.below b6)
              have HB5 := Lib.hid ((HBD.out _ ho5).trans (b6.mono (HBD.out _ ho5).size))
              clear hd5 ho5 b6
              go_wp2_with fail
              go_roundw
              case rel => exact ⟨k + 1, by omega, by go_num, by rw [← HRest.out]; exact HD5.out, HB5.out⟩
              case measure => (first | (simp [intOf]; done) | (simp [intOf]; omega))
          · have e1 : (op == 1) = false := by simp [n1]
            have e2 : (op == 2) = false := by simp [n2]
            have e3 : (op == 3) = false := by simp [n3]
            have e4 : (op == 4) = false := by simp [n4]
            have hi : itmL ⟨op, u, i, ba, bb, bc, wa, ww, wc⟩ = [] := by
              unfold itmL
              dsimp only
              rw [if_neg n1, if_neg n2, if_neg n3, if_neg n4]
            have HIT := Lib.hid hi
            clear hi n1 n2 n3 n4
            go_wp2_with fail
            go_roundw
            case rel => exact ⟨k + 1, by omega, by go_num, by have h := HD.out; rw [HIT.out, List.nil_append] at h; rw [← HRest.out]; exact h, HBW.out⟩
            case measure => (first | (simp [intOf]; done) | (simp [intOf]; omega))
        · have hkk : k = N := by omega
          have hk2 : k = l.length := by rw [hkk]; exact HN.out
          rw [hk2, List.drop_length] at hd
          have HLf := Lib.hid (dec_left wr d _ 0 hd)
          have HEr := Lib.hid (dec_err wr d _ 0 hd)
          have HBW := Lib.hid hBw
          clear hkk hk2 hd hBw
          go_wp2_with fail
          refine Calls.mono HLf.out ?_
          rintro e w5 ⟨rfl, rfl⟩
          go_wp2_with fail
          refine Calls.mono HEr.out ?_
          rintro e w6 ⟨rfl, rfl⟩
          go_wp2_with fail
          go_ret
          exact ⟨rfl, HBW.out⟩
theorem back_walk (w : World) (A : Option Addr) (l : List Itm) (c : Nat) (_g : l.length ≤ c) (_m : c ≤ maxLen) (hI : Its w w.heap.size A l) : Calls Try.prog 3 #[.slice A l.length c] w (TruP (.bool true) w) := by
  by_cases hl : 60 < l.length
  · exact back_no w A l.length c (fun W _ => few_far W A l.length c hl)
  · cases hf : fewI l with
    | true => exact back_ok w A l c hI (by omega) hf
    | false =>
      refine back_no w A l.length c (fun W hb => ?_)
      have k := few_c W A l c (fun k hk => by
        obtain ⟨ad, e, m⟩ := (hI.below hb) k hk
        have hs := hb.size
        exact ⟨ad, e, Nat.lt_of_lt_of_le m.blk hs, m.op, m.u, m.i, m.b, m.w, m.bbc, m.wwc, m.br.more hs, m.wr.more hs⟩) (by omega)
      rw [hf] at k
      exact k
end Go.Proofs.Yteefcimepdbehaa
namespace Go.Proofs.Yteefcimepdbehaa.codeBack
open Go.ChangeShapes Go.WideShapes Go.ChangeAt Go.RowKit
open Go.ChangeMaps (open_string shut_string)
set_option linter.unusedVariables false
set_option maxRecDepth 100000 in
theorem lifted (os : Os) (started : os.Started) (H : Type) (enc : TypeId × Value → H) :
    ReturnsInHanded {} Try.checked os 3 .any (Rows.codeBackSpec.pre6 enc Try.prog Try.f3 Rows.codeBackRow.domain false) (Rows.codeBackSpec.post enc Try.prog Try.f3 false true false false) := by
  refine returnsInHanded_of_change (C := Try.checked) own started (by kernel_rfl) Try.func3
    (ChangeSpec.witness6 (enc := enc) (C := Try.checked) false ⟨#[], #[.slice none 0 0], []⟩ 8 (by kernel_rfl) (by kernel_rfl) (by kernel_rfl) (by kernel_rfl)) ?_
  intro W base args ds gs before hval0 hW hcnd _
  have hval : ∀ (j : Nat) t v, Try.f3.params[j]? = some t → args[j]? = some v → Value.okWide Try.prog W .any base t v := hval0
  have hW' := hW
  obtain ⟨p, q, hA0, hV, rfl, hfz, hnd⟩ := hW
  have hA : DataW.TrodAll enc Try.prog W 0 (fun _ => true) true Try.f3.params.toList args.toList ds p := hA0
  rw [Try.params3] at hA hval
  obtain ⟨v0, vs0, d0, ds0, p0, q0, hargs, rfl, rfl, h0, r0⟩ := trodAll_cons hA
  obtain ⟨rfl, rfl, rfl⟩ := trodAll_nil r0
  obtain rfl : args = #[v0] := by cases args; simp_all
  obtain ⟨rfl, rfl⟩ := trodVars_none hV
  have k0 := h0
  have lt0 : ∀ x ∈ p0, x.block < W.heap.size := by obtain ⟨m, hm⟩ := k0; exact DataW.trod_lt m _ _ _ hm
  obtain ⟨A0, a0, c0, e0v, g0, m0, w0⟩ := open_rows_Item (hval 0 22 v0 rfl rfl) h0; subst e0v
  clear hA0 hval0
  refine (back_walk W A0 a0 c0 g0 m0 w0).mono fun e W' ⟨he, bel⟩ => ?_
  subst he
  exact ⟨_, rfl, _, _, _, [], _, [], hW', trodAll_mk1 (shut_bool Try.underlying4 _), (trodAll_cons_mk (Below.trod laidOut (by kernel_rfl) (of_decide_eq_true (by kernel_rfl)) k0 bel lt0) trodAll_mk0), rfl, bel.frame _, fun h => by cases h⟩
theorem over : Rows.codeBackRow.holds Try.pinned (OpenSpec.ofChange Rows.codeBackSpec) :=
  OpenClaim.holds_of_wide 3 Try.f3 rfl rfl rfl rfl rfl rfl rfl ⟨rfl, rfl, rfl, rfl, rfl⟩ rfl rfl rfl rfl rfl (by kernel_rfl) Try.func3 (by kernel_rfl)
    (of_decide_eq_true (by kernel_rfl)) (by unfold Func.isWrapper; first | (rw [if_pos (by decide +kernel)]; kernel_rfl) | (rw [if_neg (by decide +kernel)]; exact ⟨rfl, rfl⟩))
    (fun os started H enc _ => lifted os started H enc)
theorem proved : Rows.CodeBackSaid := over
end Go.Proofs.Yteefcimepdbehaa.codeBack
