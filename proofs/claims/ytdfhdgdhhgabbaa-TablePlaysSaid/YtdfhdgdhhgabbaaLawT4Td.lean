/- The law TablePlays of layer 19 returns true for every argument. No conditions. -/
import Derived.Test.YtdfhdgdhhgabbaaTd2
import Derived.Deep.CutRange
import Derived.Deep.CutBlock
namespace Go.Proofs.Ytdfhdgdhhgabbaa
set_option linter.unusedVariables false
set_option linter.unusedSimpArgs false
open Go.RowKit Go.Maps
set_option maxHeartbeats 8000000
set_option maxRecDepth 100000
theorem eqRt (st : ByteArray) (z : Int) (W : World) : (Op.equalIn 10000 42 (.agg #[.string st, .int .i64 z]) (.agg #[.string st, .int .i64 z])).run Try.prog W = .ok true W := by
  go_simp
theorem t61 (Q : Exit → Act → World → Prop) (a0 : Act) (w : World) (q1 q2 j N c1 c2 : Nat) (st : ByteArray) (z : Int) (h1 : q1 < w.heap.size) (h2 : q2 < w.heap.size) (d1 : w.cell? ⟨q1, j * 2, none⟩ = some (.string st)) (d2 : w.cell? ⟨q1, j * 2 + 1, none⟩ = some (.int .i64 z)) (d3 : w.cell? ⟨q2, j * 2, none⟩ = some (.string st)) (d4 : w.cell? ⟨q2, j * 2 + 1, none⟩ = some (.int .i64 z)) (p1 : (0 : Int) ≤ (j : Int)) (p2 : (j : Int) < (N : Int)) (hsz : a0.tmps.size = 232) (sl22 : a0.tmps.getD 22 undef = .slice (some ⟨q1, 0, none⟩) N c1) (sl23 : a0.tmps.getD 23 undef = .slice (some ⟨q2, 0, none⟩) N c2) (sl24 : a0.tmps.getD 24 undef = .int .i64 j)
    (fin : ∀ (vals : Nat → Value) (w1 : World), Below w.heap.size w w1 → (IsV (.bool false)) (vals 8) w1 → Q .normal (putD vals [223, 224, 225, 226, 227, 228, 229, 230, 231] 0 a0) w1) :
    (Code.region 61 (regIn Try.f4 61) true).wp Try.prog Q a0 w := by
  refine region_by (G := fun w w1 => Below w.heap.size w w1) [IsV (.slice (some ⟨q1, 0, none⟩) N c1),
    IsV (.int .i64 j),
    IsV (.pointer (some ⟨q1, j * 2, none⟩)),
    IsV (.agg #[.string st, .int .i64 z]),
    IsV (.slice (some ⟨q2, 0, none⟩) N c2),
    IsV (.int .i64 j),
    IsV (.pointer (some ⟨q2, j * 2, none⟩)),
    IsV (.agg #[.string st, .int .i64 z]),
    IsV (.bool false)]
    [223, 224, 225, 226, 227, 228, 229, 230, 231] (by kernel_rfl) (Gw.drew _) Gw.trans (by rw [hsz]; kernel_rfl) (by kernel_rfl) ?_ ?_ ?_
  · intro f hf
    simp only [List.mem_cons, List.not_mem_nil, or_false] at hf
    rcases hf with rfl | rfl | rfl | rfl | rfl | rfl | rfl | rfl | rfl <;> intro v a b h g <;> first | exact IsV.mono h
  · refine ⟨?_, ?_, ?_, ?_, ?_, ?_, ?_, ?_, ?_, trivial⟩
    · exact owes_mv 22 (by kernel_rfl) (by kernel_rfl) (by kernel_rfl) sl22 (fun _ => rfl)
    · exact owes_mv 24 (by kernel_rfl) (by kernel_rfl) (by kernel_rfl) sl24 (fun _ => rfl)
    · refine owes_v (Go.Op.indexAddr 35 (Go.Operand.tmp 223) (Go.Operand.tmp 224)) 0 [0, 1] (by kernel_rfl) (by kernel_rfl) (by kernel_rfl) rfl fun vals w1 ρ hG hF hρ hcst hfun => ?_
      have e223 : ρ (.tmp 223) = .slice (some ⟨q1, 0, none⟩) N c1 := ((hρ 223).trans (slotJ [0, 1] (by rw [hsz]; decide) (by kernel_rfl))).trans (hF 0 (by decide))
      have e224 : ρ (.tmp 224) = .int .i64 j := ((hρ 224).trans (slotJ [0, 1] (by rw [hsz]; decide) (by kernel_rfl))).trans (hF 1 (by decide))
      clear hρ hF hcst hfun sl22 sl23 sl24 fin
      exact opv_val (by go_simp <;> rfl) ⟨gw_self _, rfl⟩
    · refine owes_v (Go.Op.load 42 (Go.Operand.tmp 225)) 42 [2] (by kernel_rfl) (by kernel_rfl) (by kernel_rfl) rfl fun vals w1 ρ hG hF hρ hcst hfun => ?_
      have e225 : ρ (.tmp 225) = .pointer (some ⟨q1, j * 2, none⟩) := ((hρ 225).trans (slotJ [2] (by rw [hsz]; decide) (by kernel_rfl))).trans (hF 2 (by decide))
      obtain ⟨j1, j2⟩ := And.intro ((hG.cell (p := ⟨q1, j * 2, none⟩) h1).trans d1) ((hG.cell (p := ⟨q1, j * 2 + 1, none⟩) h1).trans d2)
      clear hρ hF hcst hfun sl22 sl23 sl24 fin
      exact opv_val (by go_simp <;> rfl) ⟨gw_self _, rfl⟩
    · exact owes_mv 23 (by kernel_rfl) (by kernel_rfl) (by kernel_rfl) sl23 (fun _ => rfl)
    · exact owes_mv 24 (by kernel_rfl) (by kernel_rfl) (by kernel_rfl) sl24 (fun _ => rfl)
    · refine owes_v (Go.Op.indexAddr 35 (Go.Operand.tmp 227) (Go.Operand.tmp 228)) 0 [4, 5] (by kernel_rfl) (by kernel_rfl) (by kernel_rfl) rfl fun vals w1 ρ hG hF hρ hcst hfun => ?_
      have e227 : ρ (.tmp 227) = .slice (some ⟨q2, 0, none⟩) N c2 := ((hρ 227).trans (slotJ [4, 5] (by rw [hsz]; decide) (by kernel_rfl))).trans (hF 4 (by decide))
      have e228 : ρ (.tmp 228) = .int .i64 j := ((hρ 228).trans (slotJ [4, 5] (by rw [hsz]; decide) (by kernel_rfl))).trans (hF 5 (by decide))
      clear hρ hF hcst hfun sl22 sl23 sl24 fin
      exact opv_val (by go_simp <;> rfl) ⟨gw_self _, rfl⟩
    · refine owes_v (Go.Op.load 42 (Go.Operand.tmp 229)) 42 [6] (by kernel_rfl) (by kernel_rfl) (by kernel_rfl) rfl fun vals w1 ρ hG hF hρ hcst hfun => ?_
      have e229 : ρ (.tmp 229) = .pointer (some ⟨q2, j * 2, none⟩) := ((hρ 229).trans (slotJ [6] (by rw [hsz]; decide) (by kernel_rfl))).trans (hF 6 (by decide))
      obtain ⟨j1, j2⟩ := And.intro ((hG.cell (p := ⟨q2, j * 2, none⟩) h2).trans d3) ((hG.cell (p := ⟨q2, j * 2 + 1, none⟩) h2).trans d4)
      clear hρ hF hcst hfun sl22 sl23 sl24 fin
      exact opv_val (by go_simp <;> rfl) ⟨gw_self _, rfl⟩
    · refine owes_v (Go.Op.binOp Go.BinOp.neq 42 (Go.Operand.tmp 226) (Go.Operand.tmp 230) 42) 4 [3, 7] (by kernel_rfl) (by kernel_rfl) (by kernel_rfl) rfl fun vals w1 ρ hG hF hρ hcst hfun => ?_
      have e226 : ρ (.tmp 226) = .agg #[.string st, .int .i64 z] := ((hρ 226).trans (slotJ [3, 7] (by rw [hsz]; decide) (by kernel_rfl))).trans (hF 3 (by decide))
      have e230 : ρ (.tmp 230) = .agg #[.string st, .int .i64 z] := ((hρ 230).trans (slotJ [3, 7] (by rw [hsz]; decide) (by kernel_rfl))).trans (hF 7 (by decide))
      have j1 := eqRt st z
      clear hρ hF hcst hfun sl22 sl23 sl24 fin
      exact opv_val (by go_simp <;> rfl) ⟨gw_self _, rfl⟩
  · intro vals w1 hG hF
    exact fin vals w1 hG (hF 8 (by decide +kernel))
theorem filt_all {rl : Rw} {s : Nm} (h : s ∉ rl.map Prod.fst) : rl.filter (fun p => decide (p.1 ≠ s)) = rl := by
  rw [List.filter_eq_self]
  intro p hp
  simp only [decide_eq_true_eq]
  exact fun e => h (List.mem_map.2 ⟨p, hp, e⟩)
theorem tplays_far (w : World) (A : Option Addr) (n c : Nat) (h : 120 < n) : Calls Try.prog 4 #[.slice A n c] w (TruP (.bool true) w) := by
  go_enter Try.func4, Try.ntmps4
  go_wp2_with fail
  refine Calls.mono (known19_c _) ?_
  rintro e w1 ⟨rfl, b1⟩
  go_wp2_with fail
  go_ret
  exact ⟨rfl, b1⟩
theorem tplays_ok (w : World) (A : Option Addr) (l : List Na) (c : Nat) (hA : Nas w w.heap.size A l) (hl : l.length ≤ 120) : Calls Try.prog 4 #[.slice A l.length c] w (TruP (.bool true) w) := by
  have HA := Lib.hid hA
  obtain ⟨M, hM⟩ : ∃ M, M = l.length := ⟨_, rfl⟩
  rw [← hM]
  have HM := Lib.hid hM
  have q1 : (M : Int) ≤ 120 := by omega
  have u1 : ¬ (120 : Int) < (M : Int) := by omega
  clear hA hl hM
  go_enter Try.func4, Try.ntmps4
  go_wp2_with fail
  refine Calls.mono (known19_c _) ?_
  rintro e w0 ⟨rfl, b1⟩
  have HB0 := Lib.hid b1
  clear b1
  go_wp2_with fail
  go_loopw [3, 4, 5] (fun tv rv i W => ∃ (k g : Nat) (mb : Option Nat) (m : Tb) (rl : Rw), k ≤ M ∧ tv = .pointer (some ⟨g, 0, none⟩) ∧ i = .int .i64 k ∧ Hid (TpQ w0 W g mb m rv rl) ∧ Hid (TpI m rl)) (fun _ _ i _ => M - (Go.RowKit.intOf i).toNat)
  case atStart => exact ⟨0, w0.heap.size, none, [], [], by omega, rfl, rfl, Lib.hid ⟨⟨Bk.new w0 _ _, rfl, fun b e => (by cases e)⟩, TR.nil _ _, Nat.le_refl _, fun b e => (by cases e), fun q e => (by cases e), Gw.alloc w0 _⟩, Lib.hid TpI.nil⟩
  case round =>
    obtain ⟨k, g, mb, m, rl, hk, rfl, rfl, hq, hi⟩ := hrel
    obtain ⟨AR, cR, rfl, hcR, hmR⟩ := hq.out.rw.slice
    rw [sR_len] at hcR
    obtain ⟨N, hN⟩ : ∃ N, N = rl.length := ⟨_, rfl⟩
    rw [sR_len, ← hN] at hq ⊢
    rw [← hN] at hcR
    have HN := Lib.hid hN
    have qN : (N : Int) ≤ 64 := by have := hi.out.len; omega
    clear hN
    by_cases hlt : k < M
    · have p1 : (0 : Int) ≤ (k : Int) := by omega
      have p2 : (k : Int) < (M : Int) := by omega
      have hlw : k < l.length := by rw [← HM.out]; exact hlt
      obtain ⟨ad, rfl, mm⟩ := HA.out k hlw
      obtain ⟨x, hx⟩ : ∃ x, x = l[k] := ⟨_, rfl⟩
      rw [← hx] at mm
      obtain ⟨op, nm, tz⟩ := x
      have mm2 := mm.below (HB0.out.trans (hq.out.old.mono HB0.out.size))
      have hnm := mm2.wide
      have HCA := Lib.hid mm2.cells
      dsimp only at HCA hnm
      have ww := mm2.w1
      have htz : tz ≤ 9223372036854775807 := by
        have h5 : (Lit.int .i64 tz).wf = true := ww
        simp [Lit.wf, IntKind.min, IntKind.max, IntKind.signed, IntKind.bits] at h5
        omega
      obtain ⟨cs, hcs⟩ : ∃ cs, cs = acS op nm tz := ⟨_, rfl⟩
      have HCS := Lib.hid (show cs.size = 34 ∧ cs.all (·.oneCell') = true from by rw [hcs]; exact ⟨acS_size hnm, acS_one _ _ _⟩)
      have HCE := Lib.hid hcs
      obtain ⟨za, hza⟩ : ∃ za, za = acS 0 zN 0 := ⟨_, rfl⟩
      have hzA := zeroA
      rw [← hza] at hzA
      have HZS := Lib.hid (show za.size = 34 from by rw [hza]; exact acS_size zN_w)
      obtain ⟨zn, hzn⟩ : ∃ za, za = nC zN := ⟨_, rfl⟩
      have hzero := zeroN
      rw [← hzn] at hzero
      have HZN := Lib.hid (show zn.size = 32 from by rw [hzn]; exact nC_size zN_w)
      obtain ⟨arr, harr⟩ : ∃ arr, arr = nC nm := ⟨_, rfl⟩
      have HAR := Lib.hid harr
      have HNM := Lib.hid hnm
      have HTZ := Lib.hid htz
      have HGd := Lib.hid (fun W => good_c nm hnm W)
      unfold nV at HGd
      rw [← harr] at HGd
      have HRN := Lib.hid (Bk.new wr 37 za)
      have HRW := Lib.hid (Gw.alloc wr (.cells za 37))
      have HAW := Lib.hid (show ∀ w5, Bk w5 wr.heap.size 37 cs → w5.cell? ⟨wr.heap.size, 0, none⟩ = some (.int .i64 op) ∧ (∀ j u, (nm.map b8)[j]? = some u → w5.cell? ((⟨wr.heap.size, 1, none⟩ : Addr).add j) = some u) ∧ w5.cell? ⟨wr.heap.size, 33, none⟩ = some (.int .i64 tz) ∧ wr.heap.size < w5.heap.size from fun w5 hb => by
        rw [hcs] at hb
        refine ⟨by rw [hb.cell]; unfold acS; rw [List.getElem?_toArray]; exact acL_op, fun j u hu => ?_, by rw [hb.cell]; unfold acS; rw [List.getElem?_toArray]; exact acL_to hnm, hb.lt⟩
        rw [add_offN, hb.cell, Nat.add_comm]
        unfold acS
        rw [List.getElem?_toArray]
        exact acL_nm hu)
      clear hx hlw mm mm2 hnm ww htz hcs hza hzn harr
      go_wp2_with (first
        | (refine wp_loadA rfl _ rfl (ad.add (k * 34)) rfl op tz nm HNM.out HCA.out ?_; rw [← HCE.out])
        | (refine wp_storeA rfl _ _ rfl wr.heap.size cs rfl rfl 37 za HRN.out HCS.out.1 HZS.out HCS.out.2 ?_; intro w5 k5 b5; have H5 := Lib.hid k5; have HB5 := Lib.hid (HRW.out.trans (b5 wr.heap.size (Nat.le_refl _))); clear k5 b5)
        | (refine wp_loadC rfl _ rfl ⟨wr.heap.size, 1, none⟩ rfl nm HNM.out (HAW.out _ H5.out).2.1 ?_; rw [← HAR.out]))
      refine Calls.mono (HGd.out _) ?_
      rintro e w6 ⟨b6, hgd⟩
      obtain ⟨H, hH⟩ : ∃ H, H = wr.heap.size := ⟨_, rfl⟩
      have HQ6 := Lib.hid (hq.out.below (HB5.out.trans (b6.mono HB5.out.size)))
      have hgl := hq.out.tab.blk.lt
      have hml := NmO.lt hq.out.tab.map
      have hrl := hq.out.rw.lt
      have HAP := Lib.hid (show H ≠ g ∧ mb ≠ some H ∧ (Value.slice AR N cR).ownBlock ≠ some H from ⟨by omega, fun e => by have := hml H e; omega, fun e => by have := (hrl H e).2; omega⟩)
      rw [← hH] at HAW H5
      have H6 := Lib.hid (H5.out.below b6 H5.out.lt)
      rw [← hH]
      have HKN := Lib.hid hH
      clear b6 H5 HB5 HRN HRW hgl hml hrl hH HGd HCA
      rcases hgd with ⟨s, hs, hnm, rfl⟩ | ⟨hno, st, rfl⟩
      · have HS := Lib.hid (And.intro hs hnm)
        obtain ⟨st, hst⟩ : ∃ st, st = strB s := ⟨_, rfl⟩
        have HST := Lib.hid hst
        rw [← hst]
        have KA := Lib.hid (at_c rl HN.out HQ6.out.rw (by have := hi.out.len; omega) s)
        rw [← hst] at KA
        clear hs hnm hst
        go_wp2_with fail
        refine Calls.mono KA.out ?_
        rintro e w7 ⟨rfl, hat⟩
        clear KA
        rcases hat with ⟨a, ha, hae, rfl⟩ | ⟨hno, rfl⟩
        · have HF := Lib.hid (show ∃ h : a < rl.length, (rl[a]).1 = s from ⟨ha, hae⟩)
          obtain ⟨q, rfl, _, hqq, d0, d1⟩ := HQ6.out.rw.atR a ha
          obtain ⟨y, hy⟩ : ∃ y, y = (rl[a]).2 := ⟨_, rfl⟩
          rw [← hy] at d1
          have HY := Lib.hid (show vOf m nm = some y from by
            have h5 := hi.out.look_in (List.getElem_mem ha)
            rw [hae, ← HS.out.2, ← hy] at h5
            exact h5)
          have pa : (0 : Int) ≤ (a : Int) := by omega
          have pb : (a : Int) < (N : Int) := by have := HN.out; omega
          clear ha hae hy d0
          obtain ⟨c0, c1, c2, c3⟩ := HAW.out _ H6.out
          go_upto_block 2 with fail
          clear d1 hqq
          go_cut [3, 4, 11, 12, 13, 14, 15, 16, 17, 18, 19, 20, 21] from 61 to 200 (fun tv rv _ _ _ _ _ _ _ _ _ _ _ W => ∃ (g : Nat) (mb : Option Nat) (m : Tb) (rl : Rw), tv = .pointer (some ⟨g, 0, none⟩) ∧ Hid (TpQ w0 W g mb m rv rl) ∧ Hid (TpI m rl))
          case first =>
            rcases (show op = 1 ∨ op = 2 ∨ op = 3 ∨ op = 4 ∨ (¬ op = 1 ∧ ¬ op = 2 ∧ ¬ op = 3 ∧ ¬ op = 4) by omega) with rfl | rfl | rfl | rfl | ⟨n1, n2, n3, n4⟩
            · as_aux_lemma =>
              by_cases ht1 : tz < 1
              · have KB := Lib.hid (fun W => bind_low W g nm HNM.out tz ht1)
                unfold nV at KB
                rw [← HAR.out] at KB
                have qz : (tz : Int) < 1 := ht1
                go_wp2_with (refine wp_loadC rfl _ rfl ⟨H, 1, none⟩ rfl nm HNM.out (HAW.out _ H6.out).2.1 ?_; rw [← HAR.out])
                refine Calls.mono (KB.out _) ?_
                rintro e w8 ⟨rfl, b8⟩
                have HQ8 := Lib.hid (HQ6.out.below b8)
                have H6 := Lib.hid (H6.out.below b8 H6.out.lt)
                obtain ⟨c0, c1, c2, c3⟩ := HAW.out _ H6.out
                clear b8 KB c1
                go_wp2_with fail
                go_meet
                exact ⟨g, mb, m, rl, rfl, HQ8, hi⟩
              · have KB := Lib.hid (bindK HQ6.out.tab s HS.out.1 tz (by omega) HTZ.out (by rw [hi.out.mlen]; have := hi.out.len; omega) (.inl (by rw [← HS.out.2, HY.out]; rfl)))
                rw [← HS.out.2, HY.out] at KB
                simp only [Option.getD_some, Option.getD_none] at KB
                unfold nV at KB
                rw [← HAR.out] at KB
                have qz : ¬ (tz : Int) < 1 := ht1
                go_wp2_with (refine wp_loadC rfl _ rfl ⟨H, 1, none⟩ rfl nm HNM.out (HAW.out _ H6.out).2.1 ?_; rw [← HAR.out])
                refine Calls.mono KB.out ?_
                rintro e w8 ⟨rfl, mb8, htb, hnb, hkp⟩
                have HQ8 := Lib.hid (HQ6.out.turn htb hnb hkp)
                have H6 := Lib.hid (hkp.bk H6.out (fun e => e.elim HAP.out.1 HAP.out.2.1))
                have HAP8 := Lib.hid (show mb8 ≠ some H from fun e => (hnb H e).elim HAP.out.2.1 (fun h5 => by omega))
                obtain ⟨c0, c1, c2, c3⟩ := HAW.out _ H6.out
                clear htb hnb hkp KB c1
                go_wp2_with fail

                have HQd0 := Lib.hid (HQ8.out.below (Gw.drew _))
                have H6d := Lib.hid (H6.out.below (Gw.drew _) H6.out.lt)
                obtain ⟨a1, ha1⟩ : ∃ x, x = a + 1 := ⟨_, rfl⟩
                have HA1 := Lib.hid ha1
                have pc : (a : Int) + 1 = (a1 : Int) := by omega
                have pd : (a1 : Int) ≤ (N : Int) := by omega
                have pe : (a : Int) ≤ (cR : Int) := by omega
                have pf : (a1 : Int) ≤ (cR : Int) := by omega
                have pw : IntKind.i64.wrap (a1 : Int) = (a1 : Int) := wrapIn (by omega) (by omega)
                clear ha1
                obtain ⟨wd, hwd⟩ : ∃ x, x = w8.drew := ⟨_, rfl⟩
                rw [← hwd] at HQd0 H6d
                have HQd := HQd0
                by_cases hck : cR = a1
                · subst hck
                  refine region_by_spine [0, 4, 9, 10] [(1, 112, .slice (some ⟨q, 0, none⟩) N cR), (2, 113, .int .i64 (a : Int)), (3, 114, .slice (some ⟨q, 0, none⟩) a cR), (5, 116, .slice (some ⟨q, 0, none⟩) N cR), (6, 117, .int .i64 (a : Int)), (7, 118, .int .i64 (cR : Int)), (8, 119, .slice (some ⟨q, 0, none⟩) 0 0)] (fun _ => True) (by kernel_rfl) (by kernel_rfl) (by kernel_rfl) (by kernel_rfl) (by kernel_rfl) trivial ?_ ?_
                  · intro x hx W1 ρ hW1 hρ hcst
                    have e4 : ρ (.tmp 4) = .slice (some ⟨q, 0, none⟩) N cR := (hρ 4).trans ((putA_old _ _ 4 rfl).trans rfl)
                    have e9 : ρ (.tmp 9) = .int .i64 (a : Int) := (hρ 9).trans ((putA_old _ _ 9 rfl).trans rfl)
                    have e112 : ρ (.tmp 112) = .slice (some ⟨q, 0, none⟩) N cR := (hρ 112).trans (putA_new _ [] [(2, 113, .int .i64 (a : Int)), (3, 114, .slice (some ⟨q, 0, none⟩) a cR), (5, 116, .slice (some ⟨q, 0, none⟩) N cR), (6, 117, .int .i64 (a : Int)), (7, 118, .int .i64 (cR : Int)), (8, 119, .slice (some ⟨q, 0, none⟩) 0 0)] _ 1 112 _ rfl rfl (of_decide_eq_true (by kernel_rfl)))
                    have e113 : ρ (.tmp 113) = .int .i64 (a : Int) := (hρ 113).trans (putA_new _ [(1, 112, .slice (some ⟨q, 0, none⟩) N cR)] [(3, 114, .slice (some ⟨q, 0, none⟩) a cR), (5, 116, .slice (some ⟨q, 0, none⟩) N cR), (6, 117, .int .i64 (a : Int)), (7, 118, .int .i64 (cR : Int)), (8, 119, .slice (some ⟨q, 0, none⟩) 0 0)] _ 2 113 _ rfl rfl (of_decide_eq_true (by kernel_rfl)))
                    have e116 : ρ (.tmp 116) = .slice (some ⟨q, 0, none⟩) N cR := (hρ 116).trans (putA_new _ [(1, 112, .slice (some ⟨q, 0, none⟩) N cR), (2, 113, .int .i64 (a : Int)), (3, 114, .slice (some ⟨q, 0, none⟩) a cR)] [(6, 117, .int .i64 (a : Int)), (7, 118, .int .i64 (cR : Int)), (8, 119, .slice (some ⟨q, 0, none⟩) 0 0)] _ 5 116 _ rfl rfl (of_decide_eq_true (by kernel_rfl)))
                    have e117 : ρ (.tmp 117) = .int .i64 (a : Int) := (hρ 117).trans (putA_new _ [(1, 112, .slice (some ⟨q, 0, none⟩) N cR), (2, 113, .int .i64 (a : Int)), (3, 114, .slice (some ⟨q, 0, none⟩) a cR), (5, 116, .slice (some ⟨q, 0, none⟩) N cR)] [(7, 118, .int .i64 (cR : Int)), (8, 119, .slice (some ⟨q, 0, none⟩) 0 0)] _ 6 117 _ rfl rfl (of_decide_eq_true (by kernel_rfl)))
                    have e118 : ρ (.tmp 118) = .int .i64 (cR : Int) := (hρ 118).trans (putA_new _ [(1, 112, .slice (some ⟨q, 0, none⟩) N cR), (2, 113, .int .i64 (a : Int)), (3, 114, .slice (some ⟨q, 0, none⟩) a cR), (5, 116, .slice (some ⟨q, 0, none⟩) N cR), (6, 117, .int .i64 (a : Int))] [(8, 119, .slice (some ⟨q, 0, none⟩) 0 0)] _ 7 118 _ rfl rfl (of_decide_eq_true (by kernel_rfl)))
                    clear hρ
                    simp only [List.mem_cons, List.not_mem_nil, or_false] at hx
                    rcases hx with rfl | rfl | rfl | rfl | rfl | rfl | rfl
                    all_goals
                      refine ⟨_, rfl, ?_⟩
                      go_simp
                      try rfl
                  simp only [putA, putD, Act.put, List.setIfInBounds_toArray, List.set_cons_zero, List.set_cons_succ]
                  rw [← hwd]
                  clear hwd
                  have hal := Gw.alloc _ (.cells #[] 42) |> fun (h : Below wd.heap.size wd (wd.alloc (.cells #[] 42))) => h
                  have HR1 := Lib.hid ((HQd.out.below hal).rw.rdp.pre a)
                  have HE1 := Lib.hid (TR.empty (wd.alloc (.cells #[] 42)) wd.heap.size wd.heap.size (Nat.le_refl _) (Bk.new wd 42 #[]))
                  have HAL := Lib.hid hal
                  clear hal
                  refine spine_list rfl rfl rfl ?_
                  go_wp2_with fail
                  refine ⟨rfl, trivial, ?_⟩
                  refine spine_list rfl rfl rfl ?_
                  refine wp_appT rfl (.tmp 111) (.tmp 114) rfl rfl HE1.out (some ⟨q, 0, none⟩) a cR ((rl.map sR).take a) rfl (by rw [List.length_take, sR_len]; have := HN.out; omega) HR1.out (by simp only [List.length_take, sR_len, List.length_nil]; have := HN.out; omega) HAL.out.size ?_
                  intro v8 w8 ht8 hb8 _ _
                  rw [List.nil_append] at ht8
                  have HB8 := Lib.hid (HAL.out.trans hb8)
                  have HT8 := Lib.hid ht8
                  have HR8 := Lib.hid (show RdT w8 (some ⟨q, 0, none⟩) ((rl.map sR).drop cR) from by
                    rw [List.drop_eq_nil_of_le (by rw [sR_len]; have := HN.out; omega)]
                    intro i u hu
                    cases hu)
                  clear ht8 hb8 HE1 HR1 HAL
                  refine ⟨rfl, trivial, ?_⟩
                  refine spine_list rfl rfl rfl ?_
                  refine wp_appT rfl (.tmp 115) (.tmp 119) rfl rfl HT8.out (some ⟨q, 0, none⟩) 0 0 ((rl.map sR).drop cR) rfl (by rw [List.length_drop, sR_len, ← HN.out]; omega) HR8.out (by rw [List.length_take, List.length_drop, sR_len]; have := HN.out; omega) HB8.out.size ?_
                  intro v9 w9 ht9 hb9 _ _
                  rw [show (rl.map sR).take a ++ (rl.map sR).drop cR = (rl.filter fun p => decide (p.1 ≠ s)).map sR from by
                    obtain ⟨h5, h6⟩ := HF.out
                    rw [cut_out hi.out.nodup h5 h6, List.map_append, List.map_take, List.map_drop, HA1.out]] at ht9
                  have HQ9 := Lib.hid (HQd.out.toRow (HB8.out.trans hb9) ht9)
                  have HB9 := Lib.hid (HB8.out.trans hb9)
                  clear ht9 hb9 HT8 HR8 HB8
                  refine ⟨rfl, trivial, ?_⟩
                  refine spine_list rfl rfl rfl ?_
                  go_wp2_with fail
                  refine ⟨rfl, trivial, ?_⟩
                  unfold SpineW

                  have H6 := Lib.hid (H6d.out.below HB9.out H6d.out.lt)
                  obtain ⟨c0, c1, c2, c3⟩ := HAW.out _ H6.out
                  clear c1

                  have HRR := Lib.hid (show ∀ W qz, Bk W qz 42 #[.string st, .int .i64 tz] → RdT W (some ⟨qz, 0, none⟩) [(st, tz)] from fun W qz h => RdT.one h)
                  go_wp2_with (at_builtin; refine wp_appT rfl (.tmp 121) (.tmp 126) rfl rfl (TpQ.rw (TpQ.below HQ9.out (Gw.alloc _ _))) (some ⟨_, 0, none⟩) 1 1 [(st, tz)] rfl rfl (HRR.out _ _ (Bk.new _ _ _)) (by rw [sR_len]; have h7 := List.length_filter_le (fun p : Nm × Int => decide (p.1 ≠ s)) rl; have h8 := hi.out.len; simp only [List.length_cons, List.length_nil]; omega) (Nat.le_trans HQ9.out.old.size (Gw.alloc _ _).size) ?_; intro v12 w12 ht12 hb12 hg12 hv12; have HQ12 := Lib.hid (TpQ.app (rl' := (rl.filter fun p => decide (p.1 ≠ s)) ++ [(s, tz)]) (TpQ.below HQ9.out (Gw.alloc _ _)) (by rw [List.map_append]; have h5 := ht12; rw [HST.out] at h5; exact h5) hg12 hv12); clear ht12 hb12 hg12 hv12)
                  go_meet
                  exact ⟨g, _, _, (rl.filter fun p => decide (p.1 ≠ s)) ++ [(s, tz)], rfl, HQ12, Lib.hid (by rw [HS.out.2]; exact (hi.out.put HS.out.1 (by omega) HTZ.out (by obtain ⟨h5, h6⟩ := HF.out; rw [cut_out hi.out.nodup h5 h6, List.length_append, List.length_take, List.length_drop]; have h8 := hi.out.len; omega)))⟩
                · have pg : (a1 : Int) < (cR : Int) := by omega
                  refine region_by_spine [0, 4, 9, 10] [(1, 112, .slice (some ⟨q, 0, none⟩) N cR), (2, 113, .int .i64 (a : Int)), (3, 114, .slice (some ⟨q, 0, none⟩) a cR), (5, 116, .slice (some ⟨q, 0, none⟩) N cR), (6, 117, .int .i64 (a : Int)), (7, 118, .int .i64 (a1 : Int)), (8, 119, .slice (some ⟨q, a1 * 2, none⟩) (N - a1) (cR - a1))] (fun _ => True) (by kernel_rfl) (by kernel_rfl) (by kernel_rfl) (by kernel_rfl) (by kernel_rfl) trivial ?_ ?_
                  · intro x hx W1 ρ hW1 hρ hcst
                    have e4 : ρ (.tmp 4) = .slice (some ⟨q, 0, none⟩) N cR := (hρ 4).trans ((putA_old _ _ 4 rfl).trans rfl)
                    have e9 : ρ (.tmp 9) = .int .i64 (a : Int) := (hρ 9).trans ((putA_old _ _ 9 rfl).trans rfl)
                    have e112 : ρ (.tmp 112) = .slice (some ⟨q, 0, none⟩) N cR := (hρ 112).trans (putA_new _ [] [(2, 113, .int .i64 (a : Int)), (3, 114, .slice (some ⟨q, 0, none⟩) a cR), (5, 116, .slice (some ⟨q, 0, none⟩) N cR), (6, 117, .int .i64 (a : Int)), (7, 118, .int .i64 (a1 : Int)), (8, 119, .slice (some ⟨q, a1 * 2, none⟩) (N - a1) (cR - a1))] _ 1 112 _ rfl rfl (of_decide_eq_true (by kernel_rfl)))
                    have e113 : ρ (.tmp 113) = .int .i64 (a : Int) := (hρ 113).trans (putA_new _ [(1, 112, .slice (some ⟨q, 0, none⟩) N cR)] [(3, 114, .slice (some ⟨q, 0, none⟩) a cR), (5, 116, .slice (some ⟨q, 0, none⟩) N cR), (6, 117, .int .i64 (a : Int)), (7, 118, .int .i64 (a1 : Int)), (8, 119, .slice (some ⟨q, a1 * 2, none⟩) (N - a1) (cR - a1))] _ 2 113 _ rfl rfl (of_decide_eq_true (by kernel_rfl)))
                    have e116 : ρ (.tmp 116) = .slice (some ⟨q, 0, none⟩) N cR := (hρ 116).trans (putA_new _ [(1, 112, .slice (some ⟨q, 0, none⟩) N cR), (2, 113, .int .i64 (a : Int)), (3, 114, .slice (some ⟨q, 0, none⟩) a cR)] [(6, 117, .int .i64 (a : Int)), (7, 118, .int .i64 (a1 : Int)), (8, 119, .slice (some ⟨q, a1 * 2, none⟩) (N - a1) (cR - a1))] _ 5 116 _ rfl rfl (of_decide_eq_true (by kernel_rfl)))
                    have e117 : ρ (.tmp 117) = .int .i64 (a : Int) := (hρ 117).trans (putA_new _ [(1, 112, .slice (some ⟨q, 0, none⟩) N cR), (2, 113, .int .i64 (a : Int)), (3, 114, .slice (some ⟨q, 0, none⟩) a cR), (5, 116, .slice (some ⟨q, 0, none⟩) N cR)] [(7, 118, .int .i64 (a1 : Int)), (8, 119, .slice (some ⟨q, a1 * 2, none⟩) (N - a1) (cR - a1))] _ 6 117 _ rfl rfl (of_decide_eq_true (by kernel_rfl)))
                    have e118 : ρ (.tmp 118) = .int .i64 (a1 : Int) := (hρ 118).trans (putA_new _ [(1, 112, .slice (some ⟨q, 0, none⟩) N cR), (2, 113, .int .i64 (a : Int)), (3, 114, .slice (some ⟨q, 0, none⟩) a cR), (5, 116, .slice (some ⟨q, 0, none⟩) N cR), (6, 117, .int .i64 (a : Int))] [(8, 119, .slice (some ⟨q, a1 * 2, none⟩) (N - a1) (cR - a1))] _ 7 118 _ rfl rfl (of_decide_eq_true (by kernel_rfl)))
                    clear hρ
                    simp only [List.mem_cons, List.not_mem_nil, or_false] at hx
                    rcases hx with rfl | rfl | rfl | rfl | rfl | rfl | rfl
                    all_goals
                      refine ⟨_, rfl, ?_⟩
                      go_simp
                      try rfl
                  simp only [putA, putD, Act.put, List.setIfInBounds_toArray, List.set_cons_zero, List.set_cons_succ]
                  rw [← hwd]
                  clear hwd
                  have hal := Gw.alloc _ (.cells #[] 42) |> fun (h : Below wd.heap.size wd (wd.alloc (.cells #[] 42))) => h
                  have HR1 := Lib.hid ((HQd.out.below hal).rw.rdp.pre a)
                  have HE1 := Lib.hid (TR.empty (wd.alloc (.cells #[] 42)) wd.heap.size wd.heap.size (Nat.le_refl _) (Bk.new wd 42 #[]))
                  have HAL := Lib.hid hal
                  clear hal
                  refine spine_list rfl rfl rfl ?_
                  go_wp2_with fail
                  refine ⟨rfl, trivial, ?_⟩
                  refine spine_list rfl rfl rfl ?_
                  refine wp_appT rfl (.tmp 111) (.tmp 114) rfl rfl HE1.out (some ⟨q, 0, none⟩) a cR ((rl.map sR).take a) rfl (by rw [List.length_take, sR_len]; have := HN.out; omega) HR1.out (by simp only [List.length_take, sR_len, List.length_nil]; have := HN.out; omega) HAL.out.size ?_
                  intro v8 w8 ht8 hb8 _ _
                  rw [List.nil_append] at ht8
                  have HB8 := Lib.hid (HAL.out.trans hb8)
                  have HT8 := Lib.hid ht8
                  have HR8 := Lib.hid (show RdT w8 (some ⟨q, a1 * 2, none⟩) ((rl.map sR).drop a1) from by
                    have h7 := (HQd.out.below HB8.out).rw.rdp.suf a1
                    rw [show (0 : Nat) + 2 * a1 = a1 * 2 from by omega] at h7
                    exact h7)
                  clear ht8 hb8 HE1 HR1 HAL
                  refine ⟨rfl, trivial, ?_⟩
                  refine spine_list rfl rfl rfl ?_
                  refine wp_appT rfl (.tmp 115) (.tmp 119) rfl rfl HT8.out (some ⟨q, a1 * 2, none⟩) (N - a1) (cR - a1) ((rl.map sR).drop a1) rfl (by rw [List.length_drop, sR_len, ← HN.out]) HR8.out (by rw [List.length_take, List.length_drop, sR_len]; have := HN.out; omega) HB8.out.size ?_
                  intro v9 w9 ht9 hb9 _ _
                  rw [show (rl.map sR).take a ++ (rl.map sR).drop a1 = (rl.filter fun p => decide (p.1 ≠ s)).map sR from by
                    obtain ⟨h5, h6⟩ := HF.out
                    rw [cut_out hi.out.nodup h5 h6, List.map_append, List.map_take, List.map_drop, HA1.out]] at ht9
                  have HQ9 := Lib.hid (HQd.out.toRow (HB8.out.trans hb9) ht9)
                  have HB9 := Lib.hid (HB8.out.trans hb9)
                  clear ht9 hb9 HT8 HR8 HB8
                  refine ⟨rfl, trivial, ?_⟩
                  refine spine_list rfl rfl rfl ?_
                  go_wp2_with fail
                  refine ⟨rfl, trivial, ?_⟩
                  unfold SpineW

                  have H6 := Lib.hid (H6d.out.below HB9.out H6d.out.lt)
                  obtain ⟨c0, c1, c2, c3⟩ := HAW.out _ H6.out
                  clear c1

                  have HRR := Lib.hid (show ∀ W qz, Bk W qz 42 #[.string st, .int .i64 tz] → RdT W (some ⟨qz, 0, none⟩) [(st, tz)] from fun W qz h => RdT.one h)
                  go_wp2_with (at_builtin; refine wp_appT rfl (.tmp 121) (.tmp 126) rfl rfl (TpQ.rw (TpQ.below HQ9.out (Gw.alloc _ _))) (some ⟨_, 0, none⟩) 1 1 [(st, tz)] rfl rfl (HRR.out _ _ (Bk.new _ _ _)) (by rw [sR_len]; have h7 := List.length_filter_le (fun p : Nm × Int => decide (p.1 ≠ s)) rl; have h8 := hi.out.len; simp only [List.length_cons, List.length_nil]; omega) (Nat.le_trans HQ9.out.old.size (Gw.alloc _ _).size) ?_; intro v12 w12 ht12 hb12 hg12 hv12; have HQ12 := Lib.hid (TpQ.app (rl' := (rl.filter fun p => decide (p.1 ≠ s)) ++ [(s, tz)]) (TpQ.below HQ9.out (Gw.alloc _ _)) (by rw [List.map_append]; have h5 := ht12; rw [HST.out] at h5; exact h5) hg12 hv12); clear ht12 hb12 hg12 hv12)
                  go_meet
                  exact ⟨g, _, _, (rl.filter fun p => decide (p.1 ≠ s)) ++ [(s, tz)], rfl, HQ12, Lib.hid (by rw [HS.out.2]; exact (hi.out.put HS.out.1 (by omega) HTZ.out (by obtain ⟨h5, h6⟩ := HF.out; rw [cut_out hi.out.nodup h5 h6, List.length_append, List.length_take, List.length_drop]; have h8 := hi.out.len; omega)))⟩
            · as_aux_lemma =>
              have KU := Lib.hid (unbind_m HQ6.out.tab.blk HQ6.out.tab.map HQ6.out.tab.ne nm HNM.out y true (by rw [HY.out]; rfl) (by rw [HY.out]; rfl))
              unfold nV at KU
              rw [← HAR.out] at KU
              go_wp2_with (refine wp_loadC rfl _ rfl ⟨H, 1, none⟩ rfl nm HNM.out (HAW.out _ H6.out).2.1 ?_; rw [← HAR.out])
              refine Calls.mono KU.out ?_
              rintro e w8 ⟨rfl, hk8, hm8, hkp⟩
              have HQ8 := Lib.hid (HQ6.out.turn (W' := w8) (m' := delN m nm) ⟨hk8, hm8, HQ6.out.tab.ne⟩ (fun b e => .inl e) (hkp.more (fun c e => .inr e)))
              have H6 := Lib.hid (hkp.bk H6.out (fun e => HAP.out.2.1 e))
              clear hk8 hm8 hkp KU
              go_wp2_with fail

              have HQd0 := Lib.hid (HQ8.out.below (Gw.drew _))
              have H6d := Lib.hid (H6.out.below (Gw.drew _) H6.out.lt)
              obtain ⟨a1, ha1⟩ : ∃ x, x = a + 1 := ⟨_, rfl⟩
              have HA1 := Lib.hid ha1
              have pc : (a : Int) + 1 = (a1 : Int) := by omega
              have pd : (a1 : Int) ≤ (N : Int) := by omega
              have pe : (a : Int) ≤ (cR : Int) := by omega
              have pf : (a1 : Int) ≤ (cR : Int) := by omega
              have pw : IntKind.i64.wrap (a1 : Int) = (a1 : Int) := wrapIn (by omega) (by omega)
              clear ha1
              obtain ⟨wd, hwd⟩ : ∃ x, x = w8.drew := ⟨_, rfl⟩
              rw [← hwd] at HQd0 H6d
              have HQd := HQd0
              by_cases hck : cR = a1
              · subst hck
                refine region_by_spine [0, 4, 9, 10] [(1, 149, .slice (some ⟨q, 0, none⟩) N cR), (2, 150, .int .i64 (a : Int)), (3, 151, .slice (some ⟨q, 0, none⟩) a cR), (5, 153, .slice (some ⟨q, 0, none⟩) N cR), (6, 154, .int .i64 (a : Int)), (7, 155, .int .i64 (cR : Int)), (8, 156, .slice (some ⟨q, 0, none⟩) 0 0)] (fun _ => True) (by kernel_rfl) (by kernel_rfl) (by kernel_rfl) (by kernel_rfl) (by kernel_rfl) trivial ?_ ?_
                · intro x hx W1 ρ hW1 hρ hcst
                  have e4 : ρ (.tmp 4) = .slice (some ⟨q, 0, none⟩) N cR := (hρ 4).trans ((putA_old _ _ 4 rfl).trans rfl)
                  have e9 : ρ (.tmp 9) = .int .i64 (a : Int) := (hρ 9).trans ((putA_old _ _ 9 rfl).trans rfl)
                  have e149 : ρ (.tmp 149) = .slice (some ⟨q, 0, none⟩) N cR := (hρ 149).trans (putA_new _ [] [(2, 150, .int .i64 (a : Int)), (3, 151, .slice (some ⟨q, 0, none⟩) a cR), (5, 153, .slice (some ⟨q, 0, none⟩) N cR), (6, 154, .int .i64 (a : Int)), (7, 155, .int .i64 (cR : Int)), (8, 156, .slice (some ⟨q, 0, none⟩) 0 0)] _ 1 149 _ rfl rfl (of_decide_eq_true (by kernel_rfl)))
                  have e150 : ρ (.tmp 150) = .int .i64 (a : Int) := (hρ 150).trans (putA_new _ [(1, 149, .slice (some ⟨q, 0, none⟩) N cR)] [(3, 151, .slice (some ⟨q, 0, none⟩) a cR), (5, 153, .slice (some ⟨q, 0, none⟩) N cR), (6, 154, .int .i64 (a : Int)), (7, 155, .int .i64 (cR : Int)), (8, 156, .slice (some ⟨q, 0, none⟩) 0 0)] _ 2 150 _ rfl rfl (of_decide_eq_true (by kernel_rfl)))
                  have e153 : ρ (.tmp 153) = .slice (some ⟨q, 0, none⟩) N cR := (hρ 153).trans (putA_new _ [(1, 149, .slice (some ⟨q, 0, none⟩) N cR), (2, 150, .int .i64 (a : Int)), (3, 151, .slice (some ⟨q, 0, none⟩) a cR)] [(6, 154, .int .i64 (a : Int)), (7, 155, .int .i64 (cR : Int)), (8, 156, .slice (some ⟨q, 0, none⟩) 0 0)] _ 5 153 _ rfl rfl (of_decide_eq_true (by kernel_rfl)))
                  have e154 : ρ (.tmp 154) = .int .i64 (a : Int) := (hρ 154).trans (putA_new _ [(1, 149, .slice (some ⟨q, 0, none⟩) N cR), (2, 150, .int .i64 (a : Int)), (3, 151, .slice (some ⟨q, 0, none⟩) a cR), (5, 153, .slice (some ⟨q, 0, none⟩) N cR)] [(7, 155, .int .i64 (cR : Int)), (8, 156, .slice (some ⟨q, 0, none⟩) 0 0)] _ 6 154 _ rfl rfl (of_decide_eq_true (by kernel_rfl)))
                  have e155 : ρ (.tmp 155) = .int .i64 (cR : Int) := (hρ 155).trans (putA_new _ [(1, 149, .slice (some ⟨q, 0, none⟩) N cR), (2, 150, .int .i64 (a : Int)), (3, 151, .slice (some ⟨q, 0, none⟩) a cR), (5, 153, .slice (some ⟨q, 0, none⟩) N cR), (6, 154, .int .i64 (a : Int))] [(8, 156, .slice (some ⟨q, 0, none⟩) 0 0)] _ 7 155 _ rfl rfl (of_decide_eq_true (by kernel_rfl)))
                  clear hρ
                  simp only [List.mem_cons, List.not_mem_nil, or_false] at hx
                  rcases hx with rfl | rfl | rfl | rfl | rfl | rfl | rfl
                  all_goals
                    refine ⟨_, rfl, ?_⟩
                    go_simp
                    try rfl
                simp only [putA, putD, Act.put, List.setIfInBounds_toArray, List.set_cons_zero, List.set_cons_succ]
                rw [← hwd]
                clear hwd
                have hal := Gw.alloc _ (.cells #[] 42) |> fun (h : Below wd.heap.size wd (wd.alloc (.cells #[] 42))) => h
                have HR1 := Lib.hid ((HQd.out.below hal).rw.rdp.pre a)
                have HE1 := Lib.hid (TR.empty (wd.alloc (.cells #[] 42)) wd.heap.size wd.heap.size (Nat.le_refl _) (Bk.new wd 42 #[]))
                have HAL := Lib.hid hal
                clear hal
                refine spine_list rfl rfl rfl ?_
                go_wp2_with fail
                refine ⟨rfl, trivial, ?_⟩
                refine spine_list rfl rfl rfl ?_
                refine wp_appT rfl (.tmp 148) (.tmp 151) rfl rfl HE1.out (some ⟨q, 0, none⟩) a cR ((rl.map sR).take a) rfl (by rw [List.length_take, sR_len]; have := HN.out; omega) HR1.out (by simp only [List.length_take, sR_len, List.length_nil]; have := HN.out; omega) HAL.out.size ?_
                intro v8 w8 ht8 hb8 _ _
                rw [List.nil_append] at ht8
                have HB8 := Lib.hid (HAL.out.trans hb8)
                have HT8 := Lib.hid ht8
                have HR8 := Lib.hid (show RdT w8 (some ⟨q, 0, none⟩) ((rl.map sR).drop cR) from by
                  rw [List.drop_eq_nil_of_le (by rw [sR_len]; have := HN.out; omega)]
                  intro i u hu
                  cases hu)
                clear ht8 hb8 HE1 HR1 HAL
                refine ⟨rfl, trivial, ?_⟩
                refine spine_list rfl rfl rfl ?_
                refine wp_appT rfl (.tmp 152) (.tmp 156) rfl rfl HT8.out (some ⟨q, 0, none⟩) 0 0 ((rl.map sR).drop cR) rfl (by rw [List.length_drop, sR_len, ← HN.out]; omega) HR8.out (by rw [List.length_take, List.length_drop, sR_len]; have := HN.out; omega) HB8.out.size ?_
                intro v9 w9 ht9 hb9 _ _
                rw [show (rl.map sR).take a ++ (rl.map sR).drop cR = (rl.filter fun p => decide (p.1 ≠ s)).map sR from by
                  obtain ⟨h5, h6⟩ := HF.out
                  rw [cut_out hi.out.nodup h5 h6, List.map_append, List.map_take, List.map_drop, HA1.out]] at ht9
                have HQ9 := Lib.hid (HQd.out.toRow (HB8.out.trans hb9) ht9)
                have HB9 := Lib.hid (HB8.out.trans hb9)
                clear ht9 hb9 HT8 HR8 HB8
                refine ⟨rfl, trivial, ?_⟩
                refine spine_list rfl rfl rfl ?_
                go_wp2_with fail
                refine ⟨rfl, trivial, ?_⟩
                unfold SpineW

                go_wp2_with fail
                go_meet
                exact ⟨g, mb, _, _, rfl, HQ9, Lib.hid (by have h5 := hi.out.drop HS.out.1; rw [← HS.out.2] at h5; exact h5)⟩
              · have pg : (a1 : Int) < (cR : Int) := by omega
                refine region_by_spine [0, 4, 9, 10] [(1, 149, .slice (some ⟨q, 0, none⟩) N cR), (2, 150, .int .i64 (a : Int)), (3, 151, .slice (some ⟨q, 0, none⟩) a cR), (5, 153, .slice (some ⟨q, 0, none⟩) N cR), (6, 154, .int .i64 (a : Int)), (7, 155, .int .i64 (a1 : Int)), (8, 156, .slice (some ⟨q, a1 * 2, none⟩) (N - a1) (cR - a1))] (fun _ => True) (by kernel_rfl) (by kernel_rfl) (by kernel_rfl) (by kernel_rfl) (by kernel_rfl) trivial ?_ ?_
                · intro x hx W1 ρ hW1 hρ hcst
                  have e4 : ρ (.tmp 4) = .slice (some ⟨q, 0, none⟩) N cR := (hρ 4).trans ((putA_old _ _ 4 rfl).trans rfl)
                  have e9 : ρ (.tmp 9) = .int .i64 (a : Int) := (hρ 9).trans ((putA_old _ _ 9 rfl).trans rfl)
                  have e149 : ρ (.tmp 149) = .slice (some ⟨q, 0, none⟩) N cR := (hρ 149).trans (putA_new _ [] [(2, 150, .int .i64 (a : Int)), (3, 151, .slice (some ⟨q, 0, none⟩) a cR), (5, 153, .slice (some ⟨q, 0, none⟩) N cR), (6, 154, .int .i64 (a : Int)), (7, 155, .int .i64 (a1 : Int)), (8, 156, .slice (some ⟨q, a1 * 2, none⟩) (N - a1) (cR - a1))] _ 1 149 _ rfl rfl (of_decide_eq_true (by kernel_rfl)))
                  have e150 : ρ (.tmp 150) = .int .i64 (a : Int) := (hρ 150).trans (putA_new _ [(1, 149, .slice (some ⟨q, 0, none⟩) N cR)] [(3, 151, .slice (some ⟨q, 0, none⟩) a cR), (5, 153, .slice (some ⟨q, 0, none⟩) N cR), (6, 154, .int .i64 (a : Int)), (7, 155, .int .i64 (a1 : Int)), (8, 156, .slice (some ⟨q, a1 * 2, none⟩) (N - a1) (cR - a1))] _ 2 150 _ rfl rfl (of_decide_eq_true (by kernel_rfl)))
                  have e153 : ρ (.tmp 153) = .slice (some ⟨q, 0, none⟩) N cR := (hρ 153).trans (putA_new _ [(1, 149, .slice (some ⟨q, 0, none⟩) N cR), (2, 150, .int .i64 (a : Int)), (3, 151, .slice (some ⟨q, 0, none⟩) a cR)] [(6, 154, .int .i64 (a : Int)), (7, 155, .int .i64 (a1 : Int)), (8, 156, .slice (some ⟨q, a1 * 2, none⟩) (N - a1) (cR - a1))] _ 5 153 _ rfl rfl (of_decide_eq_true (by kernel_rfl)))
                  have e154 : ρ (.tmp 154) = .int .i64 (a : Int) := (hρ 154).trans (putA_new _ [(1, 149, .slice (some ⟨q, 0, none⟩) N cR), (2, 150, .int .i64 (a : Int)), (3, 151, .slice (some ⟨q, 0, none⟩) a cR), (5, 153, .slice (some ⟨q, 0, none⟩) N cR)] [(7, 155, .int .i64 (a1 : Int)), (8, 156, .slice (some ⟨q, a1 * 2, none⟩) (N - a1) (cR - a1))] _ 6 154 _ rfl rfl (of_decide_eq_true (by kernel_rfl)))
                  have e155 : ρ (.tmp 155) = .int .i64 (a1 : Int) := (hρ 155).trans (putA_new _ [(1, 149, .slice (some ⟨q, 0, none⟩) N cR), (2, 150, .int .i64 (a : Int)), (3, 151, .slice (some ⟨q, 0, none⟩) a cR), (5, 153, .slice (some ⟨q, 0, none⟩) N cR), (6, 154, .int .i64 (a : Int))] [(8, 156, .slice (some ⟨q, a1 * 2, none⟩) (N - a1) (cR - a1))] _ 7 155 _ rfl rfl (of_decide_eq_true (by kernel_rfl)))
                  clear hρ
                  simp only [List.mem_cons, List.not_mem_nil, or_false] at hx
                  rcases hx with rfl | rfl | rfl | rfl | rfl | rfl | rfl
                  all_goals
                    refine ⟨_, rfl, ?_⟩
                    go_simp
                    try rfl
                simp only [putA, putD, Act.put, List.setIfInBounds_toArray, List.set_cons_zero, List.set_cons_succ]
                rw [← hwd]
                clear hwd
                have hal := Gw.alloc _ (.cells #[] 42) |> fun (h : Below wd.heap.size wd (wd.alloc (.cells #[] 42))) => h
                have HR1 := Lib.hid ((HQd.out.below hal).rw.rdp.pre a)
                have HE1 := Lib.hid (TR.empty (wd.alloc (.cells #[] 42)) wd.heap.size wd.heap.size (Nat.le_refl _) (Bk.new wd 42 #[]))
                have HAL := Lib.hid hal
                clear hal
                refine spine_list rfl rfl rfl ?_
                go_wp2_with fail
                refine ⟨rfl, trivial, ?_⟩
                refine spine_list rfl rfl rfl ?_
                refine wp_appT rfl (.tmp 148) (.tmp 151) rfl rfl HE1.out (some ⟨q, 0, none⟩) a cR ((rl.map sR).take a) rfl (by rw [List.length_take, sR_len]; have := HN.out; omega) HR1.out (by simp only [List.length_take, sR_len, List.length_nil]; have := HN.out; omega) HAL.out.size ?_
                intro v8 w8 ht8 hb8 _ _
                rw [List.nil_append] at ht8
                have HB8 := Lib.hid (HAL.out.trans hb8)
                have HT8 := Lib.hid ht8
                have HR8 := Lib.hid (show RdT w8 (some ⟨q, a1 * 2, none⟩) ((rl.map sR).drop a1) from by
                  have h7 := (HQd.out.below HB8.out).rw.rdp.suf a1
                  rw [show (0 : Nat) + 2 * a1 = a1 * 2 from by omega] at h7
                  exact h7)
                clear ht8 hb8 HE1 HR1 HAL
                refine ⟨rfl, trivial, ?_⟩
                refine spine_list rfl rfl rfl ?_
                refine wp_appT rfl (.tmp 152) (.tmp 156) rfl rfl HT8.out (some ⟨q, a1 * 2, none⟩) (N - a1) (cR - a1) ((rl.map sR).drop a1) rfl (by rw [List.length_drop, sR_len, ← HN.out]) HR8.out (by rw [List.length_take, List.length_drop, sR_len]; have := HN.out; omega) HB8.out.size ?_
                intro v9 w9 ht9 hb9 _ _
                rw [show (rl.map sR).take a ++ (rl.map sR).drop a1 = (rl.filter fun p => decide (p.1 ≠ s)).map sR from by
                  obtain ⟨h5, h6⟩ := HF.out
                  rw [cut_out hi.out.nodup h5 h6, List.map_append, List.map_take, List.map_drop, HA1.out]] at ht9
                have HQ9 := Lib.hid (HQd.out.toRow (HB8.out.trans hb9) ht9)
                have HB9 := Lib.hid (HB8.out.trans hb9)
                clear ht9 hb9 HT8 HR8 HB8
                refine ⟨rfl, trivial, ?_⟩
                refine spine_list rfl rfl rfl ?_
                go_wp2_with fail
                refine ⟨rfl, trivial, ?_⟩
                unfold SpineW

                go_wp2_with fail
                go_meet
                exact ⟨g, mb, _, _, rfl, HQ9, Lib.hid (by have h5 := hi.out.drop HS.out.1; rw [← HS.out.2] at h5; exact h5)⟩
            · as_aux_lemma =>
              have KL := Lib.hid (look_c HQ6.out.tab.x nm HNM.out y true (by rw [HY.out]; rfl) (by rw [HY.out]; rfl))
              unfold nV at KL
              rw [← HAR.out] at KL
              go_wp2_with (refine wp_loadC rfl _ rfl ⟨H, 1, none⟩ rfl nm HNM.out (HAW.out _ H6.out).2.1 ?_; rw [← HAR.out])
              refine Calls.mono KL.out ?_
              rintro e w8 ⟨rfl, b8⟩
              have HQ8 := Lib.hid (HQ6.out.below b8)
              clear b8 KL
              go_wp2_with fail
              go_meet
              exact ⟨g, mb, m, rl, rfl, HQ8, hi⟩
            · as_aux_lemma =>
              have KT := Lib.hid (twin_c HQ6.out.tab.x)
              go_wp2_with fail
              refine Calls.mono KT.out ?_
              rintro e w8 ⟨g9, rfl, hx9, b8⟩
              obtain ⟨mb9, hk9, hm9, hg9, hb9⟩ := hx9
              have HX9 := Lib.hid (show TbM w8 g9 mb9 m from ⟨hk9, hm9, fun b e => (hb9 b e).2⟩)
              have HN9 := Lib.hid (show w7.heap.size ≤ g9 ∧ ∀ b, mb9 = some b → w7.heap.size ≤ b from ⟨hg9, fun b e => (hb9 b e).1⟩)
              have HQ8 := Lib.hid (HQ6.out.below b8)
              have HS0 := Lib.hid (And.intro b8.size (And.intro HQ6.out.tab.blk.lt (And.intro (NmO.lt HQ6.out.tab.map) HQ6.out.rw.lt)))
              clear hk9 hm9 hg9 hb9 b8 KT
              go_wp2_with fail
              go_loopw [19] (fun i W => ∃ (j : Nat) (mj : Tb), i = .int .i64 j ∧ j ≤ N ∧ Hid (TpQ w0 W g mb mj (.slice (some ⟨q, 0, none⟩) N cR) rl) ∧ Hid (TbM W g9 mb9 m) ∧ Hid (Below w0.heap.size w0 W)) (fun i _ => N - (Go.RowKit.intOf i).toNat)
              case atStart => exact ⟨0, m, rfl, by omega, HQ8, HX9, Lib.hid HQ8.out.old⟩
              case round =>
                obtain ⟨j, mj, rfl, hj, hqj, hxj, hoj⟩ := hrel
                by_cases hjl : j < N
                · have p3 : (0 : Int) ≤ (j : Int) := by omega
                  have p4 : (j : Int) < (N : Int) := by omega
                  have hjo : j < rl.length := by rw [← HN.out]; exact hjl
                  obtain ⟨qj, EQJ, _, h1, d1, d1b⟩ := hqj.out.rw.atR j hjo
                  clear d1b
                  obtain ⟨sj, hsj⟩ : ∃ x, x = (rl[j]).1 := ⟨_, rfl⟩
                  have hgj : goodN sj := by rw [hsj]; exact (hi.out.good _ (List.getElem_mem hjo)).1
                  obtain ⟨tj, htj⟩ : ∃ x, x = strB sj := ⟨_, rfl⟩
                  rw [← hsj, ← htj] at d1
                  have KF := Lib.hid (fun W => fix_ok sj W hgj)
                  rw [← htj] at KF
                  unfold nV at KF
                  obtain ⟨aj, haj⟩ : ∃ x, x = nC (padNm sj) := ⟨_, rfl⟩
                  rw [← haj] at KF
                  have HAJ := Lib.hid (show aj.size = 32 ∧ aj.all (·.oneCell') = true ∧ aj = nC (padNm sj) ∧ nW (padNm sj) from ⟨by rw [haj]; exact nC_size (padNm_w hgj.2.1), by rw [haj]; exact nC_one _, haj, padNm_w hgj.2.1⟩)
                  clear hsj htj haj hgj hjo
                  have EQJ2 : q = qj := by injection EQJ with e; injection e
                  subst EQJ2
                  go_wp2_with fail
                  refine Calls.mono (KF.out _) ?_
                  rintro e w9 ⟨rfl, b9⟩
                  have HQ9 := Lib.hid (hqj.out.below b9)
                  have HX10 := Lib.hid (hxj.out.below b9)
                  have HZ1 := Lib.hid (Bk.new w9 24 zn)
                  have HZ2 := Lib.hid (Gw.alloc w9 (.cells zn 24))
                  clear b9 d1 h1 KF
                  go_wp2_with (first
                    | (refine wp_storeN rfl _ _ rfl w9.heap.size aj rfl rfl 24 zn HZ1.out HAJ.out.1 HZN.out HAJ.out.2.1 ?_; intro w10 k10 b10 o10; have HK10 := Lib.hid k10; have HB10 := Lib.hid (HZ2.out.trans (b10 w9.heap.size (Nat.le_refl _))); clear k10 b10 o10)
                    | (refine wp_loadN rfl _ rfl w9.heap.size rfl 24 aj HK10.out HAJ.out.1 ?_))
                  have HQ11 := Lib.hid (HQ9.out.below HB10.out)
                  have HX11 := Lib.hid (HX10.out.below HB10.out)
                  have KU := Lib.hid (unbind_m HQ11.out.tab.blk HQ11.out.tab.map HQ11.out.tab.ne (padNm sj) HAJ.out.2.2.2 _ _ rfl rfl)
                  obtain ⟨xj, hxj2⟩ : ∃ x, x = (vOf mj (padNm sj)).getD 0 := ⟨_, rfl⟩
                  obtain ⟨okj, hokj⟩ : ∃ x, x = (vOf mj (padNm sj)).isSome := ⟨_, rfl⟩
                  rw [← hxj2, ← hokj] at KU
                  unfold nV at KU
                  rw [← HAJ.out.2.2.1] at KU
                  clear hxj2 hokj
                  refine Calls.mono KU.out ?_
                  rintro e w12 ⟨rfl, hk12, hm12, hkp⟩
                  have HQ12 := Lib.hid (HQ11.out.turn (W' := w12) (m' := delN mj (padNm sj)) ⟨hk12, hm12, HQ11.out.tab.ne⟩ (fun b e => .inl e) (hkp.more (fun c e => .inr e)))
                  have HX12 := Lib.hid (show TbM w12 g9 mb9 m from ⟨hkp.bk HX11.out.blk (fun e => by have h5 := HS0.out.2.2.1 _ e; have h6 := HN9.out.1; omega), HX11.out.map.kept hkp (fun b e e2 => by have h5 := HS0.out.2.2.1 _ e2; have h6 := HN9.out.2 b e; omega), HX11.out.ne⟩)
                  clear hk12 hm12 hkp KU HQ11 HX11
                  go_wp2_with fail
                  go_roundw
                  case rel => exact ⟨j + 1, delN mj (padNm sj), by go_num, by omega, HQ12, HX12, Lib.hid HQ12.out.old⟩
                  case measure => (first | (simp [Go.RowKit.intOf]; done) | (simp [Go.RowKit.intOf]; omega))
                · go_wp2_with fail
                  go_meet
                  refine ⟨g9, mb9, m, rl, rfl, Lib.hid ⟨hxj.out, hqj.out.rw, Nat.le_trans HQ6.out.old.size HN9.out.1, fun b e => Nat.le_trans HQ6.out.old.size (HN9.out.2 b e), fun q9 e => ⟨fun e2 => ?_, fun e2 => ?_⟩, hoj.out⟩, hi⟩
                  · have h5 := (HS0.out.2.2.2 q9 e).2
                    have h6 := HN9.out.1
                    omega
                  · have h5 := (HS0.out.2.2.2 q9 e).2
                    have h6 := HN9.out.2 _ e2
                    omega
            · as_aux_lemma =>
              go_wp2_with fail
              go_meet
              exact ⟨g, mb, m, rl, rfl, HQ6, hi⟩
          case rest =>
            as_aux_lemma =>
              obtain ⟨g2, mb2, m2, rl2, rfl, hq2, hi2⟩ := hcut
              obtain ⟨AX, cX, rfl, hcX, hmX⟩ := hq2.out.rw.slice
              rw [sR_len] at hcX hq2 ⊢
              have KR := Lib.hid (roots_c hq2.out.tab.x hi2.out.wide (by rw [hi2.out.mlen]; have := hi2.out.len; omega))
              have KG := Lib.hid (fun W (hb : Below wc.heap.size wc W) => rising_c W _ AX cX rl2 (hq2.out.below hb).rw (by have := hi2.out.len; omega))
              obtain ⟨N2, hN2⟩ : ∃ N2, N2 = rl2.length := ⟨_, rfl⟩
              rw [← hN2] at KG hcX hq2 ⊢
              have HN2 := Lib.hid hN2
              have HCX := Lib.hid hcX
              clear hN2 hcX hmX
              try clear c0
              try clear c1
              try clear c2
              try clear c3
              try clear HAW
              try clear HCS
              try clear HCE
              try clear HAR
              try clear HNM
              try clear HTZ
              try clear HY
              try clear HF
              try clear HNO
              try clear HS
              try clear HST
              try clear H6
              try clear HQ6
              try clear HAP
              try clear HKN
              try clear HZS
              try clear HZN
              try clear hzA
              try clear hzero
              try clear pa
              try clear pb
              try clear hq
              try clear hcR
              try clear hmR
              go_wp2_with fail
              refine Calls.mono KR.out ?_
              rintro e w8 ⟨v8, ss, rfl, hp, hr, b8⟩
              have HP := Lib.hid (And.intro hp (And.intro hr b8))
              clear hp hr b8
              go_wp2_with fail
              refine Calls.mono (KG.out w8 HP.out.2.2) ?_
              rintro e w9 ⟨v9, o, rfl, hop, hos, hr9, b9⟩
              have heq := hi2.out.roots HP.out.1 hop hos
              have hol : o.length = N2 := by rw [HN2.out]; exact hop.length_eq
              have hr8 := HP.out.2.1.below b9
              rw [heq] at hr8
              obtain ⟨A8, c8, rfl, _, _⟩ := hr8.slice
              obtain ⟨A9, c9, rfl, _, _⟩ := hr9.slice
              rw [sR_len, hol] at hr8 hr9 ⊢
              have HR := Lib.hid (And.intro hr8 (And.intro hr9 hol))
              have HQ9 := Lib.hid (hq2.out.below (HP.out.2.2.trans (b9.mono HP.out.2.2.size)))
              have KL := Lib.hid (len_c HQ9.out.tab.x)
              rw [hi2.out.mlen, ← HN2.out] at KL
              have qN2 : (N2 : Int) ≤ 64 := by have := hi2.out.len; have := HN2.out; omega
              clear heq hol hr8 hr9 b9 hop hos HP KR KG
              go_wp2_with fail
              refine Calls.mono KL.out ?_
              rintro e w10 ⟨rfl, rfl⟩
              clear KL
              go_wp2_with fail
              go_loopw [24] (fun i W => ∃ j : Nat, i = .int .i64 j ∧ j ≤ N2 ∧ Hid (Below w10.heap.size w10 W)) (fun i _ => N2 - (Go.RowKit.intOf i).toNat)
              case atStart => exact ⟨0, rfl, by omega, Lib.hid (Below.refl _ _)⟩
              case round =>
                obtain ⟨j, rfl, hj, hbj⟩ := hrel
                by_cases hjl : j < N2
                · have p3 : (0 : Int) ≤ (j : Int) := by omega
                  have p4 : (j : Int) < (N2 : Int) := by omega
                  have hjo : j < o.length := by rw [HR.out.2.2]; exact hjl
                  obtain ⟨q1, rfl, _, h1, d1, d2⟩ := (HR.out.1.below hbj.out).atR j hjo
                  obtain ⟨q2, rfl, _, h2, d3, d4⟩ := (HR.out.2.1.below hbj.out).atR j hjo
                  obtain ⟨st9, hst9⟩ : ∃ x, x = strB (o[j]).1 := ⟨_, rfl⟩
                  obtain ⟨z9, hz9⟩ : ∃ x, x = (o[j]).2 := ⟨_, rfl⟩
                  rw [← hst9] at d1 d3
                  rw [← hz9] at d2 d4
                  clear hst9 hz9 hjo
                  go_wp2_with fail
                  refine t61 _ _ _ q1 q2 j N2 c8 c9 st9 z9 h1 h2 d1 d2 d3 d4 p3 p4 rfl ?_ ?_ ?_ ?_
                  · rfl
                  · rfl
                  · rfl
                  intro vals w11 hG h231
                  unfold IsV at h231
                  simp only [putD, Act.put, List.setIfInBounds_toArray, List.set_cons_zero, List.set_cons_succ, h231]
                  have HB11 := Lib.hid (hbj.out.trans (hG.mono hbj.out.size))
                  clear hG h231 d1 d2 d3 d4 h1 h2
                  go_wp2_with fail
                  go_roundw
                  case rel => exact ⟨j + 1, by go_num, by omega, HB11⟩
                  case measure => (first | (simp [Go.RowKit.intOf]; done) | (simp [Go.RowKit.intOf]; omega))
                · have HQF := Lib.hid (HQ9.out.below hbj.out)
                  have p5 : ¬ (j : Int) < (N2 : Int) := by omega
                  clear HR hbj hq2 HCX HN2 hjl hj
                  go_wp2_with fail
                  go_roundw
                  case rel => exact ⟨k + 1, g2, mb2, m2, rl2, by omega, rfl, by go_num, HQF, hi2⟩
                  case measure => (first | (simp [Go.RowKit.intOf]; done) | (simp [Go.RowKit.intOf]; omega))
        · have HY := Lib.hid (show vOf m nm = none from vOf_no (by rw [HS.out.2]; exact hi.out.look_out HS.out.1 hno))
          have HNO := Lib.hid hno
          clear hno
          obtain ⟨c0, c1, c2, c3⟩ := HAW.out _ H6.out
          go_upto_block 2 with fail
          go_cut [3, 4, 11, 12, 13, 14, 15, 16, 17, 18, 19, 20, 21] from 61 to 200 (fun tv rv _ _ _ _ _ _ _ _ _ _ _ W => ∃ (g : Nat) (mb : Option Nat) (m : Tb) (rl : Rw), tv = .pointer (some ⟨g, 0, none⟩) ∧ Hid (TpQ w0 W g mb m rv rl) ∧ Hid (TpI m rl))
          case first =>
            rcases (show op = 1 ∨ op = 2 ∨ op = 3 ∨ op = 4 ∨ (¬ op = 1 ∧ ¬ op = 2 ∧ ¬ op = 3 ∧ ¬ op = 4) by omega) with rfl | rfl | rfl | rfl | ⟨n1, n2, n3, n4⟩
            · as_aux_lemma =>
              by_cases ht1 : tz < 1
              · have KB := Lib.hid (fun W => bind_low W g nm HNM.out tz ht1)
                unfold nV at KB
                rw [← HAR.out] at KB
                have qz : (tz : Int) < 1 := ht1
                go_wp2_with (refine wp_loadC rfl _ rfl ⟨H, 1, none⟩ rfl nm HNM.out (HAW.out _ H6.out).2.1 ?_; rw [← HAR.out])
                refine Calls.mono (KB.out _) ?_
                rintro e w8 ⟨rfl, b8⟩
                have HQ8 := Lib.hid (HQ6.out.below b8)
                have H6 := Lib.hid (H6.out.below b8 H6.out.lt)
                obtain ⟨c0, c1, c2, c3⟩ := HAW.out _ H6.out
                clear b8 KB c1
                go_wp2_with fail
                go_meet
                exact ⟨g, mb, m, rl, rfl, HQ8, hi⟩
              · by_cases hfull : 64 ≤ N
                · have KB := Lib.hid (bindK_full HQ6.out.tab s HS.out.1 tz (by omega) HTZ.out (by rw [hi.out.mlen]; have := hi.out.len; omega) (by rw [← HS.out.2, HY.out]; rfl) (by rw [hi.out.mlen, ← HN.out]; exact hfull))
                  rw [← HS.out.2] at KB
                  unfold nV at KB
                  rw [← HAR.out] at KB
                  have qz : ¬ (tz : Int) < 1 := ht1
                  have qf : (64 : Int) ≤ (N : Int) := by omega
                  go_wp2_with (refine wp_loadC rfl _ rfl ⟨H, 1, none⟩ rfl nm HNM.out (HAW.out _ H6.out).2.1 ?_; rw [← HAR.out])
                  refine Calls.mono KB.out ?_
                  rintro e w8 ⟨rfl, b8⟩
                  have HQ8 := Lib.hid (HQ6.out.below b8)
                  have H6 := Lib.hid (H6.out.below b8 H6.out.lt)
                  obtain ⟨c0, c1, c2, c3⟩ := HAW.out _ H6.out
                  clear b8 KB c1
                  go_wp2_with fail
                  go_meet
                  exact ⟨g, mb, m, rl, rfl, HQ8, hi⟩
                · have KB := Lib.hid (bindK HQ6.out.tab s HS.out.1 tz (by omega) HTZ.out (by rw [hi.out.mlen]; have := hi.out.len; omega) (.inr (by rw [hi.out.mlen, ← HN.out]; omega)))
                  rw [← HS.out.2, HY.out] at KB
                  simp only [Option.getD_some, Option.getD_none] at KB
                  unfold nV at KB
                  rw [← HAR.out] at KB
                  have qz : ¬ (tz : Int) < 1 := ht1
                  go_wp2_with (refine wp_loadC rfl _ rfl ⟨H, 1, none⟩ rfl nm HNM.out (HAW.out _ H6.out).2.1 ?_; rw [← HAR.out])
                  refine Calls.mono KB.out ?_
                  rintro e w8 ⟨rfl, mb8, htb, hnb, hkp⟩
                  have HQ8 := Lib.hid (HQ6.out.turn htb hnb hkp)
                  have H6 := Lib.hid (hkp.bk H6.out (fun e => e.elim HAP.out.1 HAP.out.2.1))
                  have HAP8 := Lib.hid (show mb8 ≠ some H from fun e => (hnb H e).elim HAP.out.2.1 (fun h5 => by omega))
                  obtain ⟨c0, c1, c2, c3⟩ := HAW.out _ H6.out
                  clear htb hnb hkp KB c1

                  have HRR := Lib.hid (show ∀ W qz, Bk W qz 42 #[.string st, .int .i64 tz] → RdT W (some ⟨qz, 0, none⟩) [(st, tz)] from fun W qz h => RdT.one h)
                  go_wp2_with (at_builtin; refine wp_appT rfl (.tmp 121) (.tmp 126) rfl rfl (TpQ.rw (TpQ.below HQ8.out (Gw.alloc _ _))) (some ⟨_, 0, none⟩) 1 1 [(st, tz)] rfl rfl (HRR.out _ _ (Bk.new _ _ _)) (by rw [sR_len]; simp; have := hi.out.len; omega) (Nat.le_trans HQ8.out.old.size (Gw.alloc _ _).size) ?_; intro v12 w12 ht12 hb12 hg12 hv12; have HQ12 := Lib.hid (TpQ.app (rl' := rl ++ [(s, tz)]) (TpQ.below HQ8.out (Gw.alloc _ _)) (by rw [List.map_append]; have h5 := ht12; rw [HST.out] at h5; exact h5) hg12 hv12); clear ht12 hb12 hg12 hv12)
                  go_meet
                  exact ⟨g, _, _, rl ++ [(s, tz)], rfl, HQ12, Lib.hid (by rw [HS.out.2]; exact (by have h5 := hi.out.put HS.out.1 (by omega) HTZ.out (by rw [filt_all HNO.out]; have h7 := HN.out; omega); rw [filt_all HNO.out] at h5; exact h5))⟩
            · as_aux_lemma =>
              have KU := Lib.hid (unbind_m HQ6.out.tab.blk HQ6.out.tab.map HQ6.out.tab.ne nm HNM.out 0 false (by rw [HY.out]; rfl) (by rw [HY.out]; rfl))
              unfold nV at KU
              rw [← HAR.out] at KU
              go_wp2_with (refine wp_loadC rfl _ rfl ⟨H, 1, none⟩ rfl nm HNM.out (HAW.out _ H6.out).2.1 ?_; rw [← HAR.out])
              refine Calls.mono KU.out ?_
              rintro e w8 ⟨rfl, hk8, hm8, hkp⟩
              have HQ8 := Lib.hid (HQ6.out.turn (W' := w8) (m' := delN m nm) ⟨hk8, hm8, HQ6.out.tab.ne⟩ (fun b e => .inl e) (hkp.more (fun c e => .inr e)))
              have H6 := Lib.hid (hkp.bk H6.out (fun e => HAP.out.2.1 e))
              clear hk8 hm8 hkp KU
              go_wp2_with fail

              go_meet
              exact ⟨g, mb, _, rl, rfl, HQ8, Lib.hid (by rw [del_out (fun h => by have h5 := (vOf_mem m).2 h; rw [HY.out] at h5; cases h5)]; exact hi.out)⟩
            · as_aux_lemma =>
              have KL := Lib.hid (look_c HQ6.out.tab.x nm HNM.out 0 false (by rw [HY.out]; rfl) (by rw [HY.out]; rfl))
              unfold nV at KL
              rw [← HAR.out] at KL
              go_wp2_with (refine wp_loadC rfl _ rfl ⟨H, 1, none⟩ rfl nm HNM.out (HAW.out _ H6.out).2.1 ?_; rw [← HAR.out])
              refine Calls.mono KL.out ?_
              rintro e w8 ⟨rfl, b8⟩
              have HQ8 := Lib.hid (HQ6.out.below b8)
              clear b8 KL
              go_wp2_with fail
              go_meet
              exact ⟨g, mb, m, rl, rfl, HQ8, hi⟩
            · as_aux_lemma =>
              have KT := Lib.hid (twin_c HQ6.out.tab.x)
              go_wp2_with fail
              refine Calls.mono KT.out ?_
              rintro e w8 ⟨g9, rfl, hx9, b8⟩
              obtain ⟨mb9, hk9, hm9, hg9, hb9⟩ := hx9
              have HX9 := Lib.hid (show TbM w8 g9 mb9 m from ⟨hk9, hm9, fun b e => (hb9 b e).2⟩)
              have HN9 := Lib.hid (show w7.heap.size ≤ g9 ∧ ∀ b, mb9 = some b → w7.heap.size ≤ b from ⟨hg9, fun b e => (hb9 b e).1⟩)
              have HQ8 := Lib.hid (HQ6.out.below b8)
              have HS0 := Lib.hid (And.intro b8.size (And.intro HQ6.out.tab.blk.lt (And.intro (NmO.lt HQ6.out.tab.map) HQ6.out.rw.lt)))
              clear hk9 hm9 hg9 hb9 b8 KT
              go_wp2_with fail
              go_loopw [19] (fun i W => ∃ (j : Nat) (mj : Tb), i = .int .i64 j ∧ j ≤ N ∧ Hid (TpQ w0 W g mb mj (.slice AR N cR) rl) ∧ Hid (TbM W g9 mb9 m) ∧ Hid (Below w0.heap.size w0 W)) (fun i _ => N - (Go.RowKit.intOf i).toNat)
              case atStart => exact ⟨0, m, rfl, by omega, HQ8, HX9, Lib.hid HQ8.out.old⟩
              case round =>
                obtain ⟨j, mj, rfl, hj, hqj, hxj, hoj⟩ := hrel
                by_cases hjl : j < N
                · have p3 : (0 : Int) ≤ (j : Int) := by omega
                  have p4 : (j : Int) < (N : Int) := by omega
                  have hjo : j < rl.length := by rw [← HN.out]; exact hjl
                  obtain ⟨qj, EQJ, _, h1, d1, d1b⟩ := hqj.out.rw.atR j hjo
                  clear d1b
                  obtain ⟨sj, hsj⟩ : ∃ x, x = (rl[j]).1 := ⟨_, rfl⟩
                  have hgj : goodN sj := by rw [hsj]; exact (hi.out.good _ (List.getElem_mem hjo)).1
                  obtain ⟨tj, htj⟩ : ∃ x, x = strB sj := ⟨_, rfl⟩
                  rw [← hsj, ← htj] at d1
                  have KF := Lib.hid (fun W => fix_ok sj W hgj)
                  rw [← htj] at KF
                  unfold nV at KF
                  obtain ⟨aj, haj⟩ : ∃ x, x = nC (padNm sj) := ⟨_, rfl⟩
                  rw [← haj] at KF
                  have HAJ := Lib.hid (show aj.size = 32 ∧ aj.all (·.oneCell') = true ∧ aj = nC (padNm sj) ∧ nW (padNm sj) from ⟨by rw [haj]; exact nC_size (padNm_w hgj.2.1), by rw [haj]; exact nC_one _, haj, padNm_w hgj.2.1⟩)
                  clear hsj htj haj hgj hjo
                  subst EQJ
                  go_wp2_with fail
                  refine Calls.mono (KF.out _) ?_
                  rintro e w9 ⟨rfl, b9⟩
                  have HQ9 := Lib.hid (hqj.out.below b9)
                  have HX10 := Lib.hid (hxj.out.below b9)
                  have HZ1 := Lib.hid (Bk.new w9 24 zn)
                  have HZ2 := Lib.hid (Gw.alloc w9 (.cells zn 24))
                  clear b9 d1 h1 KF
                  go_wp2_with (first
                    | (refine wp_storeN rfl _ _ rfl w9.heap.size aj rfl rfl 24 zn HZ1.out HAJ.out.1 HZN.out HAJ.out.2.1 ?_; intro w10 k10 b10 o10; have HK10 := Lib.hid k10; have HB10 := Lib.hid (HZ2.out.trans (b10 w9.heap.size (Nat.le_refl _))); clear k10 b10 o10)
                    | (refine wp_loadN rfl _ rfl w9.heap.size rfl 24 aj HK10.out HAJ.out.1 ?_))
                  have HQ11 := Lib.hid (HQ9.out.below HB10.out)
                  have HX11 := Lib.hid (HX10.out.below HB10.out)
                  have KU := Lib.hid (unbind_m HQ11.out.tab.blk HQ11.out.tab.map HQ11.out.tab.ne (padNm sj) HAJ.out.2.2.2 _ _ rfl rfl)
                  obtain ⟨xj, hxj2⟩ : ∃ x, x = (vOf mj (padNm sj)).getD 0 := ⟨_, rfl⟩
                  obtain ⟨okj, hokj⟩ : ∃ x, x = (vOf mj (padNm sj)).isSome := ⟨_, rfl⟩
                  rw [← hxj2, ← hokj] at KU
                  unfold nV at KU
                  rw [← HAJ.out.2.2.1] at KU
                  clear hxj2 hokj
                  refine Calls.mono KU.out ?_
                  rintro e w12 ⟨rfl, hk12, hm12, hkp⟩
                  have HQ12 := Lib.hid (HQ11.out.turn (W' := w12) (m' := delN mj (padNm sj)) ⟨hk12, hm12, HQ11.out.tab.ne⟩ (fun b e => .inl e) (hkp.more (fun c e => .inr e)))
                  have HX12 := Lib.hid (show TbM w12 g9 mb9 m from ⟨hkp.bk HX11.out.blk (fun e => by have h5 := HS0.out.2.2.1 _ e; have h6 := HN9.out.1; omega), HX11.out.map.kept hkp (fun b e e2 => by have h5 := HS0.out.2.2.1 _ e2; have h6 := HN9.out.2 b e; omega), HX11.out.ne⟩)
                  clear hk12 hm12 hkp KU HQ11 HX11
                  go_wp2_with fail
                  go_roundw
                  case rel => exact ⟨j + 1, delN mj (padNm sj), by go_num, by omega, HQ12, HX12, Lib.hid HQ12.out.old⟩
                  case measure => (first | (simp [Go.RowKit.intOf]; done) | (simp [Go.RowKit.intOf]; omega))
                · go_wp2_with fail
                  go_meet
                  refine ⟨g9, mb9, m, rl, rfl, Lib.hid ⟨hxj.out, hqj.out.rw, Nat.le_trans HQ6.out.old.size HN9.out.1, fun b e => Nat.le_trans HQ6.out.old.size (HN9.out.2 b e), fun q9 e => ⟨fun e2 => ?_, fun e2 => ?_⟩, hoj.out⟩, hi⟩
                  · have h5 := (HS0.out.2.2.2 q9 e).2
                    have h6 := HN9.out.1
                    omega
                  · have h5 := (HS0.out.2.2.2 q9 e).2
                    have h6 := HN9.out.2 _ e2
                    omega
            · as_aux_lemma =>
              go_wp2_with fail
              go_meet
              exact ⟨g, mb, m, rl, rfl, HQ6, hi⟩
          case rest =>
            as_aux_lemma =>
              obtain ⟨g2, mb2, m2, rl2, rfl, hq2, hi2⟩ := hcut
              obtain ⟨AX, cX, rfl, hcX, hmX⟩ := hq2.out.rw.slice
              rw [sR_len] at hcX hq2 ⊢
              have KR := Lib.hid (roots_c hq2.out.tab.x hi2.out.wide (by rw [hi2.out.mlen]; have := hi2.out.len; omega))
              have KG := Lib.hid (fun W (hb : Below wc.heap.size wc W) => rising_c W _ AX cX rl2 (hq2.out.below hb).rw (by have := hi2.out.len; omega))
              obtain ⟨N2, hN2⟩ : ∃ N2, N2 = rl2.length := ⟨_, rfl⟩
              rw [← hN2] at KG hcX hq2 ⊢
              have HN2 := Lib.hid hN2
              have HCX := Lib.hid hcX
              clear hN2 hcX hmX
              try clear c0
              try clear c1
              try clear c2
              try clear c3
              try clear HAW
              try clear HCS
              try clear HCE
              try clear HAR
              try clear HNM
              try clear HTZ
              try clear HY
              try clear HF
              try clear HNO
              try clear HS
              try clear HST
              try clear H6
              try clear HQ6
              try clear HAP
              try clear HKN
              try clear HZS
              try clear HZN
              try clear hzA
              try clear hzero
              try clear pa
              try clear pb
              try clear hq
              try clear hcR
              try clear hmR
              go_wp2_with fail
              refine Calls.mono KR.out ?_
              rintro e w8 ⟨v8, ss, rfl, hp, hr, b8⟩
              have HP := Lib.hid (And.intro hp (And.intro hr b8))
              clear hp hr b8
              go_wp2_with fail
              refine Calls.mono (KG.out w8 HP.out.2.2) ?_
              rintro e w9 ⟨v9, o, rfl, hop, hos, hr9, b9⟩
              have heq := hi2.out.roots HP.out.1 hop hos
              have hol : o.length = N2 := by rw [HN2.out]; exact hop.length_eq
              have hr8 := HP.out.2.1.below b9
              rw [heq] at hr8
              obtain ⟨A8, c8, rfl, _, _⟩ := hr8.slice
              obtain ⟨A9, c9, rfl, _, _⟩ := hr9.slice
              rw [sR_len, hol] at hr8 hr9 ⊢
              have HR := Lib.hid (And.intro hr8 (And.intro hr9 hol))
              have HQ9 := Lib.hid (hq2.out.below (HP.out.2.2.trans (b9.mono HP.out.2.2.size)))
              have KL := Lib.hid (len_c HQ9.out.tab.x)
              rw [hi2.out.mlen, ← HN2.out] at KL
              have qN2 : (N2 : Int) ≤ 64 := by have := hi2.out.len; have := HN2.out; omega
              clear heq hol hr8 hr9 b9 hop hos HP KR KG
              go_wp2_with fail
              refine Calls.mono KL.out ?_
              rintro e w10 ⟨rfl, rfl⟩
              clear KL
              go_wp2_with fail
              go_loopw [24] (fun i W => ∃ j : Nat, i = .int .i64 j ∧ j ≤ N2 ∧ Hid (Below w10.heap.size w10 W)) (fun i _ => N2 - (Go.RowKit.intOf i).toNat)
              case atStart => exact ⟨0, rfl, by omega, Lib.hid (Below.refl _ _)⟩
              case round =>
                obtain ⟨j, rfl, hj, hbj⟩ := hrel
                by_cases hjl : j < N2
                · have p3 : (0 : Int) ≤ (j : Int) := by omega
                  have p4 : (j : Int) < (N2 : Int) := by omega
                  have hjo : j < o.length := by rw [HR.out.2.2]; exact hjl
                  obtain ⟨q1, rfl, _, h1, d1, d2⟩ := (HR.out.1.below hbj.out).atR j hjo
                  obtain ⟨q2, rfl, _, h2, d3, d4⟩ := (HR.out.2.1.below hbj.out).atR j hjo
                  obtain ⟨st9, hst9⟩ : ∃ x, x = strB (o[j]).1 := ⟨_, rfl⟩
                  obtain ⟨z9, hz9⟩ : ∃ x, x = (o[j]).2 := ⟨_, rfl⟩
                  rw [← hst9] at d1 d3
                  rw [← hz9] at d2 d4
                  clear hst9 hz9 hjo
                  go_wp2_with fail
                  refine t61 _ _ _ q1 q2 j N2 c8 c9 st9 z9 h1 h2 d1 d2 d3 d4 p3 p4 rfl ?_ ?_ ?_ ?_
                  · rfl
                  · rfl
                  · rfl
                  intro vals w11 hG h231
                  unfold IsV at h231
                  simp only [putD, Act.put, List.setIfInBounds_toArray, List.set_cons_zero, List.set_cons_succ, h231]
                  have HB11 := Lib.hid (hbj.out.trans (hG.mono hbj.out.size))
                  clear hG h231 d1 d2 d3 d4 h1 h2
                  go_wp2_with fail
                  go_roundw
                  case rel => exact ⟨j + 1, by go_num, by omega, HB11⟩
                  case measure => (first | (simp [Go.RowKit.intOf]; done) | (simp [Go.RowKit.intOf]; omega))
                · have HQF := Lib.hid (HQ9.out.below hbj.out)
                  have p5 : ¬ (j : Int) < (N2 : Int) := by omega
                  clear HR hbj hq2 HCX HN2 hjl hj
                  go_wp2_with fail
                  go_roundw
                  case rel => exact ⟨k + 1, g2, mb2, m2, rl2, by omega, rfl, by go_num, HQF, hi2⟩
                  case measure => (first | (simp [Go.RowKit.intOf]; done) | (simp [Go.RowKit.intOf]; omega))
      · have HY := Lib.hid (show vOf m nm = none from vOf_no (hi.out.look_bad hno))
        have HNO := Lib.hid hno
        clear hno
        obtain ⟨c0, c1, c2, c3⟩ := HAW.out _ H6.out
        go_upto_block 2 with fail
        go_cut [3, 4, 11, 12, 13, 14, 15, 16, 17, 18, 19, 20, 21] from 61 to 200 (fun tv rv _ _ _ _ _ _ _ _ _ _ _ W => ∃ (g : Nat) (mb : Option Nat) (m : Tb) (rl : Rw), tv = .pointer (some ⟨g, 0, none⟩) ∧ Hid (TpQ w0 W g mb m rv rl) ∧ Hid (TpI m rl))
        case first =>
          rcases (show op = 1 ∨ op = 2 ∨ op = 3 ∨ op = 4 ∨ (¬ op = 1 ∧ ¬ op = 2 ∧ ¬ op = 3 ∧ ¬ op = 4) by omega) with rfl | rfl | rfl | rfl | ⟨n1, n2, n3, n4⟩
          · as_aux_lemma =>
            by_cases ht1 : tz < 1
            · have KB := Lib.hid (fun W => bind_low W g nm HNM.out tz ht1)
              unfold nV at KB
              rw [← HAR.out] at KB
              have qz : (tz : Int) < 1 := ht1
              go_wp2_with (refine wp_loadC rfl _ rfl ⟨H, 1, none⟩ rfl nm HNM.out (HAW.out _ H6.out).2.1 ?_; rw [← HAR.out])
              refine Calls.mono (KB.out _) ?_
              rintro e w8 ⟨rfl, b8⟩
              have HQ8 := Lib.hid (HQ6.out.below b8)
              have H6 := Lib.hid (H6.out.below b8 H6.out.lt)
              obtain ⟨c0, c1, c2, c3⟩ := HAW.out _ H6.out
              clear b8 KB c1
              go_wp2_with fail
              go_meet
              exact ⟨g, mb, m, rl, rfl, HQ8, hi⟩
            · have KB := Lib.hid (fun W => bind_nm W g nm HNM.out HNO.out tz (by omega))
              unfold nV at KB
              rw [← HAR.out] at KB
              have qz : ¬ (tz : Int) < 1 := ht1
              go_wp2_with (refine wp_loadC rfl _ rfl ⟨H, 1, none⟩ rfl nm HNM.out (HAW.out _ H6.out).2.1 ?_; rw [← HAR.out])
              refine Calls.mono (KB.out _) ?_
              rintro e w8 ⟨rfl, b8⟩
              have HQ8 := Lib.hid (HQ6.out.below b8)
              have H6 := Lib.hid (H6.out.below b8 H6.out.lt)
              obtain ⟨c0, c1, c2, c3⟩ := HAW.out _ H6.out
              clear b8 KB c1
              go_wp2_with fail
              go_meet
              exact ⟨g, mb, m, rl, rfl, HQ8, hi⟩
          · as_aux_lemma =>
            have KU := Lib.hid (unbind_m HQ6.out.tab.blk HQ6.out.tab.map HQ6.out.tab.ne nm HNM.out 0 false (by rw [HY.out]; rfl) (by rw [HY.out]; rfl))
            unfold nV at KU
            rw [← HAR.out] at KU
            go_wp2_with (refine wp_loadC rfl _ rfl ⟨H, 1, none⟩ rfl nm HNM.out (HAW.out _ H6.out).2.1 ?_; rw [← HAR.out])
            refine Calls.mono KU.out ?_
            rintro e w8 ⟨rfl, hk8, hm8, hkp⟩
            have HQ8 := Lib.hid (HQ6.out.turn (W' := w8) (m' := delN m nm) ⟨hk8, hm8, HQ6.out.tab.ne⟩ (fun b e => .inl e) (hkp.more (fun c e => .inr e)))
            have H6 := Lib.hid (hkp.bk H6.out (fun e => HAP.out.2.1 e))
            clear hk8 hm8 hkp KU
            go_wp2_with fail

            go_meet
            exact ⟨g, mb, _, rl, rfl, HQ8, Lib.hid (by rw [del_out (fun h => by have h5 := (vOf_mem m).2 h; rw [HY.out] at h5; cases h5)]; exact hi.out)⟩
          · as_aux_lemma =>
            have KL := Lib.hid (look_c HQ6.out.tab.x nm HNM.out 0 false (by rw [HY.out]; rfl) (by rw [HY.out]; rfl))
            unfold nV at KL
            rw [← HAR.out] at KL
            go_wp2_with (refine wp_loadC rfl _ rfl ⟨H, 1, none⟩ rfl nm HNM.out (HAW.out _ H6.out).2.1 ?_; rw [← HAR.out])
            refine Calls.mono KL.out ?_
            rintro e w8 ⟨rfl, b8⟩
            have HQ8 := Lib.hid (HQ6.out.below b8)
            clear b8 KL
            go_wp2_with fail
            go_meet
            exact ⟨g, mb, m, rl, rfl, HQ8, hi⟩
          · as_aux_lemma =>
            have KT := Lib.hid (twin_c HQ6.out.tab.x)
            go_wp2_with fail
            refine Calls.mono KT.out ?_
            rintro e w8 ⟨g9, rfl, hx9, b8⟩
            obtain ⟨mb9, hk9, hm9, hg9, hb9⟩ := hx9
            have HX9 := Lib.hid (show TbM w8 g9 mb9 m from ⟨hk9, hm9, fun b e => (hb9 b e).2⟩)
            have HN9 := Lib.hid (show w6.heap.size ≤ g9 ∧ ∀ b, mb9 = some b → w6.heap.size ≤ b from ⟨hg9, fun b e => (hb9 b e).1⟩)
            have HQ8 := Lib.hid (HQ6.out.below b8)
            have HS0 := Lib.hid (And.intro b8.size (And.intro HQ6.out.tab.blk.lt (And.intro (NmO.lt HQ6.out.tab.map) HQ6.out.rw.lt)))
            clear hk9 hm9 hg9 hb9 b8 KT
            go_wp2_with fail
            go_loopw [19] (fun i W => ∃ (j : Nat) (mj : Tb), i = .int .i64 j ∧ j ≤ N ∧ Hid (TpQ w0 W g mb mj (.slice AR N cR) rl) ∧ Hid (TbM W g9 mb9 m) ∧ Hid (Below w0.heap.size w0 W)) (fun i _ => N - (Go.RowKit.intOf i).toNat)
            case atStart => exact ⟨0, m, rfl, by omega, HQ8, HX9, Lib.hid HQ8.out.old⟩
            case round =>
              obtain ⟨j, mj, rfl, hj, hqj, hxj, hoj⟩ := hrel
              by_cases hjl : j < N
              · have p3 : (0 : Int) ≤ (j : Int) := by omega
                have p4 : (j : Int) < (N : Int) := by omega
                have hjo : j < rl.length := by rw [← HN.out]; exact hjl
                obtain ⟨qj, EQJ, _, h1, d1, d1b⟩ := hqj.out.rw.atR j hjo
                clear d1b
                obtain ⟨sj, hsj⟩ : ∃ x, x = (rl[j]).1 := ⟨_, rfl⟩
                have hgj : goodN sj := by rw [hsj]; exact (hi.out.good _ (List.getElem_mem hjo)).1
                obtain ⟨tj, htj⟩ : ∃ x, x = strB sj := ⟨_, rfl⟩
                rw [← hsj, ← htj] at d1
                have KF := Lib.hid (fun W => fix_ok sj W hgj)
                rw [← htj] at KF
                unfold nV at KF
                obtain ⟨aj, haj⟩ : ∃ x, x = nC (padNm sj) := ⟨_, rfl⟩
                rw [← haj] at KF
                have HAJ := Lib.hid (show aj.size = 32 ∧ aj.all (·.oneCell') = true ∧ aj = nC (padNm sj) ∧ nW (padNm sj) from ⟨by rw [haj]; exact nC_size (padNm_w hgj.2.1), by rw [haj]; exact nC_one _, haj, padNm_w hgj.2.1⟩)
                clear hsj htj haj hgj hjo
                subst EQJ
                go_wp2_with fail
                refine Calls.mono (KF.out _) ?_
                rintro e w9 ⟨rfl, b9⟩
                have HQ9 := Lib.hid (hqj.out.below b9)
                have HX10 := Lib.hid (hxj.out.below b9)
                have HZ1 := Lib.hid (Bk.new w9 24 zn)
                have HZ2 := Lib.hid (Gw.alloc w9 (.cells zn 24))
                clear b9 d1 h1 KF
                go_wp2_with (first
                  | (refine wp_storeN rfl _ _ rfl w9.heap.size aj rfl rfl 24 zn HZ1.out HAJ.out.1 HZN.out HAJ.out.2.1 ?_; intro w10 k10 b10 o10; have HK10 := Lib.hid k10; have HB10 := Lib.hid (HZ2.out.trans (b10 w9.heap.size (Nat.le_refl _))); clear k10 b10 o10)
                  | (refine wp_loadN rfl _ rfl w9.heap.size rfl 24 aj HK10.out HAJ.out.1 ?_))
                have HQ11 := Lib.hid (HQ9.out.below HB10.out)
                have HX11 := Lib.hid (HX10.out.below HB10.out)
                have KU := Lib.hid (unbind_m HQ11.out.tab.blk HQ11.out.tab.map HQ11.out.tab.ne (padNm sj) HAJ.out.2.2.2 _ _ rfl rfl)
                obtain ⟨xj, hxj2⟩ : ∃ x, x = (vOf mj (padNm sj)).getD 0 := ⟨_, rfl⟩
                obtain ⟨okj, hokj⟩ : ∃ x, x = (vOf mj (padNm sj)).isSome := ⟨_, rfl⟩
                rw [← hxj2, ← hokj] at KU
                unfold nV at KU
                rw [← HAJ.out.2.2.1] at KU
                clear hxj2 hokj
                refine Calls.mono KU.out ?_
                rintro e w12 ⟨rfl, hk12, hm12, hkp⟩
                have HQ12 := Lib.hid (HQ11.out.turn (W' := w12) (m' := delN mj (padNm sj)) ⟨hk12, hm12, HQ11.out.tab.ne⟩ (fun b e => .inl e) (hkp.more (fun c e => .inr e)))
                have HX12 := Lib.hid (show TbM w12 g9 mb9 m from ⟨hkp.bk HX11.out.blk (fun e => by have h5 := HS0.out.2.2.1 _ e; have h6 := HN9.out.1; omega), HX11.out.map.kept hkp (fun b e e2 => by have h5 := HS0.out.2.2.1 _ e2; have h6 := HN9.out.2 b e; omega), HX11.out.ne⟩)
                clear hk12 hm12 hkp KU HQ11 HX11
                go_wp2_with fail
                go_roundw
                case rel => exact ⟨j + 1, delN mj (padNm sj), by go_num, by omega, HQ12, HX12, Lib.hid HQ12.out.old⟩
                case measure => (first | (simp [Go.RowKit.intOf]; done) | (simp [Go.RowKit.intOf]; omega))
              · go_wp2_with fail
                go_meet
                refine ⟨g9, mb9, m, rl, rfl, Lib.hid ⟨hxj.out, hqj.out.rw, Nat.le_trans HQ6.out.old.size HN9.out.1, fun b e => Nat.le_trans HQ6.out.old.size (HN9.out.2 b e), fun q9 e => ⟨fun e2 => ?_, fun e2 => ?_⟩, hoj.out⟩, hi⟩
                · have h5 := (HS0.out.2.2.2 q9 e).2
                  have h6 := HN9.out.1
                  omega
                · have h5 := (HS0.out.2.2.2 q9 e).2
                  have h6 := HN9.out.2 _ e2
                  omega
          · as_aux_lemma =>
            go_wp2_with fail
            go_meet
            exact ⟨g, mb, m, rl, rfl, HQ6, hi⟩
        case rest =>
          as_aux_lemma =>
            obtain ⟨g2, mb2, m2, rl2, rfl, hq2, hi2⟩ := hcut
            obtain ⟨AX, cX, rfl, hcX, hmX⟩ := hq2.out.rw.slice
            rw [sR_len] at hcX hq2 ⊢
            have KR := Lib.hid (roots_c hq2.out.tab.x hi2.out.wide (by rw [hi2.out.mlen]; have := hi2.out.len; omega))
            have KG := Lib.hid (fun W (hb : Below wc.heap.size wc W) => rising_c W _ AX cX rl2 (hq2.out.below hb).rw (by have := hi2.out.len; omega))
            obtain ⟨N2, hN2⟩ : ∃ N2, N2 = rl2.length := ⟨_, rfl⟩
            rw [← hN2] at KG hcX hq2 ⊢
            have HN2 := Lib.hid hN2
            have HCX := Lib.hid hcX
            clear hN2 hcX hmX
            try clear c0
            try clear c1
            try clear c2
            try clear c3
            try clear HAW
            try clear HCS
            try clear HCE
            try clear HAR
            try clear HNM
            try clear HTZ
            try clear HY
            try clear HF
            try clear HNO
            try clear HS
            try clear HST
            try clear H6
            try clear HQ6
            try clear HAP
            try clear HKN
            try clear HZS
            try clear HZN
            try clear hzA
            try clear hzero
            try clear pa
            try clear pb
            try clear hq
            try clear hcR
            try clear hmR
            go_wp2_with fail
            refine Calls.mono KR.out ?_
            rintro e w8 ⟨v8, ss, rfl, hp, hr, b8⟩
            have HP := Lib.hid (And.intro hp (And.intro hr b8))
            clear hp hr b8
            go_wp2_with fail
            refine Calls.mono (KG.out w8 HP.out.2.2) ?_
            rintro e w9 ⟨v9, o, rfl, hop, hos, hr9, b9⟩
            have heq := hi2.out.roots HP.out.1 hop hos
            have hol : o.length = N2 := by rw [HN2.out]; exact hop.length_eq
            have hr8 := HP.out.2.1.below b9
            rw [heq] at hr8
            obtain ⟨A8, c8, rfl, _, _⟩ := hr8.slice
            obtain ⟨A9, c9, rfl, _, _⟩ := hr9.slice
            rw [sR_len, hol] at hr8 hr9 ⊢
            have HR := Lib.hid (And.intro hr8 (And.intro hr9 hol))
            have HQ9 := Lib.hid (hq2.out.below (HP.out.2.2.trans (b9.mono HP.out.2.2.size)))
            have KL := Lib.hid (len_c HQ9.out.tab.x)
            rw [hi2.out.mlen, ← HN2.out] at KL
            have qN2 : (N2 : Int) ≤ 64 := by have := hi2.out.len; have := HN2.out; omega
            clear heq hol hr8 hr9 b9 hop hos HP KR KG
            go_wp2_with fail
            refine Calls.mono KL.out ?_
            rintro e w10 ⟨rfl, rfl⟩
            clear KL
            go_wp2_with fail
            go_loopw [24] (fun i W => ∃ j : Nat, i = .int .i64 j ∧ j ≤ N2 ∧ Hid (Below w10.heap.size w10 W)) (fun i _ => N2 - (Go.RowKit.intOf i).toNat)
            case atStart => exact ⟨0, rfl, by omega, Lib.hid (Below.refl _ _)⟩
            case round =>
              obtain ⟨j, rfl, hj, hbj⟩ := hrel
              by_cases hjl : j < N2
              · have p3 : (0 : Int) ≤ (j : Int) := by omega
                have p4 : (j : Int) < (N2 : Int) := by omega
                have hjo : j < o.length := by rw [HR.out.2.2]; exact hjl
                obtain ⟨q1, rfl, _, h1, d1, d2⟩ := (HR.out.1.below hbj.out).atR j hjo
                obtain ⟨q2, rfl, _, h2, d3, d4⟩ := (HR.out.2.1.below hbj.out).atR j hjo
                obtain ⟨st9, hst9⟩ : ∃ x, x = strB (o[j]).1 := ⟨_, rfl⟩
                obtain ⟨z9, hz9⟩ : ∃ x, x = (o[j]).2 := ⟨_, rfl⟩
                rw [← hst9] at d1 d3
                rw [← hz9] at d2 d4
                clear hst9 hz9 hjo
                go_wp2_with fail
                refine t61 _ _ _ q1 q2 j N2 c8 c9 st9 z9 h1 h2 d1 d2 d3 d4 p3 p4 rfl ?_ ?_ ?_ ?_
                · rfl
                · rfl
                · rfl
                intro vals w11 hG h231
                unfold IsV at h231
                simp only [putD, Act.put, List.setIfInBounds_toArray, List.set_cons_zero, List.set_cons_succ, h231]
                have HB11 := Lib.hid (hbj.out.trans (hG.mono hbj.out.size))
                clear hG h231 d1 d2 d3 d4 h1 h2
                go_wp2_with fail
                go_roundw
                case rel => exact ⟨j + 1, by go_num, by omega, HB11⟩
                case measure => (first | (simp [Go.RowKit.intOf]; done) | (simp [Go.RowKit.intOf]; omega))
              · have HQF := Lib.hid (HQ9.out.below hbj.out)
                have p5 : ¬ (j : Int) < (N2 : Int) := by omega
                clear HR hbj hq2 HCX HN2 hjl hj
                go_wp2_with fail
                go_roundw
                case rel => exact ⟨k + 1, g2, mb2, m2, rl2, by omega, rfl, by go_num, HQF, hi2⟩
                case measure => (first | (simp [Go.RowKit.intOf]; done) | (simp [Go.RowKit.intOf]; omega))
    · go_wp2_with fail
      go_ret
      exact ⟨rfl, HB0.out.trans (hq.out.old.mono HB0.out.size)⟩
theorem tplays_walk (w : World) (A : Option Addr) (l : List Na) (c : Nat) (_g : l.length ≤ c) (_m : c ≤ maxLen) (hA : Nas w w.heap.size A l) : Calls Try.prog 4 #[.slice A l.length c] w (TruP (.bool true) w) := by
  by_cases h : 120 < l.length
  · exact tplays_far w A l.length c h
  · exact tplays_ok w A l c hA (by omega)
end Go.Proofs.Ytdfhdgdhhgabbaa
namespace Go.Proofs.Ytdfhdgdhhgabbaa.tablePlays
open Go.ChangeShapes Go.WideShapes Go.ChangeAt Go.RowKit
open Go.ChangeMaps (open_string shut_string)
set_option linter.unusedVariables false
set_option maxRecDepth 100000 in
theorem lifted (os : Os) (started : os.Started) (H : Type) (enc : TypeId × Value → H) :
    ReturnsInHanded {} Try.checked os 4 .any (Rows.tablePlaysSpec.pre6 enc Try.prog Try.f4 Rows.tablePlaysRow.domain false) (Rows.tablePlaysSpec.post enc Try.prog Try.f4 false true false false) := by
  refine returnsInHanded_of_change (C := Try.checked) own started (by kernel_rfl) Try.func4
    (ChangeSpec.witness6 (enc := enc) (C := Try.checked) false ⟨#[], #[.slice none 0 0], []⟩ 8 (by kernel_rfl) (by kernel_rfl) (by kernel_rfl) (by kernel_rfl)) ?_
  intro W base args ds gs before hval0 hW hcnd _
  have hval : ∀ (j : Nat) t v, Try.f4.params[j]? = some t → args[j]? = some v → Value.okWide Try.prog W .any base t v := hval0
  have hW' := hW
  obtain ⟨p, q, hA0, hV, rfl, hfz, hnd⟩ := hW
  have hA : DataW.TrodAll enc Try.prog W 0 (fun _ => true) true Try.f4.params.toList args.toList ds p := hA0
  rw [Try.params4] at hA hval
  obtain ⟨v0, vs0, d0, ds0, p0, q0, hargs, rfl, rfl, h0, r0⟩ := trodAll_cons hA
  obtain ⟨rfl, rfl, rfl⟩ := trodAll_nil r0
  obtain rfl : args = #[v0] := by cases args; simp_all
  obtain ⟨rfl, rfl⟩ := trodVars_none hV
  have k0 := h0
  have lt0 : ∀ x ∈ p0, x.block < W.heap.size := by obtain ⟨m, hm⟩ := k0; exact DataW.trod_lt m _ _ _ hm
  obtain ⟨A0, a0, c0, e0v, g0, m0, w0⟩ := open_rows_Act (hval 0 30 v0 rfl rfl) h0; subst e0v
  clear hA0 hval0
  refine (tplays_walk W A0 a0 c0 g0 m0 w0).mono fun e W' ⟨he, bel⟩ => ?_
  subst he
  exact ⟨_, rfl, _, _, _, [], _, [], hW', trodAll_mk1 (shut_bool Try.underlying4 _), (trodAll_cons_mk (Below.trod laidOut (by kernel_rfl) (of_decide_eq_true (by kernel_rfl)) k0 bel lt0) trodAll_mk0), rfl, bel.frame _, fun h => by cases h⟩
theorem over : Rows.tablePlaysRow.holds Try.pinned (OpenSpec.ofChange Rows.tablePlaysSpec) :=
  OpenClaim.holds_of_wide 4 Try.f4 rfl rfl rfl rfl rfl rfl rfl ⟨rfl, rfl, rfl, rfl, rfl⟩ rfl rfl rfl rfl rfl (by kernel_rfl) Try.func4 (by kernel_rfl)
    (of_decide_eq_true (by kernel_rfl)) (by unfold Func.isWrapper; first | (rw [if_pos (by decide +kernel)]; kernel_rfl) | (rw [if_neg (by decide +kernel)]; exact ⟨rfl, rfl⟩))
    (fun os started H enc _ => lifted os started H enc)
theorem proved : Rows.TablePlaysSaid := over
end Go.Proofs.Ytdfhdgdhhgabbaa.tablePlays
