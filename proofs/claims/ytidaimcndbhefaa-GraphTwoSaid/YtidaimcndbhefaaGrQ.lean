/- graph.Twin. Conditions: lengths. -/
import Derived.Test.YtidaimcndbhefaaGrP
import Derived.Test.YtidaimcndbhefaaGrG
import Derived.Test.YtidaimcndbhefaaRegU
import Derived.Test.YtidaimcndbhefaaMmA
namespace Go.Proofs.Ytidaimcndbhefaa
set_option linter.unusedVariables false
set_option linter.unusedSimpArgs false
open Go.RowKit
set_option maxHeartbeats 4000000
set_option maxRecDepth 100000
theorem graph_res {tmps : Array Value} {W : World} {g : Nat} {a b : Value} (hb : Bk W g 25 #[a, b]) (h2 : tmps.getD 2 undef = .pointer (some ⟨g, 0, none⟩)) :
    (results Try.f23 tmps).run Try.prog W = .ok (.agg #[a, b]) W := by
  have hl := run_loadVar_row (P := Try.prog) W g 25 25 #[a, b] (0, 0) _ hb Try.underlying25 rfl (by kernel_rfl)
  have h2' : tmps[2]?.getD undef = .pointer (some ⟨g, 0, none⟩) := by simpa using h2
  simp [results, Try.results23, h2', asAddr, hl]
theorem twin_g (w : World) (g : Gv) (hg : g.At w w.heap.size) (hs : g.Small) : Calls Try.prog 23 #[g.v] w fun e w' => ∃ g' : Gv, e = .returned g'.v ∧ NOwn w' w.heap.size g'.vn g'.n ∧ ROwn w' w.heap.size g'.vr g'.r ∧ g'.n.map Nv.m = g.n.map Nv.m ∧ g'.r = g.r ∧ Below w.heap.size w w' := by
  have HG := Lib.hid hg
  have HSm := Lib.hid hs
  have HRc := Lib.hid (fun W (h : Below w.heap.size w W) => rclone_c g.r g.A2 g.c2 W ((hg.r.below h).more h.size) hs.2.1)
  obtain ⟨A, ca, A2, ca2, ns, rs⟩ := g
  obtain ⟨N, hN⟩ : ∃ N, N = ns.length := ⟨_, rfl⟩
  obtain ⟨M, hM⟩ : ∃ M, M = rs.length := ⟨_, rfl⟩
  have HN := Lib.hid (And.intro hN hM)
  have q0 : (N : Int) ≤ 1000000 := by rw [hN]; exact Int.ofNat_le.2 hs.1
  unfold Gv.v Gv.vn Gv.vr
  simp only at HRc ⊢
  rw [← hM] at HRc
  rw [← hN, ← hM]
  clear hg hs hN hM
  go_enter Try.func23, Try.ntmps23
  go_wp2_with fail
  refine Calls.mono (HRc.out _ (by repeat (first | with_reducible assumption | with_reducible exact Below.refl _ _ | with_reducible apply bdN | with_reducible apply Below.drew | with_reducible refine Below.alloc ?_ (by simp) _ | with_reducible refine Below.setCell ?_ (by simp) _))) ?_
  rintro r1 w1 ⟨R2, rc2, rfl, ho1, b1⟩
  have HB1 := Lib.hid (boxed2 (k := 0) b1)
  have HO1 := Lib.hid ho1
  obtain ⟨k1, k2, k3⟩ := HB1.out
  have hsz1 : w.heap.size + 2 ≤ w1.heap.size := by have := b1.size; simp at this; omega
  have hsz0 : w.heap.size < w1.heap.size := by omega
  have c0 := k1.two.1
  clear b1 ho1 k1 k2 k3
  go_wp2_with fail
  obtain ⟨q, hq⟩ : ∃ q, w1.heap.size = q := ⟨_, rfl⟩
  have HQ := Lib.hid hq.symm
  rw [hq]
  clear hq
  go_loopw [13] (fun i W => ∃ (k : Nat) (VA : Option Addr) (vc : Nat) (xs : List Nv), i = .int .i64 k ∧ k ≤ N ∧ Hid (xs.map Nv.m = (ns.take k).map Nv.m) ∧ NOwn W (q + 1) (.slice VA k vc) xs ∧ Bk W q 25 #[.slice VA k vc, .slice R2 M rc2] ∧ Below q w1 W) (fun i _ => N - (intOf i).toNat)
  case atStart =>
    refine ⟨0, none, 0, [], rfl, Nat.zero_le _, Lib.hid rfl, NOwn.nil _ _, ?_, ?_⟩
    · rw [HQ.out]; exact Bk.new _ _ _
    · rw [HQ.out]; exact Gw.alloc _ _
  case round =>
    obtain ⟨k, VA, vc, xs, rfl, hk, hm, ho, hb1, hB⟩ := hrel
    have hxl : xs.length = k := by
      have := congrArg List.length hm.out
      rw [List.length_map, List.length_map, List.length_take, ← HN.out.1] at this
      omega
    have hq2 := HQ.out
    have hsz := hb1.lt
    by_cases hlt : k < N
    · have hkl : k < ns.length := by rw [← HN.out.1]; exact hlt
      obtain ⟨x, hx⟩ : ∃ x, x = ns[k] := ⟨_, rfl⟩
      have hbw : Below w.heap.size w wr := HB1.out.2.2.trans (hB.mono (by omega))
      obtain ⟨ad, rfl, hc2, hc3, hxa⟩ : ∃ ad, A = some ad ∧ wr.cell? (ad.add (k * 2)) = some x.vp ∧ wr.cell? ⟨(ad.add (k * 2)).block, (ad.add (k * 2)).off + 1, none⟩ = some x.vd ∧ x.At wr wr.heap.size := by
        obtain ⟨ad, e, _, h1, h2, h3⟩ := (HG.out.n.below hbw) k hkl
        exact ⟨ad, e, by rw [hx]; exact h1, by rw [hx]; exact h2, by rw [hx]; exact h3.more hbw.size⟩
      have hsm := HSm.out.2.2 x (by rw [hx]; exact List.getElem_mem _)
      have HC1 := Lib.hid (fun W (hb : Below wr.heap.size wr W) => icloneG_c x.ps x.A x.c W (hxa.up hb).p (by omega))
      have HC2 := Lib.hid (fun W (hb : Below wr.heap.size wr W) => clone_c x.bs x.D x.d W (hxa.up hb).b (by omega))
      have hmm : ∀ y : Nv, y.m = x.m → (xs ++ [y]).map Nv.m = (ns.take (k + 1)).map Nv.m := fun y hy => by
        rw [take_snoc ns k hkl, List.map_append, List.map_append, hm.out, ← hx]
        simp [hy]
      have HMM := Lib.hid hmm
      obtain ⟨xA, xc, xD, xd, xps, xbs⟩ := x
      unfold Nv.vp at hc2
      unfold Nv.vd at hc3
      unfold NewP at HC1 HC2
      simp only at HC1 HC2 hc2 hc3
      obtain ⟨xn, hxn⟩ : ∃ n, n = xps.length := ⟨_, rfl⟩
      obtain ⟨xm, hxm⟩ : ∃ n, n = xbs.length := ⟨_, rfl⟩
      rw [← hxn] at hc2 HC1
      rw [← hxm] at hc3 HC2
      have p1 : (0 : Int) ≤ (k : Int) := by omega
      have p2 : (k : Int) < (N : Int) := by omega
      have HX := Lib.hid (And.intro hxn (And.intro hxm hxl))
      have HO := Lib.hid (And.intro ho (And.intro hb1 hB))
      have hcl := cell_lt hc2
      have hcl' : (ad.add (k * 2)).block < wr.heap.size := hcl
      have hva : (∀ a, VA = some a → q + 1 ≤ a.block ∧ a.block < wr.heap.size) := fun a e => by
        subst e
        exact ⟨(ho.row.lt a.block rfl).1, (ho.row.lt a.block rfl).2⟩
      have HVA := Lib.hid hva
      clear hx hxa hsm hmm hxn hxm hxl hm ho hB hq2 hkl hbw hcl hva
      go_wp2_with fail
      obtain ⟨W0, hW0⟩ : ∃ W0, W0 = wr.alloc (.cells #[.slice xA xn xc, .slice xD xm xd] 53) := ⟨_, rfl⟩
      have b0 : Below wr.heap.size wr W0 := by rw [hW0]; exact Gw.alloc _ _
      have k0 : Bk W0 wr.heap.size 53 #[.slice xA xn xc, .slice xD xm xd] := by rw [hW0]; exact Bk.new _ _ _
      have z0 : W0.heap.size = wr.heap.size + 1 := by rw [hW0]; simp
      have hW0' := Lib.hid hW0
      rw [← hW0]
      clear hW0 hb1
      have B0 := Lib.hid b0
      have K0 := Lib.hid k0
      have Z0 := Lib.hid z0
      have Q0 := Lib.hid (HO.out.2.1.below b0 hsz)
      have hw0 : W0.cell? ⟨q, 0, none⟩ = some (.slice VA k vc) ∧ W0.cell? ⟨wr.heap.size, 0, none⟩ = some (.slice xA xn xc) ∧ W0.cell? ⟨wr.heap.size, 1, none⟩ = some (.slice xD xm xd) := ⟨Q0.out.cell 0, k0.cell 0, k0.cell 1⟩
      clear b0 k0 z0
      refine region_by_spineU 12 [4, 7, 8, 9, 10, 11, 12] [(0, 17, .pointer (some ⟨q, 0, none⟩)), (1, 18, .slice VA k vc), (2, 19, .pointer (some ⟨wr.heap.size, 0, none⟩)), (3, 20, .slice xA xn xc), (5, 22, .pointer (some ⟨wr.heap.size, 1, none⟩)), (6, 23, .slice xD xm xd)]
        (fun W => W.cell? ⟨q, 0, none⟩ = some (.slice VA k vc) ∧ W.cell? ⟨wr.heap.size, 0, none⟩ = some (.slice xA xn xc) ∧ W.cell? ⟨wr.heap.size, 1, none⟩ = some (.slice xD xm xd)) (by kernel_rfl) (by kernel_rfl) (by kernel_rfl) (by kernel_rfl) (by kernel_rfl) (by kernel_rfl) (by kernel_rfl) hw0 ?_ ?_
      · intro y hy V ρ hV hρ hcst
        obtain ⟨k1, k2, k3⟩ := hV
        have e3 : ρ (.tmp 3) = .pointer (some ⟨q, 0, none⟩) := (hρ 3).trans (by kernel_rfl)
        have e5 : ρ (.tmp 5) = .pointer (some ⟨wr.heap.size, 0, none⟩) := (hρ 5).trans (by kernel_rfl)
        have e17 : ρ (.tmp 17) = .pointer (some ⟨q, 0, none⟩) := (hρ 17).trans (by kernel_rfl)
        have e19 : ρ (.tmp 19) = .pointer (some ⟨wr.heap.size, 0, none⟩) := (hρ 19).trans (by kernel_rfl)
        have e22 : ρ (.tmp 22) = .pointer (some ⟨wr.heap.size, 1, none⟩) := (hρ 22).trans (by kernel_rfl)
        clear hρ
        simp only [List.mem_cons, List.not_mem_nil, or_false] at hy
        rcases hy with rfl | rfl | rfl | rfl | rfl | rfl
        all_goals
          refine ⟨_, rfl, ?_⟩
          go_simp
          try rfl
      simp only [putA, putD, Act.put, List.setIfInBounds_toArray, List.set_cons_zero, List.set_cons_succ]
      refine spineU_list rfl rfl rfl ?_
      go_wp2_with fail
      refine Calls.mono (HC1.out _ (B0.out.trans ((Gw.drew W0).mono B0.out.size))) ?_
      rintro r2 V1 ⟨PA, pc, rfl, ho1, v1⟩
      have b1 : Below W0.heap.size W0 V1 := (Gw.drew W0).trans v1
      have B1 := Lib.hid b1
      have O1 := Lib.hid (show Ow iV 3 V1 W0.heap.size (.slice PA xn pc) xps from ho1)
      have K1 := Lib.hid (K0.out.below b1 K0.out.lt)
      have Q1 := Lib.hid (Q0.out.below b1 Q0.out.lt)
      have hw1 : V1.cell? ⟨q, 0, none⟩ = some (.slice VA k vc) ∧ V1.cell? ⟨wr.heap.size, 0, none⟩ = some (.slice xA xn xc) ∧ V1.cell? ⟨wr.heap.size, 1, none⟩ = some (.slice xD xm xd) := ⟨Q1.out.cell 0, K1.out.cell 0, K1.out.cell 1⟩
      have HW1 := Lib.hid hw1
      clear b1 v1 ho1 hw1 hw0
      go_wp2_with fail
      refine ⟨rfl, (by first | exact HW1.out | exact fun _ => HW1.out), ?_⟩
      refine spineU_list rfl rfl rfl ?_
      go_wp2_with fail
      refine Calls.mono (HC2.out _ (B0.out.trans (B1.out.mono B0.out.size))) ?_
      rintro r3 V2 ⟨DA, dc, rfl, ho2, v2⟩
      have B2 := Lib.hid v2
      have O2 := Lib.hid ho2
      have K2 := Lib.hid (K1.out.below v2 K1.out.lt)
      have Q2 := Lib.hid (Q1.out.below v2 Q1.out.lt)
      have hw2 : V2.cell? ⟨q, 0, none⟩ = some (.slice VA k vc) ∧ V2.cell? ⟨wr.heap.size, 0, none⟩ = some (.slice xA xn xc) ∧ V2.cell? ⟨wr.heap.size, 1, none⟩ = some (.slice xD xm xd) := ⟨Q2.out.cell 0, K2.out.cell 0, K2.out.cell 1⟩
      have HW2 := Lib.hid hw2
      clear v2 ho2 hw2
      go_wp2_with fail
      refine ⟨rfl, (by first | exact HW2.out | exact fun _ => HW2.out), ?_⟩
      refine spineU_list rfl rfl rfl ?_
      go_wp2_with fail
      refine ⟨rfl, (by first | exact HW2.out | exact fun _ => HW2.out), ?_⟩
      refine spineU_list rfl rfl rfl ?_
      go_wp2_with fail
      have b3 := Gw.alloc V2 (.cells #[.slice PA xn pc, .slice DA xm dc] 53)
      have E3 := Lib.hid (Bk.new V2 53 #[.slice PA xn pc, .slice DA xm dc])
      have B3 := Lib.hid b3
      have Q3 := Lib.hid (Q2.out.below b3 Q2.out.lt)
      have hw3 : (V2.alloc (.cells #[.slice PA xn pc, .slice DA xm dc] 53)).cell? ⟨q, 0, none⟩ = some (.slice VA k vc) ∧ (V2.alloc (.cells #[.slice PA xn pc, .slice DA xm dc] 53)).cell? ⟨wr.heap.size, 0, none⟩ = some (.slice xA xn xc) ∧ (V2.alloc (.cells #[.slice PA xn pc, .slice DA xm dc] 53)).cell? ⟨wr.heap.size, 1, none⟩ = some (.slice xD xm xd) := ⟨Q3.out.cell 0, (K2.out.below b3 K2.out.lt).cell 0, (K2.out.below b3 K2.out.lt).cell 1⟩
      have HW3 := Lib.hid hw3
      clear b3 hw3
      refine ⟨rfl, (by first | exact HW3.out | exact fun _ => HW3.out), ?_⟩
      refine spineU_list rfl rfl rfl ?_
      obtain ⟨i0, hi, hz0, hz1, hz2⟩ := info_parts infoN
      have hb03 : Below wr.heap.size wr (V2.alloc (.cells #[.slice PA xn pc, .slice DA xm dc] 53)) := B0.out.trans ((B1.out.trans (B2.out.trans (B3.out.mono B2.out.size) |>.mono B1.out.size)).mono B0.out.size)
      have HB03 := Lib.hid hb03
      have ho3 := ownsRow_below HO.out.1.row hb03
      rw [HX.out.2.2] at ho3
      refine wp_appR 2 i0 Try.underlying22 hi hz0 hz1 hz2 (by rfl) (by decide) rfl (.tmp 18) (.tmp 26) rfl (q + 1) _ k _ rfl ho3 ⟨V2.heap.size, 0, none⟩ 1 1 [.slice PA xn pc, .slice DA xm dc] rfl rfl (fun j u hu => ?_) (fun u hu => ?_) (by unfold maxLen; omega) (by omega) (by have := hb03.size; omega) ?_
      · have hj : j < 2 := by have := (List.getElem?_eq_some_iff.1 hu).1; simpa using this
        rw [addr_at, E3.out.cell]
        rcases (show j = 0 ∨ j = 1 by omega) with rfl | rfl
        · simpa using hu
        · simpa using hu
      · simp only [List.mem_cons, List.not_mem_nil, or_false] at hu
        rcases hu with rfl | rfl <;> rfl
      intro v5 w5 ho5 hb5 hg5 hv5
      obtain ⟨A5, c5, rfl⟩ := own_form ho5
      have hgq : ∀ c, (Value.slice VA k vc).ownBlock = some c → q + 1 ≤ c ∧ c < wr.heap.size := fun c e => by
        obtain ⟨a, e1, e2⟩ := own_sl e
        rw [← e2]; exact HVA.out a e1
      have Q5 := Lib.hid ((hg5.block q (Nat.lt_of_lt_of_le hsz hb03.size) (fun e => by have := (hgq q e.symm).1; omega)).trans Q3.out)
      have K5 := Lib.hid ((hg5.block wr.heap.size (Nat.lt_of_lt_of_le (by have := Z0.out; have := B0.out.size; omega) (show W0.heap.size ≤ _ from by have := B1.out.size; have := B2.out.size; have := B3.out.size; omega)) (fun e => by have := (hgq _ e.symm).2; omega)).trans (K2.out.below B3.out K2.out.lt))
      have hw5 : w5.cell? ⟨q, 0, none⟩ = some (.slice VA k vc) ∧ w5.cell? ⟨wr.heap.size, 0, none⟩ = some (.slice xA xn xc) ∧ w5.cell? ⟨wr.heap.size, 1, none⟩ = some (.slice xD xm xd) := ⟨Bk.cell Q5.out 0, Bk.cell K5.out 0, Bk.cell K5.out 1⟩
      have HW5 := Lib.hid hw5
      have hN5 : NOwn w5 (q + 1) (.slice A5 (k + 1) c5) (xs ++ [⟨PA, pc, DA, dc, xps, xbs⟩]) := by
        have z1 := B1.out.size
        have z2 := B2.out.size
        have z0 := B0.out.size
        refine NOwn.snoc HO.out.1 hb03 ⟨?_, ?_⟩ ⟨fun c e => ?_, fun c e => ?_, fun c e => ?_⟩ ?_ hg5 hv5
        · have h := (O1.out.below (B2.out.trans (B3.out.mono B2.out.size))).mono (show q + 1 ≤ W0.heap.size by omega)
          rw [show (⟨PA, pc, DA, dc, xps, xbs⟩ : Nv).vp = .slice PA xn pc from by rw [HX.out.1]; rfl]
          exact h
        · have h := (O2.out.below B3.out).mono (show q + 1 ≤ V1.heap.size by omega)
          rw [show (⟨PA, pc, DA, dc, xps, xbs⟩ : Nv).vd = .slice DA xm dc from by rw [HX.out.2.1]; rfl]
          exact h
        · have h := O1.out
          rw [HX.out.1] at h
          have := (h.lt c e).1
          omega
        · have h := O2.out
          rw [HX.out.2.1] at h
          have := (h.lt c e).1
          omega
        · intro e2
          have h := O1.out
          rw [HX.out.1] at h
          have h2 := O2.out
          rw [HX.out.2.1] at h2
          have g1 := (h.lt c e).2
          have g2 := (h2.lt c e2).1
          omega
        · rw [HX.out.2.2]
          have h := ho5
          rw [HX.out.1, HX.out.2.1] at h
          exact h
      have H5 := Lib.hid (And.intro hN5 (show Below q w1 w5 from (HO.out.2.2.trans (hb03.mono (by omega))).trans ((Below.refl _ _).grown hg5 (by have := hb03.size; omega) (fun c e => by have := (hgq c e).1; omega))))
      have F5 := Lib.hid (Bk.free Q5.out 0)
      clear ho3 ho5 hb5 hg5 hv5 hgq hw5 hi hz0 hz1 hz2 hb03 hN5
      refine ⟨rfl, (by first | exact HW5.out | exact fun _ => HW5.out), ?_⟩
      refine spineU_list rfl rfl rfl ?_
      go_wp2_with fail
      refine ⟨rfl, (by first | exact HW5.out | exact fun _ => HW5.out), ?_⟩
      refine spineU_list rfl rfl rfl ?_
      have c52 := Bk.cell Q5.out 0
      have f52 := F5.out
      have Q6 := Lib.hid (Bk.set Q5.out 0 (.slice A5 (k + 1) c5))
      go_wp2_with fail
      refine ⟨rfl, trivial, ?_⟩
      unfold SpineU
      have hnq : q ∉ (Value.slice A5 (k + 1) c5).ownBlock.toList ++ blksN (xs ++ [⟨PA, pc, DA, dc, xps, xbs⟩]) := fun h => by
        have := blks_ge H5.out.1 q h
        omega
      have H6 := Lib.hid (And.intro (H5.out.1.grown (grown_set w5 ⟨q, 0, none⟩ (.slice A5 (k + 1) c5)) hnq) (H5.out.2.trans ((Below.refl _ _).setCell (p := ⟨q, 0, none⟩) (Nat.le_refl _) (.slice A5 (k + 1) c5))))
      clear c52 f52 hnq
      go_wp2_with fail
      go_roundw
      case rel => exact ⟨k + 1, A5, c5, _, by go_num, by omega, Lib.hid (HMM.out ⟨PA, pc, DA, dc, xps, xbs⟩ rfl), H6.out.1, Q6.out, H6.out.2⟩
      case measure => (first | (simp [intOf]; done) | (simp [intOf]; omega))
    · have hkN : ns.take k = ns := by rw [show k = ns.length by rw [← HN.out.1]; omega, List.take_length]
      have hm2 := hm.out
      rw [hkN] at hm2
      have hsz2 : w.heap.size + 1 < wr.heap.size := by omega
      have d0 := (HB1.out.2.1.below hB (by omega))
      have k0 := d0.two.1
      have k1 := d0.two.2
      have g0 := d0.free 0
      have g1 := d0.free 1
      have e0 := hb1.two.1
      have e1 := hb1.two.2
      have HO := Lib.hid (And.intro ho (And.intro hB (And.intro hm2 hxl)))
      clear ho hB hm2 hm hkN d0 hq2
      go_wp2_with fail
      have hbz : Bk ((wr.setCell ⟨w.heap.size + 1, 0, none⟩ (.slice VA k vc)).setCell ⟨w.heap.size + 1, 1, none⟩ (.slice R2 M rc2)) (w.heap.size + 1) 25 #[.slice VA k vc, .slice R2 M rc2] := by
        have h := ((HB1.out.2.1.below HO.out.2.1 (by have := HQ.out; omega)).set 0 (.slice VA k vc)).set 1 (.slice R2 M rc2)
        simpa using h
      refine bodyPost_ret (v := .agg #[.slice VA k vc, .slice R2 M rc2]) (graph_res hbz rfl) rfl ?_
      obtain ⟨o1, o2, o3, o4⟩ := HO.out
      have hg0 : ∀ W : World, ∀ i u, W.grownBy (W.setCell ⟨w.heap.size + 1, i, none⟩ u) (some (w.heap.size + 1)) := fun W i u => grown_set W ⟨w.heap.size + 1, i, none⟩ u
      have hnin : w.heap.size + 1 ∉ (Value.slice VA k vc).ownBlock.toList ++ blksN xs := fun h => by
        have := blks_ge o1 _ h
        have := HQ.out
        omega
      have r1 : ROwn wr (w.heap.size + 2) (.slice R2 M rc2) rs := by
        have h := HO1.out
        have h2 : ROwn w1 (w.heap.size + 2) (.slice R2 M rc2) rs := by simpa using h
        exact h2.below (o2.mono (by rw [HQ.out]; exact Nat.le_refl _))
      have r2 : (Value.slice R2 M rc2).ownBlock = none ∨ (Value.slice R2 M rc2).ownBlock ≠ some (w.heap.size + 1) := by
        cases e : (Value.slice R2 M rc2).ownBlock with
        | none => exact .inl rfl
        | some c => exact .inr (fun e2 => by injection e2 with e2; have := (World.ownsRow.lt r1 c e).1; omega)
      refine ⟨⟨VA, vc, R2, rc2, xs, rs⟩, ?_, ?_, ?_, o3, rfl, ?_⟩
      · show _ = Ending.returned (Value.agg #[.slice VA xs.length vc, .slice R2 rs.length rc2])
        rw [o4, HN.out.2]
      · show NOwn _ _ (.slice VA xs.length vc) xs
        rw [o4]
        exact ((o1.grown (hg0 _ _ _) hnin).grown (hg0 _ _ _) hnin).mono (by have := HQ.out; omega)
      · show ROwn _ _ (.slice R2 rs.length rc2) rs
        rw [← HN.out.2]
        exact ROwn.mono (World.ownsRow.kept (World.ownsRow.kept r1 (hg0 _ _ _) r2) (hg0 _ _ _) r2) (by omega)
      · exact (((HB1.out.2.2.trans (o2.mono (by have := HQ.out; omega))).setCell (p := ⟨w.heap.size + 1, 0, none⟩) (by show w.heap.size ≤ w.heap.size + 1; omega) _).setCell (p := ⟨w.heap.size + 1, 1, none⟩) (by show w.heap.size ≤ w.heap.size + 1; omega) _)
end Go.Proofs.Ytidaimcndbhefaa
