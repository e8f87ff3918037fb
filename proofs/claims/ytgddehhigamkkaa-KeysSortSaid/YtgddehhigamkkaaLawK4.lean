/- The law KeysSort of layer 10 returns true for every argument. No conditions. -/
import Derived.Test.YtgddehhigamkkaaKyQ
import Derived.Test.YtgddehhigamkkaaFrame
import Derived.Test.YtgddehhigamkkaaOpenS
namespace Go.Proofs.Ytgddehhigamkkaa
set_option linter.unusedVariables false
set_option linter.unusedSimpArgs false
open Go.RowKit Go.Maps
set_option maxHeartbeats 2000000
set_option maxRecDepth 100000
theorem KRd.none {w : World} {B : Nat} {A : Option Addr} {ks : List (Int × Int)} (h : KRd w B A ks) (e : A = none) : ks = [] := by
  cases ks with
  | nil => rfl
  | cons p ks =>
    obtain ⟨ad, e2, _⟩ := h 0 (by simp)
    rw [e] at e2
    cases e2
theorem KR.krd {w : World} {base : Nat} {A : Option Addr} {n c : Nat} {ks : List (Int × Int)} (h : KR w base (.slice A n c) ks) : KRd w w.heap.size A ks := by
  intro k hk
  obtain ⟨q, rfl, _, hq, _⟩ := h.at_ k hk
  exact h.rdp.krd hq k hk
theorem ks15_reg (Q : Exit → Act → World → Prop) (a0 : Act) (w : World) (q : Nat) (ad : Addr) (n c c5 i : Nat) (x y : Int) (hq : q < w.heap.size) (hb : ad.block < w.heap.size) (c1 : w.cell? (ad.add (i * 2)) = some (.int .i64 x)) (c2 : w.cell? ⟨(ad.add (i * 2)).block, (ad.add (i * 2)).off + 1, none⟩ = some (.int .i64 y)) (d1 : w.cell? ⟨q, i * 2, none⟩ = some (.int .i64 x)) (d2 : w.cell? ⟨q, i * 2 + 1, none⟩ = some (.int .i64 y)) (hi1 : (0 : Int) ≤ (i : Int)) (hi2 : (i : Int) < (n : Int)) (HE : Hid (∀ W, (Op.equalIn 10000 23 (.agg #[.int .i64 x, .int .i64 y]) (.agg #[.int .i64 x, .int .i64 y])).run Try.prog W = .ok true W)) (hsz : a0.tmps.size = 51) (sl0 : a0.tmps.getD 0 undef = .slice (some ad) n c) (sl5 : a0.tmps.getD 5 undef = .slice (some ⟨q, 0, none⟩) n c5) (sl7 : a0.tmps.getD 7 undef = .int .i64 i)
    (fin : ∀ (vals : Nat → Value) (w1 : World), Below w.heap.size w w1 → (IsV (.bool false)) (vals 8) w1 → Q .normal (putD vals [38, 39, 40, 41, 42, 43, 44, 45, 46] 0 a0) w1) :
    (Code.region 15 (regIn Try.f5 15) true).wp Try.prog Q a0 w := by
  refine region_by (G := fun w w1 => Below w.heap.size w w1) [IsV (.slice (some ad) n c),
    IsV (.int .i64 i),
    IsV (.pointer (some (ad.add (i * 2)))),
    IsV (.agg #[.int .i64 x, .int .i64 y]),
    IsV (.slice (some ⟨q, 0, none⟩) n c5),
    IsV (.int .i64 i),
    IsV (.pointer (some ⟨q, i * 2, none⟩)),
    IsV (.agg #[.int .i64 x, .int .i64 y]),
    IsV (.bool false)]
    [38, 39, 40, 41, 42, 43, 44, 45, 46] (by kernel_rfl) (Gw.drew _) Gw.trans (by rw [hsz]; kernel_rfl) (by kernel_rfl) ?_ ?_ ?_
  · intro f hf
    simp only [List.mem_cons, List.not_mem_nil, or_false] at hf
    rcases hf with rfl | rfl | rfl | rfl | rfl | rfl | rfl | rfl | rfl <;> intro v a b h g <;> first | exact IsV.mono h
  · refine ⟨?_, ?_, ?_, ?_, ?_, ?_, ?_, ?_, ?_, trivial⟩
    · exact owes_mv 0 (by kernel_rfl) (by kernel_rfl) (by kernel_rfl) sl0 (fun _ => rfl)
    · exact owes_mv 7 (by kernel_rfl) (by kernel_rfl) (by kernel_rfl) sl7 (fun _ => rfl)
    · refine owes_v (Go.Op.indexAddr 39 (Go.Operand.tmp 38) (Go.Operand.tmp 39)) 0 [0, 1] (by kernel_rfl) (by kernel_rfl) (by kernel_rfl) rfl fun vals w1 ρ hG hF hρ hcst hfun => ?_
      have e38 : ρ (.tmp 38) = .slice (some ad) n c := ((hρ 38).trans (slotJ [0, 1] (by rw [hsz]; decide) (by kernel_rfl))).trans (hF 0 (by decide))
      have e39 : ρ (.tmp 39) = .int .i64 i := ((hρ 39).trans (slotJ [0, 1] (by rw [hsz]; decide) (by kernel_rfl))).trans (hF 1 (by decide))
      clear hρ hF hcst hfun sl0 sl5 sl7 fin
      exact opv_val (by go_simp <;> rfl) ⟨gw_self _, rfl⟩
    · refine owes_v (Go.Op.load 23 (Go.Operand.tmp 40)) 23 [2] (by kernel_rfl) (by kernel_rfl) (by kernel_rfl) rfl fun vals w1 ρ hG hF hρ hcst hfun => ?_
      have e40 : ρ (.tmp 40) = .pointer (some (ad.add (i * 2))) := ((hρ 40).trans (slotJ [2] (by rw [hsz]; decide) (by kernel_rfl))).trans (hF 2 (by decide))
      obtain ⟨j1, j2⟩ := And.intro ((hG.cell (by rw [add_block]; exact hb)).trans c1) ((hG.cell (p := ⟨(ad.add (i * 2)).block, (ad.add (i * 2)).off + 1, none⟩) (by show (ad.add (i * 2)).block < _; rw [add_block]; exact hb)).trans c2)
      clear hρ hF hcst hfun sl0 sl5 sl7 fin
      exact opv_val (by go_simp <;> rfl) ⟨gw_self _, rfl⟩
    · exact owes_mv 5 (by kernel_rfl) (by kernel_rfl) (by kernel_rfl) sl5 (fun _ => rfl)
    · exact owes_mv 7 (by kernel_rfl) (by kernel_rfl) (by kernel_rfl) sl7 (fun _ => rfl)
    · refine owes_v (Go.Op.indexAddr 39 (Go.Operand.tmp 42) (Go.Operand.tmp 43)) 0 [4, 5] (by kernel_rfl) (by kernel_rfl) (by kernel_rfl) rfl fun vals w1 ρ hG hF hρ hcst hfun => ?_
      have e42 : ρ (.tmp 42) = .slice (some ⟨q, 0, none⟩) n c5 := ((hρ 42).trans (slotJ [4, 5] (by rw [hsz]; decide) (by kernel_rfl))).trans (hF 4 (by decide))
      have e43 : ρ (.tmp 43) = .int .i64 i := ((hρ 43).trans (slotJ [4, 5] (by rw [hsz]; decide) (by kernel_rfl))).trans (hF 5 (by decide))
      clear hρ hF hcst hfun sl0 sl5 sl7 fin
      exact opv_val (by go_simp <;> rfl) ⟨gw_self _, rfl⟩
    · refine owes_v (Go.Op.load 23 (Go.Operand.tmp 44)) 23 [6] (by kernel_rfl) (by kernel_rfl) (by kernel_rfl) rfl fun vals w1 ρ hG hF hρ hcst hfun => ?_
      have e44 : ρ (.tmp 44) = .pointer (some ⟨q, i * 2, none⟩) := ((hρ 44).trans (slotJ [6] (by rw [hsz]; decide) (by kernel_rfl))).trans (hF 6 (by decide))
      obtain ⟨j1, j2⟩ := And.intro ((hG.cell (p := ⟨q, i * 2, none⟩) hq).trans d1) ((hG.cell (p := ⟨q, i * 2 + 1, none⟩) hq).trans d2)
      clear hρ hF hcst hfun sl0 sl5 sl7 fin
      exact opv_val (by go_simp <;> rfl) ⟨gw_self _, rfl⟩
    · refine owes_v (Go.Op.binOp Go.BinOp.neq 23 (Go.Operand.tmp 41) (Go.Operand.tmp 45) 23) 4 [3, 7] (by kernel_rfl) (by kernel_rfl) (by kernel_rfl) rfl fun vals w1 ρ hG hF hρ hcst hfun => ?_
      have e41 : ρ (.tmp 41) = .agg #[.int .i64 x, .int .i64 y] := ((hρ 41).trans (slotJ [3, 7] (by rw [hsz]; decide) (by kernel_rfl))).trans (hF 3 (by decide))
      have e45 : ρ (.tmp 45) = .agg #[.int .i64 x, .int .i64 y] := ((hρ 45).trans (slotJ [3, 7] (by rw [hsz]; decide) (by kernel_rfl))).trans (hF 7 (by decide))
      have kq := HE.out
      clear hρ hF hcst hfun sl0 sl5 sl7 fin
      exact opv_val (by go_simp <;> rfl) ⟨gw_self _, rfl⟩
  · intro vals w1 hG hF
    exact fin vals w1 hG (hF 8 (by decide +kernel))
theorem ksort_walk (w : World) (A : Option Addr) (l : List (Int × Int)) (c : Nat) (g : l.length ≤ c) (m : c ≤ maxLen) (hr : KRd w w.heap.size A l ∧ ∀ x ∈ l, kW x) :
    Calls Try.prog 5 #[.slice A l.length c] w (TruP (.bool true) w) := by
  obtain ⟨n, hn⟩ : ∃ n, n = l.length := ⟨_, rfl⟩
  rw [← hn]
  have HN := Lib.hid hn
  have HR := Lib.hid hr.1
  clear hn hr g m
  go_enter Try.func5, Try.ntmps5
  go_wp2_with fail
  refine Calls.mono (known10_c _) ?_
  rintro e w1 ⟨rfl, b1⟩
  have HB1 := Lib.hid b1
  clear b1
  by_cases h80 : (80 : Int) < (n : Int)
  · go_wp2_with fail
    go_ret
    exact ⟨rfl, HB1.out⟩
  have q1 : (n : Int) ≤ 80 := by omega
  clear h80
  go_wp2_with fail
  go_loopw [3, 4] (fun ov i wr => ∃ j : Nat, j ≤ n ∧ i = .int .i64 j ∧ Hid (JR wr w1.heap.size ov (l.take j)) ∧ Hid (Below w.heap.size w wr) ∧ Hid (w1.heap.size ≤ wr.heap.size)) (fun _ i _ => n - (intOf i).toNat)
  case atStart => exact ⟨0, Nat.zero_le _, rfl, Lib.hid (by rw [List.take_zero]; exact JR.nil _ _), HB1, Lib.hid (Nat.le_refl _)⟩
  case round =>
    obtain ⟨j, hj, rfl, hO1, hB, hz⟩ := hrel
    obtain ⟨A3, c3, rfl, _, _⟩ := hO1.out.slice
    obtain ⟨N3, hN3⟩ : ∃ N, N = (l.take j).length := ⟨_, rfl⟩
    have hO := Lib.hid (show JR wr w1.heap.size (.slice A3 N3 c3) (l.take j) from by rw [hN3]; exact hO1.out)
    rw [← hN3]
    have HN3 := Lib.hid hN3
    clear hN3 hO1
    by_cases hlt : j < n
    · have p1 : (0 : Int) ≤ (j : Int) := by omega
      have p2 : (j : Int) < (n : Int) := by omega
      have hjl : j < l.length := by rw [← HN.out]; exact hlt
      obtain ⟨ad, rfl, hab, cx, cy⟩ := (HR.out.below hB.out) j hjl
      obtain ⟨x, hx⟩ : ∃ x, x = l[j].1 := ⟨_, rfl⟩
      obtain ⟨y, hy⟩ : ∃ y, y = l[j].2 := ⟨_, rfl⟩
      have htk : l.take (j + 1) = l.take j ++ [(x, y)] := by
        rw [List.take_succ_eq_append_getElem hjl]
        congr 2
        exact Prod.ext hx.symm hy.symm
      rw [← hx] at cx
      rw [← hy] at cy
      have HT := Lib.hid htk
      clear hx hy htk
      have HOF := Lib.hid (show ∀ W, Calls Try.prog 11 #[.agg #[.int .i64 x, .int .i64 y]] W fun e w' => e = .returned (.agg #[.int .i64 x, .int .i64 y]) ∧ Below W.heap.size W w' from fun W => kof_c (x, y) W)
      go_wp2_with fail
      refine Calls.mono (HOF.out _) ?_
      rintro e w7 ⟨rfl, b7⟩
      have HO8 := Lib.hid (show JR (w7.alloc (.cells #[.int .i64 x, .int .i64 y] 27)) w1.heap.size (.slice A3 N3 c3) (l.take j) from (hO.out.below b7).below (Gw.alloc w7 _))
      have HX8 := Lib.hid (JR.ofB (x, y) (Bk.new w7 27 #[.int .i64 x, .int .i64 y]))
      have HZ8 := Lib.hid (show w1.heap.size ≤ (w7.alloc (.cells #[.int .i64 x, .int .i64 y] 27)).heap.size from by have := b7.size; have := hz.out; simp; omega)
      have HB8 := Lib.hid (show Below w.heap.size w (w7.alloc (.cells #[.int .i64 x, .int .i64 y] 27)) from (hB.out.trans (b7.mono hB.out.size)).trans ((Gw.alloc w7 _).mono (Nat.le_trans hB.out.size b7.size)))
      have HLN := Lib.hid (show (l.take j).length + [(x, y)].length ≤ 100000 from by rw [List.length_take]; simp; omega)
      clear b7 cx cy
      go_wp2_with (at_builtin; refine wp_appJ rfl (.tmp 19) (.tmp 25) rfl rfl HO8.out (some ⟨w7.heap.size, 0, none⟩) 1 1 [(x, y)] rfl rfl HX8.out HLN.out HZ8.out ?_; intro v9 w9 h9 hb9 _ _; have H9 := Lib.hid (And.intro h9 hb9); clear h9 hb9)
      go_roundw
      case rel => exact ⟨j + 1, by omega, by go_num, Lib.hid (by rw [HT.out]; exact H9.out.1), Lib.hid (HB8.out.trans (H9.out.2.mono HB1.out.size)), Lib.hid (Nat.le_trans HZ8.out H9.out.2.size)⟩
      case measure => (first | (simp [intOf]; done) | (simp [intOf]; omega))
    · obtain rfl : j = n := by omega
      have hO2 := hO.out
      have hN4 := HN3.out
      rw [List.take_of_length_le (by rw [← HN.out]; omega)] at hO2 hN4
      rw [← HN.out] at hN4
      subst hN4
      have HO := Lib.hid hO2
      have HR2 := Lib.hid (HR.out.below hB.out)
      have HRK := Lib.hid (And.intro (HR.out.below (hB.out.trans ((Gw.alloc wr (.cells #[] 23)).mono hB.out.size))).rdk (KR.empty (wr.alloc (.cells #[] 23)) wr.heap.size wr.heap.size (Nat.le_refl _) (Bk.new wr 23 #[])))
      have HLN := Lib.hid (show ([] : List (Int × Int)).length + l.length ≤ 100000 from by have := HN.out; simp; omega)
      have HZ1 := Lib.hid (show wr.heap.size ≤ (wr.alloc (.cells #[] 23)).heap.size from by simp)
      have HB2 := Lib.hid (hB.out.trans ((Gw.alloc wr (.cells #[] 23)).mono hB.out.size))
      clear hO2 hO HN3
      go_wp2_with (at_builtin; refine wp_appK rfl (.tmp 27) (.tmp 28) rfl rfl HRK.out.2 A N3 c l rfl HN.out HRK.out.1 HLN.out HZ1.out ?_; intro v9 w9 h9 hb9 _ _; have H9 := Lib.hid (And.intro h9 hb9); clear h9 hb9)
      have HA := Lib.hid (And.intro (HR2.out.below ((Gw.alloc wr (.cells #[] 23)).trans H9.out.2)) (And.intro (HO.out.below ((Gw.alloc wr (.cells #[] 23)).trans H9.out.2)) (HB2.out.trans (H9.out.2.mono hB.out.size))))
      have hk := H9.out.1
      rw [List.nil_append] at hk
      obtain ⟨A5, c5, rfl, _, _⟩ := hk.slice
      rw [← HN.out] at hk ⊢
      have HK := Lib.hid hk
      have HS := Lib.hid (sorted_c w9 A c l HA.out.1.rdk HA.out.1.none (by have := HN.out; omega))
      rw [← HN.out] at HS
      clear H9 HRK HLN HZ1 HB2 HR2 HO hk
      refine Calls.mono HS.out ?_
      rintro e w10 ⟨v10, rfl, h10, b10⟩
      obtain ⟨A6, c6, rfl, _, _⟩ := h10.slice
      obtain ⟨N6, hN6⟩ : ∃ N, N = (sortN l).length := ⟨_, rfl⟩
      have hN7 : N6 = N3 := by rw [hN6, sortN_len, HN.out]
      rw [← hN6] at h10 ⊢
      rw [hN7] at h10 ⊢
      have H10 := Lib.hid h10
      have HA10 := Lib.hid (And.intro (HA.out.1.below b10) (And.intro (HA.out.2.1.below b10) (And.intro (HK.out.below b10) (HA.out.2.2.trans (b10.mono HA.out.2.2.size)))))
      clear h10 b10 HS HA HK hN6 hN7
      go_wp2_with fail
      go_loopw [7] (fun i wz => ∃ j : Nat, j ≤ N3 ∧ i = .int .i64 j ∧ Hid (Below w10.heap.size w10 wz)) (fun i _ => N3 - (intOf i).toNat)
      case atStart => exact ⟨0, Nat.zero_le _, rfl, Lib.hid (Below.refl _ _)⟩
      case round =>
        obtain ⟨j, hj2, rfl, hBz⟩ := hrel
        by_cases hlt2 : j < N3
        · have p1 : (0 : Int) ≤ (j : Int) := by omega
          have p2 : (j : Int) < (N3 : Int) := by omega
          have hjl : j < l.length := by rw [← HN.out]; exact hlt2
          obtain ⟨ad, rfl, hab, cx, cy⟩ := (HA10.out.1.below hBz.out) j hjl
          obtain ⟨q, rfl, _, hq, dx, dy⟩ := (HA10.out.2.2.1.below hBz.out).at_ j hjl
          obtain ⟨x, hx⟩ : ∃ x, x = l[j].1 := ⟨_, rfl⟩
          obtain ⟨y, hy⟩ : ∃ y, y = l[j].2 := ⟨_, rfl⟩
          rw [← hx] at cx dx
          rw [← hy] at cy dy
          clear hx hy
          have HE := Lib.hid (show ∀ W, (Op.equalIn 10000 23 (.agg #[.int .i64 x, .int .i64 y]) (.agg #[.int .i64 x, .int .i64 y])).run Try.prog W = .ok true W from fun W => by have h5 := eqK (x, y) (x, y) W; rw [decide_eq_true rfl] at h5; exact h5)
          go_wp2_with fail
          refine ks15_reg _ _ _ q ad N3 c c5 j x y hq hab cx cy dx dy p1 p2 HE rfl rfl rfl rfl ?_
          intro vals w11 h7 h29
          unfold IsV at h29
          simp only [putD, Act.put, List.setIfInBounds_toArray, List.set_cons_zero, List.set_cons_succ, h29]
          have HB7 := Lib.hid (hBz.out.trans (h7.mono hBz.out.size))
          clear h29 h7 cx cy dx dy
          go_wp2_with fail
          go_roundw
          case rel => exact ⟨j + 1, by omega, by go_num, HB7⟩
          case measure => (first | (simp [intOf]; done) | (simp [intOf]; omega))
        · obtain rfl : j = N3 := by omega
          have HRF := Lib.hid (refsort_c wr A3 c3 l (HA10.out.2.1.below hBz.out).jrd (by have := HN.out; omega))
          rw [← HN.out] at HRF
          have HB11 := Lib.hid (HA10.out.2.2.2.trans (hBz.out.mono HA10.out.2.2.2.size))
          have H11 := Lib.hid (H10.out.below hBz.out)
          go_wp2_with fail
          refine Calls.mono HRF.out ?_
          rintro e w12 ⟨v12, rfl, h12, b12⟩
          obtain ⟨A7, c7, rfl, _, _⟩ := h12.slice
          obtain ⟨N6, hN6⟩ : ∃ N, N = (sortN l).length := ⟨_, rfl⟩
          have hN7 : N6 = j := by rw [hN6, sortN_len, HN.out]
          rw [← hN6, hN7] at h12 ⊢
          have HRW := Lib.hid (rowq_c w12 A6 A7 c6 c7 j (sortN l) (by rw [sortN_len]; exact HN.out) (by omega) (H11.out.below b12).krd h12.jrd)
          have HB12 := Lib.hid (HB11.out.trans (b12.mono HB11.out.size))
          clear h12 b12 hN6 hN7
          go_wp2_with fail
          refine Calls.mono HRW.out ?_
          rintro e w13 ⟨rfl, b13⟩
          have HB13 := Lib.hid (HB12.out.trans (b13.mono HB12.out.size))
          clear b13
          go_wp2_with fail
          go_ret
          exact ⟨rfl, HB13.out⟩
end Go.Proofs.Ytgddehhigamkkaa
namespace Go.Proofs.Ytgddehhigamkkaa.keysSort
open Go.ChangeShapes Go.WideShapes Go.ChangeAt Go.RowKit
open Go.ChangeMaps (open_string shut_string)
set_option linter.unusedVariables false
set_option maxRecDepth 100000 in
theorem lifted (os : Os) (started : os.Started) (H : Type) (enc : TypeId × Value → H) :
    ReturnsInHanded {} Try.checked os 5 .any (Rows.keysSortSpec.pre6 enc Try.prog Try.f5 Rows.keysSortRow.domain false) (Rows.keysSortSpec.post enc Try.prog Try.f5 false true false false) := by
  refine returnsInHanded_of_change (C := Try.checked) own started (by kernel_rfl) Try.func5
    (ChangeSpec.witness6 (enc := enc) (C := Try.checked) false ⟨#[], #[.slice none 0 0], []⟩ 8 (by kernel_rfl) (by kernel_rfl) (by kernel_rfl) (by kernel_rfl)) ?_
  intro W base args ds gs before hval0 hW hcnd _
  have hval : ∀ (j : Nat) t v, Try.f5.params[j]? = some t → args[j]? = some v → Value.okWide Try.prog W .any base t v := hval0
  have hW' := hW
  obtain ⟨p, q, hA0, hV, rfl, hfz, hnd⟩ := hW
  have hA : DataW.TrodAll enc Try.prog W 0 (fun _ => true) true Try.f5.params.toList args.toList ds p := hA0
  rw [Try.params5] at hA hval
  obtain ⟨v0, vs0, d0, ds0, p0, q0, hargs, rfl, rfl, h0, r0⟩ := trodAll_cons hA
  obtain ⟨rfl, rfl, rfl⟩ := trodAll_nil r0
  obtain rfl : args = #[v0] := by cases args; simp_all
  obtain ⟨rfl, rfl⟩ := trodVars_none hV
  have k0 := h0
  have lt0 : ∀ x ∈ p0, x.block < W.heap.size := by obtain ⟨m, hm⟩ := k0; exact DataW.trod_lt m _ _ _ hm
  obtain ⟨A0, a0, c0, e0v, g0, m0, w0⟩ := open_rows_Key (hval 0 39 v0 rfl rfl) h0; subst e0v
  clear hA0 hval0
  refine (ksort_walk W A0 a0 c0 g0 m0 w0).mono fun e W' ⟨he, bel⟩ => ?_
  subst he
  exact ⟨_, rfl, _, _, _, [], _, [], hW', trodAll_mk1 (shut_bool Try.underlying4 _), (trodAll_cons_mk (Below.trod laidOut (by kernel_rfl) (of_decide_eq_true (by kernel_rfl)) k0 bel lt0) trodAll_mk0), rfl, bel.frame _, fun h => by cases h⟩
theorem over : Rows.keysSortRow.holds Try.pinned (OpenSpec.ofChange Rows.keysSortSpec) :=
  OpenClaim.holds_of_wide 5 Try.f5 rfl rfl rfl rfl rfl rfl rfl ⟨rfl, rfl, rfl, rfl, rfl⟩ rfl rfl rfl rfl rfl (by kernel_rfl) Try.func5 (by kernel_rfl)
    (of_decide_eq_true (by kernel_rfl)) (by unfold Func.isWrapper; first | (rw [if_pos (by decide +kernel)]; kernel_rfl) | (rw [if_neg (by decide +kernel)]; exact ⟨rfl, rfl⟩))
    (fun os started H enc _ => lifted os started H enc)
theorem proved : Rows.KeysSortSaid := over
end Go.Proofs.Ytgddehhigamkkaa.keysSort
