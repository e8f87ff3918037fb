/- The law CopyRings of layer 21 returns true for every argument. No conditions. -/
import Derived.Test.YtlibcpboooehlaaYa4
namespace Go.Proofs.Ytlibcpboooehlaa
set_option linter.unusedVariables false
set_option linter.unusedSimpArgs false
open Go.RowKit Go.Maps
theorem rem_nat (x : Int) (m : Nat) (hm : 0 < m) (h : (Lit.int .u8 x).wf = true) : ∃ n : Nat, n < m ∧ x % (m : Int) = (n : Int) ∧ x.tmod (m : Int) = (n : Int) := by
  obtain ⟨h0, _⟩ : 0 ≤ x ∧ x ≤ 255 := by
    rw [wfu8 h]
    exact ⟨U8_lo _, by have := U8_hi (BitVec.ofInt 8 x); omega⟩
  obtain ⟨k, rfl⟩ : ∃ k : Nat, x = (k : Int) := ⟨x.toNat, by omega⟩
  refine ⟨k % m, Nat.mod_lt _ hm, rfl, rfl⟩
theorem u8_bd (x : Int) (h : (Lit.int .u8 x).wf = true) : 0 ≤ x ∧ x ≤ 255 := by
  rw [wfu8 h]
  exact ⟨U8_lo _, by have := U8_hi (BitVec.ofInt 8 x); omega⟩
set_option maxHeartbeats 4000000
set_option maxRecDepth 100000
theorem crings_walk (w : World) (x : Int) (wx : (Lit.int .u8 x).wf = true) (y : Int) (wy : (Lit.int .u8 y).wf = true) :
    Calls Try.prog 5 #[.int .u8 x, .int .u8 y] w (RetP (.bool true) w) := by
  obtain ⟨P, hP, p1, p2⟩ := rem_nat x 40 (by decide) wx
  have p3 : x.tmod 40 = (P : Int) := p2
  have p4 : (P : Int) < 40 := by omega
  obtain ⟨M, hM⟩ : ∃ M : Nat, M = P + 1 := ⟨_, rfl⟩
  have p5 : 1 + (P : Int) = (M : Int) := by omega
  have p6 : (1 : Int) ≤ (M : Int) := by omega
  have p7 : (M : Int) ≤ 40 := by omega
  have hM41 : M < 41 := by omega
  obtain ⟨K, hK, k1, k2⟩ := rem_nat y M (by omega) wy
  have p8 : (K : Int) < (M : Int) := by omega
  obtain ⟨y0, y1⟩ := u8_bd y wy
  obtain ⟨x0, x1⟩ := u8_bd x wx
  have n1 : ¬ M = 0 := by omega
  have n2 : ((M : Int) == 0) = false := by simp; omega
  have HM41 := Lib.hid (And.intro hM41 hK)
  have HKn := Lib.hid (known21_c w)
  obtain ⟨d1, c1, t1, u1⟩ := copy_at hM41 hK
  have HC := Lib.hid (And.intro c1 (And.intro t1 u1))
  clear c1 t1 u1 hP hM hK p1 p2
  go_enter Try.func5, Try.ntmps5
  go_wp2_with fail
  refine Calls.mono HKn.out ?_
  rintro r w1 ⟨rfl, b1⟩
  have HB1 := Lib.hid b1
  clear b1 HKn
  go_wp2_with fail
  refine Calls.mono (new_in w1 100 (by decide)) ?_
  rintro r w2 ⟨g, v, rfl, hm2, b2⟩
  have H2 := Lib.hid (And.intro hm2 (HB1.out.trans (b2.mono HB1.out.size)))
  clear hm2 b2
  go_wp2_with fail
  refine Calls.mono (snew_in w2 w1.heap.size g v (List.replicate 100 0#64) 0 100 H2.out.1 (Nat.zero_le _) (by simp) (by simp)) ?_
  rintro r w3 ⟨s, rfl, hp3, b3⟩
  have hB0 : w.heap.size ≤ w1.heap.size := HB1.out.size
  obtain ⟨B, hB⟩ : ∃ B, B = w1.heap.size := ⟨_, rfl⟩
  rw [← hB] at hp3 hB0
  have H3 := Lib.hid (And.intro (show SpAt w3 B s g v (ringA 0) 0 (2 * 0) 100 from hp3) (H2.out.2.trans (b3.mono H2.out.2.size)))
  have HBw := Lib.hid hB0
  clear hp3 b3 hB H2 hB0
  go_wp2_with fail
  go_loopw [11] (fun z W => ∃ i : Nat, z = .int .i64 i ∧ i ≤ M ∧ Hid (SpAt W B s g v (ringA i) 0 (2 * i) 100 ∧ Below w.heap.size w W)) (fun z _ => M - (Go.RowKit.intOf z).toNat)
  case atStart => exact ⟨0, rfl, Nat.zero_le _, H3⟩
  case round =>
    obtain ⟨i, rfl, hi, hS⟩ := hrel
    by_cases hlt : i < M
    · have q1 : (i : Int) < (M : Int) := by omega
      have q0 : (0 : Int) ≤ (i : Int) := by omega
      have HAl := Lib.hid (alloc_ok wr B s g v (ringA i) 0 (2 * i) 100 hS.out.1 (by rw [ringA_len]; decide) 1 0 0 2 (by decide) (by decide) (by decide) (by omega))
      obtain ⟨I, hI⟩ : ∃ I, I = 2 * i := ⟨_, rfl⟩
      rw [← hI] at HAl
      have HNx := Lib.hid (show allocW (ringA i) I 2 (packH 1 0 false 0) = ringA (i + 1) ∧ I + 2 = 2 * (i + 1) from by rw [hI]; exact ⟨rfl, by omega⟩)
      have HBe := Lib.hid hS.out.2
      clear hI hS
      go_wp2_with fail
      refine Calls.mono HAl.out ?_
      rintro r w5 ⟨rfl, hp5, b5⟩
      rw [HNx.out.1, HNx.out.2] at hp5
      have H5 := Lib.hid (show SpAt w5 B s g v (ringA (i + 1)) 0 (2 * (i + 1)) 100 ∧ Below w.heap.size w w5 from ⟨hp5, HBe.out.trans (b5.mono HBw.out)⟩)
      clear hp5 b5
      go_wp2_with fail
      go_roundw
      case rel => first | exact ⟨i + 1, by go_num, by omega, H5⟩ | ((repeat apply Exists.intro); refine ⟨?_, rfl⟩; exact ⟨i + 1, by go_num, by omega, H5⟩)
      case measure => simp [Go.RowKit.intOf]; omega
    · have hMi : M = i := by omega
      subst hMi
      have H4 := Lib.hid (show SpAt wr B s g v (ringS M 0) 0 (2 * M) 100 ∧ Below w.heap.size w wr from hS.out)
      clear hS hlt hi H3
      go_wp2_with fail
      go_loopw [14] (fun z W => ∃ i : Nat, z = .int .i64 i ∧ i ≤ M ∧ Hid (SpAt W B s g v (ringS M i) 0 (2 * M) 100 ∧ Below w.heap.size w W)) (fun z _ => M - (Go.RowKit.intOf z).toNat)
      case atStart => exact ⟨0, rfl, Nat.zero_le _, H4⟩
      case round =>
        obtain ⟨i, rfl, hi, hS⟩ := hrel
        by_cases hlt : i < M
        · have q1 : (i : Int) < (M : Int) := by omega
          have q0 : (0 : Int) ≤ (i : Int) := by omega
          obtain ⟨sa, sb⟩ := set_at HM41.out.1 hlt
          have hRm : (i + 1) % M < M := Nat.mod_lt _ (by omega)
          have HSt := Lib.hid (setptr_to wr B s g v (ringS M i) 0 (2 * M) 100 hS.out.1 (by rw [ringS_len]; decide) (2 * i) 0 (2 * ((i + 1) % M)) (Nat.zero_le _) (by omega) sa sb (Nat.zero_le _) (by omega))
          have HNx := Lib.hid (show (ringS M i).set (2 * i + 1 + 0) (BitVec.ofNat 64 (2 * ((i + 1) % M) + 1)) = ringS M (i + 1) from rfl)
          obtain ⟨I, hI⟩ : ∃ I, I = 2 * i := ⟨_, rfl⟩
          obtain ⟨R, hR⟩ : ∃ R, R = (i + 1) % M := ⟨_, rfl⟩
          have e1 : 2 * (i : Int) = (I : Int) := by omega
          have e2 : ((i : Int) + 1).tmod (M : Int) = (R : Int) := by rw [hR]; rfl
          have e3 : ((i : Int) + 1) % (M : Int) = (R : Int) := by rw [hR]; rfl
          rw [← hI, ← hR] at HSt HNx
          rw [← hR] at hRm
          obtain ⟨R2, hR2⟩ : ∃ R2, R2 = 2 * R := ⟨_, rfl⟩
          have e4 : 2 * (R : Int) = (R2 : Int) := by omega
          rw [← hR2] at HSt HNx
          have e5 : (I : Int) ≤ 100 := by omega
          have e6 : (R2 : Int) ≤ 100 := by omega
          have e7 : (R : Int) < (M : Int) := by omega
          have e8 : (0 : Int) ≤ (R : Int) := by omega
          have HBe := Lib.hid hS.out.2
          clear hS hI hR hR2 sa sb hRm
          go_wp2_with fail
          refine Calls.mono HSt.out ?_
          rintro r w5 ⟨rfl, hp5, _, b5⟩
          rw [HNx.out] at hp5
          have H5 := Lib.hid (show SpAt w5 B s g v (ringS M (i + 1)) 0 (2 * M) 100 ∧ Below w.heap.size w w5 from ⟨hp5, HBe.out.trans (b5.mono HBw.out)⟩)
          clear hp5 b5
          go_wp2_with fail
          go_roundw
          case rel => first | exact ⟨i + 1, by go_num, by omega, H5⟩ | ((repeat apply Exists.intro); refine ⟨?_, rfl⟩; exact ⟨i + 1, by go_num, by omega, H5⟩)
          case measure => simp [Go.RowKit.intOf]; omega
        · have hMi : M = i := by omega
          subst hMi
          obtain ⟨wl1, wl2⟩ := well_at HM41.out.1
          have H6 := Lib.hid hS.out
          obtain ⟨K2, hK2⟩ : ∃ K2, K2 = 2 * K := ⟨_, rfl⟩
          have e1 : 2 * (K : Int) = (K2 : Int) := by omega
          obtain ⟨M2, hM2⟩ : ∃ K2, K2 = 2 * M := ⟨_, rfl⟩
          have e2 : 2 * (M : Int) = (M2 : Int) := by omega
          have e3 : (M2 : Int) ≤ 80 := by omega
          have e4 : (K2 : Int) ≤ 80 := by omega
          have e5 : (0 : Int) ≤ (K2 : Int) := by omega
          have hroot : rootB (places M) (K2 : Int) = true := by
            unfold rootB places
            refine decide_eq_true (.inr ⟨2 * K, List.mem_map.2 ⟨K, List.mem_range.2 HM41.out.2, rfl⟩, by omega⟩)
          have hrp : [(K2 : Int)].map rootP = [2 * K + 1] := by simp [rootP]; omega
          have HCp := Lib.hid (fun W (h : SpAt W B s g v (ringS M M) 0 (2 * M) 100) A ca (hr : Rd zV W W.heap.size A [(K2 : Int)]) => show Calls Try.prog 9 #[.pointer (some ⟨s, 0, none⟩), .slice A 1 ca, .int .i64 (M2 : Int)] W (CopyR W (2 * M) 1 (some ([1], d1))) from by
            have := copy_c W B s g v (ringS M M) 0 (2 * M) 100 h (by rw [ringS_len]; decide) (places M) wl1 wl2 A [(K2 : Int)] ca hr (by simp) (fun r hr => by rw [List.mem_singleton.1 hr]; exact wfI (by omega) (by omega)) (by simp [hroot]) (2 * M) (by omega)
            rw [hrp, HC.out.1, ← hM2] at this
            rw [← hM2]
            exact this)
          have HK2 := Lib.hid (And.intro hK2 hM2)
          clear hS hlt hi hK2 hM2 wl1 wl2 hroot hrp
          go_wp2_with fail
          have hb7 := Gw.alloc wr (.cells #[.int .i64 (K2 : Int)] 3)
          have hr7 := rd_zs (xs := [(K2 : Int)]) (Bk.new wr 3 #[.int .i64 (K2 : Int)])
          have H7 := Lib.hid (And.intro (H6.out.1.below hb7) (H6.out.2.alloc H6.out.2.size (.cells #[.int .i64 (K2 : Int)] 3)))
          refine Calls.mono (HCp.out _ H7.out.1 _ _ hr7) ?_
          rintro r w8 ⟨s', g', v', q, rfl, hp8, hl8, ho8, b8⟩
          have ez := ho8.cell (j := 0) (by decide)
          have z0 : zV ((backZ [1])[0]'(by decide)) = .int .i64 0 := rfl
          rw [z0] at ez
          rw [HC.out.2.1] at hp8
          have ct := hp8.four.2.2.1
          rw [← HK2.out.2] at ct
          have H8 := Lib.hid (And.intro hp8 (And.intro hl8 (H7.out.2.trans (b8.mono H7.out.2.size))))
          clear hb7 hr7 H7 b8 hl8 ho8 hp8 z0
          go_wp2_with fail
          clear ct ez
          go_loopw [18] (fun z W => ∃ i : Nat, z = .int .i64 i ∧ i ≤ M ∧ Hid (Below w8.heap.size w8 W)) (fun z _ => M - (Go.RowKit.intOf z).toNat)
          case atStart => exact ⟨0, rfl, Nat.zero_le _, Lib.hid (Below.refl _ _)⟩
          case round =>
            obtain ⟨i, rfl, hi, hS⟩ := hrel
            by_cases hlt : i < M
            · have q1 : (i : Int) < (M : Int) := by omega
              have q0 : (0 : Int) ≤ (i : Int) := by omega
              obtain ⟨d3a, d3b⟩ := HC.out.2.2 i hlt
              obtain ⟨pv, pe⟩ := get_ptr HM41.out.1 hlt
              have HPt := Lib.hid (Ptr_c wr _ s' g' v' d1.T 0 (2 * M) (2 * M) (H8.out.1.below hS.out) (by rw [H8.out.2.1]; omega) (2 * i) 0 (Nat.zero_le _) (by omega) (by rw [d3a]; exact hd1_good (by omega)) (by rw [d3a, hd1_ok.2.2.2.1]; decide))
              rw [show 2 * i + 1 + 0 = 2 * i + 1 from rfl, d3b, pv, pe] at HPt
              have hRm : (i + 1) % M < M := Nat.mod_lt _ (by omega)
              obtain ⟨I, hI⟩ : ∃ I, I = 2 * i := ⟨_, rfl⟩
              obtain ⟨R, hR⟩ : ∃ R, R = (i + 1) % M := ⟨_, rfl⟩
              have e1 : 2 * (i : Int) = (I : Int) := by omega
              have e2 : ((i : Int) + 1).tmod (M : Int) = (R : Int) := by rw [hR]; rfl
              have e3 : ((i : Int) + 1) % (M : Int) = (R : Int) := by rw [hR]; rfl
              rw [← hI, ← hR] at HPt
              rw [← hR] at hRm
              obtain ⟨R2, hR2⟩ : ∃ R2, R2 = 2 * R := ⟨_, rfl⟩
              have e4 : 2 * (R : Int) = (R2 : Int) := by omega
              rw [← hR2] at HPt
              have e5 : (I : Int) ≤ 100 := by omega
              have e6 : (R2 : Int) ≤ 100 := by omega
              have e7 : (R : Int) < (M : Int) := by omega
              have e8 : (0 : Int) ≤ (R : Int) := by omega
              have HBe := Lib.hid hS.out
              clear hS hI hR hR2 hRm pv pe d3a d3b
              go_wp2_with fail
              refine Calls.mono HPt.out ?_
              rintro r w9 ⟨rfl, b9⟩
              have H9 := Lib.hid (HBe.out.trans (b9.mono HBe.out.size))
              clear b9
              go_wp2_with fail
              go_roundw
              case rel => first | exact ⟨i + 1, by go_num, by omega, H9⟩ | ((repeat apply Exists.intro); refine ⟨?_, rfl⟩; exact ⟨i + 1, by go_num, by omega, H9⟩)
              case measure => simp [Go.RowKit.intOf]; omega
            · have hMi : M = i := by omega
              subst hMi
              have HE := Lib.hid (H8.out.2.2.trans (hS.out.mono H8.out.2.2.size))
              clear hS hlt hi
              go_wp2_with fail
              go_ret
              exact ⟨rfl, HE.out⟩
end Go.Proofs.Ytlibcpboooehlaa
namespace Go.Proofs.Ytlibcpboooehlaa.copyRings
open Go.ChangeShapes Go.WideShapes Go.ChangeAt Go.RowKit
open Go.ChangeMaps (open_string shut_string)
set_option linter.unusedVariables false
set_option maxRecDepth 100000 in
theorem lifted (os : Os) (started : os.Started) (H : Type) (enc : TypeId × Value → H) :
    ReturnsInHanded {} Try.checked os 5 .any (Rows.copyRingsSpec.pre6 enc Try.prog Try.f5 Rows.copyRingsRow.domain false) (Rows.copyRingsSpec.post enc Try.prog Try.f5 false true false false) := by
  refine returnsInHanded_of_change (C := Try.checked) own started (by kernel_rfl) Try.func5
    (ChangeSpec.witness6 (enc := enc) (C := Try.checked) false ⟨#[], #[.int .u8 0, .int .u8 0], []⟩ 8 (by kernel_rfl) (by kernel_rfl) (by kernel_rfl) (by kernel_rfl)) ?_
  intro W base args ds gs before hval0 hW hcnd _
  have hval : ∀ (j : Nat) t v, Try.f5.params[j]? = some t → args[j]? = some v → Value.okWide Try.prog W .any base t v := hval0
  have hW' := hW
  obtain ⟨p, q, hA0, hV, rfl, hfz, hnd⟩ := hW
  have hA : DataW.TrodAll enc Try.prog W 0 (fun _ => true) true Try.f5.params.toList args.toList ds p := hA0
  rw [Try.params5] at hA hval
  obtain ⟨v0, vs0, d0, ds0, p0, q0, hargs, rfl, rfl, h0, r0⟩ := trodAll_cons hA
  obtain ⟨v1, vs1, d1, ds1, p1, q1, rfl, rfl, rfl, h1, r1⟩ := trodAll_cons r0
  obtain ⟨rfl, rfl, rfl⟩ := trodAll_nil r1
  obtain rfl : args = #[v0, v1] := by cases args; simp_all
  obtain ⟨rfl, rfl⟩ := trodVars_none hV
  have k0 := h0
  have lt0 : ∀ x ∈ p0, x.block < W.heap.size := by obtain ⟨m, hm⟩ := k0; exact DataW.trod_lt m _ _ _ hm
  obtain ⟨a0, e0v, _, _, w0⟩ := open_int Try.underlying5 (hval 0 5 v0 rfl rfl) h0; subst e0v
  have k1 := h1
  have lt1 : ∀ x ∈ p1, x.block < W.heap.size := by obtain ⟨m, hm⟩ := k1; exact DataW.trod_lt m _ _ _ hm
  obtain ⟨a1, e1v, _, _, w1⟩ := open_int Try.underlying5 (hval 1 5 v1 rfl rfl) h1; subst e1v
  clear hA0 hval0
  refine (crings_walk W a0 w0 a1 w1).mono fun e W' ⟨he, bel⟩ => ?_
  subst he
  exact ⟨_, rfl, _, _, _, [], _, [], hW', trodAll_mk1 (shut_bool Try.underlying4 _), (trodAll_cons_mk (Below.trod laidOut (by kernel_rfl) (of_decide_eq_true (by kernel_rfl)) k0 bel lt0) (trodAll_cons_mk (Below.trod laidOut (by kernel_rfl) (of_decide_eq_true (by kernel_rfl)) k1 bel lt1) trodAll_mk0)), rfl, bel.frame _, fun h => by cases h⟩
theorem over : Rows.copyRingsRow.holds Try.pinned (OpenSpec.ofChange Rows.copyRingsSpec) :=
  OpenClaim.holds_of_wide 5 Try.f5 rfl rfl rfl rfl rfl rfl rfl ⟨rfl, rfl, rfl, rfl, rfl⟩ rfl rfl rfl rfl rfl (by kernel_rfl) Try.func5 (by kernel_rfl)
    (of_decide_eq_true (by kernel_rfl)) (by unfold Func.isWrapper; first | (rw [if_pos (by decide +kernel)]; kernel_rfl) | (rw [if_neg (by decide +kernel)]; exact ⟨rfl, rfl⟩))
    (fun os started H enc _ => lifted os started H enc)
theorem proved : Rows.CopyRingsSaid := over
end Go.Proofs.Ytlibcpboooehlaa.copyRings
