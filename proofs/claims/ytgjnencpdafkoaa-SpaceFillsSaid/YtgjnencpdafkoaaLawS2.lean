/- The law SpaceFills of layer 15 returns true for every argument. No conditions. -/
import Derived.Test.YtgjnencpdafkoaaSpF
import Derived.Test.YtgjnencpdafkoaaFrame
namespace Go.Proofs.Ytgjnencpdafkoaa
set_option linter.unusedVariables false
set_option linter.unusedSimpArgs false
open Go.RowKit
set_option maxHeartbeats 1000000
set_option maxRecDepth 100000
theorem fills_any (w : World) (P b Wd : Nat) (hP : P ≤ 255) (hb : b ≤ 255) (hW : Wd ≤ 255) : Calls Try.prog 5 #[.int .u8 P, .int .u8 b, .int .u8 Wd] w (TruP (.bool true) w) := by
  obtain ⟨p, hp⟩ : ∃ p, p = P % 65 := ⟨_, rfl⟩
  obtain ⟨c, hc⟩ : ∃ c, c = (b + 7) / 8 := ⟨_, rfl⟩
  have hr : rightH (p : Int) (b : Int) false 0 = true := by unfold rightH; simp; omega
  obtain ⟨n, hn⟩ : ∃ n, n = 1 + p + c := ⟨_, rfl⟩
  have hsz : sizeH (p : Int) (b : Int) false 0 = (n : Int) := by
    unfold sizeH
    rw [if_pos ⟨hr, rfl⟩]
    omega
  have hn1 : 1 ≤ n := by omega
  have hn2 : n ≤ 100 := by omega
  obtain ⟨x, hx⟩ : ∃ x, x = packH (p : Int) (b : Int) false 0 := ⟨_, rfl⟩
  obtain ⟨hgood, hszx⟩ := pack_run hr hsz
  rw [← hx] at hgood hszx
  obtain ⟨cnt, hcnt⟩ : ∃ k, k = Wd / n := ⟨_, rfl⟩
  obtain ⟨room, hroom⟩ : ∃ k, k = Wd % n := ⟨_, rfl⟩
  have hdm : n * cnt + room = Wd := by rw [hcnt, hroom]; exact Nat.div_add_mod Wd n
  have hrl : room < n := by rw [hroom]; exact Nat.mod_lt _ (by omega)
  have hcn : cnt * n = n * cnt := Nat.mul_comm _ _
  have HAok := Lib.hid (fun W B s g v ws k (h : SpAt W B s g v ws 5 (5 + k * n) (5 + Wd)) (hl : ws.length = 300) (hk : k < cnt) => show Calls Try.prog 10 #[.pointer (some ⟨s, 0, none⟩), .agg #[.int .i64 p, .int .i64 b, .bool false, .int .i64 0]] W fun r w' => r = .returned (.tuple #[.int .i64 ((5 + k * n : Nat) : Int), .int .i64 0]) ∧ SpAt w' B s g v (allocW ws (5 + k * n) n x) 5 (5 + k * n + n) (5 + Wd) ∧ Below B W w' from by
    have hkn : (k + 1) * n ≤ cnt * n := Nat.mul_le_mul_right n hk
    rw [Nat.succ_mul] at hkn
    rw [hx]
    exact alloc_ok W B s g v ws 5 (5 + k * n) (5 + Wd) h (by omega) p b 0 n hr hsz hn1 (by omega))
  have HAno := Lib.hid (fun W B s g v ws (h : SpAt W B s g v ws 5 (5 + cnt * n) (5 + Wd)) (hl : ws.length = 300) => alloc_full W B s g v ws 5 (5 + cnt * n) (5 + Wd) h (by omega) p b 0 n hr hsz (by omega))
  have HObj := Lib.hid (fun W B s g v ws (h : SpAt W B s g v ws 5 (5 + cnt * n) (5 + Wd)) (hl : ws.length = 300) (hxs : ∀ j, j < cnt → ws.getD (5 + j * n) 0#64 = x) => show Calls Try.prog 14 #[.pointer (some ⟨s, 0, none⟩)] W fun e w' => ∃ A c, e = .returned (.tuple #[.slice A cnt c, .int .i64 0]) ∧ Below W.heap.size W w' from by
    have k := objects_c W B s g v ws 5 (5 + cnt * n) (5 + Wd) h (by omega)
    have hcc : cnt ≤ cnt * n := Nat.le_mul_of_pos_right _ (by omega)
    obtain ⟨l, h1, h2⟩ := objF_run ws x n (5 + cnt * n) hgood hszx hn1 cnt (5 + cnt * n + 1) 5 rfl (by omega) hxs
    rw [h1] at k
    refine k.mono ?_
    rintro e w' ⟨A, c, rfl, _, _, hb⟩
    exact ⟨A, c, by rw [h2], hb⟩)
  have HRs := Lib.hid (fun W B s g v ws (h : SpAt W B s g v ws 5 (5 + cnt * n) (5 + Wd)) (hl : ws.length = 300) => reset_c W B s g v ws 5 (5 + cnt * n) (5 + Wd) h (by omega))
  have HNew := Lib.hid (fun W => show Calls Try.prog 23 #[.int .i64 300] W fun e w' => ∃ g v ws, e = .returned (.tuple #[.pointer (some ⟨g, 0, none⟩), .int .i64 0]) ∧ MemAt w' W.heap.size g v ws ∧ ws.length = 300 ∧ Below W.heap.size W w' from by
    refine (new_in W 300 (by decide)).mono ?_
    rintro e w' ⟨g, v, rfl, h, hb⟩
    exact ⟨g, v, _, rfl, h, List.length_replicate, hb⟩)
  have HSp := Lib.hid (fun W B g v ws (h : MemAt W B g v ws) (hl : ws.length = 300) => show Calls Try.prog 8 #[.pointer (some ⟨g, 0, none⟩), .int .i64 5, .int .i64 ((5 : Int) + (Wd : Int))] W fun r w' => ∃ s, r = .returned (.tuple #[.pointer (some ⟨s, 0, none⟩), .int .i64 0]) ∧ SpAt w' B s g v ws 5 5 (5 + Wd) ∧ Below W.heap.size W w' from by
    have k := snew_in W B g v ws 5 (5 + Wd) h (by omega) (by omega) (by omega)
    rw [show ((5 + Wd : Nat) : Int) = (5 : Int) + (Wd : Int) from by omega] at k
    exact k)
  have m1 : (P : Int).tmod 65 = (p : Int) := by rw [Int.tmod_eq_emod_of_nonneg (by omega)]; omega
  have m2 : ((b : Int) + 7).tdiv 8 = (c : Int) := by rw [Int.tdiv_eq_ediv_of_nonneg (by omega)]; omega
  have m3 : (Wd : Int).tdiv (n : Int) = (cnt : Int) := by rw [hcnt]; exact (Int.ofNat_tdiv Wd n).symm
  have m4 : (Wd : Int).tmod (n : Int) = (room : Int) := by rw [hroom]; exact (Int.ofNat_tmod Wd n).symm
  have m5 : ((n : Int) == 0) = false := by simp; omega
  have m6 : (n : Int) ≠ 0 := by omega
  have m7 : ¬ n = 0 := by omega
  have e3 : (1 : Int) + (p : Int) + (c : Int) = (n : Int) := by omega
  have b1 : (p : Int) ≤ 64 := by omega
  have b2 : (b : Int) ≤ 255 := by omega
  have b3 : (c : Int) ≤ 40 := by omega
  have b4 : (Wd : Int) ≤ 255 := by omega
  have b5 : (n : Int) ≤ 100 := by omega
  have b6 : (0 : Int) ≤ (p : Int) := by omega
  have b7 : (0 : Int) ≤ (b : Int) := by omega
  have b8' : (0 : Int) ≤ (c : Int) := by omega
  have b9 : (0 : Int) ≤ (Wd : Int) := by omega
  have b10 : (cnt : Int) ≤ 255 := by
    have : cnt ≤ cnt * n := Nat.le_mul_of_pos_right _ (by omega)
    omega
  have HE3 := Lib.hid e3
  have HMul := Lib.hid (And.intro hn1 (And.intro hdm (And.intro hrl hcn)))
  have HM6 := Lib.hid m6
  have hk0 := fun W => Bk.new W 37 #[.int .i64 p, .int .i64 b, .bool false, .int .i64 0]
  have HK0 := Lib.hid hk0
  clear hp hc hr hn hsz hn1 hn2 hx hgood hszx hcnt hroom hdm hrl hcn e3 hk0 hP hb hW m6
  go_enter Try.func5, Try.ntmps5
  go_wp2_with fail
  refine Calls.mono (known15_c _) ?_
  rintro r w1 ⟨rfl, B1⟩
  have HB1 := Lib.hid B1
  clear B1
  have HK1 := Lib.hid (HK0.out w1)
  have HBa := Lib.hid (Gw.alloc w1 (.cells #[.int .i64 p, .int .i64 b, .bool false, .int .i64 0] 37))
  go_wp2_with fail
  refine Calls.mono (HNew.out _) ?_
  rintro r w2 ⟨g, v, ws, rfl, hm2, hl2, B2⟩
  rw [HE3.out]
  have HM2 := Lib.hid hm2
  have HL2 := Lib.hid hl2
  have HK2 := Lib.hid (HK1.out.below B2 HK1.out.lt)
  have HB2 : Hid (Below w.heap.size w w2) := Lib.hid ((HB1.out.trans (HBa.out.mono HB1.out.size)).trans (B2.mono (by have := HB1.out.size; have := HBa.out.size; omega)))
  have HBase : Hid (w.heap.size ≤ w1.heap.size ∧ w1.heap.size < (w1.alloc (.cells #[.int .i64 p, .int .i64 b, .bool false, .int .i64 0] 37)).heap.size) := Lib.hid ⟨HB1.out.size, HK1.out.lt⟩
  obtain ⟨Bs, hBs⟩ : ∃ Bs, Bs = (w1.alloc (.cells #[.int .i64 p, .int .i64 b, .bool false, .int .i64 0] 37)).heap.size := ⟨_, rfl⟩
  rw [← hBs] at HM2 HBase
  clear hm2 hl2 B2 hBs
  go_wp2_with fail
  refine Calls.mono (HSp.out w2 Bs g v ws HM2.out HL2.out) ?_
  rintro r w3 ⟨s, rfl, hs3, B3⟩
  have HS3 := Lib.hid hs3
  have HB3 : Hid (Below w.heap.size w w3) := Lib.hid (HB2.out.trans (B3.mono HB2.out.size))
  have HK3 := Lib.hid (HK2.out.below B3 HK2.out.lt)
  clear hs3 B3
  go_wp2_with fail
  go_loopw [13] (fun i W => ∃ (tn : Nat) (ws' : List (BitVec 64)), tn ≤ 2 ∧ i = .int .i64 tn ∧ Hid (ws'.length = 300) ∧ SpAt W Bs s g v ws' 5 5 (5 + Wd) ∧ Bk W w1.heap.size 37 #[.int .i64 p, .int .i64 b, .bool false, .int .i64 0] ∧ Below w.heap.size w W) (fun i _ => 2 - (intOf i).toNat)
  case atStart => exact ⟨0, ws, by omega, rfl, HL2, HS3.out, HK3.out, HB3.out⟩
  case round =>
    obtain ⟨tn, wsA, htn, rfl, hlA, hsA, hkA, hBA⟩ := hrel
    by_cases ht2 : tn < 2
    · have HSA := Lib.hid (And.intro hsA (And.intro hkA hBA))
      have pt1 : (0 : Int) ≤ (tn : Int) := by omega
      have pt2 : (tn : Int) ≤ 2 := by omega
      have pt3 : (tn : Int) < 2 := by omega
      clear hsA hkA hBA
      go_wp2_with fail
      go_loopw [14] (fun i W => ∃ (k : Nat) (ws' : List (BitVec 64)), k ≤ cnt ∧ i = .int .i64 k ∧ Hid (ws'.length = 300) ∧ Hid (∀ j, j < k → ws'.getD (5 + j * n) 0#64 = x) ∧ SpAt W Bs s g v ws' 5 (5 + k * n) (5 + Wd) ∧ Bk W w1.heap.size 37 #[.int .i64 p, .int .i64 b, .bool false, .int .i64 0] ∧ Below w.heap.size w W) (fun i _ => cnt - (intOf i).toNat)
      case atStart =>
        refine ⟨0, wsA, by omega, rfl, hlA, Lib.hid (fun j hj => absurd hj (by omega)), ?_, HSA.out.2.1, HSA.out.2.2⟩
        rw [Nat.zero_mul, Nat.add_zero]
        exact HSA.out.1
      case round =>
        obtain ⟨k, wsB, hk, rfl, hlB, hxB, hsB, hkB, hBB⟩ := hrel
        obtain ⟨k0, k1, k2, k3⟩ := hkB.four
        by_cases hkc : k < cnt
        · have HA := HAok.out _ Bs s g v wsB k hsB hlB.out hkc
          have hkn : (k + 1) * n ≤ cnt * n := Nat.mul_le_mul_right n hkc
          rw [Nat.succ_mul] at hkn
          obtain ⟨hm1, hm2, hm3, hm4⟩ := HMul.out
          obtain ⟨t, ht⟩ : ∃ t, t = 5 + k * n := ⟨_, rfl⟩
          obtain ⟨kn, hkn2⟩ : ∃ kn, kn = k * n := ⟨_, rfl⟩
          rw [← ht] at HA
          have HA := Lib.hid HA
          have f2 : (k : Int) * (n : Int) = (kn : Int) := by rw [hkn2]; exact (Int.natCast_mul k n).symm
          have f3 : ((t : Int) != (5 : Int) + (kn : Int)) = false := by
            have : (t : Int) = 5 + (kn : Int) := by omega
            rw [this]
            simp
          have f4 : (kn : Int) ≤ 300 := by omega
          have f5 : (0 : Int) ≤ (kn : Int) := by omega
          have pk1 : (0 : Int) ≤ (k : Int) := by omega
          have pk2 : (k : Int) < (cnt : Int) := by omega
          have HNX : Hid (t + n = 5 + (k + 1) * n ∧ t + n ≤ 300 ∧ 1 ≤ n ∧ t = 5 + k * n) := Lib.hid (by rw [Nat.succ_mul]; omega)
          have HBX := Lib.hid (And.intro hkB hBB)
          clear hsB hkB hBB hkn hm1 hm2 hm3 hm4 ht hkn2
          go_wp2_with fail
          refine Calls.mono HA.out ?_
          rintro r w5 ⟨rfl, hs5, B5⟩
          have hlen5 : (allocW wsB t n x).length = 300 := by rw [allocW_len]; exact hlB.out
          have hx5 : ∀ j, j < k + 1 → (allocW wsB t n x).getD (5 + j * n) 0#64 = x := by
            obtain ⟨h1, h2, h3, h4⟩ := HNX.out
            intro j hj
            by_cases e : j = k
            · rw [e, ← h4]
              exact allocW_at wsB t n x (by rw [hlB.out]; exact h2) h3
            · have hjm : (j + 1) * n ≤ k * n := Nat.mul_le_mul_right n (by omega)
              rw [Nat.succ_mul] at hjm
              rw [allocW_far wsB t n _ x (by rw [hlB.out]; exact h2) h3 (by omega)]
              exact hxB.out j (by omega)
          rw [HNX.out.1] at hs5
          have H5 := Lib.hid (And.intro hlen5 (And.intro hx5 (And.intro hs5 (And.intro (HBX.out.1.below B5 HBase.out.2) (HBX.out.2.trans (B5.mono (by have := HBase.out; omega)))))))
          clear hlen5 hx5 hs5 B5 HA k0 k1 k2 k3
          go_wp2_with fail
          go_roundw
          case rel => exact ⟨k + 1, _, by omega, by go_num, Lib.hid H5.out.1, Lib.hid H5.out.2.1, H5.out.2.2.1, H5.out.2.2.2.1, H5.out.2.2.2.2⟩
          case measure => (first | (simp [intOf]; done) | (simp [intOf]; omega))
        · have hkk : k = cnt := by omega
          subst hkk
          have HNo := Lib.hid (HAno.out _ Bs s g v wsB hsB hlB.out)
          have HSB := Lib.hid (And.intro hsB (And.intro hkB hBB))
          clear hsB hkB hBB
          go_wp2_with fail
          refine Calls.mono HNo.out ?_
          rintro r w5 ⟨rfl, b5⟩
          have H5 := Lib.hid (And.intro (HSB.out.1.below b5) (And.intro (HSB.out.2.1.below b5 HSB.out.2.1.lt) (HSB.out.2.2.trans (b5.mono HSB.out.2.2.size))))
          clear b5 HNo k0 k1 k2 k3
          go_wp2_with fail
          refine fl_reg _ _ _ Bs s g v wsB 5 (5 + k * n) (5 + Wd) Wd n room H5.out.1 (by have := hlB.out; omega) (by have := HMul.out; omega) m4 m5 (by omega) (by have := HMul.out; omega) b4 (by have := HMul.out; omega) rfl rfl rfl rfl rfl ?_
          intro vals w6 hG h95
          unfold IsV at h95
          simp only [putD, Act.put, List.setIfInBounds_toArray, List.set_cons_zero, List.set_cons_succ, h95]
          have H6 := Lib.hid (And.intro (H5.out.1.below hG) (And.intro (H5.out.2.1.below hG H5.out.2.1.lt) (H5.out.2.2.trans (hG.mono H5.out.2.2.size))))
          clear hG h95 H5
          go_wp2_with fail
          refine Calls.mono (HObj.out w6 Bs s g v wsB H6.out.1 hlB.out hxB.out) ?_
          rintro r w7 ⟨A7, c7, rfl, b7⟩
          have H7 := Lib.hid (And.intro (H6.out.1.below b7) (And.intro (H6.out.2.1.below b7 H6.out.2.1.lt) (H6.out.2.2.trans (b7.mono H6.out.2.2.size))))
          clear b7 H6
          go_wp2_with fail
          refine Calls.mono (HRs.out w7 Bs s g v wsB H7.out.1 hlB.out) ?_
          rintro r w8 ⟨rfl, hs8, B8⟩
          have hl8 : (zeroW wsB 5 (5 + Wd - 5)).length = 300 := by rw [zeroW_len]; exact hlB.out
          have H8 := Lib.hid (And.intro hl8 (And.intro hs8 (And.intro (H7.out.2.1.below B8 HBase.out.2) (H7.out.2.2.trans (B8.mono (by have := HBase.out; omega))))))
          clear hl8 hs8 B8 H7
          go_wp2_with fail
          go_roundw
          case rel => exact ⟨tn + 1, _, by omega, by go_num, Lib.hid H8.out.1, H8.out.2.1, H8.out.2.2.1, H8.out.2.2.2⟩
          case measure => (first | (simp [intOf]; done) | (simp [intOf]; omega))
    · have HU := Lib.hid (used_c _ Bs s g v wsA 5 5 (5 + Wd) hsA (by have := hlA.out; omega))
      have HBB := Lib.hid hBA
      clear hsA hkA hBA
      go_wp2_with fail
      refine Calls.mono HU.out ?_
      rintro r w5 ⟨rfl, b5⟩
      have HB5 := Lib.hid (HBB.out.trans (b5.mono HBB.out.size))
      clear b5
      go_wp2_with fail
      go_ret
      exact ⟨rfl, HB5.out⟩
theorem wf8 {x : Int} (h : (Lit.int .u8 x).wf = true) : ∃ n : Nat, x = (n : Int) ∧ n ≤ 255 := by
  have : 0 ≤ x ∧ x ≤ 255 := by simpa [Lit.wf, IntKind.min, IntKind.max, IntKind.signed, IntKind.bits] using h
  exact ⟨x.toNat, by omega, by omega⟩
theorem fills_walk (w : World) (a : Int) (wa : (Lit.int .u8 a).wf = true) (b : Int) (wb : (Lit.int .u8 b).wf = true) (c : Int) (wc : (Lit.int .u8 c).wf = true) : Calls Try.prog 5 #[.int .u8 a, .int .u8 b, .int .u8 c] w (TruP (.bool true) w) := by
  obtain ⟨x, rfl, hx⟩ := wf8 wa
  obtain ⟨y, rfl, hy⟩ := wf8 wb
  obtain ⟨z, rfl, hz⟩ := wf8 wc
  exact fills_any w x y z hx hy hz
end Go.Proofs.Ytgjnencpdafkoaa
namespace Go.Proofs.Ytgjnencpdafkoaa.spaceFills
open Go.ChangeShapes Go.WideShapes Go.ChangeAt Go.RowKit
open Go.ChangeMaps (open_string shut_string)
set_option linter.unusedVariables false
set_option maxRecDepth 100000 in
theorem lifted (os : Os) (started : os.Started) (H : Type) (enc : TypeId × Value → H) :
    ReturnsInHanded {} Try.checked os 5 .any (Rows.spaceFillsSpec.pre6 enc Try.prog Try.f5 Rows.spaceFillsRow.domain false) (Rows.spaceFillsSpec.post enc Try.prog Try.f5 false true false false) := by
  refine returnsInHanded_of_change (C := Try.checked) own started (by kernel_rfl) Try.func5
    (ChangeSpec.witness6 (enc := enc) (C := Try.checked) false ⟨#[], #[.int .u8 0, .int .u8 0, .int .u8 0], []⟩ 8 (by kernel_rfl) (by kernel_rfl) (by kernel_rfl) (by kernel_rfl)) ?_
  intro W base args ds gs before hval0 hW hcnd _
  have hval : ∀ (j : Nat) t v, Try.f5.params[j]? = some t → args[j]? = some v → Value.okWide Try.prog W .any base t v := hval0
  have hW' := hW
  obtain ⟨p, q, hA0, hV, rfl, hfz, hnd⟩ := hW
  have hA : DataW.TrodAll enc Try.prog W 0 (fun _ => true) true Try.f5.params.toList args.toList ds p := hA0
  rw [Try.params5] at hA hval
  obtain ⟨v0, vs0, d0, ds0, p0, q0, hargs, rfl, rfl, h0, r0⟩ := trodAll_cons hA
  obtain ⟨v1, vs1, d1, ds1, p1, q1, rfl, rfl, rfl, h1, r1⟩ := trodAll_cons r0
  obtain ⟨v2, vs2, d2, ds2, p2, q2, rfl, rfl, rfl, h2, r2⟩ := trodAll_cons r1
  obtain ⟨rfl, rfl, rfl⟩ := trodAll_nil r2
  obtain rfl : args = #[v0, v1, v2] := by cases args; simp_all
  obtain ⟨rfl, rfl⟩ := trodVars_none hV
  have k0 := h0
  have lt0 : ∀ x ∈ p0, x.block < W.heap.size := by obtain ⟨m, hm⟩ := k0; exact DataW.trod_lt m _ _ _ hm
  obtain ⟨a0, e0v, _, _, w0⟩ := open_int Try.underlying5 (hval 0 5 v0 rfl rfl) h0; subst e0v
  have k1 := h1
  have lt1 : ∀ x ∈ p1, x.block < W.heap.size := by obtain ⟨m, hm⟩ := k1; exact DataW.trod_lt m _ _ _ hm
  obtain ⟨a1, e1v, _, _, w1⟩ := open_int Try.underlying5 (hval 1 5 v1 rfl rfl) h1; subst e1v
  have k2 := h2
  have lt2 : ∀ x ∈ p2, x.block < W.heap.size := by obtain ⟨m, hm⟩ := k2; exact DataW.trod_lt m _ _ _ hm
  obtain ⟨a2, e2v, _, _, w2⟩ := open_int Try.underlying5 (hval 2 5 v2 rfl rfl) h2; subst e2v
  clear hA0 hval0
  refine (fills_walk W a0 w0 a1 w1 a2 w2).mono fun e W' ⟨he, bel⟩ => ?_
  subst he
  exact ⟨_, rfl, _, _, _, [], _, [], hW', trodAll_mk1 (shut_bool Try.underlying4 _), (trodAll_cons_mk (Below.trod laidOut (by kernel_rfl) (of_decide_eq_true (by kernel_rfl)) k0 bel lt0) (trodAll_cons_mk (Below.trod laidOut (by kernel_rfl) (of_decide_eq_true (by kernel_rfl)) k1 bel lt1) (trodAll_cons_mk (Below.trod laidOut (by kernel_rfl) (of_decide_eq_true (by kernel_rfl)) k2 bel lt2) trodAll_mk0))), rfl, bel.frame _, fun h => by cases h⟩
theorem over : Rows.spaceFillsRow.holds Try.pinned (OpenSpec.ofChange Rows.spaceFillsSpec) :=
  OpenClaim.holds_of_wide 5 Try.f5 rfl rfl rfl rfl rfl rfl rfl ⟨rfl, rfl, rfl, rfl, rfl⟩ rfl rfl rfl rfl rfl (by kernel_rfl) Try.func5 (by kernel_rfl)
    (of_decide_eq_true (by kernel_rfl)) (by unfold Func.isWrapper; first | (rw [if_pos (by decide +kernel)]; kernel_rfl) | (rw [if_neg (by decide +kernel)]; exact ⟨rfl, rfl⟩))
    (fun os started H enc _ => lifted os started H enc)
theorem proved : Rows.SpaceFillsSaid := over
end Go.Proofs.Ytgjnencpdafkoaa.spaceFills
