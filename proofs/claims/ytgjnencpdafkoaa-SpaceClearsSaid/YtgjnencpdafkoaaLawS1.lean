/- The law SpaceClears of layer 15 returns true for every argument. No conditions. -/
import Derived.Test.YtgjnencpdafkoaaSpE
import Derived.Test.YtgjnencpdafkoaaFrame
namespace Go.Proofs.Ytgjnencpdafkoaa
set_option linter.unusedVariables false
set_option linter.unusedSimpArgs false
open Go.RowKit
def partU (xs : List (BitVec 64)) (k : Nat) : List (BitVec 64) := xs.take k ++ List.replicate (xs.length - k) 0#64
theorem partU_len (xs : List (BitVec 64)) (k : Nat) (h : k ≤ xs.length) : (partU xs k).length = xs.length := by unfold partU; simp; omega
theorem partU_set (xs : List (BitVec 64)) (k : Nat) (hk : k < xs.length) : (partU xs k).set k xs[k] = partU xs (k + 1) := by
  have e : List.replicate (xs.length - k) 0#64 = 0#64 :: List.replicate (xs.length - (k + 1)) 0#64 := by
    rw [← List.replicate_succ]; congr 1; omega
  have ht : xs.take (k + 1) = xs.take k ++ [xs[k]] := List.take_succ_eq_append_getElem hk
  unfold partU
  rw [e, ht, List.set_append_right _ _ (by simp; omega)]
  have e3 : k - (xs.take k).length = 0 := by simp; omega
  rw [e3, List.append_assoc]
  simp
theorem allocW_get (xs : List (BitVec 64)) (n i : Nat) (x f : BitVec 64) (hn : 1 ≤ n) (hn2 : n ≤ xs.length) (hi : 1 ≤ i) (hf : xs[i]? = some f) : (allocW xs 0 n x)[i]? = some (if i < n then 0#64 else f) := by
  unfold allocW
  rw [zeroW_get _ _ _ _ (by rw [List.length_set]; omega)]
  by_cases h : i < n
  · rw [if_pos (by omega), if_pos h]
  · rw [if_neg (by omega), if_neg h, List.getElem?_set_ne (by omega), hf]
set_option maxHeartbeats 1000000
set_option maxRecDepth 100000
theorem clears_any (w : World) (fill : BitVec 64) (p b : Int) (m : Bool) (t : Int) : Calls Try.prog 6 #[.int .u64 (U64 fill), .agg #[.int .i64 p, .int .i64 b, .bool m, .int .i64 t]] w (TruP (.bool true) w) := by
  obtain ⟨xs, hxs⟩ : ∃ xs, xs = List.replicate 300 fill := ⟨_, rfl⟩
  have hxl : xs.length = 300 := by rw [hxs, List.length_replicate]
  have hxg : ∀ k (h : k < xs.length), xs[k] = fill := by subst hxs; intro k h; exact List.getElem_replicate ..
  have HOf := Lib.hid (fun W A c (hr : Rd u64v W W.heap.size A xs) => show Calls Try.prog 26 #[.slice A 300 c] W fun e w' => ∃ g v, e = .returned (.tuple #[.pointer (some ⟨g, 0, none⟩), .int .i64 0]) ∧ MemAt w' W.heap.size g v xs ∧ Below W.heap.size W w' from by
    have k := of_in W A c xs hr (by omega)
    rw [hxl] at k
    exact k)
  have HNw := Lib.hid (fun W B g v (h : MemAt W B g v xs) => show Calls Try.prog 8 #[.pointer (some ⟨g, 0, none⟩), .int .i64 0, .int .i64 300] W fun r w' => ∃ s, r = .returned (.tuple #[.pointer (some ⟨s, 0, none⟩), .int .i64 0]) ∧ SpAt w' B s g v xs 0 0 300 ∧ Below W.heap.size W w' from snew_in W B g v xs 0 300 h (by omega) (by omega) (by omega))
  have hk0 := Bk.new w 37 #[.int .i64 p, .int .i64 b, .bool m, .int .i64 t]
  have HK0 := Lib.hid hk0
  have HXL := Lib.hid hxl
  have HXG := Lib.hid hxg
  obtain ⟨w0, hw0⟩ : ∃ w0, w0 = w.alloc (.cells #[.int .i64 p, .int .i64 b, .bool m, .int .i64 t] 37) := ⟨_, rfl⟩
  have HW0 : Hid (w.heap.size < w0.heap.size ∧ Below w.heap.size w w0) := Lib.hid ⟨by rw [hw0]; simp, by rw [hw0]; exact Gw.alloc w _⟩
  rw [← hw0] at HK0
  have HWW := Lib.hid hw0
  clear hxs hxl hxg hk0 hw0
  go_enter Try.func6, Try.ntmps6
  go_wp2_with fail
  refine Calls.mono (known15_c _) ?_
  rintro r w1 ⟨rfl, b1⟩
  rw [← HWW.out] at b1
  have HB1 := Lib.hid b1
  clear b1
  go_wp2_with (at_make; refine wp_make (f := u64v) one64 rfl _ _ rfl 0#64 rfl w1.heap.size 300 _ _ _ _ rfl rfl rfl rfl (by omega) (by decide) (Nat.le_refl _) ?_; rintro q w3 hq ho3 hb3 _)
  rw [← hq]
  clear hq
  go_loopw [6] (fun i wr => ∃ k : Nat, k ≤ 300 ∧ i = .int .i64 k ∧ Ow u64v 54 wr w1.heap.size (.slice (some ⟨q, 0, none⟩) 300 300) (partU xs k) ∧ Below w1.heap.size w1 wr) (fun i _ => 300 - (intOf i).toNat)
  case atStart => exact ⟨0, by omega, rfl, by have := HXL.out; simpa [partU, this] using ho3, hb3⟩
  case round =>
    obtain ⟨k, hkl, rfl, how, hB⟩ := hrel
    by_cases hlt : k < 300
    · have p1 : (0 : Int) ≤ (k : Int) := by omega
      have p2 : (k : Int) < 300 := by omega
      have hxk : k < xs.length := by rw [HXL.out]; exact hlt
      have hpl := partU_len xs k (by omega)
      have hf := how.free k
      have hge := how.ge
      have hcell := how.cell (j := k) (by rw [hpl]; exact hxk)
      have hset := how.set (j := k) (by rw [hpl]; exact hxk) xs[k]
      rw [partU_set xs k hxk, HXG.out k hxk] at hset
      obtain ⟨z, hz⟩ : ∃ z, z = (partU xs k)[k]'(by rw [hpl]; exact hxk) := ⟨_, rfl⟩
      rw [← hz] at hcell
      unfold u64v at hcell hset
      have hB' : ∀ m u, Below w1.heap.size w1 ((wr.drewN m).setCell ⟨q, k, none⟩ u) := fun m u => (bdN hB m).setCell (p := ⟨q, k, none⟩) hge.1 _
      have HS := Lib.hid hset
      have HB' := Lib.hid hB'
      clear hset hB' hz how hge hpl hxk
      go_wp2_with fail
      go_roundw
      case rel => exact ⟨k + 1, by omega, by go_num, HS.out, HB'.out 0 _⟩
      case measure => (first | (simp [intOf]; done) | (simp [intOf]; omega))
    · have hkk : k = 300 := by omega
      subst hkk
      have hw : partU xs 300 = xs := by unfold partU; rw [HXL.out]; simp; rw [← HXL.out]; simp
      rw [hw] at how
      have hrd : Rd u64v wr wr.heap.size (some ⟨q, 0, none⟩) xs := by
        have h := how
        rw [← HXL.out] at h
        exact h.rd
      have HRD := Lib.hid hrd
      have HB2 : Hid (Below w0.heap.size w0 wr) := Lib.hid (HB1.out.trans (hB.mono HB1.out.size))
      clear how hB hw hrd hkl
      go_wp2_with fail
      refine Calls.mono (HOf.out wr _ _ HRD.out) ?_
      rintro r w4 ⟨g, v, rfl, hm4, b4⟩
      have HB4 : Hid (Below w0.heap.size w0 w4) := Lib.hid (HB2.out.trans (b4.mono HB2.out.size))
      have HM4 := Lib.hid hm4
      have HGE := Lib.hid HB2.out.size
      clear b4 hm4
      go_wp2_with fail
      refine Calls.mono (HNw.out w4 _ g v HM4.out) ?_
      rintro r w5 ⟨s, rfl, hs5, b5⟩
      have HB5 : Hid (Below w0.heap.size w0 w5) := Lib.hid (HB4.out.trans (b5.mono HB4.out.size))
      have HS5 := Lib.hid hs5
      obtain ⟨k0, k1, k2, k3⟩ := (HK0.out.below HB5.out HW0.out.1).four
      clear b5 hs5
      have hcase : (rightH p b m t = false ∨ (rightH p b m t = true ∧ m = true)) ∨ (rightH p b m t = true ∧ m = false) := by
        cases rightH p b m t <;> cases m <;> simp
      rcases hcase with hbad | ⟨hgood, rfl⟩
      · have HA := Lib.hid (alloc_bad w5 _ s g v xs 0 0 300 HS5.out p b m t hbad)
        go_wp2_with fail
        refine Calls.mono HA.out ?_
        rintro r w6 ⟨rfl, b6⟩
        have HB6 : Hid (Below w0.heap.size w0 w6) := Lib.hid (HB5.out.trans (b6.mono HB5.out.size))
        have HS6 := Lib.hid (HS5.out.below b6)
        obtain ⟨k0, k1, k2, k3⟩ := (HK0.out.below HB6.out HW0.out.1).four
        have HRt := Lib.hid (right_c p b m t w6)
        clear b6 HA
        rcases hbad with h | ⟨h, rfl⟩
        · rw [h] at HRt
          clear h
          go_wp2_with fail
          refine Calls.mono HRt.out ?_
          rintro r w7 ⟨rfl, b7⟩
          have HB7 : Hid (Below w0.heap.size w0 w7) := Lib.hid (HB6.out.trans (b7.mono HB6.out.size))
          have HU := Lib.hid (used_c w7 _ s g v xs 0 0 300 (HS6.out.below b7) (by have := HXL.out; omega))
          clear b7
          go_wp2_with fail
          refine Calls.mono HU.out ?_
          rintro r w8 ⟨rfl, b8'⟩
          have HB8 : Hid (Below w0.heap.size w0 w8) := Lib.hid (HB7.out.trans (b8'.mono HB7.out.size))
          clear b8'
          go_wp2_with fail
          go_ret
          exact ⟨rfl, HW0.out.2.trans (HB8.out.mono (Nat.le_of_lt HW0.out.1))⟩
        · rw [h] at HRt
          clear h
          go_wp2_with fail
          refine Calls.mono HRt.out ?_
          rintro r w7 ⟨rfl, b7⟩
          have HB7 : Hid (Below w0.heap.size w0 w7) := Lib.hid (HB6.out.trans (b7.mono HB6.out.size))
          obtain ⟨k0, k1, k2, k3⟩ := (HK0.out.below HB7.out HW0.out.1).four
          have HU := Lib.hid (used_c w7 _ s g v xs 0 0 300 (HS6.out.below b7) (by have := HXL.out; omega))
          clear b7
          go_wp2_with fail
          refine Calls.mono HU.out ?_
          rintro r w8 ⟨rfl, b8'⟩
          have HB8 : Hid (Below w0.heap.size w0 w8) := Lib.hid (HB7.out.trans (b8'.mono HB7.out.size))
          clear b8'
          go_wp2_with fail
          go_ret
          exact ⟨rfl, HW0.out.2.trans (HB8.out.mono (Nat.le_of_lt HW0.out.1))⟩
      · obtain ⟨n, hn, hn1, hn2⟩ := size_right hgood
        have HA := Lib.hid (alloc_ok w5 _ s g v xs 0 0 300 HS5.out (by have := HXL.out; omega) p b t n hgood hn hn1 (by omega))
        have HRt := Lib.hid (fun W => right_c p b false t W)
        rw [hgood] at HRt
        have HSz := Lib.hid (fun W => size_c p b false t W)
        rw [hn] at HSz
        obtain ⟨x, hx⟩ : ∃ x, x = packH p b false t := ⟨_, rfl⟩
        rw [← hx] at HA
        have HN := Lib.hid (And.intro hn1 hn2)
        have q1 : (n : Int) ≤ 300 := by omega
        clear hgood hn hx hn1 hn2
        go_wp2_with fail
        refine Calls.mono HA.out ?_
        rintro r w6 ⟨rfl, hs6, b6⟩
        have HB6 : Hid (Below w0.heap.size w0 w6) := Lib.hid (HB5.out.trans (b6.mono HGE.out))
        have HS6 := Lib.hid hs6
        obtain ⟨k0, k1, k2, k3⟩ := (HK0.out.below HB6.out HW0.out.1).four
        clear b6 HA hs6
        go_wp2_with fail
        refine Calls.mono (HRt.out w6) ?_
        rintro r w7 ⟨rfl, b7⟩
        have HB7 : Hid (Below w0.heap.size w0 w7) := Lib.hid (HB6.out.trans (b7.mono HB6.out.size))
        have HS7 := Lib.hid (HS6.out.below b7)
        obtain ⟨k0, k1, k2, k3⟩ := (HK0.out.below HB7.out HW0.out.1).four
        clear b7
        go_wp2_with fail
        obtain ⟨wq, hwq⟩ : ∃ x, x = wr := ⟨wr, rfl⟩
        rw [← hwq] at HS7
        clear hwq
        have HLenA : Hid ((allocW xs 0 n x).length = 300) := Lib.hid (by rw [allocW_len]; exact HXL.out)
        go_loopw [13] (fun i W => ∃ k : Nat, 1 ≤ k ∧ k ≤ 300 ∧ i = .int .i64 k ∧ SpAt W wq.heap.size s g v (allocW xs 0 n x) 0 (0 + n) 300 ∧ Below w0.heap.size w0 W) (fun i _ => 300 - (intOf i).toNat)
        case atStart => exact ⟨1, by omega, by omega, rfl, HS7.out, HB7.out⟩
        case round =>
          obtain ⟨k, hk1, hk2, rfl, hsp, hBk⟩ := hrel
          by_cases hk3 : k < 300
          · have p1 : (0 : Int) ≤ (k : Int) := by omega
            have p2 : (k : Int) < 300 := by omega
            obtain ⟨c0, c1, c2, c3⟩ := hsp.four
            have hka : k < (allocW xs 0 n x).length := by rw [HLenA.out]; exact hk3
            have HG := Lib.hid (get_in _ _ g v (allocW xs 0 n x) k hka (by rw [HLenA.out]; decide) hsp.mem)
            have hval : (allocW xs 0 n x)[k] = if k < n then 0#64 else fill := by
              have hkx : k < xs.length := by rw [HXL.out]; exact hk3
              have h := allocW_get xs n k x fill HN.out.1 (by rw [HXL.out]; exact HN.out.2) hk1 (by rw [List.getElem?_eq_getElem hkx, HXG.out k hkx])
              rw [List.getElem?_eq_getElem hka] at h
              injection h
            rw [hval] at HG
            have HSP := Lib.hid (And.intro hsp hBk)
            obtain ⟨k0, k1', k2, k3⟩ := (HK0.out.below hBk HW0.out.1).four
            clear hval hsp hBk hka
            by_cases hkn : k < n
            · rw [if_pos hkn, show U64 0#64 = 0 from by decide +kernel] at HG
              go_wp2_with fail
              refine Calls.mono HG.out ?_
              rintro r w8 ⟨rfl, rfl⟩
              go_wp2_with fail
              refine Calls.mono (HSz.out _) ?_
              rintro r w9 ⟨rfl, b9⟩
              have H9 := Lib.hid (And.intro (HSP.out.1.below b9) (HSP.out.2.trans (b9.mono HSP.out.2.size)))
              clear b9
              go_wp2_with fail
              go_roundw
              case rel => exact ⟨k + 1, by omega, by omega, by go_num, H9.out.1, H9.out.2⟩
              case measure => (first | (simp [intOf]; done) | (simp [intOf]; omega))
            · rw [if_neg hkn] at HG
              go_wp2_with fail
              refine Calls.mono HG.out ?_
              rintro r w8 ⟨rfl, rfl⟩
              go_wp2_with fail
              refine Calls.mono (HSz.out _) ?_
              rintro r w9 ⟨rfl, b9⟩
              have H9 := Lib.hid (And.intro (HSP.out.1.below b9) (HSP.out.2.trans (b9.mono HSP.out.2.size)))
              clear b9
              go_wp2_with fail
              go_roundw
              case rel => exact ⟨k + 1, by omega, by omega, by go_num, H9.out.1, H9.out.2⟩
              case measure => (first | (simp [intOf]; done) | (simp [intOf]; omega))
          · go_wp2_with fail
            go_ret
            exact ⟨rfl, HW0.out.2.trans (hBk.mono (Nat.le_of_lt HW0.out.1))⟩
theorem clears_walk {H : Type} {enc : TypeId × Value → H} {base : Nat} (w : World) (f : Int) (wf : (Lit.int .u64 f).wf = true) (v : Value) {d : DataW H} {q : List MemPlace}
    (hv : Value.okWide Try.prog w .any base 37 v) (h : DataW.Trod enc Try.prog w 0 (fun _ => true) true 37 v d q) :
    Calls Try.prog 6 #[.int .u64 f, v] w (TruP (.bool true) w) := by
  obtain ⟨p, b, m, t, rfl⟩ := open_head hv h
  rw [wfu64 wf]
  exact clears_any w _ p b m t
end Go.Proofs.Ytgjnencpdafkoaa
namespace Go.Proofs.Ytgjnencpdafkoaa.spaceClears
open Go.ChangeShapes Go.WideShapes Go.ChangeAt Go.RowKit
open Go.ChangeMaps (open_string shut_string)
set_option linter.unusedVariables false
set_option maxRecDepth 100000 in
theorem lifted (os : Os) (started : os.Started) (H : Type) (enc : TypeId × Value → H) :
    ReturnsInHanded {} Try.checked os 6 .any (Rows.spaceClearsSpec.pre6 enc Try.prog Try.f6 Rows.spaceClearsRow.domain false) (Rows.spaceClearsSpec.post enc Try.prog Try.f6 false true false false) := by
  refine returnsInHanded_of_change (C := Try.checked) own started (by kernel_rfl) Try.func6
    (ChangeSpec.witness6 (enc := enc) (C := Try.checked) false ⟨#[], #[.int .u64 0, .agg #[.int .i64 0, .int .i64 0, .bool false, .int .i64 0]], []⟩ 8 (by kernel_rfl) (by kernel_rfl) (by kernel_rfl) (by kernel_rfl)) ?_
  intro W base args ds gs before hval0 hW hcnd _
  have hval : ∀ (j : Nat) t v, Try.f6.params[j]? = some t → args[j]? = some v → Value.okWide Try.prog W .any base t v := hval0
  have hW' := hW
  obtain ⟨p, q, hA0, hV, rfl, hfz, hnd⟩ := hW
  have hA : DataW.TrodAll enc Try.prog W 0 (fun _ => true) true Try.f6.params.toList args.toList ds p := hA0
  rw [Try.params6] at hA hval
  obtain ⟨v0, vs0, d0, ds0, p0, q0, hargs, rfl, rfl, h0, r0⟩ := trodAll_cons hA
  obtain ⟨v1, vs1, d1, ds1, p1, q1, rfl, rfl, rfl, h1, r1⟩ := trodAll_cons r0
  obtain ⟨rfl, rfl, rfl⟩ := trodAll_nil r1
  obtain rfl : args = #[v0, v1] := by cases args; simp_all
  obtain ⟨rfl, rfl⟩ := trodVars_none hV
  have k0 := h0
  have lt0 : ∀ x ∈ p0, x.block < W.heap.size := by obtain ⟨m, hm⟩ := k0; exact DataW.trod_lt m _ _ _ hm
  obtain ⟨a0, e0v, _, _, w0⟩ := open_int Try.underlying54 (hval 0 54 v0 rfl rfl) h0; subst e0v
  have k1 := h1
  have lt1 : ∀ x ∈ p1, x.block < W.heap.size := by obtain ⟨m, hm⟩ := k1; exact DataW.trod_lt m _ _ _ hm
  clear hA0 hval0
  refine (clears_walk W a0 w0 v1 (hval 1 37 v1 rfl rfl) k1).mono fun e W' ⟨he, bel⟩ => ?_
  subst he
  exact ⟨_, rfl, _, _, _, [], _, [], hW', trodAll_mk1 (shut_bool Try.underlying4 _), (trodAll_cons_mk (Below.trod laidOut (by kernel_rfl) (of_decide_eq_true (by kernel_rfl)) k0 bel lt0) (trodAll_cons_mk (Below.trod laidOut (by kernel_rfl) (of_decide_eq_true (by kernel_rfl)) k1 bel lt1) trodAll_mk0)), rfl, bel.frame _, fun h => by cases h⟩
theorem over : Rows.spaceClearsRow.holds Try.pinned (OpenSpec.ofChange Rows.spaceClearsSpec) :=
  OpenClaim.holds_of_wide 6 Try.f6 rfl rfl rfl rfl rfl rfl rfl ⟨rfl, rfl, rfl, rfl, rfl⟩ rfl rfl rfl rfl rfl (by kernel_rfl) Try.func6 (by kernel_rfl)
    (of_decide_eq_true (by kernel_rfl)) (by unfold Func.isWrapper; first | (rw [if_pos (by decide +kernel)]; kernel_rfl) | (rw [if_neg (by decide +kernel)]; exact ⟨rfl, rfl⟩))
    (fun os started H enc _ => lifted os started H enc)
theorem proved : Rows.SpaceClearsSaid := over
end Go.Proofs.Ytgjnencpdafkoaa.spaceClears
