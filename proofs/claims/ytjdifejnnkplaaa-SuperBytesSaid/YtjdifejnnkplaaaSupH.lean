/- What loamlaw6.known answers. No conditions. -/
import Derived.Test.YtjdifejnnkplaaaSupG
namespace Go.Proofs.Ytjdifejnnkplaaa
set_option linter.unusedVariables false
set_option linter.unusedSimpArgs false
open Go.RowKit
set_option maxRecDepth 100000
set_option maxHeartbeats 800000
theorem k6_enc (W : World) : Calls Try.prog 9 #[.agg #[.int .u64 3, .int .i64 64, .int .i64 8, .int .i64 64, .int .i64 1, .int .i64 9, .int .u64 4]] W (Enc6P (encSB 3#64 64 8 64 1 9 4#64) W) := by
  have h := enc6_ok 3#64 64 8 64 1 9 4#64 W ⟨by decide, by decide, by decide⟩
  unfold blkV at h
  rw [show U64 3#64 = 3 from by decide +kernel, show U64 4#64 = 4 from by decide +kernel] at h
  exact h
theorem k6_dec (W : World) (A : Option Addr) (c : Nat) (hc : 64 ≤ c) (hr : Rd b8 W W.heap.size A (encSB 3#64 64 8 64 1 9 4#64)) : Calls Try.prog 14 #[.slice A 64 c] W (RetP (.tuple #[.agg #[.int .u64 3, .int .i64 64, .int .i64 8, .int .i64 64, .int .i64 1, .int .i64 9, .int .u64 4], .int .i64 0]) W) := by
  have hl := encSB_len 3#64 64 8 64 1 9 4#64 (by decide)
  have h := dec6_ok 3#64 64 8 64 1 9 4#64 A c W ⟨by decide, by decide, by decide⟩ (by rw [hl]; exact hc) hr
  rw [hl] at h
  unfold blkV at h
  rw [show U64 3#64 = 3 from by decide +kernel, show U64 4#64 = 4 from by decide +kernel] at h
  exact h
theorem k6_enc0 (W : World) : Calls Try.prog 9 #[.agg #[.int .u64 0, .int .i64 0, .int .i64 0, .int .i64 0, .int .i64 0, .int .i64 0, .int .u64 0]] W (RetP (.tuple #[.slice none 0 0, .int .i64 1]) W) := by
  have h := enc6_bad 0#64 0 0 0 0 0 0#64 W (.inl (by decide))
  unfold blkV at h
  rw [show U64 0#64 = 0 from by decide +kernel] at h
  exact h
theorem k6_dec0 (W : World) : Calls Try.prog 14 #[.slice none 0 0] W (RetP (.tuple #[.agg #[.int .u64 0, .int .i64 0, .int .i64 0, .int .i64 0, .int .i64 0, .int .i64 0, .int .u64 0], .int .i64 2]) W) := by
  have h := dec6_nil W
  unfold blkV at h
  rw [show U64 0#64 = 0 from by decide +kernel] at h
  exact h
theorem k6_newer (W : World) : Calls Try.prog 12 #[.agg #[.int .u64 3, .int .i64 64, .int .i64 8, .int .i64 64, .int .i64 1, .int .i64 9, .int .u64 4], .agg #[.int .u64 2, .int .i64 0, .int .i64 0, .int .i64 0, .int .i64 0, .int .i64 0, .int .u64 0]] W (RetP (.bool true) W) := by
  have h := newer_c 3#64 2#64 64 8 64 1 9 0 0 0 0 0 4#64 0#64 W
  unfold blkV at h
  rw [show U64 3#64 = 3 from by decide +kernel, show U64 4#64 = 4 from by decide +kernel, show U64 2#64 = 2 from by decide +kernel, show U64 0#64 = 0 from by decide +kernel] at h
  exact h
theorem k6_slot (W : World) : Calls Try.prog 13 #[.int .u64 3] W fun e w' => e = .returned (.int .i64 1) ∧ w' = W := by
  have h := slot_c 3#64 W
  rw [show U64 3#64 = 3 from by decide +kernel, show U64 (3#64 &&& 1#64) = 1 from by decide +kernel] at h
  exact h
def c6 : Array Value := #[.int .u64 3, .int .i64 64, .int .i64 8, .int .i64 64, .int .i64 1, .int .i64 9, .int .u64 4]
theorem known6_c (w : World) : Calls Try.prog 7 #[] w (RetP (.bool true) w) := by
  have HK := Lib.hid (Bk.new w 26 c6)
  have HB := Lib.hid (Gw.alloc w (.cells c6 26))
  obtain ⟨E, hE⟩ : ∃ E, E = encSB 3#64 64 8 64 1 9 4#64 := ⟨_, rfl⟩
  have HE := Lib.hid hE
  have HL := Lib.hid (show E.length = 64 from by rw [hE]; exact encSB_len _ _ _ _ _ _ _ (by decide))
  have HM := Lib.hid (show E.take 4 = [76#8, 79#8, 65#8, 77#8] from by rw [hE]; exact magicB _ _ _ _ _ _ _)
  have H1 := Lib.hid (fun W => k6_enc W)
  rw [← hE] at H1
  have H2 := Lib.hid (fun W A c hc (q : Rd b8 W W.heap.size A E) => k6_dec W A c hc (by rw [← hE]; exact q))
  unfold c6 at HK HB
  obtain ⟨c0, c1, c2, c3, c4, c5, c6'⟩ := HK.out.seven
  clear hE
  go_enter Try.func7, Try.ntmps7
  go_wp2_with fail
  refine Calls.mono (H1.out _) ?_
  rintro e w1 ⟨A1, k1, rfl, hk1, hr1, b1, ha1⟩
  rw [HL.out]
  have HK1 := Lib.hid (HK.out.below b1 HK.out.lt)
  have HB1 := Lib.hid (HB.out.trans (b1.mono HB.out.size))
  have HR1 := Lib.hid hr1
  have p1 : 64 ≤ k1 := by rw [HL.out] at hk1; exact hk1
  clear hk1 hr1 b1 ha1 c0 c1 c2 c3 c4 c5 c6' HK HB
  go_wp2_with fail
  refine Calls.mono (H2.out _ A1 k1 p1 HR1.out) ?_
  rintro e w2 ⟨rfl, b2⟩
  obtain ⟨W3, hW3⟩ : ∃ W, W = w2.alloc (.cells #[.int .u64 3, .int .i64 64, .int .i64 8, .int .i64 64, .int .i64 1, .int .i64 9, .int .u64 4] 26) := ⟨_, rfl⟩
  have b13 : Below w1.heap.size w1 W3 := by rw [hW3]; exact b2.trans ((Gw.alloc w2 _).mono b2.size)
  have HK3 := Lib.hid (HK1.out.below b13 HK1.out.lt)
  have HB3 := Lib.hid (HB1.out.trans (b13.mono HB1.out.size))
  have HR3 := Lib.hid ((HR1.out.below b13).more b13.size)
  have HJ3 := Lib.hid (show Bk W3 w2.heap.size 26 #[.int .u64 3, .int .i64 64, .int .i64 8, .int .i64 64, .int .i64 1, .int .i64 9, .int .u64 4] from by rw [hW3]; exact Bk.new w2 _ _)
  clear b2 b13 HK1 HB1 HR1 H2
  subst hW3
  go_wp2_with fail
  refine Calls.mono (k6_enc0 _) ?_
  rintro e w4 ⟨rfl, b4⟩
  have HK4 := Lib.hid (HK3.out.below b4 HK3.out.lt)
  have HJ4 := Lib.hid (HJ3.out.below b4 HJ3.out.lt)
  have HB4 := Lib.hid (HB3.out.trans (b4.mono HB3.out.size))
  have HR4 := Lib.hid ((HR3.out.below b4).more b4.size)
  clear b4 HK3 HJ3 HB3 HR3
  go_wp2_with fail
  refine Calls.mono (k6_dec0 _) ?_
  rintro e w5 ⟨rfl, b5⟩
  obtain ⟨W6, hW6⟩ : ∃ W, W = w5.alloc (.cells #[.int .u64 0, .int .i64 0, .int .i64 0, .int .i64 0, .int .i64 0, .int .i64 0, .int .u64 0] 26) := ⟨_, rfl⟩
  have b46 : Below w4.heap.size w4 W6 := by rw [hW6]; exact b5.trans ((Gw.alloc w5 _).mono b5.size)
  have HK6 := Lib.hid (HK4.out.below b46 HK4.out.lt)
  have HJ6 := Lib.hid (HJ4.out.below b46 HJ4.out.lt)
  have HB6 := Lib.hid (HB4.out.trans (b46.mono HB4.out.size))
  have hr6 := ((HR4.out.below b46).more b46.size).take 4
  rw [HM.out] at hr6
  have s1 := str_conv [76#8, 79#8, 65#8, 77#8] A1 k1 _ W6 hr6
  have s2 : (convert 29 9 (.slice A1 4 k1)).run Try.prog W6 = .ok (.string ⟨#[76, 79, 65, 77]⟩) W6 := s1
  obtain ⟨c0, c1, c2, c3, c4, c5, c6'⟩ := HK6.out.seven
  obtain ⟨d0, d1, d2, d3, d4, d5, d6⟩ := HJ6.out.seven
  clear b5 b46 HK4 HJ4 HB4 HR4 hr6 s1
  subst hW6
  go_wp2_with fail
  refine Calls.mono (k6_newer _) ?_
  rintro e w7 ⟨rfl, b7⟩
  have HB7 := Lib.hid (HB6.out.trans (b7.mono HB6.out.size))
  clear b7 c0 c1 c2 c3 c4 c5 c6' d0 d1 d2 d3 d4 d5 d6 s2
  go_wp2_with fail
  refine Calls.mono (k6_slot _) ?_
  rintro e w8 ⟨rfl, rfl⟩
  go_wp2_with fail
  go_ret
  exact ⟨rfl, HB7.out⟩
end Go.Proofs.Ytjdifejnnkplaaa
