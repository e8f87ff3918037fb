/- What loamref6.Decode answers of bytes that are long enough. Conditions: lengths. -/
import Derived.Test.YtjdifejnnkplaaaSupN
namespace Go.Proofs.Ytjdifejnnkplaaa
set_option linter.unusedVariables false
set_option linter.unusedSimpArgs false
open Go.RowKit
set_option maxRecDepth 100000
set_option maxHeartbeats 2000000
theorem rdec6_long (E : List (BitVec 8)) (A : Option Addr) (c : Nat) (w : World) (h64 : 64 ≤ E.length) (hl : E.length ≤ 2000) (hr : Rd b8 w w.heap.size A E) (ep : BitVec 64) (s l n sp wd : Nat) (lg : BitVec 64)
    (hG : getB E 8 8 = ep ∧ U64 (getB E 16 4) = (s : Int) ∧ U64 (getB E 20 4) = (l : Int) ∧ U64 (getB E 24 4) = (n : Int) ∧ U64 (getB E 28 4) = (sp : Int) ∧ U64 (getB E 32 4) = (wd : Int) ∧ getB E 36 8 = lg) (hX : s ≤ 4294967296 ∧ l ≤ 4294967296 ∧ n ≤ 4294967296 ∧ sp ≤ 4294967296 ∧ wd ≤ 4294967296)
    (er : Int) (xs : List (BitVec 8)) (hE : ∀ W, Calls Try.prog 10 #[blkV ep s l n sp wd lg] W (EncD er xs W)) (bb : Bool) (hw : (er = 1 ∧ bb = false) ∨ (er = 0 ∧ bb = decide (xs = E))) :
    Calls Try.prog 15 #[.slice A E.length c] w (RetP (decR bb (blkV ep s l n sp wd lg)) w) := by
  have hz : U64 0#64 = 0 := by decide +kernel
  obtain ⟨N, hN⟩ : ∃ N, N = E.length := ⟨_, rfl⟩
  have HNUM := Lib.hid (show ∀ W, Rd b8 W W.heap.size A E → Calls Try.prog 28 #[.slice A N c, .int .i64 8, .int .i64 8] W (RetP (.int .u64 (U64 ep)) W) ∧ Calls Try.prog 28 #[.slice A N c, .int .i64 28, .int .i64 4] W (RetP (.int .u64 (sp : Int)) W) ∧ Calls Try.prog 28 #[.slice A N c, .int .i64 32, .int .i64 4] W (RetP (.int .u64 (wd : Int)) W) ∧ Calls Try.prog 28 #[.slice A N c, .int .i64 36, .int .i64 8] W (RetP (.int .u64 (U64 lg)) W) from fun W q =>
    ⟨number_8 E A c N hN 8 ep hG.1 W q (by omega), number_n E A c N hN 28 sp hG.2.2.2.2.1 W q (by omega), number_n E A c N hN 32 wd hG.2.2.2.2.2.1 W q (by omega), number_8 E A c N hN 36 lg hG.2.2.2.2.2.2 W q (by omega)⟩)
  have HNU3 := Lib.hid (show ∀ W, Rd b8 W W.heap.size A E → Calls Try.prog 28 #[.slice A N c, .int .i64 16, .int .i64 4] W (RetP (.int .u64 (s : Int)) W) ∧ Calls Try.prog 28 #[.slice A N c, .int .i64 20, .int .i64 4] W (RetP (.int .u64 (l : Int)) W) ∧ Calls Try.prog 28 #[.slice A N c, .int .i64 24, .int .i64 4] W (RetP (.int .u64 (n : Int)) W) from fun W q =>
    ⟨number_n E A c N hN 16 s hG.2.1 W q (by omega), number_n E A c N hN 20 l hG.2.2.1 W q (by omega), number_n E A c N hN 24 n hG.2.2.2.1 W q (by omega)⟩)
  have HEnc := Lib.hid hE
  have HX := Lib.hid hX
  have HWW := Lib.hid hw
  have HN := Lib.hid hN
  rw [← hN] at h64 ⊢
  have q1 : decide ((N : Int) < 64) = false := by simp; omega
  have p1 : (s : Int) ≤ 4294967296 := by omega
  have p2 : (l : Int) ≤ 4294967296 := by omega
  have p3 : (n : Int) ≤ 4294967296 := by omega
  have p4 : (0 : Int) ≤ (s : Int) := by omega
  have p5 : (0 : Int) ≤ (l : Int) := by omega
  have p6 : (0 : Int) ≤ (n : Int) := by omega
  obtain ⟨W0, hW0⟩ : ∃ X, X = w.alloc (.cells #[.int .u64 0, .int .i64 0, .int .i64 0, .int .i64 0, .int .i64 0, .int .i64 0, .int .u64 0] 37) := ⟨_, rfl⟩
  obtain ⟨H, hH⟩ : ∃ H, H = w.heap.size := ⟨_, rfl⟩
  have HQ := Lib.hid (show Bk W0 H 37 #[.int .u64 0, .int .i64 0, .int .i64 0, .int .i64 0, .int .i64 0, .int .i64 0, .int .u64 0] ∧ Below w.heap.size w W0 ∧ w.heap.size ≤ H from by rw [hW0, hH]; exact ⟨Bk.new w _ _, Gw.alloc w _, Nat.le_refl _⟩)
  have HR0 := Lib.hid ((hr.below HQ.out.2.1).more HQ.out.2.1.size)
  clear hG hX hE hw hN hr hl
  go_enter Try.func15, Try.ntmps15
  go_wp2_with fail
  rw [← hW0, ← hH]
  clear hW0 hH
  refine Calls.mono (HNU3.out _ HR0.out).1 ?_
  rintro e w1 ⟨rfl, b1⟩
  have HQ1 := Lib.hid (And.intro (HQ.out.1.below b1 HQ.out.1.lt) (HQ.out.2.1.trans (b1.mono HQ.out.2.1.size)))
  have HR1 := Lib.hid ((HR0.out.below b1).more b1.size)
  clear b1 HR0
  go_wp2_with fail
  refine Calls.mono (HNU3.out _ HR1.out).2.1 ?_
  rintro e w2 ⟨rfl, b2⟩
  have HQ2 := Lib.hid (And.intro (HQ1.out.1.below b2 HQ1.out.1.lt) (HQ1.out.2.trans (b2.mono HQ1.out.2.size)))
  have HR2 := Lib.hid ((HR1.out.below b2).more b2.size)
  clear b2 HR1 HQ1
  go_wp2_with fail
  refine Calls.mono (HNU3.out _ HR2.out).2.2 ?_
  rintro e w3 ⟨rfl, b3⟩
  have HQ3 := Lib.hid (And.intro (HQ2.out.1.below b3 HQ2.out.1.lt) (HQ2.out.2.trans (b3.mono HQ2.out.2.size)))
  have HR3 := Lib.hid ((HR2.out.below b3).more b3.size)
  clear b3 HR2 HQ2 HNU3
  obtain ⟨K, hK⟩ : ∃ K, K = w3.heap.size := ⟨_, rfl⟩
  obtain ⟨W4, hW4⟩ : ∃ X, X = w3.alloc (.cells #[.int .i64 (s : Int), .int .i64 (l : Int), .int .i64 (n : Int)] 35) := ⟨_, rfl⟩
  have HK4 := Lib.hid (show Bk W4 K 35 #[.int .i64 (s : Int), .int .i64 (l : Int), .int .i64 (n : Int)] from by rw [hW4, hK]; exact Bk.new w3 _ _)
  have b4 : Below w3.heap.size w3 W4 := by rw [hW4]; exact Gw.alloc w3 _
  have HQ4 := Lib.hid (And.intro (HQ3.out.1.below b4 HQ3.out.1.lt) (HQ3.out.2.trans (b4.mono HQ3.out.2.size)))
  have HR4 := Lib.hid ((HR3.out.below b4).more b4.size)
  clear b4 HR3 HQ3
  go_wp2_with fail
  rw [← hW4, ← hK]
  clear hW4 hK
  refine rd6_reg _ _ _ K E A c N s l n sp wd ep lg HR4.out HK4.out HNUM HX.out.2.2.2.1 HX.out.2.2.2.2 rfl rfl rfl ?_
  intro vals w5 hG h5 h33
  obtain ⟨g5, hg5, e5, k5⟩ := h5
  unfold IsV at h33
  simp only [putD, Act.put, List.setIfInBounds_toArray, List.set_cons_zero, List.set_cons_succ, e5, h33]
  have HQ5 := Lib.hid (And.intro (HQ4.out.1.below hG HQ4.out.1.lt) (HQ4.out.2.trans (hG.mono HQ4.out.2.size)))
  have HR5 := Lib.hid ((HR4.out.below hG).more hG.size)
  have HH5 := Lib.hid HQ4.out.1.lt
  have HK5 := Lib.hid k5
  have HH6 := Lib.hid (And.intro HH5.out (And.intro hg5 (hG.size)))
  have HQ45 := Lib.hid HQ4.out.2.size
  have HRA := Lib.hid HR4.out
  have HGG := Lib.hid hG
  clear h33 e5 hG HQ4 HR4 HH5 HK4 HNUM k5 HR5
  refine wp_st6 rfl _ _ rfl g5 #[.int .u64 (U64 ep), .int .i64 (s : Int), .int .i64 (l : Int), .int .i64 (n : Int), .int .i64 (sp : Int), .int .i64 (wd : Int), .int .u64 (U64 lg)] rfl rfl 37 _ HK5.out rfl rfl (by simp [Value.oneCell']) ?_
  intro W6 k6 b6 o6
  have HK6 := Lib.hid k6
  have HB6 := Lib.hid (b6 W4.heap.size HH6.out.2.1)
  obtain ⟨c0, c1, c2, c3, c4, c5, c6⟩ := k6.seven
  clear k6 b6 o6
  go_wp2_with fail
  have HQ6 := Lib.hid (show Bk W6 H 37 #[.int .u64 0, .int .i64 0, .int .i64 0, .int .i64 0, .int .i64 0, .int .i64 0, .int .u64 0] ∧ Below w.heap.size w W6 from ⟨HQ5.out.1.below HB6.out HH6.out.1, HQ5.out.2.trans (HB6.out.mono HQ45.out)⟩)
  have HR6 := Lib.hid (show Rd b8 W6 W6.heap.size A E from (HRA.out.below (HGG.out.trans HB6.out)).more (HGG.out.trans HB6.out).size)
  clear HQ5 HK5 HRA HGG HB6
  have HEn := Lib.hid (HEnc.out W6)
  unfold blkV at HEn
  refine Calls.mono HEn.out ?_
  rintro e w7 ⟨A7, k7, rfl, hk7, hr7, b7⟩
  have HQ7 := Lib.hid (And.intro (HQ6.out.1.below b7 HQ6.out.1.lt) (HQ6.out.2.trans (b7.mono HQ6.out.2.size)))
  have HR7 := Lib.hid ((HR6.out.below b7).more b7.size)
  have HK7 := Lib.hid (HK6.out.below b7 HK6.out.lt)
  have HT7 := Lib.hid hr7
  obtain ⟨M, hM⟩ : ∃ M, M = xs.length := ⟨_, rfl⟩
  have HM := Lib.hid hM
  rw [← hM]
  clear hM hk7 hr7 b7 HEn HEnc HQ6 HR6 HK6 c0 c1 c2 c3 c4 c5 c6
  have HLE := Lib.hid HQ.out.2.2
  clear HQ
  have kc1 := str_conv xs A7 k7 _ w7 HT7.out
  have kc2 := str_conv E A c _ w7 HR7.out
  rw [← HM.out] at kc1
  rw [← HN.out] at kc2
  rcases HWW.out with ⟨rfl, rfl⟩ | ⟨rfl, hbb⟩
  · clear kc1 kc2
    go_wp2_with (refine wp_st6 rfl _ _ rfl H #[.int .u64 0, .int .i64 0, .int .i64 0, .int .i64 0, .int .i64 0, .int .i64 0, .int .u64 0] rfl rfl 37 _ HQ7.out.1 rfl rfl (by simp [Value.oneCell']) ?_; intro w8 k8 b8 o8)
    refine bodyPost_ret (v := .tuple #[blkV 0#64 0 0 0 0 0 0#64, .int .i64 2]) (by unfold blkV; rw [hz]; exact res6 rfl k8 rfl rfl) rfl ⟨rfl, ?_⟩
    exact HQ7.out.2.trans (b8 _ HLE.out)
  · have hs := strB_beq xs E
    rw [show (xs == E) = decide (xs = E) from by rw [Bool.eq_iff_iff]; simp] at hs
    rw [← hbb] at hs
    clear hbb HWW
    cases bb
    · go_wp2_with (refine wp_st6 rfl _ _ rfl H #[.int .u64 0, .int .i64 0, .int .i64 0, .int .i64 0, .int .i64 0, .int .i64 0, .int .u64 0] rfl rfl 37 _ HQ7.out.1 rfl rfl (by simp [Value.oneCell']) ?_; intro w8 k8 b8 o8)
      refine bodyPost_ret (v := .tuple #[blkV 0#64 0 0 0 0 0 0#64, .int .i64 2]) (by unfold blkV; rw [hz]; exact res6 rfl k8 rfl rfl) rfl ⟨rfl, ?_⟩
      exact HQ7.out.2.trans (b8 _ HLE.out)
    · obtain ⟨c0, c1, c2, c3, c4, c5, c6⟩ := HK7.out.seven
      go_wp2_with (refine wp_st6 rfl _ _ rfl H #[.int .u64 (U64 ep), .int .i64 (s : Int), .int .i64 (l : Int), .int .i64 (n : Int), .int .i64 (sp : Int), .int .i64 (wd : Int), .int .u64 (U64 lg)] rfl rfl 37 _ HQ7.out.1 rfl rfl (by simp [Value.oneCell']) ?_; intro w8 k8 b8 o8)
      refine bodyPost_ret (v := .tuple #[blkV ep s l n sp wd lg, .int .i64 0]) (by unfold blkV; exact res6 rfl k8 rfl rfl) rfl ⟨rfl, ?_⟩
      exact HQ7.out.2.trans (b8 _ HLE.out)
end Go.Proofs.Ytjdifejnnkplaaa
