/- The law SlotsBytes of layer 7 returns true for every argument: the walk. No conditions. -/
import Derived.Test.YtjcpbhjmmnpjnaaZb1
import Derived.Deep.CutRange
namespace Go.Proofs.Ytjcpbhjmmnpjnaa
set_option linter.unusedVariables false
set_option linter.unusedSimpArgs false
open Go.RowKit Go.Maps
set_option maxRecDepth 100000
set_option maxHeartbeats 8000000
/-- What lies there when the disk is made. -/
structure SbW (w W : World) (g : Nat) (A A2 : Option Addr) (xs ys : List (BitVec 8)) (d : DK) : Prop where
  disk : DiskX w.heap.size (fun _ => False) W g d
  ra : Rd b8 W W.heap.size A xs
  rb : Rd b8 W W.heap.size A2 ys
  bel : Below w.heap.size w W
theorem SbW.below {w W W' : World} {g : Nat} {A A2 : Option Addr} {xs ys : List (BitVec 8)} {d : DK} (h : SbW w W g A A2 xs ys d) (hb : Below W.heap.size W W') : SbW w W' g A A2 xs ys d :=
  ⟨h.disk.below hb, (h.ra.below hb).more hb.size, (h.rb.below hb).more hb.size, h.bel.trans (hb.mono h.bel.size)⟩
theorem sb_in (w : World) (A A2 : Option Addr) (xs ys : List (BitVec 8)) (N c c2 n : Nat) (hx : xs.length = N) (hy : ys.length = N) (h1 : 64 ≤ N) (h2 : N ≤ 256) (h3 : 1 ≤ n) (h4 : n ≤ 300) (hc : N ≤ c) (hc2 : N ≤ c2) (hr : Rd b8 w w.heap.size A xs) (hr2 : Rd b8 w w.heap.size A2 ys)
    (D : DK) (hD : D = dk0 n N (ksB xs ys N n)) (r0 r1 : Option Sb) (D0 : DecOK xs r0) (D1 : DecOK ys r1) (R0 : RecOK xs r0) (R1 : RecOK ys r1) : Calls Try.prog 3 #[.slice A N c, .slice A2 N c2, .int .i64 N, .int .i64 n] w (TruP (.bool true) w) := by
  have HR := Lib.hid (And.intro hr hr2)
  have HL := Lib.hid (And.intro hx (And.intro hy (And.intro hc hc2)))
  have HN := Lib.hid (And.intro h1 (And.intro h2 (And.intro h3 h4)))
  have q1 : decide ((N : Int) < 64) = false := by simp; omega
  have q2 : decide ((256 : Int) < (N : Int)) = false := by simp; omega
  have q3 : decide ((n : Int) < 1) = false := by simp; omega
  have q4 : decide ((300 : Int) < (n : Int)) = false := by simp; omega
  have p1 : (64 : Int) ≤ (N : Int) := by omega
  have p2 : (N : Int) ≤ 256 := by omega
  have p3 : (1 : Int) ≤ (n : Int) := by omega
  have p4 : (n : Int) ≤ 300 := by omega
  have HDD := Lib.hid hD
  have HDEC := Lib.hid (And.intro D0 (And.intro D1 (And.intro R0 R1)))
  clear hr hr2 hx hy hc hc2 h1 h2 h3 h4 hD D0 D1 R0 R1
  go_enter Try.func3, Try.ntmps3
  go_wp2_with fail
  refine Calls.mono (known7_c _) ?_
  rintro e w1 ⟨rfl, b1⟩
  have HR1 := Lib.hid (show Rd b8 w1 w1.heap.size A xs ∧ Rd b8 w1 w1.heap.size A2 ys from ⟨(HR.out.1.below b1).more b1.size, (HR.out.2.below b1).more b1.size⟩)
  have HB1 := Lib.hid b1
  have HW1 := Lib.hid (Gw.alloc w1 (.cells #[] 5))
  clear b1 HR
  go_upto_region 6 with (first
    | (at_builtin; refine wp_app one8 b8_one rfl _ _ rfl w1.heap.size (.slice (some ⟨w1.heap.size, 0, none⟩) 0 0) [] rfl (ow_empty b8 5 w1 w1.heap.size (Nat.le_refl _)) A N c xs rfl HL.out.1.symm w1.heap.size (HR1.out.1.alloc (Nat.le_refl _) _) (by rw [HL.out.1]; simp; have := HN.out.2.1; omega) (by decide) (by simp) ?_; intro v2 w2 h2 b2 _ _; have HO2 := Lib.hid (show Ow b8 5 w2 w1.heap.size v2 xs from h2); have HB2 := Lib.hid (show Below w1.heap.size w1 w2 from HW1.out.trans b2); clear h2 b2)
    | (at_builtin; refine wp_app one8 b8_one rfl _ _ rfl w1.heap.size v2 xs rfl HO2.out A2 N c2 ys rfl HL.out.2.1.symm w1.heap.size (HR1.out.2.below HB2.out) (by rw [HL.out.1, HL.out.2.1]; have := HN.out.2.1; omega) (by decide) HB2.out.size ?_; intro v3 w3 h3 b3 _ _; have HO3 := Lib.hid h3; have HB3 := Lib.hid (HB2.out.trans b3); clear h3 b3))
  have hl3 : (xs ++ ys).length = N + N := by rw [List.length_append, HL.out.1, HL.out.2.1]
  obtain ⟨g3, cap3, rfl, hc3, hm3⟩ := ow_at HO3.out (by rw [hl3]; have := HN.out.1; omega)
  obtain ⟨L3, hL3⟩ : ∃ k, k = (xs ++ ys).length := ⟨_, rfl⟩
  obtain ⟨P, hP⟩ : ∃ k, k = N * n := ⟨_, rfl⟩
  have hPb : P ≤ 76800 ∧ 64 ≤ P := by
    have h1 : N * n ≤ 256 * 300 := Nat.mul_le_mul HN.out.2.1 HN.out.2.2.2
    have h2 : 64 * 1 ≤ N * n := Nat.mul_le_mul HN.out.1 HN.out.2.2.1
    omega
  have hPi : (N : Int) * (n : Int) = (P : Int) := by rw [hP, Int.natCast_mul]
  have HPP := Lib.hid (And.intro hP hPb)
  have HL3 := Lib.hid (And.intro hL3 (hL3.trans hl3))
  rw [← hL3] at HO3 hc3 ⊢
  have HC3 := Lib.hid (And.intro hc3 hm3)
  have hP1 : (P : Int) ≤ 76800 := by omega
  have hP2 : (64 : Int) ≤ (P : Int) := by omega
  clear hP hL3 hl3 hc3 hm3 hPb
  go_upto_region 7 with (at_builtin; refine wp_appZ rfl _ _ rfl w1.heap.size g3 L3 cap3 (xs ++ ys) rfl HO3.out HL3.out.1 P (P : Int) rfl rfl (by have := HPP.out.2; omega) (by have h1 := HPP.out.2; have h2 := HL3.out.2; have h3 := HN.out.2.1; omega) HB3.out.size ?_; intro v4 w4 h4 b4; have HO4 := Lib.hid h4; have HB4 := Lib.hid (HB3.out.trans b4); clear h4 b4)
  have hl4 : (xs ++ ys ++ List.replicate P 0#8).length = L3 + P := by rw [List.length_append, List.length_replicate, ← HL3.out.1]
  obtain ⟨g4, cap4, rfl, hc4, hm4⟩ := ow_at HO4.out (by rw [hl4]; have := HPP.out.2; omega)
  obtain ⟨L4, hL4⟩ : ∃ k, k = (xs ++ ys ++ List.replicate P 0#8).length := ⟨_, rfl⟩
  have hrd := HO4.out.rd.take P
  rw [show (xs ++ ys ++ List.replicate P 0#8).take P = ksB xs ys N n from by unfold ksB; rw [HPP.out.1]] at hrd
  have HRD := Lib.hid hrd
  rw [← hL4] at hc4 ⊢
  have hcp : (P : Int) ≤ (cap4 : Int) := by omega
  have HDO := Lib.hid (dof_ok w4 (some ⟨g4, 0, none⟩) (ksB xs ys N n) cap4 n N hrd (by have := HN.out; omega) (by have := HN.out; omega) (ksB_len xs ys N n))
  rw [ksB_len, show n * N = P from by rw [HPP.out.1, Nat.mul_comm], ← HDD.out] at HDO
  have HB04 := Lib.hid (HB1.out.trans (HB4.out.mono HB1.out.size))
  have HR4 := Lib.hid (show Rd b8 w4 w4.heap.size A xs ∧ Rd b8 w4 w4.heap.size A2 ys from ⟨(HR1.out.1.below HB4.out).more HB4.out.size, (HR1.out.2.below HB4.out).more HB4.out.size⟩)
  clear hl4 hL4 hc4 hm4 hrd HO4 HO3 HO2 HB2 HB3 HB4 HR1 HC3 HRD HW1
  go_wp2_with fail
  refine Calls.mono HDO.out ?_
  rintro e w5 ⟨g, rfl, d5, b5⟩
  have HS5 := Lib.hid (show SbW w w5 g A A2 xs ys D from ⟨d5.down HB04.out.size, (HR4.out.1.below b5).more b5.size, (HR4.out.2.below b5).more b5.size, HB04.out.trans (b5.mono HB04.out.size)⟩)
  clear d5 b5 HDO HR4 HB04 hcp
  have hoff : D.off = false := by rw [HDD.out]; rfl
  have hsec : D.secs = n := by rw [HDD.out]; rfl
  have hsiz : D.size = N := by rw [HDD.out]; rfl
  have hc0 : curL D 0 = xs := by rw [HDD.out]; exact ks_0 xs ys N n HL.out.1 HN.out.2.2.1
  by_cases hn1 : n = 1
  · have HBO := Lib.hid (both_one HS5.out.disk hoff (hsec.trans hn1) r0 (by rw [hc0]; exact HDEC.out.1))
    have HRO := Lib.hid (show ∀ W, SbW w W g A A2 xs ys D → Calls Try.prog 10 #[.pointer (some ⟨g, 0, none⟩)] W (RetP (.tuple #[.agg #[.int .u64 0, .int .i64 0, .int .i64 0, .int .i64 0, .int .i64 0, .int .i64 0, .int .u64 0], .int .i64 1]) W) from fun W h => by
      have := read_one h.disk hoff (hsec.trans hn1) r0 (by rw [hc0]; exact HDEC.out.1)
      rw [z0_cells] at this
      exact this)
    have q9 : decide ((n : Int) < 2) = true := by simp; omega
    clear hn1 hoff hsec hsiz hc0
    obtain ⟨x0, hx0⟩ : ∃ x, x = z0 := ⟨_, rfl⟩
    obtain ⟨x1, hx1⟩ : ∃ x, x = z0 := ⟨_, rfl⟩
    rw [show c14 z0 z0 = c14 x0 x1 from by rw [hx0, hx1]] at HBO
    clear hx0 hx1
    go_wp2_with fail
    obtain ⟨cc, hcc⟩ : ∃ cc, cc = c14 x0 x1 := ⟨_, rfl⟩
    have HCC := Lib.hid hcc
    have HCO := Lib.hid (c14_one x0 x1)
    have HCS := Lib.hid (show (c14 x0 x1).size = 14 from rfl)
    rw [← hcc] at HBO HCO HCS
    refine Calls.mono HBO.out ?_
    rintro e w6 ⟨rfl, b6⟩
    have HS6 := Lib.hid (HS5.out.below b6)
    obtain ⟨Z14, hZ⟩ : ∃ z : Array Value, z = #[.int .u64 0, .int .i64 0, .int .i64 0, .int .i64 0, .int .i64 0, .int .i64 0, .int .u64 0, .int .u64 0, .int .i64 0, .int .i64 0, .int .i64 0, .int .i64 0, .int .i64 0, .int .u64 0] := ⟨_, rfl⟩
    have HZS := Lib.hid (show Z14.size = 14 from by rw [hZ]; rfl)
    obtain ⟨WA, hWA⟩ : ∃ W, W = (w6.alloc (.cells #[.int .u64 0, .int .i64 0, .int .i64 0, .int .i64 0, .int .i64 0, .int .i64 0, .int .u64 0, .int .u64 0, .int .i64 0, .int .i64 0, .int .i64 0, .int .i64 0, .int .i64 0, .int .u64 0] 33)).alloc (.cells #[.bool false, .bool false] 34) := ⟨_, rfl⟩
    have HBA := Lib.hid (show Below w6.heap.size w6 WA ∧ Bk WA w6.heap.size 33 Z14 ∧ Bk WA (w6.heap.size + 1) 34 #[.bool false, .bool false] from by
      rw [hWA, hZ]
      refine ⟨((Below.refl _ _).alloc (Nat.le_refl _) _).alloc (by simp) _, (Bk.new w6 _ _).alloc _, ?_⟩
      have := Bk.new (w6.alloc (.cells #[.int .u64 0, .int .i64 0, .int .i64 0, .int .i64 0, .int .i64 0, .int .i64 0, .int .u64 0, .int .u64 0, .int .i64 0, .int .i64 0, .int .i64 0, .int .i64 0, .int .i64 0, .int .u64 0] 33)) 34 #[.bool false, .bool false]
      simpa using this)
    have HWA := Lib.hid hWA
    clear b6 hcc hZ hWA HBO
    go_wp2_with (first
      | (refine wp_stR rfl 33 _ _ rfl w6.heap.size cc rfl rfl 33 Z14 (by have := HBA.out.2.1; rw [HWA.out] at this; exact this) (by rw [HCS.out]; kernel_rfl) (by rw [HCS.out, HZS.out]) HCO.out ?_; intro wB kB bB oB; have HBB := Lib.hid (show Below w6.heap.size w6 wB ∧ Bk wB w6.heap.size 33 cc ∧ Bk wB (w6.heap.size + 1) 34 #[.bool false, .bool false] from (by rw [← HWA.out] at bB oB; exact ⟨HBA.out.1.trans (bB _ (Nat.le_refl _)), kB, (oB _ (by omega)).trans HBA.out.2.2⟩)); clear kB bB oB)
      | (refine wp_stR rfl 34 _ _ rfl (w6.heap.size + 1) #[.bool false, .bool false] rfl rfl 34 #[.bool false, .bool false] HBB.out.2.2 (by kernel_rfl) rfl (r2_one _ _) ?_; intro w7 kC bC oC; have HCx := Lib.hid (show Below w6.heap.size w6 w7 ∧ Bk w7 w6.heap.size 33 (c14 x0 x1) ∧ Bk w7 (w6.heap.size + 1) 34 #[.bool false, .bool false] from (by rw [← HCC.out]; exact ⟨HBB.out.1.trans (bC _ (by omega)), (oC _ (by omega)).trans HBB.out.2.1, kC⟩)); clear kC bC oC))
    have HS7 := Lib.hid (HS6.out.below HCx.out.1)
    obtain ⟨G12, hG12⟩ : ∃ G, G = w6.heap.size := ⟨_, rfl⟩
    rw [← hG12] at HCx ⊢
    have H12 := Lib.hid HCx.out.2.1
    have H13 := Lib.hid HCx.out.2.2
    clear hG12 HBB HBA HWA HCO HCS HCC HS6 HCx HZS
    refine Calls.mono (HRO.out _ HS7.out) ?_
    rintro e w8 ⟨rfl, b8'⟩
    have HB8 := Lib.hid ((HS7.out.below b8').bel)
    have HB9 := Lib.hid (HB8.out.alloc HB8.out.size (.cells #[.int .u64 0, .int .i64 0, .int .i64 0, .int .i64 0, .int .i64 0, .int .i64 0, .int .u64 0] 32))
    clear b8'
    go_wp2_with fail
    go_ret
    exact ⟨rfl, HB9.out⟩
  · have hn2 : 2 ≤ n := by have := HN.out.2.2.1; omega
    have hc1 : curL D 1 = ys := by rw [HDD.out]; exact ks_1 xs ys N n HL.out.1 HL.out.2.1 hn2
    have hBo := both_c HS5.out.disk hoff (by rw [hsec]; exact hn2) r0 r1 (by rw [hc0]; exact HDEC.out.1) (by rw [hc1]; exact HDEC.out.2.1)
    have hRo : ∀ W, SbW w W g A A2 xs ys D → Calls Try.prog 10 #[.pointer (some ⟨g, 0, none⟩)] W (RetP (decO (pickS (inSlot D 0 r0) (inSlot D 1 r1))) W) := fun W h => read_c h.disk hoff (by rw [hsec]; exact hn2) r0 r1 (by rw [hc0]; exact HDEC.out.1) (by rw [hc1]; exact HDEC.out.2.1)
    have hr0 : ∀ W, SbW w W g A A2 xs ys D → Calls Try.prog 11 #[.slice A N c, .int .i64 0, .int .i64 N, .int .i64 n] W (RetP (rgtO (inSlot D 0 r0)) W) := fun W h => by
      have := right_c7 HDEC.out.2.2.1 D A c 0 W (by rw [HL.out.1]; exact HL.out.2.2.1) h.ra
      rw [HL.out.1, hsec, hsiz] at this
      exact this
    have hr1 : ∀ W, SbW w W g A A2 xs ys D → Calls Try.prog 11 #[.slice A2 N c2, .int .i64 1, .int .i64 N, .int .i64 n] W (RetP (rgtO (inSlot D 1 r1)) W) := fun W h => by
      have := right_c7 HDEC.out.2.2.2 D A2 c2 1 W (by rw [HL.out.2.1]; exact HL.out.2.2.2) h.rb
      rw [HL.out.2.1, hsec, hsiz] at this
      exact this
    have q9 : decide ((n : Int) < 2) = false := by simp; omega
    generalize inSlot D 0 r0 = o0 at hBo hRo hr0
    generalize inSlot D 1 r1 = o1 at hBo hRo hr1
    have HNN := Lib.hid hn2
    have HC5 := Lib.hid HS5.out.bel
    clear hn1 hn2 hoff hsec hsiz hc0 hc1
    cases o0 with
    | none =>
      cases o1 with
      | none =>
        obtain ⟨x0, hx0⟩ : ∃ x, x = z0 := ⟨_, rfl⟩
        have HX0 := Lib.hid hx0
        obtain ⟨x1, hx1⟩ : ∃ x, x = z0 := ⟨_, rfl⟩
        have HX1 := Lib.hid hx1
        have HBO := Lib.hid (show Calls Try.prog 9 #[.pointer (some ⟨g, 0, none⟩)] w5 (RetP (.tuple #[.agg (c14 x0 x1), .agg #[.bool false, .bool false], .int .i64 0]) w5) from by rw [hx0]; rw [hx1]; exact hBo)
        clear hx0
        clear hx1
        have HRO := Lib.hid (show ∀ W, SbW w W g A A2 xs ys D → Calls Try.prog 10 #[.pointer (some ⟨g, 0, none⟩)] W (RetP (.tuple #[.agg #[.int .u64 0, .int .i64 0, .int .i64 0, .int .i64 0, .int .i64 0, .int .i64 0, .int .u64 0], .int .i64 2]) W) from fun W h => by
          have := hRo W h
          skip
          unfold pickS decO at this; rw [z0_cells] at this
          exact this)
        have HR0 := Lib.hid (show ∀ W, SbW w W g A A2 xs ys D → Calls Try.prog 11 #[.slice A N c, .int .i64 0, .int .i64 N, .int .i64 n] W (RetP (.tuple #[.agg #[.int .u64 0, .int .i64 0, .int .i64 0, .int .i64 0, .int .i64 0, .int .i64 0, .int .u64 0], .bool false]) W) from fun W h => by
          have := hr0 W h
          unfold rgtO at this
          rw [z0_cells] at this
          exact this)
        have HR1 := Lib.hid (show ∀ W, SbW w W g A A2 xs ys D → Calls Try.prog 11 #[.slice A2 N c2, .int .i64 1, .int .i64 N, .int .i64 n] W (RetP (.tuple #[.agg #[.int .u64 0, .int .i64 0, .int .i64 0, .int .i64 0, .int .i64 0, .int .i64 0, .int .u64 0], .bool false]) W) from fun W h => by
          have := hr1 W h
          unfold rgtO at this
          rw [z0_cells] at this
          exact this)
        clear hBo hRo hr0 hr1
        go_wp2_with fail
        obtain ⟨cc, hcc⟩ : ∃ cc, cc = c14 x0 x1 := ⟨_, rfl⟩
        have HCC := Lib.hid hcc
        have HCO := Lib.hid (c14_one x0 x1)
        have HCS := Lib.hid (show (c14 x0 x1).size = 14 from rfl)
        rw [← hcc] at HBO HCO HCS
        refine Calls.mono HBO.out ?_
        rintro e w6 ⟨rfl, b6⟩
        have HS6 := Lib.hid (HS5.out.below b6)
        obtain ⟨Z14, hZ⟩ : ∃ z : Array Value, z = #[.int .u64 0, .int .i64 0, .int .i64 0, .int .i64 0, .int .i64 0, .int .i64 0, .int .u64 0, .int .u64 0, .int .i64 0, .int .i64 0, .int .i64 0, .int .i64 0, .int .i64 0, .int .u64 0] := ⟨_, rfl⟩
        have HZS := Lib.hid (show Z14.size = 14 from by rw [hZ]; rfl)
        obtain ⟨WA, hWA⟩ : ∃ W, W = (w6.alloc (.cells #[.int .u64 0, .int .i64 0, .int .i64 0, .int .i64 0, .int .i64 0, .int .i64 0, .int .u64 0, .int .u64 0, .int .i64 0, .int .i64 0, .int .i64 0, .int .i64 0, .int .i64 0, .int .u64 0] 33)).alloc (.cells #[.bool false, .bool false] 34) := ⟨_, rfl⟩
        have HBA := Lib.hid (show Below w6.heap.size w6 WA ∧ Bk WA w6.heap.size 33 Z14 ∧ Bk WA (w6.heap.size + 1) 34 #[.bool false, .bool false] from by
          rw [hWA, hZ]
          refine ⟨((Below.refl _ _).alloc (Nat.le_refl _) _).alloc (by simp) _, (Bk.new w6 _ _).alloc _, ?_⟩
          have := Bk.new (w6.alloc (.cells #[.int .u64 0, .int .i64 0, .int .i64 0, .int .i64 0, .int .i64 0, .int .i64 0, .int .u64 0, .int .u64 0, .int .i64 0, .int .i64 0, .int .i64 0, .int .i64 0, .int .i64 0, .int .u64 0] 33)) 34 #[.bool false, .bool false]
          simpa using this)
        have HWA := Lib.hid hWA
        clear b6 hcc hZ hWA HBO
        go_wp2_with (first
          | (refine wp_stR rfl 33 _ _ rfl w6.heap.size cc rfl rfl 33 Z14 (by have := HBA.out.2.1; rw [HWA.out] at this; exact this) (by rw [HCS.out]; kernel_rfl) (by rw [HCS.out, HZS.out]) HCO.out ?_; intro wB kB bB oB; have HBB := Lib.hid (show Below w6.heap.size w6 wB ∧ Bk wB w6.heap.size 33 cc ∧ Bk wB (w6.heap.size + 1) 34 #[.bool false, .bool false] from (by rw [← HWA.out] at bB oB; exact ⟨HBA.out.1.trans (bB _ (Nat.le_refl _)), kB, (oB _ (by omega)).trans HBA.out.2.2⟩)); clear kB bB oB)
          | (refine wp_stR rfl 34 _ _ rfl (w6.heap.size + 1) #[.bool false, .bool false] rfl rfl 34 #[.bool false, .bool false] HBB.out.2.2 (by kernel_rfl) rfl (r2_one _ _) ?_; intro w7 kC bC oC; have HCx := Lib.hid (show Below w6.heap.size w6 w7 ∧ Bk w7 w6.heap.size 33 (c14 x0 x1) ∧ Bk w7 (w6.heap.size + 1) 34 #[.bool false, .bool false] from (by rw [← HCC.out]; exact ⟨HBB.out.1.trans (bC _ (by omega)), (oC _ (by omega)).trans HBB.out.2.1, kC⟩)); clear kC bC oC))
        have HS7 := Lib.hid (HS6.out.below HCx.out.1)
        obtain ⟨G12, hG12⟩ : ∃ G, G = w6.heap.size := ⟨_, rfl⟩
        rw [← hG12] at HCx ⊢
        have H12 := Lib.hid HCx.out.2.1
        have H13 := Lib.hid HCx.out.2.2
        clear hG12 HBB HBA HWA HCO HCS HCC HS6 HCx HZS
        refine Calls.mono (HRO.out _ HS7.out) ?_
        rintro e w8 ⟨rfl, b8'⟩
        obtain ⟨G15, hG15⟩ : ∃ G, G = w8.heap.size := ⟨_, rfl⟩
        obtain ⟨W9, hW9⟩ : ∃ W, W = w8.alloc (.cells #[.int .u64 0, .int .i64 0, .int .i64 0, .int .i64 0, .int .i64 0, .int .i64 0, .int .u64 0] 32) := ⟨_, rfl⟩
        have b9' : Below w7.heap.size w7 W9 := by rw [hW9]; exact b8'.alloc b8'.size _
        have HS9 := Lib.hid (HS7.out.below b9')
        have H12a := Lib.hid (H12.out.below b9' H12.out.lt)
        have H13a := Lib.hid (H13.out.below b9' H13.out.lt)
        have H15a := Lib.hid (show Bk W9 G15 32 #[.int .u64 0, .int .i64 0, .int .i64 0, .int .i64 0, .int .i64 0, .int .i64 0, .int .u64 0] from by rw [hW9, hG15]; exact Bk.new w8 _ _)
        have HW9 := Lib.hid hW9
        have HG15 := Lib.hid hG15
        clear b8' b9' hG15 hW9 H12 H13 HS7 HRO
        go_wp2_with fail
        rw [← HW9.out, ← HG15.out]
        refine Calls.mono (HR0.out _ HS9.out) ?_
        rintro e w10 ⟨rfl, b10⟩
        obtain ⟨G17, hG17⟩ : ∃ G, G = w10.heap.size := ⟨_, rfl⟩
        obtain ⟨W11, hW11⟩ : ∃ W, W = w10.alloc (.cells #[.int .u64 0, .int .i64 0, .int .i64 0, .int .i64 0, .int .i64 0, .int .i64 0, .int .u64 0] 41) := ⟨_, rfl⟩
        have b11' : Below W9.heap.size W9 W11 := by rw [hW11]; exact b10.alloc b10.size _
        have HS11 := Lib.hid (HS9.out.below b11')
        have H12b := Lib.hid (H12a.out.below b11' H12a.out.lt)
        have H13b := Lib.hid (H13a.out.below b11' H13a.out.lt)
        have H15b := Lib.hid (H15a.out.below b11' H15a.out.lt)
        have H17b := Lib.hid (show Bk W11 G17 41 #[.int .u64 0, .int .i64 0, .int .i64 0, .int .i64 0, .int .i64 0, .int .i64 0, .int .u64 0] from by rw [hW11, hG17]; exact Bk.new w10 _ _)
        have HW11 := Lib.hid hW11
        have HG17 := Lib.hid hG17
        clear b10 b11' hG17 hW11 H12a H13a H15a HS9 HR0 HW9 HG15
        go_wp2_with fail
        rw [← HW11.out, ← HG17.out]
        refine Calls.mono (HR1.out _ HS11.out) ?_
        rintro e w12 ⟨rfl, b12⟩
        obtain ⟨G19, hG19⟩ : ∃ G, G = w12.heap.size := ⟨_, rfl⟩
        obtain ⟨W13, hW13⟩ : ∃ W, W = w12.alloc (.cells #[.int .u64 0, .int .i64 0, .int .i64 0, .int .i64 0, .int .i64 0, .int .i64 0, .int .u64 0] 41) := ⟨_, rfl⟩
        have b13' : Below W11.heap.size W11 W13 := by rw [hW13]; exact b12.alloc b12.size _
        have HS13 := Lib.hid (HS11.out.below b13')
        have H12 := Lib.hid (H12b.out.below b13' H12b.out.lt)
        have H13 := Lib.hid (H13b.out.below b13' H13b.out.lt)
        have H15 := Lib.hid (H15b.out.below b13' H15b.out.lt)
        have H17 := Lib.hid (H17b.out.below b13' H17b.out.lt)
        have H19 := Lib.hid (show Bk W13 G19 41 #[.int .u64 0, .int .i64 0, .int .i64 0, .int .i64 0, .int .i64 0, .int .i64 0, .int .u64 0] from by rw [hW13, hG19]; exact Bk.new w12 _ _)
        have HW13 := Lib.hid hW13
        have HG19 := Lib.hid hG19
        clear b12 b13' hG19 hW13 H12b H13b H15b H17b HS11 HR1 HW11 HG17
        go_wp2_with fail
        rw [← HW13.out, ← HG19.out]
        refine sb16_nn _ _ _ G12 (G12 + 1) G17 G19 x0 x1 H12 H13 (Lib.hid (by first | exact H17.out | (rw [HX0.out]; exact z0_cells ▸ H17.out))) (Lib.hid (by first | exact H19.out | (rw [HX1.out]; exact z0_cells ▸ H19.out))) ?_ ?_ ?_ ?_ ?_ ?_
        iterate 5 (· rfl)
        intro vals w14 hG h137
        unfold IsV at h137
        simp only [putD, Act.put, List.setIfInBounds_toArray, List.set_cons_zero, List.set_cons_succ, h137]
        have HS14 := Lib.hid (HS13.out.below hG)
        have H15c := Lib.hid (H15.out.below hG H15.out.lt)
        have H17c := Lib.hid (H17.out.below hG H17.out.lt)
        have H19c := Lib.hid (H19.out.below hG H19.out.lt)
        have e17 := H17c.out.cell 0
        have e19 := H19c.out.cell 0
        clear h137 hG H12 H13 H15 H17 H19 HS13 HW13 HG19
        go_wp2_with fail
        go_ret
        exact ⟨rfl, HS14.out.bel⟩
      | some x1 =>
        obtain ⟨x0, hx0⟩ : ∃ x, x = z0 := ⟨_, rfl⟩
        have HX0 := Lib.hid hx0
        have HX1 := Lib.hid (show x1 = x1 from rfl)
        have HBO := Lib.hid (show Calls Try.prog 9 #[.pointer (some ⟨g, 0, none⟩)] w5 (RetP (.tuple #[.agg (c14 x0 x1), .agg #[.bool false, .bool true], .int .i64 0]) w5) from by rw [hx0]; exact hBo)
        clear hx0
        have HRO := Lib.hid (show ∀ W, SbW w W g A A2 xs ys D → Calls Try.prog 10 #[.pointer (some ⟨g, 0, none⟩)] W (RetP (.tuple #[.agg #[.int .u64 (U64 x1.ep), .int .i64 x1.s, .int .i64 x1.l, .int .i64 x1.n, .int .i64 x1.sp, .int .i64 x1.wd, .int .u64 (U64 x1.lg)], .int .i64 0]) W) from fun W h => by
          have := hRo W h
          skip
          skip
          exact this)
        have HR0 := Lib.hid (show ∀ W, SbW w W g A A2 xs ys D → Calls Try.prog 11 #[.slice A N c, .int .i64 0, .int .i64 N, .int .i64 n] W (RetP (.tuple #[.agg #[.int .u64 0, .int .i64 0, .int .i64 0, .int .i64 0, .int .i64 0, .int .i64 0, .int .u64 0], .bool false]) W) from fun W h => by
          have := hr0 W h
          unfold rgtO at this
          rw [z0_cells] at this
          exact this)
        have HR1 := Lib.hid (show ∀ W, SbW w W g A A2 xs ys D → Calls Try.prog 11 #[.slice A2 N c2, .int .i64 1, .int .i64 N, .int .i64 n] W (RetP (.tuple #[.agg #[.int .u64 (U64 x1.ep), .int .i64 x1.s, .int .i64 x1.l, .int .i64 x1.n, .int .i64 x1.sp, .int .i64 x1.wd, .int .u64 (U64 x1.lg)], .bool true]) W) from fun W h => by
          have := hr1 W h
          unfold rgtO at this
          skip
          exact this)
        clear hBo hRo hr0 hr1
        go_wp2_with fail
        obtain ⟨cc, hcc⟩ : ∃ cc, cc = c14 x0 x1 := ⟨_, rfl⟩
        have HCC := Lib.hid hcc
        have HCO := Lib.hid (c14_one x0 x1)
        have HCS := Lib.hid (show (c14 x0 x1).size = 14 from rfl)
        rw [← hcc] at HBO HCO HCS
        refine Calls.mono HBO.out ?_
        rintro e w6 ⟨rfl, b6⟩
        have HS6 := Lib.hid (HS5.out.below b6)
        obtain ⟨Z14, hZ⟩ : ∃ z : Array Value, z = #[.int .u64 0, .int .i64 0, .int .i64 0, .int .i64 0, .int .i64 0, .int .i64 0, .int .u64 0, .int .u64 0, .int .i64 0, .int .i64 0, .int .i64 0, .int .i64 0, .int .i64 0, .int .u64 0] := ⟨_, rfl⟩
        have HZS := Lib.hid (show Z14.size = 14 from by rw [hZ]; rfl)
        obtain ⟨WA, hWA⟩ : ∃ W, W = (w6.alloc (.cells #[.int .u64 0, .int .i64 0, .int .i64 0, .int .i64 0, .int .i64 0, .int .i64 0, .int .u64 0, .int .u64 0, .int .i64 0, .int .i64 0, .int .i64 0, .int .i64 0, .int .i64 0, .int .u64 0] 33)).alloc (.cells #[.bool false, .bool false] 34) := ⟨_, rfl⟩
        have HBA := Lib.hid (show Below w6.heap.size w6 WA ∧ Bk WA w6.heap.size 33 Z14 ∧ Bk WA (w6.heap.size + 1) 34 #[.bool false, .bool false] from by
          rw [hWA, hZ]
          refine ⟨((Below.refl _ _).alloc (Nat.le_refl _) _).alloc (by simp) _, (Bk.new w6 _ _).alloc _, ?_⟩
          have := Bk.new (w6.alloc (.cells #[.int .u64 0, .int .i64 0, .int .i64 0, .int .i64 0, .int .i64 0, .int .i64 0, .int .u64 0, .int .u64 0, .int .i64 0, .int .i64 0, .int .i64 0, .int .i64 0, .int .i64 0, .int .u64 0] 33)) 34 #[.bool false, .bool false]
          simpa using this)
        have HWA := Lib.hid hWA
        clear b6 hcc hZ hWA HBO
        go_wp2_with (first
          | (refine wp_stR rfl 33 _ _ rfl w6.heap.size cc rfl rfl 33 Z14 (by have := HBA.out.2.1; rw [HWA.out] at this; exact this) (by rw [HCS.out]; kernel_rfl) (by rw [HCS.out, HZS.out]) HCO.out ?_; intro wB kB bB oB; have HBB := Lib.hid (show Below w6.heap.size w6 wB ∧ Bk wB w6.heap.size 33 cc ∧ Bk wB (w6.heap.size + 1) 34 #[.bool false, .bool false] from (by rw [← HWA.out] at bB oB; exact ⟨HBA.out.1.trans (bB _ (Nat.le_refl _)), kB, (oB _ (by omega)).trans HBA.out.2.2⟩)); clear kB bB oB)
          | (refine wp_stR rfl 34 _ _ rfl (w6.heap.size + 1) #[.bool false, .bool true] rfl rfl 34 #[.bool false, .bool false] HBB.out.2.2 (by kernel_rfl) rfl (r2_one _ _) ?_; intro w7 kC bC oC; have HCx := Lib.hid (show Below w6.heap.size w6 w7 ∧ Bk w7 w6.heap.size 33 (c14 x0 x1) ∧ Bk w7 (w6.heap.size + 1) 34 #[.bool false, .bool true] from (by rw [← HCC.out]; exact ⟨HBB.out.1.trans (bC _ (by omega)), (oC _ (by omega)).trans HBB.out.2.1, kC⟩)); clear kC bC oC))
        have HS7 := Lib.hid (HS6.out.below HCx.out.1)
        obtain ⟨G12, hG12⟩ : ∃ G, G = w6.heap.size := ⟨_, rfl⟩
        rw [← hG12] at HCx ⊢
        have H12 := Lib.hid HCx.out.2.1
        have H13 := Lib.hid HCx.out.2.2
        clear hG12 HBB HBA HWA HCO HCS HCC HS6 HCx HZS
        refine Calls.mono (HRO.out _ HS7.out) ?_
        rintro e w8 ⟨rfl, b8'⟩
        obtain ⟨G15, hG15⟩ : ∃ G, G = w8.heap.size := ⟨_, rfl⟩
        obtain ⟨W9, hW9⟩ : ∃ W, W = w8.alloc (.cells #[.int .u64 (U64 x1.ep), .int .i64 x1.s, .int .i64 x1.l, .int .i64 x1.n, .int .i64 x1.sp, .int .i64 x1.wd, .int .u64 (U64 x1.lg)] 32) := ⟨_, rfl⟩
        have b9' : Below w7.heap.size w7 W9 := by rw [hW9]; exact b8'.alloc b8'.size _
        have HS9 := Lib.hid (HS7.out.below b9')
        have H12a := Lib.hid (H12.out.below b9' H12.out.lt)
        have H13a := Lib.hid (H13.out.below b9' H13.out.lt)
        have H15a := Lib.hid (show Bk W9 G15 32 #[.int .u64 (U64 x1.ep), .int .i64 x1.s, .int .i64 x1.l, .int .i64 x1.n, .int .i64 x1.sp, .int .i64 x1.wd, .int .u64 (U64 x1.lg)] from by rw [hW9, hG15]; exact Bk.new w8 _ _)
        have HW9 := Lib.hid hW9
        have HG15 := Lib.hid hG15
        clear b8' b9' hG15 hW9 H12 H13 HS7 HRO
        go_wp2_with fail
        rw [← HW9.out, ← HG15.out]
        refine Calls.mono (HR0.out _ HS9.out) ?_
        rintro e w10 ⟨rfl, b10⟩
        obtain ⟨G17, hG17⟩ : ∃ G, G = w10.heap.size := ⟨_, rfl⟩
        obtain ⟨W11, hW11⟩ : ∃ W, W = w10.alloc (.cells #[.int .u64 0, .int .i64 0, .int .i64 0, .int .i64 0, .int .i64 0, .int .i64 0, .int .u64 0] 41) := ⟨_, rfl⟩
        have b11' : Below W9.heap.size W9 W11 := by rw [hW11]; exact b10.alloc b10.size _
        have HS11 := Lib.hid (HS9.out.below b11')
        have H12b := Lib.hid (H12a.out.below b11' H12a.out.lt)
        have H13b := Lib.hid (H13a.out.below b11' H13a.out.lt)
        have H15b := Lib.hid (H15a.out.below b11' H15a.out.lt)
        have H17b := Lib.hid (show Bk W11 G17 41 #[.int .u64 0, .int .i64 0, .int .i64 0, .int .i64 0, .int .i64 0, .int .i64 0, .int .u64 0] from by rw [hW11, hG17]; exact Bk.new w10 _ _)
        have HW11 := Lib.hid hW11
        have HG17 := Lib.hid hG17
        clear b10 b11' hG17 hW11 H12a H13a H15a HS9 HR0 HW9 HG15
        go_wp2_with fail
        rw [← HW11.out, ← HG17.out]
        refine Calls.mono (HR1.out _ HS11.out) ?_
        rintro e w12 ⟨rfl, b12⟩
        obtain ⟨G19, hG19⟩ : ∃ G, G = w12.heap.size := ⟨_, rfl⟩
        obtain ⟨W13, hW13⟩ : ∃ W, W = w12.alloc (.cells #[.int .u64 (U64 x1.ep), .int .i64 x1.s, .int .i64 x1.l, .int .i64 x1.n, .int .i64 x1.sp, .int .i64 x1.wd, .int .u64 (U64 x1.lg)] 41) := ⟨_, rfl⟩
        have b13' : Below W11.heap.size W11 W13 := by rw [hW13]; exact b12.alloc b12.size _
        have HS13 := Lib.hid (HS11.out.below b13')
        have H12 := Lib.hid (H12b.out.below b13' H12b.out.lt)
        have H13 := Lib.hid (H13b.out.below b13' H13b.out.lt)
        have H15 := Lib.hid (H15b.out.below b13' H15b.out.lt)
        have H17 := Lib.hid (H17b.out.below b13' H17b.out.lt)
        have H19 := Lib.hid (show Bk W13 G19 41 #[.int .u64 (U64 x1.ep), .int .i64 x1.s, .int .i64 x1.l, .int .i64 x1.n, .int .i64 x1.sp, .int .i64 x1.wd, .int .u64 (U64 x1.lg)] from by rw [hW13, hG19]; exact Bk.new w12 _ _)
        have HW13 := Lib.hid hW13
        have HG19 := Lib.hid hG19
        clear b12 b13' hG19 hW13 H12b H13b H15b H17b HS11 HR1 HW11 HG17
        go_wp2_with fail
        rw [← HW13.out, ← HG19.out]
        refine sb16_ny _ _ _ G12 (G12 + 1) G17 G19 x0 x1 H12 H13 (Lib.hid (by first | exact H17.out | (rw [HX0.out]; exact z0_cells ▸ H17.out))) (Lib.hid (by first | exact H19.out | (rw [HX1.out]; exact z0_cells ▸ H19.out))) ?_ ?_ ?_ ?_ ?_ ?_ ?_ ?_
        iterate 7 (· rfl)
        intro vals w14 hG h137
        unfold IsV at h137
        simp only [putD, Act.put, List.setIfInBounds_toArray, List.set_cons_zero, List.set_cons_succ, h137]
        have HS14 := Lib.hid (HS13.out.below hG)
        have H15c := Lib.hid (H15.out.below hG H15.out.lt)
        have H17c := Lib.hid (H17.out.below hG H17.out.lt)
        have H19c := Lib.hid (H19.out.below hG H19.out.lt)
        have e17 := H17c.out.cell 0
        have e19 := H19c.out.cell 0
        clear h137 hG H12 H13 H15 H17 H19 HS13 HW13 HG19
        go_wp2_with fail
        refine sb21 _ _ _ G15 G19 x1 H15c H19c ?_ ?_ ?_ ?_ ?_
        iterate 4 (· rfl)
        intro vals w15 hG h8
        unfold IsV at h8
        simp only [putD, Act.put, List.setIfInBounds_toArray, List.set_cons_zero, List.set_cons_succ, h8]
        have HS15 := Lib.hid (HS14.out.below hG)
        clear h8 hG e17 e19
        go_wp2_with fail
        go_ret
        exact ⟨rfl, HS15.out.bel⟩
    | some x0 =>
      cases o1 with
      | none =>
        have HX0 := Lib.hid (show x0 = x0 from rfl)
        obtain ⟨x1, hx1⟩ : ∃ x, x = z0 := ⟨_, rfl⟩
        have HX1 := Lib.hid hx1
        have HBO := Lib.hid (show Calls Try.prog 9 #[.pointer (some ⟨g, 0, none⟩)] w5 (RetP (.tuple #[.agg (c14 x0 x1), .agg #[.bool true, .bool false], .int .i64 0]) w5) from by rw [hx1]; exact hBo)
        clear hx1
        have HRO := Lib.hid (show ∀ W, SbW w W g A A2 xs ys D → Calls Try.prog 10 #[.pointer (some ⟨g, 0, none⟩)] W (RetP (.tuple #[.agg #[.int .u64 (U64 x0.ep), .int .i64 x0.s, .int .i64 x0.l, .int .i64 x0.n, .int .i64 x0.sp, .int .i64 x0.wd, .int .u64 (U64 x0.lg)], .int .i64 0]) W) from fun W h => by
          have := hRo W h
          skip
          skip
          exact this)
        have HR0 := Lib.hid (show ∀ W, SbW w W g A A2 xs ys D → Calls Try.prog 11 #[.slice A N c, .int .i64 0, .int .i64 N, .int .i64 n] W (RetP (.tuple #[.agg #[.int .u64 (U64 x0.ep), .int .i64 x0.s, .int .i64 x0.l, .int .i64 x0.n, .int .i64 x0.sp, .int .i64 x0.wd, .int .u64 (U64 x0.lg)], .bool true]) W) from fun W h => by
          have := hr0 W h
          unfold rgtO at this
          skip
          exact this)
        have HR1 := Lib.hid (show ∀ W, SbW w W g A A2 xs ys D → Calls Try.prog 11 #[.slice A2 N c2, .int .i64 1, .int .i64 N, .int .i64 n] W (RetP (.tuple #[.agg #[.int .u64 0, .int .i64 0, .int .i64 0, .int .i64 0, .int .i64 0, .int .i64 0, .int .u64 0], .bool false]) W) from fun W h => by
          have := hr1 W h
          unfold rgtO at this
          rw [z0_cells] at this
          exact this)
        clear hBo hRo hr0 hr1
        go_wp2_with fail
        obtain ⟨cc, hcc⟩ : ∃ cc, cc = c14 x0 x1 := ⟨_, rfl⟩
        have HCC := Lib.hid hcc
        have HCO := Lib.hid (c14_one x0 x1)
        have HCS := Lib.hid (show (c14 x0 x1).size = 14 from rfl)
        rw [← hcc] at HBO HCO HCS
        refine Calls.mono HBO.out ?_
        rintro e w6 ⟨rfl, b6⟩
        have HS6 := Lib.hid (HS5.out.below b6)
        obtain ⟨Z14, hZ⟩ : ∃ z : Array Value, z = #[.int .u64 0, .int .i64 0, .int .i64 0, .int .i64 0, .int .i64 0, .int .i64 0, .int .u64 0, .int .u64 0, .int .i64 0, .int .i64 0, .int .i64 0, .int .i64 0, .int .i64 0, .int .u64 0] := ⟨_, rfl⟩
        have HZS := Lib.hid (show Z14.size = 14 from by rw [hZ]; rfl)
        obtain ⟨WA, hWA⟩ : ∃ W, W = (w6.alloc (.cells #[.int .u64 0, .int .i64 0, .int .i64 0, .int .i64 0, .int .i64 0, .int .i64 0, .int .u64 0, .int .u64 0, .int .i64 0, .int .i64 0, .int .i64 0, .int .i64 0, .int .i64 0, .int .u64 0] 33)).alloc (.cells #[.bool false, .bool false] 34) := ⟨_, rfl⟩
        have HBA := Lib.hid (show Below w6.heap.size w6 WA ∧ Bk WA w6.heap.size 33 Z14 ∧ Bk WA (w6.heap.size + 1) 34 #[.bool false, .bool false] from by
          rw [hWA, hZ]
          refine ⟨((Below.refl _ _).alloc (Nat.le_refl _) _).alloc (by simp) _, (Bk.new w6 _ _).alloc _, ?_⟩
          have := Bk.new (w6.alloc (.cells #[.int .u64 0, .int .i64 0, .int .i64 0, .int .i64 0, .int .i64 0, .int .i64 0, .int .u64 0, .int .u64 0, .int .i64 0, .int .i64 0, .int .i64 0, .int .i64 0, .int .i64 0, .int .u64 0] 33)) 34 #[.bool false, .bool false]
          simpa using this)
        have HWA := Lib.hid hWA
        clear b6 hcc hZ hWA HBO
        go_wp2_with (first
          | (refine wp_stR rfl 33 _ _ rfl w6.heap.size cc rfl rfl 33 Z14 (by have := HBA.out.2.1; rw [HWA.out] at this; exact this) (by rw [HCS.out]; kernel_rfl) (by rw [HCS.out, HZS.out]) HCO.out ?_; intro wB kB bB oB; have HBB := Lib.hid (show Below w6.heap.size w6 wB ∧ Bk wB w6.heap.size 33 cc ∧ Bk wB (w6.heap.size + 1) 34 #[.bool false, .bool false] from (by rw [← HWA.out] at bB oB; exact ⟨HBA.out.1.trans (bB _ (Nat.le_refl _)), kB, (oB _ (by omega)).trans HBA.out.2.2⟩)); clear kB bB oB)
          | (refine wp_stR rfl 34 _ _ rfl (w6.heap.size + 1) #[.bool true, .bool false] rfl rfl 34 #[.bool false, .bool false] HBB.out.2.2 (by kernel_rfl) rfl (r2_one _ _) ?_; intro w7 kC bC oC; have HCx := Lib.hid (show Below w6.heap.size w6 w7 ∧ Bk w7 w6.heap.size 33 (c14 x0 x1) ∧ Bk w7 (w6.heap.size + 1) 34 #[.bool true, .bool false] from (by rw [← HCC.out]; exact ⟨HBB.out.1.trans (bC _ (by omega)), (oC _ (by omega)).trans HBB.out.2.1, kC⟩)); clear kC bC oC))
        have HS7 := Lib.hid (HS6.out.below HCx.out.1)
        obtain ⟨G12, hG12⟩ : ∃ G, G = w6.heap.size := ⟨_, rfl⟩
        rw [← hG12] at HCx ⊢
        have H12 := Lib.hid HCx.out.2.1
        have H13 := Lib.hid HCx.out.2.2
        clear hG12 HBB HBA HWA HCO HCS HCC HS6 HCx HZS
        refine Calls.mono (HRO.out _ HS7.out) ?_
        rintro e w8 ⟨rfl, b8'⟩
        obtain ⟨G15, hG15⟩ : ∃ G, G = w8.heap.size := ⟨_, rfl⟩
        obtain ⟨W9, hW9⟩ : ∃ W, W = w8.alloc (.cells #[.int .u64 (U64 x0.ep), .int .i64 x0.s, .int .i64 x0.l, .int .i64 x0.n, .int .i64 x0.sp, .int .i64 x0.wd, .int .u64 (U64 x0.lg)] 32) := ⟨_, rfl⟩
        have b9' : Below w7.heap.size w7 W9 := by rw [hW9]; exact b8'.alloc b8'.size _
        have HS9 := Lib.hid (HS7.out.below b9')
        have H12a := Lib.hid (H12.out.below b9' H12.out.lt)
        have H13a := Lib.hid (H13.out.below b9' H13.out.lt)
        have H15a := Lib.hid (show Bk W9 G15 32 #[.int .u64 (U64 x0.ep), .int .i64 x0.s, .int .i64 x0.l, .int .i64 x0.n, .int .i64 x0.sp, .int .i64 x0.wd, .int .u64 (U64 x0.lg)] from by rw [hW9, hG15]; exact Bk.new w8 _ _)
        have HW9 := Lib.hid hW9
        have HG15 := Lib.hid hG15
        clear b8' b9' hG15 hW9 H12 H13 HS7 HRO
        go_wp2_with fail
        rw [← HW9.out, ← HG15.out]
        refine Calls.mono (HR0.out _ HS9.out) ?_
        rintro e w10 ⟨rfl, b10⟩
        obtain ⟨G17, hG17⟩ : ∃ G, G = w10.heap.size := ⟨_, rfl⟩
        obtain ⟨W11, hW11⟩ : ∃ W, W = w10.alloc (.cells #[.int .u64 (U64 x0.ep), .int .i64 x0.s, .int .i64 x0.l, .int .i64 x0.n, .int .i64 x0.sp, .int .i64 x0.wd, .int .u64 (U64 x0.lg)] 41) := ⟨_, rfl⟩
        have b11' : Below W9.heap.size W9 W11 := by rw [hW11]; exact b10.alloc b10.size _
        have HS11 := Lib.hid (HS9.out.below b11')
        have H12b := Lib.hid (H12a.out.below b11' H12a.out.lt)
        have H13b := Lib.hid (H13a.out.below b11' H13a.out.lt)
        have H15b := Lib.hid (H15a.out.below b11' H15a.out.lt)
        have H17b := Lib.hid (show Bk W11 G17 41 #[.int .u64 (U64 x0.ep), .int .i64 x0.s, .int .i64 x0.l, .int .i64 x0.n, .int .i64 x0.sp, .int .i64 x0.wd, .int .u64 (U64 x0.lg)] from by rw [hW11, hG17]; exact Bk.new w10 _ _)
        have HW11 := Lib.hid hW11
        have HG17 := Lib.hid hG17
        clear b10 b11' hG17 hW11 H12a H13a H15a HS9 HR0 HW9 HG15
        go_wp2_with fail
        rw [← HW11.out, ← HG17.out]
        refine Calls.mono (HR1.out _ HS11.out) ?_
        rintro e w12 ⟨rfl, b12⟩
        obtain ⟨G19, hG19⟩ : ∃ G, G = w12.heap.size := ⟨_, rfl⟩
        obtain ⟨W13, hW13⟩ : ∃ W, W = w12.alloc (.cells #[.int .u64 0, .int .i64 0, .int .i64 0, .int .i64 0, .int .i64 0, .int .i64 0, .int .u64 0] 41) := ⟨_, rfl⟩
        have b13' : Below W11.heap.size W11 W13 := by rw [hW13]; exact b12.alloc b12.size _
        have HS13 := Lib.hid (HS11.out.below b13')
        have H12 := Lib.hid (H12b.out.below b13' H12b.out.lt)
        have H13 := Lib.hid (H13b.out.below b13' H13b.out.lt)
        have H15 := Lib.hid (H15b.out.below b13' H15b.out.lt)
        have H17 := Lib.hid (H17b.out.below b13' H17b.out.lt)
        have H19 := Lib.hid (show Bk W13 G19 41 #[.int .u64 0, .int .i64 0, .int .i64 0, .int .i64 0, .int .i64 0, .int .i64 0, .int .u64 0] from by rw [hW13, hG19]; exact Bk.new w12 _ _)
        have HW13 := Lib.hid hW13
        have HG19 := Lib.hid hG19
        clear b12 b13' hG19 hW13 H12b H13b H15b H17b HS11 HR1 HW11 HG17
        go_wp2_with fail
        rw [← HW13.out, ← HG19.out]
        refine sb16_yn _ _ _ G12 (G12 + 1) G17 G19 x0 x1 H12 H13 (Lib.hid (by first | exact H17.out | (rw [HX0.out]; exact z0_cells ▸ H17.out))) (Lib.hid (by first | exact H19.out | (rw [HX1.out]; exact z0_cells ▸ H19.out))) ?_ ?_ ?_ ?_ ?_ ?_ ?_ ?_
        iterate 7 (· rfl)
        intro vals w14 hG h137
        unfold IsV at h137
        simp only [putD, Act.put, List.setIfInBounds_toArray, List.set_cons_zero, List.set_cons_succ, h137]
        have HS14 := Lib.hid (HS13.out.below hG)
        have H15c := Lib.hid (H15.out.below hG H15.out.lt)
        have H17c := Lib.hid (H17.out.below hG H17.out.lt)
        have H19c := Lib.hid (H19.out.below hG H19.out.lt)
        have e17 := H17c.out.cell 0
        have e19 := H19c.out.cell 0
        clear h137 hG H12 H13 H15 H17 H19 HS13 HW13 HG19
        go_wp2_with fail
        refine sb19 _ _ _ G15 G17 x0 H15c H17c ?_ ?_ ?_ ?_ ?_
        iterate 4 (· rfl)
        intro vals w15 hG h8
        unfold IsV at h8
        simp only [putD, Act.put, List.setIfInBounds_toArray, List.set_cons_zero, List.set_cons_succ, h8]
        have HS15 := Lib.hid (HS14.out.below hG)
        clear h8 hG e17 e19
        go_wp2_with fail
        go_ret
        exact ⟨rfl, HS15.out.bel⟩
      | some x1 =>
        by_cases hep : U64 x1.ep < U64 x0.ep
        · have q10 : decide (U64 x1.ep < U64 x0.ep) = true := decide_eq_true hep
          have HX0 := Lib.hid (show x0 = x0 from rfl)
          have HX1 := Lib.hid (show x1 = x1 from rfl)
          have HBO := Lib.hid (show Calls Try.prog 9 #[.pointer (some ⟨g, 0, none⟩)] w5 (RetP (.tuple #[.agg (c14 x0 x1), .agg #[.bool true, .bool true], .int .i64 0]) w5) from by exact hBo)
          have HRO := Lib.hid (show ∀ W, SbW w W g A A2 xs ys D → Calls Try.prog 10 #[.pointer (some ⟨g, 0, none⟩)] W (RetP (.tuple #[.agg #[.int .u64 (U64 x0.ep), .int .i64 x0.s, .int .i64 x0.l, .int .i64 x0.n, .int .i64 x0.sp, .int .i64 x0.wd, .int .u64 (U64 x0.lg)], .int .i64 0]) W) from fun W h => by
            have := hRo W h
            rw [show pickS (some x0) (some x1) = some x0 from by show (if U64 x1.ep < U64 x0.ep then some x0 else some x1) = _; rw [if_pos hep]] at this
            skip
            exact this)
          have HR0 := Lib.hid (show ∀ W, SbW w W g A A2 xs ys D → Calls Try.prog 11 #[.slice A N c, .int .i64 0, .int .i64 N, .int .i64 n] W (RetP (.tuple #[.agg #[.int .u64 (U64 x0.ep), .int .i64 x0.s, .int .i64 x0.l, .int .i64 x0.n, .int .i64 x0.sp, .int .i64 x0.wd, .int .u64 (U64 x0.lg)], .bool true]) W) from fun W h => by
            have := hr0 W h
            unfold rgtO at this
            skip
            exact this)
          have HR1 := Lib.hid (show ∀ W, SbW w W g A A2 xs ys D → Calls Try.prog 11 #[.slice A2 N c2, .int .i64 1, .int .i64 N, .int .i64 n] W (RetP (.tuple #[.agg #[.int .u64 (U64 x1.ep), .int .i64 x1.s, .int .i64 x1.l, .int .i64 x1.n, .int .i64 x1.sp, .int .i64 x1.wd, .int .u64 (U64 x1.lg)], .bool true]) W) from fun W h => by
            have := hr1 W h
            unfold rgtO at this
            skip
            exact this)
          clear hBo hRo hr0 hr1
          clear hep
          go_wp2_with fail
          obtain ⟨cc, hcc⟩ : ∃ cc, cc = c14 x0 x1 := ⟨_, rfl⟩
          have HCC := Lib.hid hcc
          have HCO := Lib.hid (c14_one x0 x1)
          have HCS := Lib.hid (show (c14 x0 x1).size = 14 from rfl)
          rw [← hcc] at HBO HCO HCS
          refine Calls.mono HBO.out ?_
          rintro e w6 ⟨rfl, b6⟩
          have HS6 := Lib.hid (HS5.out.below b6)
          obtain ⟨Z14, hZ⟩ : ∃ z : Array Value, z = #[.int .u64 0, .int .i64 0, .int .i64 0, .int .i64 0, .int .i64 0, .int .i64 0, .int .u64 0, .int .u64 0, .int .i64 0, .int .i64 0, .int .i64 0, .int .i64 0, .int .i64 0, .int .u64 0] := ⟨_, rfl⟩
          have HZS := Lib.hid (show Z14.size = 14 from by rw [hZ]; rfl)
          obtain ⟨WA, hWA⟩ : ∃ W, W = (w6.alloc (.cells #[.int .u64 0, .int .i64 0, .int .i64 0, .int .i64 0, .int .i64 0, .int .i64 0, .int .u64 0, .int .u64 0, .int .i64 0, .int .i64 0, .int .i64 0, .int .i64 0, .int .i64 0, .int .u64 0] 33)).alloc (.cells #[.bool false, .bool false] 34) := ⟨_, rfl⟩
          have HBA := Lib.hid (show Below w6.heap.size w6 WA ∧ Bk WA w6.heap.size 33 Z14 ∧ Bk WA (w6.heap.size + 1) 34 #[.bool false, .bool false] from by
            rw [hWA, hZ]
            refine ⟨((Below.refl _ _).alloc (Nat.le_refl _) _).alloc (by simp) _, (Bk.new w6 _ _).alloc _, ?_⟩
            have := Bk.new (w6.alloc (.cells #[.int .u64 0, .int .i64 0, .int .i64 0, .int .i64 0, .int .i64 0, .int .i64 0, .int .u64 0, .int .u64 0, .int .i64 0, .int .i64 0, .int .i64 0, .int .i64 0, .int .i64 0, .int .u64 0] 33)) 34 #[.bool false, .bool false]
            simpa using this)
          have HWA := Lib.hid hWA
          clear b6 hcc hZ hWA HBO
          go_wp2_with (first
            | (refine wp_stR rfl 33 _ _ rfl w6.heap.size cc rfl rfl 33 Z14 (by have := HBA.out.2.1; rw [HWA.out] at this; exact this) (by rw [HCS.out]; kernel_rfl) (by rw [HCS.out, HZS.out]) HCO.out ?_; intro wB kB bB oB; have HBB := Lib.hid (show Below w6.heap.size w6 wB ∧ Bk wB w6.heap.size 33 cc ∧ Bk wB (w6.heap.size + 1) 34 #[.bool false, .bool false] from (by rw [← HWA.out] at bB oB; exact ⟨HBA.out.1.trans (bB _ (Nat.le_refl _)), kB, (oB _ (by omega)).trans HBA.out.2.2⟩)); clear kB bB oB)
            | (refine wp_stR rfl 34 _ _ rfl (w6.heap.size + 1) #[.bool true, .bool true] rfl rfl 34 #[.bool false, .bool false] HBB.out.2.2 (by kernel_rfl) rfl (r2_one _ _) ?_; intro w7 kC bC oC; have HCx := Lib.hid (show Below w6.heap.size w6 w7 ∧ Bk w7 w6.heap.size 33 (c14 x0 x1) ∧ Bk w7 (w6.heap.size + 1) 34 #[.bool true, .bool true] from (by rw [← HCC.out]; exact ⟨HBB.out.1.trans (bC _ (by omega)), (oC _ (by omega)).trans HBB.out.2.1, kC⟩)); clear kC bC oC))
          have HS7 := Lib.hid (HS6.out.below HCx.out.1)
          obtain ⟨G12, hG12⟩ : ∃ G, G = w6.heap.size := ⟨_, rfl⟩
          rw [← hG12] at HCx ⊢
          have H12 := Lib.hid HCx.out.2.1
          have H13 := Lib.hid HCx.out.2.2
          clear hG12 HBB HBA HWA HCO HCS HCC HS6 HCx HZS
          refine Calls.mono (HRO.out _ HS7.out) ?_
          rintro e w8 ⟨rfl, b8'⟩
          obtain ⟨G15, hG15⟩ : ∃ G, G = w8.heap.size := ⟨_, rfl⟩
          obtain ⟨W9, hW9⟩ : ∃ W, W = w8.alloc (.cells #[.int .u64 (U64 x0.ep), .int .i64 x0.s, .int .i64 x0.l, .int .i64 x0.n, .int .i64 x0.sp, .int .i64 x0.wd, .int .u64 (U64 x0.lg)] 32) := ⟨_, rfl⟩
          have b9' : Below w7.heap.size w7 W9 := by rw [hW9]; exact b8'.alloc b8'.size _
          have HS9 := Lib.hid (HS7.out.below b9')
          have H12a := Lib.hid (H12.out.below b9' H12.out.lt)
          have H13a := Lib.hid (H13.out.below b9' H13.out.lt)
          have H15a := Lib.hid (show Bk W9 G15 32 #[.int .u64 (U64 x0.ep), .int .i64 x0.s, .int .i64 x0.l, .int .i64 x0.n, .int .i64 x0.sp, .int .i64 x0.wd, .int .u64 (U64 x0.lg)] from by rw [hW9, hG15]; exact Bk.new w8 _ _)
          have HW9 := Lib.hid hW9
          have HG15 := Lib.hid hG15
          clear b8' b9' hG15 hW9 H12 H13 HS7 HRO
          go_wp2_with fail
          rw [← HW9.out, ← HG15.out]
          refine Calls.mono (HR0.out _ HS9.out) ?_
          rintro e w10 ⟨rfl, b10⟩
          obtain ⟨G17, hG17⟩ : ∃ G, G = w10.heap.size := ⟨_, rfl⟩
          obtain ⟨W11, hW11⟩ : ∃ W, W = w10.alloc (.cells #[.int .u64 (U64 x0.ep), .int .i64 x0.s, .int .i64 x0.l, .int .i64 x0.n, .int .i64 x0.sp, .int .i64 x0.wd, .int .u64 (U64 x0.lg)] 41) := ⟨_, rfl⟩
          have b11' : Below W9.heap.size W9 W11 := by rw [hW11]; exact b10.alloc b10.size _
          have HS11 := Lib.hid (HS9.out.below b11')
          have H12b := Lib.hid (H12a.out.below b11' H12a.out.lt)
          have H13b := Lib.hid (H13a.out.below b11' H13a.out.lt)
          have H15b := Lib.hid (H15a.out.below b11' H15a.out.lt)
          have H17b := Lib.hid (show Bk W11 G17 41 #[.int .u64 (U64 x0.ep), .int .i64 x0.s, .int .i64 x0.l, .int .i64 x0.n, .int .i64 x0.sp, .int .i64 x0.wd, .int .u64 (U64 x0.lg)] from by rw [hW11, hG17]; exact Bk.new w10 _ _)
          have HW11 := Lib.hid hW11
          have HG17 := Lib.hid hG17
          clear b10 b11' hG17 hW11 H12a H13a H15a HS9 HR0 HW9 HG15
          go_wp2_with fail
          rw [← HW11.out, ← HG17.out]
          refine Calls.mono (HR1.out _ HS11.out) ?_
          rintro e w12 ⟨rfl, b12⟩
          obtain ⟨G19, hG19⟩ : ∃ G, G = w12.heap.size := ⟨_, rfl⟩
          obtain ⟨W13, hW13⟩ : ∃ W, W = w12.alloc (.cells #[.int .u64 (U64 x1.ep), .int .i64 x1.s, .int .i64 x1.l, .int .i64 x1.n, .int .i64 x1.sp, .int .i64 x1.wd, .int .u64 (U64 x1.lg)] 41) := ⟨_, rfl⟩
          have b13' : Below W11.heap.size W11 W13 := by rw [hW13]; exact b12.alloc b12.size _
          have HS13 := Lib.hid (HS11.out.below b13')
          have H12 := Lib.hid (H12b.out.below b13' H12b.out.lt)
          have H13 := Lib.hid (H13b.out.below b13' H13b.out.lt)
          have H15 := Lib.hid (H15b.out.below b13' H15b.out.lt)
          have H17 := Lib.hid (H17b.out.below b13' H17b.out.lt)
          have H19 := Lib.hid (show Bk W13 G19 41 #[.int .u64 (U64 x1.ep), .int .i64 x1.s, .int .i64 x1.l, .int .i64 x1.n, .int .i64 x1.sp, .int .i64 x1.wd, .int .u64 (U64 x1.lg)] from by rw [hW13, hG19]; exact Bk.new w12 _ _)
          have HW13 := Lib.hid hW13
          have HG19 := Lib.hid hG19
          clear b12 b13' hG19 hW13 H12b H13b H15b H17b HS11 HR1 HW11 HG17
          go_wp2_with fail
          rw [← HW13.out, ← HG19.out]
          refine sb16_yy _ _ _ G12 (G12 + 1) G17 G19 x0 x1 H12 H13 (Lib.hid (by first | exact H17.out | (rw [HX0.out]; exact z0_cells ▸ H17.out))) (Lib.hid (by first | exact H19.out | (rw [HX1.out]; exact z0_cells ▸ H19.out))) ?_ ?_ ?_ ?_ ?_ ?_ ?_ ?_ ?_
          iterate 8 (· rfl)
          intro vals w14 hG h137
          unfold IsV at h137
          simp only [putD, Act.put, List.setIfInBounds_toArray, List.set_cons_zero, List.set_cons_succ, h137]
          have HS14 := Lib.hid (HS13.out.below hG)
          have H15c := Lib.hid (H15.out.below hG H15.out.lt)
          have H17c := Lib.hid (H17.out.below hG H17.out.lt)
          have H19c := Lib.hid (H19.out.below hG H19.out.lt)
          have e17 := H17c.out.cell 0
          have e19 := H19c.out.cell 0
          clear h137 hG H12 H13 H15 H17 H19 HS13 HW13 HG19
          go_wp2_with fail
          refine sb19 _ _ _ G15 G17 x0 H15c H17c ?_ ?_ ?_ ?_ ?_
          iterate 4 (· rfl)
          intro vals w15 hG h8
          unfold IsV at h8
          simp only [putD, Act.put, List.setIfInBounds_toArray, List.set_cons_zero, List.set_cons_succ, h8]
          have HS15 := Lib.hid (HS14.out.below hG)
          clear h8 hG e17 e19
          go_wp2_with fail
          go_ret
          exact ⟨rfl, HS15.out.bel⟩
        · have q10 : decide (U64 x1.ep < U64 x0.ep) = false := decide_eq_false hep
          have HX0 := Lib.hid (show x0 = x0 from rfl)
          have HX1 := Lib.hid (show x1 = x1 from rfl)
          have HBO := Lib.hid (show Calls Try.prog 9 #[.pointer (some ⟨g, 0, none⟩)] w5 (RetP (.tuple #[.agg (c14 x0 x1), .agg #[.bool true, .bool true], .int .i64 0]) w5) from by exact hBo)
          have HRO := Lib.hid (show ∀ W, SbW w W g A A2 xs ys D → Calls Try.prog 10 #[.pointer (some ⟨g, 0, none⟩)] W (RetP (.tuple #[.agg #[.int .u64 (U64 x1.ep), .int .i64 x1.s, .int .i64 x1.l, .int .i64 x1.n, .int .i64 x1.sp, .int .i64 x1.wd, .int .u64 (U64 x1.lg)], .int .i64 0]) W) from fun W h => by
            have := hRo W h
            rw [show pickS (some x0) (some x1) = some x1 from by show (if U64 x1.ep < U64 x0.ep then some x0 else some x1) = _; rw [if_neg hep]] at this
            skip
            exact this)
          have HR0 := Lib.hid (show ∀ W, SbW w W g A A2 xs ys D → Calls Try.prog 11 #[.slice A N c, .int .i64 0, .int .i64 N, .int .i64 n] W (RetP (.tuple #[.agg #[.int .u64 (U64 x0.ep), .int .i64 x0.s, .int .i64 x0.l, .int .i64 x0.n, .int .i64 x0.sp, .int .i64 x0.wd, .int .u64 (U64 x0.lg)], .bool true]) W) from fun W h => by
            have := hr0 W h
            unfold rgtO at this
            skip
            exact this)
          have HR1 := Lib.hid (show ∀ W, SbW w W g A A2 xs ys D → Calls Try.prog 11 #[.slice A2 N c2, .int .i64 1, .int .i64 N, .int .i64 n] W (RetP (.tuple #[.agg #[.int .u64 (U64 x1.ep), .int .i64 x1.s, .int .i64 x1.l, .int .i64 x1.n, .int .i64 x1.sp, .int .i64 x1.wd, .int .u64 (U64 x1.lg)], .bool true]) W) from fun W h => by
            have := hr1 W h
            unfold rgtO at this
            skip
            exact this)
          clear hBo hRo hr0 hr1
          clear hep
          go_wp2_with fail
          obtain ⟨cc, hcc⟩ : ∃ cc, cc = c14 x0 x1 := ⟨_, rfl⟩
          have HCC := Lib.hid hcc
          have HCO := Lib.hid (c14_one x0 x1)
          have HCS := Lib.hid (show (c14 x0 x1).size = 14 from rfl)
          rw [← hcc] at HBO HCO HCS
          refine Calls.mono HBO.out ?_
          rintro e w6 ⟨rfl, b6⟩
          have HS6 := Lib.hid (HS5.out.below b6)
          obtain ⟨Z14, hZ⟩ : ∃ z : Array Value, z = #[.int .u64 0, .int .i64 0, .int .i64 0, .int .i64 0, .int .i64 0, .int .i64 0, .int .u64 0, .int .u64 0, .int .i64 0, .int .i64 0, .int .i64 0, .int .i64 0, .int .i64 0, .int .u64 0] := ⟨_, rfl⟩
          have HZS := Lib.hid (show Z14.size = 14 from by rw [hZ]; rfl)
          obtain ⟨WA, hWA⟩ : ∃ W, W = (w6.alloc (.cells #[.int .u64 0, .int .i64 0, .int .i64 0, .int .i64 0, .int .i64 0, .int .i64 0, .int .u64 0, .int .u64 0, .int .i64 0, .int .i64 0, .int .i64 0, .int .i64 0, .int .i64 0, .int .u64 0] 33)).alloc (.cells #[.bool false, .bool false] 34) := ⟨_, rfl⟩
          have HBA := Lib.hid (show Below w6.heap.size w6 WA ∧ Bk WA w6.heap.size 33 Z14 ∧ Bk WA (w6.heap.size + 1) 34 #[.bool false, .bool false] from by
            rw [hWA, hZ]
            refine ⟨((Below.refl _ _).alloc (Nat.le_refl _) _).alloc (by simp) _, (Bk.new w6 _ _).alloc _, ?_⟩
            have := Bk.new (w6.alloc (.cells #[.int .u64 0, .int .i64 0, .int .i64 0, .int .i64 0, .int .i64 0, .int .i64 0, .int .u64 0, .int .u64 0, .int .i64 0, .int .i64 0, .int .i64 0, .int .i64 0, .int .i64 0, .int .u64 0] 33)) 34 #[.bool false, .bool false]
            simpa using this)
          have HWA := Lib.hid hWA
          clear b6 hcc hZ hWA HBO
          go_wp2_with (first
            | (refine wp_stR rfl 33 _ _ rfl w6.heap.size cc rfl rfl 33 Z14 (by have := HBA.out.2.1; rw [HWA.out] at this; exact this) (by rw [HCS.out]; kernel_rfl) (by rw [HCS.out, HZS.out]) HCO.out ?_; intro wB kB bB oB; have HBB := Lib.hid (show Below w6.heap.size w6 wB ∧ Bk wB w6.heap.size 33 cc ∧ Bk wB (w6.heap.size + 1) 34 #[.bool false, .bool false] from (by rw [← HWA.out] at bB oB; exact ⟨HBA.out.1.trans (bB _ (Nat.le_refl _)), kB, (oB _ (by omega)).trans HBA.out.2.2⟩)); clear kB bB oB)
            | (refine wp_stR rfl 34 _ _ rfl (w6.heap.size + 1) #[.bool true, .bool true] rfl rfl 34 #[.bool false, .bool false] HBB.out.2.2 (by kernel_rfl) rfl (r2_one _ _) ?_; intro w7 kC bC oC; have HCx := Lib.hid (show Below w6.heap.size w6 w7 ∧ Bk w7 w6.heap.size 33 (c14 x0 x1) ∧ Bk w7 (w6.heap.size + 1) 34 #[.bool true, .bool true] from (by rw [← HCC.out]; exact ⟨HBB.out.1.trans (bC _ (by omega)), (oC _ (by omega)).trans HBB.out.2.1, kC⟩)); clear kC bC oC))
          have HS7 := Lib.hid (HS6.out.below HCx.out.1)
          obtain ⟨G12, hG12⟩ : ∃ G, G = w6.heap.size := ⟨_, rfl⟩
          rw [← hG12] at HCx ⊢
          have H12 := Lib.hid HCx.out.2.1
          have H13 := Lib.hid HCx.out.2.2
          clear hG12 HBB HBA HWA HCO HCS HCC HS6 HCx HZS
          refine Calls.mono (HRO.out _ HS7.out) ?_
          rintro e w8 ⟨rfl, b8'⟩
          obtain ⟨G15, hG15⟩ : ∃ G, G = w8.heap.size := ⟨_, rfl⟩
          obtain ⟨W9, hW9⟩ : ∃ W, W = w8.alloc (.cells #[.int .u64 (U64 x1.ep), .int .i64 x1.s, .int .i64 x1.l, .int .i64 x1.n, .int .i64 x1.sp, .int .i64 x1.wd, .int .u64 (U64 x1.lg)] 32) := ⟨_, rfl⟩
          have b9' : Below w7.heap.size w7 W9 := by rw [hW9]; exact b8'.alloc b8'.size _
          have HS9 := Lib.hid (HS7.out.below b9')
          have H12a := Lib.hid (H12.out.below b9' H12.out.lt)
          have H13a := Lib.hid (H13.out.below b9' H13.out.lt)
          have H15a := Lib.hid (show Bk W9 G15 32 #[.int .u64 (U64 x1.ep), .int .i64 x1.s, .int .i64 x1.l, .int .i64 x1.n, .int .i64 x1.sp, .int .i64 x1.wd, .int .u64 (U64 x1.lg)] from by rw [hW9, hG15]; exact Bk.new w8 _ _)
          have HW9 := Lib.hid hW9
          have HG15 := Lib.hid hG15
          clear b8' b9' hG15 hW9 H12 H13 HS7 HRO
          go_wp2_with fail
          rw [← HW9.out, ← HG15.out]
          refine Calls.mono (HR0.out _ HS9.out) ?_
          rintro e w10 ⟨rfl, b10⟩
          obtain ⟨G17, hG17⟩ : ∃ G, G = w10.heap.size := ⟨_, rfl⟩
          obtain ⟨W11, hW11⟩ : ∃ W, W = w10.alloc (.cells #[.int .u64 (U64 x0.ep), .int .i64 x0.s, .int .i64 x0.l, .int .i64 x0.n, .int .i64 x0.sp, .int .i64 x0.wd, .int .u64 (U64 x0.lg)] 41) := ⟨_, rfl⟩
          have b11' : Below W9.heap.size W9 W11 := by rw [hW11]; exact b10.alloc b10.size _
          have HS11 := Lib.hid (HS9.out.below b11')
          have H12b := Lib.hid (H12a.out.below b11' H12a.out.lt)
          have H13b := Lib.hid (H13a.out.below b11' H13a.out.lt)
          have H15b := Lib.hid (H15a.out.below b11' H15a.out.lt)
          have H17b := Lib.hid (show Bk W11 G17 41 #[.int .u64 (U64 x0.ep), .int .i64 x0.s, .int .i64 x0.l, .int .i64 x0.n, .int .i64 x0.sp, .int .i64 x0.wd, .int .u64 (U64 x0.lg)] from by rw [hW11, hG17]; exact Bk.new w10 _ _)
          have HW11 := Lib.hid hW11
          have HG17 := Lib.hid hG17
          clear b10 b11' hG17 hW11 H12a H13a H15a HS9 HR0 HW9 HG15
          go_wp2_with fail
          rw [← HW11.out, ← HG17.out]
          refine Calls.mono (HR1.out _ HS11.out) ?_
          rintro e w12 ⟨rfl, b12⟩
          obtain ⟨G19, hG19⟩ : ∃ G, G = w12.heap.size := ⟨_, rfl⟩
          obtain ⟨W13, hW13⟩ : ∃ W, W = w12.alloc (.cells #[.int .u64 (U64 x1.ep), .int .i64 x1.s, .int .i64 x1.l, .int .i64 x1.n, .int .i64 x1.sp, .int .i64 x1.wd, .int .u64 (U64 x1.lg)] 41) := ⟨_, rfl⟩
          have b13' : Below W11.heap.size W11 W13 := by rw [hW13]; exact b12.alloc b12.size _
          have HS13 := Lib.hid (HS11.out.below b13')
          have H12 := Lib.hid (H12b.out.below b13' H12b.out.lt)
          have H13 := Lib.hid (H13b.out.below b13' H13b.out.lt)
          have H15 := Lib.hid (H15b.out.below b13' H15b.out.lt)
          have H17 := Lib.hid (H17b.out.below b13' H17b.out.lt)
          have H19 := Lib.hid (show Bk W13 G19 41 #[.int .u64 (U64 x1.ep), .int .i64 x1.s, .int .i64 x1.l, .int .i64 x1.n, .int .i64 x1.sp, .int .i64 x1.wd, .int .u64 (U64 x1.lg)] from by rw [hW13, hG19]; exact Bk.new w12 _ _)
          have HW13 := Lib.hid hW13
          have HG19 := Lib.hid hG19
          clear b12 b13' hG19 hW13 H12b H13b H15b H17b HS11 HR1 HW11 HG17
          go_wp2_with fail
          rw [← HW13.out, ← HG19.out]
          refine sb16_yy _ _ _ G12 (G12 + 1) G17 G19 x0 x1 H12 H13 (Lib.hid (by first | exact H17.out | (rw [HX0.out]; exact z0_cells ▸ H17.out))) (Lib.hid (by first | exact H19.out | (rw [HX1.out]; exact z0_cells ▸ H19.out))) ?_ ?_ ?_ ?_ ?_ ?_ ?_ ?_ ?_
          iterate 8 (· rfl)
          intro vals w14 hG h137
          unfold IsV at h137
          simp only [putD, Act.put, List.setIfInBounds_toArray, List.set_cons_zero, List.set_cons_succ, h137]
          have HS14 := Lib.hid (HS13.out.below hG)
          have H15c := Lib.hid (H15.out.below hG H15.out.lt)
          have H17c := Lib.hid (H17.out.below hG H17.out.lt)
          have H19c := Lib.hid (H19.out.below hG H19.out.lt)
          have e17 := H17c.out.cell 0
          have e19 := H19c.out.cell 0
          clear h137 hG H12 H13 H15 H17 H19 HS13 HW13 HG19
          go_wp2_with fail
          refine sb21 _ _ _ G15 G19 x1 H15c H19c ?_ ?_ ?_ ?_ ?_
          iterate 4 (· rfl)
          intro vals w15 hG h8
          unfold IsV at h8
          simp only [putD, Act.put, List.setIfInBounds_toArray, List.set_cons_zero, List.set_cons_succ, h8]
          have HS15 := Lib.hid (HS14.out.below hG)
          clear h8 hG e17 e19
          go_wp2_with fail
          go_ret
          exact ⟨rfl, HS15.out.bel⟩
theorem sb_walk (w : World) (A : Option Addr) (xs : List (BitVec 8)) (c : Nat) (hc : xs.length ≤ c) (_m : c ≤ maxLen) (hr : Rd b8 w w.heap.size A xs) (A2 : Option Addr) (ys : List (BitVec 8)) (c2 : Nat) (hc2 : ys.length ≤ c2) (_m2 : c2 ≤ maxLen) (hr2 : Rd b8 w w.heap.size A2 ys) (s : Int) (_ws : (Lit.int .i64 s).wf = true) (n : Int) (_wn : (Lit.int .i64 n).wf = true) : Calls Try.prog 3 #[.slice A xs.length c, .slice A2 ys.length c2, .int .i64 s, .int .i64 n] w (TruP (.bool true) w) := by
  by_cases h : s < 64 ∨ 256 < s ∨ n < 1 ∨ 300 < n ∨ (xs.length : Int) ≠ s ∨ (ys.length : Int) ≠ s
  · exact sb_out w A xs.length c A2 ys.length c2 s n h
  · have hx : (xs.length : Int) = s := by omega
    have hy : (ys.length : Int) = s := by omega
    have hy2 : ys.length = xs.length := by omega
    obtain ⟨n', rfl⟩ : ∃ n' : Nat, n = n' := ⟨n.toNat, by omega⟩
    obtain ⟨r0, D0, _, R0⟩ := dec_gen xs (by omega) (by omega)
    obtain ⟨r1, D1, _, R1⟩ := dec_gen ys (by omega) (by omega)
    rw [hy2, ← hx]
    exact sb_in w A A2 xs ys xs.length c c2 n' rfl hy2 (by omega) (by omega) (by omega) (by omega) hc (by omega) hr hr2 _ rfl r0 r1 D0 D1 ⟨D0.1, R0⟩ ⟨D1.1, R1⟩
end Go.Proofs.Ytjcpbhjmmnpjnaa
namespace Go.Proofs.Ytjcpbhjmmnpjnaa.slotsBytes
open Go.ChangeShapes Go.WideShapes Go.ChangeAt Go.RowKit
open Go.ChangeMaps (open_string shut_string)
set_option linter.unusedVariables false
set_option maxRecDepth 100000 in
theorem lifted (os : Os) (started : os.Started) (H : Type) (enc : TypeId × Value → H) :
    ReturnsInHanded {} Try.checked os 3 .any (Rows.slotsBytesSpec.pre6 enc Try.prog Try.f3 Rows.slotsBytesRow.domain false) (Rows.slotsBytesSpec.post enc Try.prog Try.f3 false true false false) := by
  refine returnsInHanded_of_change (C := Try.checked) own started (by kernel_rfl) Try.func3
    (ChangeSpec.witness6 (enc := enc) (C := Try.checked) false ⟨#[], #[.slice none 0 0, .slice none 0 0, .int .i64 0, .int .i64 0], []⟩ 8 (by kernel_rfl) (by kernel_rfl) (by kernel_rfl) (by kernel_rfl)) ?_
  intro W base args ds gs before hval0 hW hcnd _
  have hval : ∀ (j : Nat) t v, Try.f3.params[j]? = some t → args[j]? = some v → Value.okWide Try.prog W .any base t v := hval0
  have hW' := hW
  obtain ⟨p, q, hA0, hV, rfl, hfz, hnd⟩ := hW
  have hA : DataW.TrodAll enc Try.prog W 0 (fun _ => true) true Try.f3.params.toList args.toList ds p := hA0
  rw [Try.params3] at hA hval
  obtain ⟨v0, vs0, d0, ds0, p0, q0, hargs, rfl, rfl, h0, r0⟩ := trodAll_cons hA
  obtain ⟨v1, vs1, d1, ds1, p1, q1, rfl, rfl, rfl, h1, r1⟩ := trodAll_cons r0
  obtain ⟨v2, vs2, d2, ds2, p2, q2, rfl, rfl, rfl, h2, r2⟩ := trodAll_cons r1
  obtain ⟨v3, vs3, d3, ds3, p3, q3, rfl, rfl, rfl, h3, r3⟩ := trodAll_cons r2
  obtain ⟨rfl, rfl, rfl⟩ := trodAll_nil r3
  obtain rfl : args = #[v0, v1, v2, v3] := by cases args; simp_all
  obtain ⟨rfl, rfl⟩ := trodVars_none hV
  have k0 := h0
  have lt0 : ∀ x ∈ p0, x.block < W.heap.size := by obtain ⟨m, hm⟩ := k0; exact DataW.trod_lt m _ _ _ hm
  obtain ⟨A0, a0, c0, e0v, g0, m0, w0⟩ := open_bytes Try.underlying22 Try.underlying5 (by kernel_rfl) (hval 0 22 v0 rfl rfl) h0; subst e0v
  have k1 := h1
  have lt1 : ∀ x ∈ p1, x.block < W.heap.size := by obtain ⟨m, hm⟩ := k1; exact DataW.trod_lt m _ _ _ hm
  obtain ⟨A1, a1, c1, e1v, g1, m1, w1⟩ := open_bytes Try.underlying22 Try.underlying5 (by kernel_rfl) (hval 1 22 v1 rfl rfl) h1; subst e1v
  have k2 := h2
  have lt2 : ∀ x ∈ p2, x.block < W.heap.size := by obtain ⟨m, hm⟩ := k2; exact DataW.trod_lt m _ _ _ hm
  obtain ⟨a2, e2v, _, _, w2⟩ := open_int Try.underlying3 (hval 2 3 v2 rfl rfl) h2; subst e2v
  have k3 := h3
  have lt3 : ∀ x ∈ p3, x.block < W.heap.size := by obtain ⟨m, hm⟩ := k3; exact DataW.trod_lt m _ _ _ hm
  obtain ⟨a3, e3v, _, _, w3⟩ := open_int Try.underlying3 (hval 3 3 v3 rfl rfl) h3; subst e3v
  clear hA0 hval0
  refine (sb_walk W A0 a0 c0 g0 m0 w0 A1 a1 c1 g1 m1 w1 a2 w2 a3 w3).mono fun e W' ⟨he, bel⟩ => ?_
  subst he
  exact ⟨_, rfl, _, _, _, [], _, [], hW', trodAll_mk1 (shut_bool Try.underlying4 _), (trodAll_cons_mk (Below.trod laidOut (by kernel_rfl) (of_decide_eq_true (by kernel_rfl)) k0 bel lt0) (trodAll_cons_mk (Below.trod laidOut (by kernel_rfl) (of_decide_eq_true (by kernel_rfl)) k1 bel lt1) (trodAll_cons_mk (Below.trod laidOut (by kernel_rfl) (of_decide_eq_true (by kernel_rfl)) k2 bel lt2) (trodAll_cons_mk (Below.trod laidOut (by kernel_rfl) (of_decide_eq_true (by kernel_rfl)) k3 bel lt3) trodAll_mk0)))), rfl, bel.frame _, fun h => by cases h⟩
theorem over : Rows.slotsBytesRow.holds Try.pinned (OpenSpec.ofChange Rows.slotsBytesSpec) :=
  OpenClaim.holds_of_wide 3 Try.f3 rfl rfl rfl rfl rfl rfl rfl ⟨rfl, rfl, rfl, rfl, rfl⟩ rfl rfl rfl rfl rfl (by kernel_rfl) Try.func3 (by kernel_rfl)
    (of_decide_eq_true (by kernel_rfl)) (by unfold Func.isWrapper; first | (rw [if_pos (by decide +kernel)]; kernel_rfl) | (rw [if_neg (by decide +kernel)]; exact ⟨rfl, rfl⟩))
    (fun os started H enc _ => lifted os started H enc)
theorem proved : Rows.SlotsBytesSaid := over
end Go.Proofs.Ytjcpbhjmmnpjnaa.slotsBytes
