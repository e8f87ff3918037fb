/- Texts joined: SlJ SupL ApZ SlK OpenR OpenB SlM. -/
import Derived.Test.YtjcpbhjmmnpjnaaZa10
import Derived.Lib.AppendZeros
import Derived.Lib.AppendZerosOnto
import Derived.Deep.Slices
import Derived.Deep.Fields
/- What slots.Both, slots.Read tell of a disk of one sector; what loamlaw7.right tells. Conditions: lengths. -/
namespace Go.Proofs.Ytjcpbhjmmnpjnaa
set_option linter.unusedVariables false
set_option linter.unusedSimpArgs false
open Go.RowKit Go.Maps
set_option maxRecDepth 100000
set_option maxHeartbeats 4000000
theorem xread_bad {B : Nat} {X : Nat → Prop} {w : World} {g : Nat} {d : DK} (h : DiskX B X w g d) (s : Int) (ho : d.off = false) (hs : (decide (0 ≤ s) && decide (s < (d.secs : Int))) = false) : Calls Try.prog 26 #[.pointer (some ⟨g, 0, none⟩), .int .i64 s] w (RetP (.tuple #[.slice none 0 0, .int .i64 1]) w) := by
  obtain ⟨x, h1, h2⟩ := h
  exact (dread_bad h1 s ho hs).mono fun _ _ h => ⟨h.1, by first | exact h.2 | (rw [h.2]; exact Below.refl _ _)⟩
theorem both_one {B : Nat} {X : Nat → Prop} {w : World} {g : Nat} {d : DK} (h : DiskX B X w g d) (ho : d.off = false) (h2 : d.secs = 1) (r0 : Option Sb) (D0 : DecOK (curL d 0) r0) :
    Calls Try.prog 9 #[.pointer (some ⟨g, 0, none⟩)] w (RetP (.tuple #[.agg (c14 z0 z0), .agg #[.bool false, .bool false], .int .i64 1]) w) := by
  obtain ⟨o0, ho0⟩ : ∃ o, o = inSlot d 0 r0 := ⟨_, rfl⟩
  have HO0 := Lib.hid ho0
  have HD := Lib.hid h
  have HRD := Lib.hid (show ∀ W, Below w.heap.size w W → (Calls Try.prog 26 #[.pointer (some ⟨g, 0, none⟩), .int .i64 0] W (NewQ (curL d 0) W)) ∧ (Calls Try.prog 26 #[.pointer (some ⟨g, 0, none⟩), .int .i64 1] W (RetP (.tuple #[.slice none 0 0, .int .i64 1]) W)) from fun W hb =>
    ⟨xread_ok (h.below hb) 0 ho (by omega), xread_bad (h.below hb) 1 ho (by rw [h2]; rfl)⟩)
  have HF := Lib.hid (show ∀ (b : Sb), b.good → ∀ W, Below w.heap.size w W → Calls Try.prog 28 #[.pointer (some ⟨g, 0, none⟩), .agg #[.int .i64 b.s, .int .i64 b.l, .int .i64 b.n]] W (RetP (.bool (fitB b d)) W) from fun b hg W hb => sfits_c (h.below hb) b.s b.l b.n (Sb.geo hg))
  have HSL := Lib.hid (show ∀ (b : Sb) W, Calls Try.prog 19 #[.int .u64 (U64 b.ep)] W fun e w' => e = .returned (.int .i64 (b.at_ : Int)) ∧ w' = W from fun b W => slot_c b.ep W)
  have HST := Lib.hid (BSt.start w)
  rw [z0_14] at HST
  have HD0 := Lib.hid D0
  clear h ho h2 D0 ho0
  go_enter Try.func9, Try.ntmps9
  go_wp2_with fail
  go_loopw [11] (fun i wr => ∃ k : Nat, k ≤ 1 ∧ i = .int .i64 k ∧ ((k = 0 ∧ BSt w wr z0 z0 false false) ∨ (k = 1 ∧ ∃ a b f0 f1, BSt w wr a b f0 f1))) (fun i _ => 2 - (Go.RowKit.intOf i).toNat)
  case atStart => exact ⟨0, by omega, rfl, .inl ⟨rfl, HST.out⟩⟩
  case round =>
    obtain ⟨k, hk, rfl, hs⟩ := hrel
    clear hk HST
    rcases hs with ⟨rfl, hs⟩ | ⟨rfl, a, b, f0, f1, hs⟩
    · have HS := Lib.hid (show BSt w wr z0 z0 false false from hs)
      clear hs
      go_wp2_with fail
      refine Calls.mono (HRD.out _ HS.out.bel).1 ?_
      rintro e w1 ⟨A, c, rfl, hc, how, b1⟩
      have HS1 := Lib.hid (HS.out.below b1)
      have HDC := Lib.hid (HD0.out.2 A c w1 hc how.rd)
      clear hc how b1 HS
      go_wp2_with fail
      cases hr : r0 with
      | none =>
        rw [hr] at HDC
        have HN := Lib.hid (slot_out HO0.out (.inl hr))
        clear hr
        unfold decO at HDC
        rw [z0_cells] at HDC
        refine Calls.mono HDC.out ?_
        rintro e w2 ⟨rfl, b2⟩
        have HS2 := Lib.hid (HS1.out.below b2)
        have HS3 := Lib.hid (HS2.out.below (Gw.alloc w2 (.cells #[.int .u64 0, .int .i64 0, .int .i64 0, .int .i64 0, .int .i64 0, .int .i64 0, .int .u64 0] 32)))
        clear b2 HS1 HDC
        go_wp2_with fail
        go_roundw
        case rel => exact ⟨1, by omega, rfl, .inr ⟨rfl, _, _, _, _, HS3.out⟩⟩
        case measure => (first | (simp [Go.RowKit.intOf]; done) | (simp [Go.RowKit.intOf]; omega))
      | some b =>
        rw [hr] at HDC
        have HG := Lib.hid (HD0.out.1 b hr)
        have HFb := Lib.hid (HF.out b HG.out)
        have HSb := Lib.hid (HSL.out b)
        unfold decO Sb.cells at HDC
        have HRB := Lib.hid hr
        have HSETT := Lib.hid (fun W (h : BSt w W z0 z0 false false) => h.set0 b)
        have HAT := Lib.hid (show b.at_ = b.at_ from rfl)
        have HNO := Lib.hid (show fitB b d = false ∨ b.at_ ≠ 0 → o0 = none from fun h => slot_out HO0.out (.inr ⟨b, HRB.out, h⟩))
        have HYES := Lib.hid (show fitB b d = true → b.at_ = 0 → o0 = some b from fun h1 h2 => slot_in HO0.out HRB.out h1 h2)
        obtain ⟨at_, hat⟩ : ∃ q, q = b.at_ := ⟨_, rfl⟩
        obtain ⟨ff, hff⟩ : ∃ q, q = fitB b d := ⟨_, rfl⟩
        rw [← hat] at HSb HNO HYES
        rw [← hff] at HFb HNO HYES
        clear hr hat hff HRB HG HAT
        obtain ⟨ep, s, l, n, sp, wd, lg⟩ := b
        simp only at HFb HSb HSETT HDC HNO HYES
        refine Calls.mono HDC.out ?_
        rintro e w2 ⟨rfl, b2⟩
        have HS2 := Lib.hid (HS1.out.below b2)
        obtain ⟨W3, hW3⟩ : ∃ X, X = w2.alloc (.cells #[.int .u64 (U64 ep), .int .i64 s, .int .i64 l, .int .i64 n, .int .i64 sp, .int .i64 wd, .int .u64 (U64 lg)] 32) := ⟨_, rfl⟩
        obtain ⟨G, hG⟩ : ∃ G, G = w2.heap.size := ⟨_, rfl⟩
        have HS3 := Lib.hid (show BSt w W3 z0 z0 false false from by rw [hW3]; exact HS2.out.below (Gw.alloc w2 _))
        have HK3 := Lib.hid (show Bk W3 G 32 #[.int .u64 (U64 ep), .int .i64 s, .int .i64 l, .int .i64 n, .int .i64 sp, .int .i64 wd, .int .u64 (U64 lg)] from by rw [hW3, hG]; exact Bk.new w2 _ _)
        clear b2 HS1 HDC HS2
        obtain ⟨c0, c1, c2, c3, c4, c5, c6⟩ := HK3.out.seven
        go_wp2_with fail
        rw [← hW3, ← hG]
        clear hW3 hG
        refine Calls.mono (HFb.out _ HS3.out.bel) ?_
        rintro e w4 ⟨rfl, b4⟩
        have HS4 := Lib.hid (HS3.out.below b4)
        have HK4 := Lib.hid (HK3.out.below b4 HK3.out.lt)
        clear b4 HS3 HK3 c0 c1 c2 c3 c4 c5 c6
        obtain ⟨c0, c1, c2, c3, c4, c5, c6⟩ := HK4.out.seven
        cases ff with
        | false =>
          have HN := Lib.hid (HNO.out (.inl rfl))
          go_wp2_with fail
          go_roundw
          case rel => exact ⟨1, by omega, rfl, .inr ⟨rfl, _, _, _, _, HS4.out⟩⟩
          case measure => (first | (simp [Go.RowKit.intOf]; done) | (simp [Go.RowKit.intOf]; omega))
        | true =>
          go_wp2_with fail
          refine Calls.mono (HSb.out _) ?_
          rintro e w' ⟨rfl, rfl⟩
          by_cases hat : at_ = 0
          · have HY := Lib.hid (show _ = some _ from by first | exact HYES.out trivial hat | exact HYES.out rfl hat)
            have qa : ((at_ : Int) == 0) = true := by rw [hat]; rfl
            have k5 := HS4.out.c5
            have k6 := HS4.out.c6
            have HSE := Lib.hid (HSETT.out _ HS4.out)
            have HL5 := Lib.hid k5.lt
            have HL6 := Lib.hid k6.lt
            unfold c14 at k5
            have x0 := k5.cell 0
            have y0 := k5.free 0
            have x1 := k5.cell 1
            have y1 := k5.free 1
            have x2 := k5.cell 2
            have y2 := k5.free 2
            have x3 := k5.cell 3
            have y3 := k5.free 3
            have x4 := k5.cell 4
            have y4 := k5.free 4
            have x5 := k5.cell 5
            have y5 := k5.free 5
            have x6 := k5.cell 6
            have y6 := k5.free 6
            have x20 := k6.cell 0
            have y20 := k6.free 0
            clear k5 k6 hat HNO HYES
            go_wp2_with fail
            go_roundw
            case rel => exact ⟨1, by omega, rfl, .inr ⟨rfl, _, _, _, _, HSE.out⟩⟩
            case measure => (first | (simp [Go.RowKit.intOf]; done) | (simp [Go.RowKit.intOf]; omega))
          · have HN := Lib.hid (HNO.out (.inr hat))
            have qa : ((at_ : Int) == 0) = false := by simp; omega
            clear hat HNO HYES
            go_wp2_with fail
            go_roundw
            case rel => exact ⟨1, by omega, rfl, .inr ⟨rfl, _, _, _, _, HS4.out⟩⟩
            case measure => (first | (simp [Go.RowKit.intOf]; done) | (simp [Go.RowKit.intOf]; omega))
    · have HS := Lib.hid hs
      clear hs
      go_wp2_with fail
      refine Calls.mono (HRD.out _ HS.out.bel).2 ?_
      rintro e w1 ⟨rfl, b1⟩
      have HS1 := Lib.hid (HS.out.below b1)
      have HO := Lib.hid (c14_one z0 z0)
      rw [z0_14] at HO
      clear b1 HS
      go_wp2_with (first
        | (refine wp_stR rfl 33 _ _ rfl w.heap.size #[.int .u64 0, .int .i64 0, .int .i64 0, .int .i64 0, .int .i64 0, .int .i64 0, .int .u64 0, .int .u64 0, .int .i64 0, .int .i64 0, .int .i64 0, .int .i64 0, .int .i64 0, .int .u64 0] rfl rfl 33 (c14 z0 z0) HS1.out.c2 (by kernel_rfl) rfl HO.out ?_; intro w2 k2 b2 o2; have HB2 := Lib.hid (show Bk w2 w.heap.size 33 #[.int .u64 0, .int .i64 0, .int .i64 0, .int .i64 0, .int .i64 0, .int .i64 0, .int .u64 0, .int .u64 0, .int .i64 0, .int .i64 0, .int .i64 0, .int .i64 0, .int .i64 0, .int .u64 0] ∧ Bk w2 (w.heap.size + 1) 34 #[.bool false, .bool false] ∧ Below w.heap.size w w2 from ⟨k2, (o2 _ (by omega)).trans HS1.out.c3, HS1.out.bel.trans (b2 _ (Nat.le_refl _))⟩); clear k2 b2 o2)
        | (refine wp_stR rfl 34 _ _ rfl (w.heap.size + 1) #[.bool false, .bool false] rfl rfl 34 #[.bool false, .bool false] HB2.out.2.1 (by kernel_rfl) rfl (r2_one _ _) ?_; intro w3 k3 b3 o3; have HB3 := Lib.hid (show Bk w3 w.heap.size 33 #[.int .u64 0, .int .i64 0, .int .i64 0, .int .i64 0, .int .i64 0, .int .i64 0, .int .u64 0, .int .u64 0, .int .i64 0, .int .i64 0, .int .i64 0, .int .i64 0, .int .i64 0, .int .u64 0] ∧ Bk w3 (w.heap.size + 1) 34 #[.bool false, .bool false] ∧ Below w.heap.size w w3 from ⟨(o3 _ (by omega)).trans HB2.out.1, k3, HB2.out.2.2.trans (b3 _ (by omega))⟩); clear k3 b3 o3))
      rw [z0_14]
      exact bodyPost_ret (v := .tuple #[.agg #[.int .u64 0, .int .i64 0, .int .i64 0, .int .i64 0, .int .i64 0, .int .i64 0, .int .u64 0, .int .u64 0, .int .i64 0, .int .i64 0, .int .i64 0, .int .i64 0, .int .i64 0, .int .u64 0], .agg #[.bool false, .bool false], .int .i64 1]) (both_res rfl HB3.out.1 rfl HB3.out.2.1 rfl rfl rfl) rfl ⟨rfl, HB3.out.2.2⟩
theorem read_e1 (g : Nat) (w : World) (a b : Sb) (h : ∀ W, Below w.heap.size w W → Calls Try.prog 9 #[.pointer (some ⟨g, 0, none⟩)] W (RetP (.tuple #[.agg (c14 a b), .agg #[.bool false, .bool false], .int .i64 1]) W)) :
    Calls Try.prog 10 #[.pointer (some ⟨g, 0, none⟩)] w (RetP (.tuple #[.agg z0.cells, .int .i64 1]) w) := by
  have H := Lib.hid h
  have HC := Lib.hid (c14_one a b)
  obtain ⟨cc, hcc⟩ : ∃ cc, cc = c14 a b := ⟨_, rfl⟩
  have HCC := Lib.hid hcc
  have HCS := Lib.hid (show cc.size = 14 from by rw [hcc]; rfl)
  rw [← hcc] at H HC
  have HBA := Lib.hid (Bk.new w 32 #[.int .u64 0, .int .i64 0, .int .i64 0, .int .i64 0, .int .i64 0, .int .i64 0, .int .u64 0])
  have HWA := Lib.hid (Gw.alloc w (.cells #[.int .u64 0, .int .i64 0, .int .i64 0, .int .i64 0, .int .i64 0, .int .i64 0, .int .u64 0] 32))
  clear h hcc
  have heq := eq2b
  go_enter Try.func10, Try.ntmps10
  go_wp2_with fail
  refine Calls.mono (H.out _ HWA.out) ?_
  rintro e w1 ⟨rfl, b1⟩
  have HB1 := Lib.hid (HWA.out.trans (b1.mono HWA.out.size))
  have HBA1 := Lib.hid (HBA.out.below b1 HBA.out.lt)
  obtain ⟨H0, hH0⟩ : ∃ k, k = w.heap.size := ⟨_, rfl⟩
  have HLT := Lib.hid (show H0 < w1.heap.size from by rw [hH0]; exact HBA1.out.lt)
  obtain ⟨Z14, hZ⟩ : ∃ z : Array Value, z = #[.int .u64 0, .int .i64 0, .int .i64 0, .int .i64 0, .int .i64 0, .int .i64 0, .int .u64 0, .int .u64 0, .int .i64 0, .int .i64 0, .int .i64 0, .int .i64 0, .int .i64 0, .int .u64 0] := ⟨_, rfl⟩
  have HZS := Lib.hid (show Z14.size = 14 from by rw [hZ]; rfl)
  obtain ⟨W2, hW2⟩ : ∃ W, W = (w1.alloc (.cells #[.int .u64 0, .int .i64 0, .int .i64 0, .int .i64 0, .int .i64 0, .int .i64 0, .int .u64 0, .int .u64 0, .int .i64 0, .int .i64 0, .int .i64 0, .int .i64 0, .int .i64 0, .int .u64 0] 33)).alloc (.cells #[.bool false, .bool false] 34) := ⟨_, rfl⟩
  have HB2 := Lib.hid (show Below w.heap.size w W2 ∧ Bk W2 H0 32 #[.int .u64 0, .int .i64 0, .int .i64 0, .int .i64 0, .int .i64 0, .int .i64 0, .int .u64 0] ∧ Bk W2 w1.heap.size 33 Z14 ∧ Bk W2 (w1.heap.size + 1) 34 #[.bool false, .bool false] from by
    rw [hW2, hH0, hZ]
    refine ⟨(HB1.out.alloc HB1.out.size _).alloc (by have := HB1.out.size; simp; omega) _, (HBA1.out.alloc _).alloc _, (Bk.new w1 _ _).alloc _, ?_⟩
    have := Bk.new (w1.alloc (.cells #[.int .u64 0, .int .i64 0, .int .i64 0, .int .i64 0, .int .i64 0, .int .i64 0, .int .u64 0, .int .u64 0, .int .i64 0, .int .i64 0, .int .i64 0, .int .i64 0, .int .i64 0, .int .u64 0] 33)) 34 #[.bool false, .bool false]
    simpa using this)
  have HW2 := Lib.hid hW2
  have HH0 := Lib.hid hH0
  clear b1 HBA HWA HBA1 hZ hW2 hH0
  go_wp2_with (first
    | (refine wp_stR rfl 33 _ _ rfl w1.heap.size cc rfl rfl 33 Z14 (by have := HB2.out.2.2.1; rw [HW2.out] at this; exact this) (by rw [HCS.out]; kernel_rfl) (by rw [HCS.out, HZS.out]) HC.out ?_; intro w3 k3 b3 o3; have HB3 := Lib.hid (show Below w.heap.size w w3 ∧ Bk w3 H0 32 #[.int .u64 0, .int .i64 0, .int .i64 0, .int .i64 0, .int .i64 0, .int .i64 0, .int .u64 0] ∧ Bk w3 w1.heap.size 33 cc ∧ Bk w3 (w1.heap.size + 1) 34 #[.bool false, .bool false] from (by rw [← HW2.out] at b3 o3; exact ⟨HB2.out.1.trans (b3 _ HB1.out.size), (o3 _ (by have := HLT.out; omega)).trans HB2.out.2.1, k3, (o3 _ (by omega)).trans HB2.out.2.2.2⟩)); clear k3 b3 o3)
    | (refine wp_stR rfl 34 _ _ rfl (w1.heap.size + 1) #[.bool false, .bool false] rfl rfl 34 #[.bool false, .bool false] HB3.out.2.2.2 (by kernel_rfl) rfl (r2_one _ _) ?_; intro w4 k4 b4 o4; have HB4 := Lib.hid (show Below w.heap.size w w4 ∧ Bk w4 H0 32 #[.int .u64 0, .int .i64 0, .int .i64 0, .int .i64 0, .int .i64 0, .int .i64 0, .int .u64 0] ∧ Bk w4 w1.heap.size 33 (c14 a b) from (by exact ⟨HB3.out.1.trans (b4 _ (by have := HB1.out.size; omega)), (o4 _ (by have := HLT.out; omega)).trans HB3.out.2.1, by rw [← HCC.out]; exact (o4 _ (by omega)).trans HB3.out.2.2.1⟩)); have r0 : w4.cell? ⟨w1.heap.size + 1, 0, none⟩ = some (.bool false) := k4.cell 0; have r1 : w4.cell? ⟨w1.heap.size + 1, 1, none⟩ = some (.bool false) := k4.cell 1; have HK4 := Lib.hid k4; obtain ⟨⟨x0, x1, x2, x3, x4, x5, x6⟩, x7, x8, x9, x10, x11, x12, x13⟩ := HB4.out.2.2.cut7; have HLT4 := Lib.hid HB4.out.2.2.lt; clear b4 o4 k4)
    | (refine wp_stR rfl 32 _ _ rfl H0 #[.int .u64 0, .int .i64 0, .int .i64 0, .int .i64 0, .int .i64 0, .int .i64 0, .int .u64 0] (by rw [HH0.out]; rfl) rfl 32 #[.int .u64 0, .int .i64 0, .int .i64 0, .int .i64 0, .int .i64 0, .int .i64 0, .int .u64 0] HB4.out.2.1 (by kernel_rfl) rfl (by simp [Value.oneCell']) ?_; intro w9 k9 b9 o9; have HB9 := Lib.hid (And.intro HB4.out.1 (And.intro (b9 H0 (Nat.le_refl _)) k9)); clear k9 b9 o9))
  refine bodyPost_ret (v := .tuple #[.agg z0.cells, .int .i64 1]) (read_res rfl HB9.out.2.2 (by rw [HH0.out]; rfl) rfl) rfl ⟨rfl, HB9.out.1.trans (HH0.out ▸ HB9.out.2.1)⟩
theorem read_one {B : Nat} {X : Nat → Prop} {w : World} {g : Nat} {d : DK} (h : DiskX B X w g d) (ho : d.off = false) (h2 : d.secs = 1) (r0 : Option Sb) (D0 : DecOK (curL d 0) r0) :
    Calls Try.prog 10 #[.pointer (some ⟨g, 0, none⟩)] w (RetP (.tuple #[.agg z0.cells, .int .i64 1]) w) :=
  read_e1 g w z0 z0 fun W hb => both_one (h.below hb) ho h2 r0 D0
/-- loamref6.Decode answers r of the bytes E. -/
def RecOK (E : List (BitVec 8)) (r : Option Sb) : Prop := (∀ b, r = some b → b.good) ∧ ∀ A c W, E.length ≤ c → Rd b8 W W.heap.size A E → Calls Try.prog 30 #[.slice A E.length c] W (RetP (decO r) W)
theorem right_res {tmps : Array Value} {W : World} {g : Nat} {E : TypeId} {cs : Array Value} {y : Value} (hs : cs.size = 7) (hb : Bk W g E cs) (h2 : tmps.getD 8 undef = .pointer (some ⟨g, 0, none⟩)) (h3 : tmps.getD 9 undef = y) :
    (results Try.f11 tmps).run Try.prog W = .ok (.tuple #[.agg cs, y]) W := by
  have hl := run_loadVar_row (P := Try.prog) W g E 41 cs (0, 0) _ hb Try.underlying41 rfl (by rw [hs]; kernel_rfl)
  have h2' : tmps[8]?.getD undef = .pointer (some ⟨g, 0, none⟩) := by simpa using h2
  have h3' : tmps[9]?.getD undef = y := by simpa using h3
  simp [results, Try.results11, h2', h3', asAddr, hl]
def rgtO : Option Sb → Value
  | some b => .tuple #[.agg b.cells, .bool true]
  | none => .tuple #[.agg z0.cells, .bool false]
theorem at_mod (b : Sb) : (b.at_ : Int) = U64 b.ep % 2 := by
  unfold Sb.at_ U64
  rw [BitVec.toNat_and]
  show ((b.ep.toNat &&& 1 : Nat) : Int) = _
  rw [Nat.and_one_is_mod]; omega
theorem right_n (i sz n : Int)  (E : List (BitVec 8)) (A : Option Addr) (c : Nat) (w : World) (hc : E.length ≤ c) (hr : Rd b8 w w.heap.size A E) (hR : ∀ A c W, E.length ≤ c → Rd b8 W W.heap.size A E → Calls Try.prog 30 #[.slice A E.length c] W (RetP (decO none) W)) :
    Calls Try.prog 11 #[.slice A E.length c, .int .i64 i, .int .i64 sz, .int .i64 n] w (RetP (rgtO (none)) w) := by
  have HZ := Lib.hid (show Bk (w.alloc (.cells #[.int .u64 0, .int .i64 0, .int .i64 0, .int .i64 0, .int .i64 0, .int .i64 0, .int .u64 0] 41)) w.heap.size 41 #[.int .u64 0, .int .i64 0, .int .i64 0, .int .i64 0, .int .i64 0, .int .i64 0, .int .u64 0] ∧ Below w.heap.size w (w.alloc (.cells #[.int .u64 0, .int .i64 0, .int .i64 0, .int .i64 0, .int .i64 0, .int .i64 0, .int .u64 0] 41)) from ⟨Bk.new w _ _, Gw.alloc w _⟩)
  have HR := Lib.hid (hR A c (w.alloc (.cells #[.int .u64 0, .int .i64 0, .int .i64 0, .int .i64 0, .int .i64 0, .int .i64 0, .int .u64 0] 41)) hc ((hr.alloc (Nat.le_refl _) _).more (by simp)))
  obtain ⟨N, hN⟩ : ∃ N, N = E.length := ⟨_, rfl⟩
  rw [← hN] at HR ⊢
  unfold decO at HR
  obtain ⟨H0, hH0⟩ : ∃ k, k = w.heap.size := ⟨_, rfl⟩
  have HH0 := Lib.hid hH0
  rw [z0_cells] at HR
  clear hc hr hR hN hH0
  go_enter Try.func11, Try.ntmps11
  go_wp2_with fail
  refine Calls.mono HR.out ?_
  rintro e w1 ⟨rfl, b1⟩
  have HB1 := Lib.hid (show Below w.heap.size w w1 ∧ Bk w1 w.heap.size 41 #[.int .u64 0, .int .i64 0, .int .i64 0, .int .i64 0, .int .i64 0, .int .i64 0, .int .u64 0] from ⟨HZ.out.2.trans (b1.mono HZ.out.2.size), HZ.out.1.below b1 HZ.out.1.lt⟩)
  have HB2 := Lib.hid (show Below w.heap.size w (w1.alloc (.cells #[.int .u64 0, .int .i64 0, .int .i64 0, .int .i64 0, .int .i64 0, .int .i64 0, .int .u64 0] 41)) ∧ Bk (w1.alloc (.cells #[.int .u64 0, .int .i64 0, .int .i64 0, .int .i64 0, .int .i64 0, .int .i64 0, .int .u64 0] 41)) w.heap.size 41 #[.int .u64 0, .int .i64 0, .int .i64 0, .int .i64 0, .int .i64 0, .int .i64 0, .int .u64 0] from ⟨HB1.out.1.alloc HB1.out.1.size _, HB1.out.2.alloc _⟩)
  clear b1 HB1 HZ
  go_wp2_with (refine wp_stR rfl 41 _ _ rfl w.heap.size #[.int .u64 0, .int .i64 0, .int .i64 0, .int .i64 0, .int .i64 0, .int .i64 0, .int .u64 0] rfl rfl 41 #[.int .u64 0, .int .i64 0, .int .i64 0, .int .i64 0, .int .i64 0, .int .i64 0, .int .u64 0] HB2.out.2 (by kernel_rfl) rfl (by simp [Value.oneCell']) ?_; intro w9 k9 b9 o9; have HB9 := Lib.hid (And.intro (HB2.out.1.trans (b9 w.heap.size (Nat.le_refl _))) k9); clear k9 b9 o9)
  unfold rgtO
  rw [z0_cells]
  exact bodyPost_ret (v := .tuple #[.agg #[.int .u64 0, .int .i64 0, .int .i64 0, .int .i64 0, .int .i64 0, .int .i64 0, .int .u64 0], .bool false]) (right_res rfl HB9.out.2 rfl rfl) rfl ⟨rfl, HB9.out.1⟩
theorem right_s (i sz n : Int) (b : Sb) (hg : b.good) (h1 : (b.s : Int) ≠ sz) (E : List (BitVec 8)) (A : Option Addr) (c : Nat) (w : World) (hc : E.length ≤ c) (hr : Rd b8 w w.heap.size A E) (hR : ∀ A c W, E.length ≤ c → Rd b8 W W.heap.size A E → Calls Try.prog 30 #[.slice A E.length c] W (RetP (decO (some b)) W)) :
    Calls Try.prog 11 #[.slice A E.length c, .int .i64 i, .int .i64 sz, .int .i64 n] w (RetP (rgtO (none)) w) := by
  have HZ := Lib.hid (show Bk (w.alloc (.cells #[.int .u64 0, .int .i64 0, .int .i64 0, .int .i64 0, .int .i64 0, .int .i64 0, .int .u64 0] 41)) w.heap.size 41 #[.int .u64 0, .int .i64 0, .int .i64 0, .int .i64 0, .int .i64 0, .int .i64 0, .int .u64 0] ∧ Below w.heap.size w (w.alloc (.cells #[.int .u64 0, .int .i64 0, .int .i64 0, .int .i64 0, .int .i64 0, .int .i64 0, .int .u64 0] 41)) from ⟨Bk.new w _ _, Gw.alloc w _⟩)
  have HR := Lib.hid (hR A c (w.alloc (.cells #[.int .u64 0, .int .i64 0, .int .i64 0, .int .i64 0, .int .i64 0, .int .i64 0, .int .u64 0] 41)) hc ((hr.alloc (Nat.le_refl _) _).more (by simp)))
  obtain ⟨N, hN⟩ : ∃ N, N = E.length := ⟨_, rfl⟩
  rw [← hN] at HR ⊢
  unfold decO at HR
  obtain ⟨H0, hH0⟩ : ∃ k, k = w.heap.size := ⟨_, rfl⟩
  have HH0 := Lib.hid hH0
  unfold Sb.cells at HR
  have HSE := Lib.hid (show ∀ W, Calls Try.prog 31 #[.agg #[.int .i64 b.s, .int .i64 b.l, .int .i64 b.n]] W (RetP (.int .i64 (totG b.s b.l b.n)) W) from fun W => rsec_c b.s b.l b.n W (Sb.geo hg).inb)
  obtain ⟨tt, htt⟩ : ∃ t, t = totG b.s b.l b.n := ⟨_, rfl⟩
  have hlo : 0 ≤ U64 b.ep := U64_lo _
  have hhi : U64 b.ep ≤ 18446744073709551615 := by have := U64_hi b.ep; omega
  rw [← htt] at HSE
  have q1 : ((b.s : Int) != sz) = true := by simpa using h1
  have HCO := Lib.hid (cells_one b)
  unfold Sb.cells at HCO
  clear hc hr hR hN hH0 hg htt h1
  go_enter Try.func11, Try.ntmps11
  go_wp2_with fail
  refine Calls.mono HR.out ?_
  rintro e w1 ⟨rfl, b1⟩
  have HB1 := Lib.hid (show Below w.heap.size w w1 ∧ Bk w1 w.heap.size 41 #[.int .u64 0, .int .i64 0, .int .i64 0, .int .i64 0, .int .i64 0, .int .i64 0, .int .u64 0] from ⟨HZ.out.2.trans (b1.mono HZ.out.2.size), HZ.out.1.below b1 HZ.out.1.lt⟩)
  have HB2 := Lib.hid (show Below w.heap.size w (w1.alloc (.cells #[.int .u64 (U64 b.ep), .int .i64 b.s, .int .i64 b.l, .int .i64 b.n, .int .i64 b.sp, .int .i64 b.wd, .int .u64 (U64 b.lg)] 41)) ∧ Bk (w1.alloc (.cells #[.int .u64 (U64 b.ep), .int .i64 b.s, .int .i64 b.l, .int .i64 b.n, .int .i64 b.sp, .int .i64 b.wd, .int .u64 (U64 b.lg)] 41)) w.heap.size 41 #[.int .u64 0, .int .i64 0, .int .i64 0, .int .i64 0, .int .i64 0, .int .i64 0, .int .u64 0] from ⟨HB1.out.1.alloc HB1.out.1.size _, HB1.out.2.alloc _⟩)
  have HK2 := Lib.hid (Bk.new w1 41 #[.int .u64 (U64 b.ep), .int .i64 b.s, .int .i64 b.l, .int .i64 b.n, .int .i64 b.sp, .int .i64 b.wd, .int .u64 (U64 b.lg)])
  clear b1 HB1 HZ
  go_wp2_with (refine wp_stR rfl 41 _ _ rfl w.heap.size #[.int .u64 0, .int .i64 0, .int .i64 0, .int .i64 0, .int .i64 0, .int .i64 0, .int .u64 0] rfl rfl 41 #[.int .u64 0, .int .i64 0, .int .i64 0, .int .i64 0, .int .i64 0, .int .i64 0, .int .u64 0] HB2.out.2 (by kernel_rfl) rfl (by simp [Value.oneCell']) ?_; intro w9 k9 b9 o9; have HB9 := Lib.hid (And.intro (HB2.out.1.trans (b9 w.heap.size (Nat.le_refl _))) k9); clear k9 b9 o9)
  unfold rgtO
  rw [z0_cells]
  exact bodyPost_ret (v := .tuple #[.agg #[.int .u64 0, .int .i64 0, .int .i64 0, .int .i64 0, .int .i64 0, .int .i64 0, .int .u64 0], .bool false]) (right_res rfl HB9.out.2 rfl rfl) rfl ⟨rfl, HB9.out.1⟩
theorem right_t (i sz n : Int) (b : Sb) (hg : b.good) (h1 : (b.s : Int) = sz) (h2 : n < totG b.s b.l b.n) (E : List (BitVec 8)) (A : Option Addr) (c : Nat) (w : World) (hc : E.length ≤ c) (hr : Rd b8 w w.heap.size A E) (hR : ∀ A c W, E.length ≤ c → Rd b8 W W.heap.size A E → Calls Try.prog 30 #[.slice A E.length c] W (RetP (decO (some b)) W)) :
    Calls Try.prog 11 #[.slice A E.length c, .int .i64 i, .int .i64 sz, .int .i64 n] w (RetP (rgtO (none)) w) := by
  have HZ := Lib.hid (show Bk (w.alloc (.cells #[.int .u64 0, .int .i64 0, .int .i64 0, .int .i64 0, .int .i64 0, .int .i64 0, .int .u64 0] 41)) w.heap.size 41 #[.int .u64 0, .int .i64 0, .int .i64 0, .int .i64 0, .int .i64 0, .int .i64 0, .int .u64 0] ∧ Below w.heap.size w (w.alloc (.cells #[.int .u64 0, .int .i64 0, .int .i64 0, .int .i64 0, .int .i64 0, .int .i64 0, .int .u64 0] 41)) from ⟨Bk.new w _ _, Gw.alloc w _⟩)
  have HR := Lib.hid (hR A c (w.alloc (.cells #[.int .u64 0, .int .i64 0, .int .i64 0, .int .i64 0, .int .i64 0, .int .i64 0, .int .u64 0] 41)) hc ((hr.alloc (Nat.le_refl _) _).more (by simp)))
  obtain ⟨N, hN⟩ : ∃ N, N = E.length := ⟨_, rfl⟩
  rw [← hN] at HR ⊢
  unfold decO at HR
  obtain ⟨H0, hH0⟩ : ∃ k, k = w.heap.size := ⟨_, rfl⟩
  have HH0 := Lib.hid hH0
  unfold Sb.cells at HR
  have HSE := Lib.hid (show ∀ W, Calls Try.prog 31 #[.agg #[.int .i64 b.s, .int .i64 b.l, .int .i64 b.n]] W (RetP (.int .i64 (totG b.s b.l b.n)) W) from fun W => rsec_c b.s b.l b.n W (Sb.geo hg).inb)
  obtain ⟨tt, htt⟩ : ∃ t, t = totG b.s b.l b.n := ⟨_, rfl⟩
  have hlo : 0 ≤ U64 b.ep := U64_lo _
  have hhi : U64 b.ep ≤ 18446744073709551615 := by have := U64_hi b.ep; omega
  rw [← htt] at HSE h2
  have q1 : ((b.s : Int) != sz) = false := by simpa using h1
  have q2 : decide (n < tt) = true := by simpa using h2
  have HCO := Lib.hid (cells_one b)
  unfold Sb.cells at HCO
  clear hc hr hR hN hH0 hg htt h1 h2
  go_enter Try.func11, Try.ntmps11
  go_wp2_with fail
  refine Calls.mono HR.out ?_
  rintro e w1 ⟨rfl, b1⟩
  have HB1 := Lib.hid (show Below w.heap.size w w1 ∧ Bk w1 w.heap.size 41 #[.int .u64 0, .int .i64 0, .int .i64 0, .int .i64 0, .int .i64 0, .int .i64 0, .int .u64 0] from ⟨HZ.out.2.trans (b1.mono HZ.out.2.size), HZ.out.1.below b1 HZ.out.1.lt⟩)
  have HB2 := Lib.hid (show Below w.heap.size w (w1.alloc (.cells #[.int .u64 (U64 b.ep), .int .i64 b.s, .int .i64 b.l, .int .i64 b.n, .int .i64 b.sp, .int .i64 b.wd, .int .u64 (U64 b.lg)] 41)) ∧ Bk (w1.alloc (.cells #[.int .u64 (U64 b.ep), .int .i64 b.s, .int .i64 b.l, .int .i64 b.n, .int .i64 b.sp, .int .i64 b.wd, .int .u64 (U64 b.lg)] 41)) w.heap.size 41 #[.int .u64 0, .int .i64 0, .int .i64 0, .int .i64 0, .int .i64 0, .int .i64 0, .int .u64 0] from ⟨HB1.out.1.alloc HB1.out.1.size _, HB1.out.2.alloc _⟩)
  have HK2 := Lib.hid (Bk.new w1 41 #[.int .u64 (U64 b.ep), .int .i64 b.s, .int .i64 b.l, .int .i64 b.n, .int .i64 b.sp, .int .i64 b.wd, .int .u64 (U64 b.lg)])
  clear b1 HB1 HZ
  go_wp2_with fail
  refine Calls.mono (HSE.out _) ?_
  rintro e w3 ⟨rfl, b3⟩
  have HB3 := Lib.hid (show Below w.heap.size w w3 ∧ Bk w3 w.heap.size 41 #[.int .u64 0, .int .i64 0, .int .i64 0, .int .i64 0, .int .i64 0, .int .i64 0, .int .u64 0] from ⟨HB2.out.1.trans (b3.mono HB2.out.1.size), HB2.out.2.below b3 HB2.out.2.lt⟩)
  obtain ⟨c0, c1, c2, c3, c4, c5, c6⟩ := (HK2.out.below b3 HK2.out.lt).seven
  clear b3 HB2 HK2
  go_wp2_with (refine wp_stR rfl 41 _ _ rfl w.heap.size #[.int .u64 0, .int .i64 0, .int .i64 0, .int .i64 0, .int .i64 0, .int .i64 0, .int .u64 0] rfl rfl 41 #[.int .u64 0, .int .i64 0, .int .i64 0, .int .i64 0, .int .i64 0, .int .i64 0, .int .u64 0] HB3.out.2 (by kernel_rfl) rfl (by simp [Value.oneCell']) ?_; intro w9 k9 b9 o9; have HB9 := Lib.hid (And.intro (HB3.out.1.trans (b9 w.heap.size (Nat.le_refl _))) k9); clear k9 b9 o9)
  unfold rgtO
  rw [z0_cells]
  exact bodyPost_ret (v := .tuple #[.agg #[.int .u64 0, .int .i64 0, .int .i64 0, .int .i64 0, .int .i64 0, .int .i64 0, .int .u64 0], .bool false]) (right_res rfl HB9.out.2 rfl rfl) rfl ⟨rfl, HB9.out.1⟩
theorem right_a (i sz n : Int) (b : Sb) (hg : b.good) (h1 : (b.s : Int) = sz) (h2 : totG b.s b.l b.n ≤ n) (h3 : U64 b.ep % 2 ≠ i) (E : List (BitVec 8)) (A : Option Addr) (c : Nat) (w : World) (hc : E.length ≤ c) (hr : Rd b8 w w.heap.size A E) (hR : ∀ A c W, E.length ≤ c → Rd b8 W W.heap.size A E → Calls Try.prog 30 #[.slice A E.length c] W (RetP (decO (some b)) W)) :
    Calls Try.prog 11 #[.slice A E.length c, .int .i64 i, .int .i64 sz, .int .i64 n] w (RetP (rgtO (none)) w) := by
  have HZ := Lib.hid (show Bk (w.alloc (.cells #[.int .u64 0, .int .i64 0, .int .i64 0, .int .i64 0, .int .i64 0, .int .i64 0, .int .u64 0] 41)) w.heap.size 41 #[.int .u64 0, .int .i64 0, .int .i64 0, .int .i64 0, .int .i64 0, .int .i64 0, .int .u64 0] ∧ Below w.heap.size w (w.alloc (.cells #[.int .u64 0, .int .i64 0, .int .i64 0, .int .i64 0, .int .i64 0, .int .i64 0, .int .u64 0] 41)) from ⟨Bk.new w _ _, Gw.alloc w _⟩)
  have HR := Lib.hid (hR A c (w.alloc (.cells #[.int .u64 0, .int .i64 0, .int .i64 0, .int .i64 0, .int .i64 0, .int .i64 0, .int .u64 0] 41)) hc ((hr.alloc (Nat.le_refl _) _).more (by simp)))
  obtain ⟨N, hN⟩ : ∃ N, N = E.length := ⟨_, rfl⟩
  rw [← hN] at HR ⊢
  unfold decO at HR
  obtain ⟨H0, hH0⟩ : ∃ k, k = w.heap.size := ⟨_, rfl⟩
  have HH0 := Lib.hid hH0
  unfold Sb.cells at HR
  have HSE := Lib.hid (show ∀ W, Calls Try.prog 31 #[.agg #[.int .i64 b.s, .int .i64 b.l, .int .i64 b.n]] W (RetP (.int .i64 (totG b.s b.l b.n)) W) from fun W => rsec_c b.s b.l b.n W (Sb.geo hg).inb)
  obtain ⟨tt, htt⟩ : ∃ t, t = totG b.s b.l b.n := ⟨_, rfl⟩
  have hlo : 0 ≤ U64 b.ep := U64_lo _
  have hhi : U64 b.ep ≤ 18446744073709551615 := by have := U64_hi b.ep; omega
  rw [← htt] at HSE h2
  have q1 : ((b.s : Int) != sz) = false := by simpa using h1
  have q2 : decide (n < tt) = false := by simp; omega
  have q3 : (U64 b.ep % 2 != i) = true := by simpa using h3
  have HCO := Lib.hid (cells_one b)
  unfold Sb.cells at HCO
  clear hc hr hR hN hH0 hg htt h1 h2 h3
  go_enter Try.func11, Try.ntmps11
  go_wp2_with fail
  refine Calls.mono HR.out ?_
  rintro e w1 ⟨rfl, b1⟩
  have HB1 := Lib.hid (show Below w.heap.size w w1 ∧ Bk w1 w.heap.size 41 #[.int .u64 0, .int .i64 0, .int .i64 0, .int .i64 0, .int .i64 0, .int .i64 0, .int .u64 0] from ⟨HZ.out.2.trans (b1.mono HZ.out.2.size), HZ.out.1.below b1 HZ.out.1.lt⟩)
  have HB2 := Lib.hid (show Below w.heap.size w (w1.alloc (.cells #[.int .u64 (U64 b.ep), .int .i64 b.s, .int .i64 b.l, .int .i64 b.n, .int .i64 b.sp, .int .i64 b.wd, .int .u64 (U64 b.lg)] 41)) ∧ Bk (w1.alloc (.cells #[.int .u64 (U64 b.ep), .int .i64 b.s, .int .i64 b.l, .int .i64 b.n, .int .i64 b.sp, .int .i64 b.wd, .int .u64 (U64 b.lg)] 41)) w.heap.size 41 #[.int .u64 0, .int .i64 0, .int .i64 0, .int .i64 0, .int .i64 0, .int .i64 0, .int .u64 0] from ⟨HB1.out.1.alloc HB1.out.1.size _, HB1.out.2.alloc _⟩)
  have HK2 := Lib.hid (Bk.new w1 41 #[.int .u64 (U64 b.ep), .int .i64 b.s, .int .i64 b.l, .int .i64 b.n, .int .i64 b.sp, .int .i64 b.wd, .int .u64 (U64 b.lg)])
  clear b1 HB1 HZ
  go_wp2_with fail
  refine Calls.mono (HSE.out _) ?_
  rintro e w3 ⟨rfl, b3⟩
  have HB3 := Lib.hid (show Below w.heap.size w w3 ∧ Bk w3 w.heap.size 41 #[.int .u64 0, .int .i64 0, .int .i64 0, .int .i64 0, .int .i64 0, .int .i64 0, .int .u64 0] from ⟨HB2.out.1.trans (b3.mono HB2.out.1.size), HB2.out.2.below b3 HB2.out.2.lt⟩)
  obtain ⟨c0, c1, c2, c3, c4, c5, c6⟩ := (HK2.out.below b3 HK2.out.lt).seven
  clear b3 HB2 HK2
  go_wp2_with (refine wp_stR rfl 41 _ _ rfl w.heap.size #[.int .u64 0, .int .i64 0, .int .i64 0, .int .i64 0, .int .i64 0, .int .i64 0, .int .u64 0] rfl rfl 41 #[.int .u64 0, .int .i64 0, .int .i64 0, .int .i64 0, .int .i64 0, .int .i64 0, .int .u64 0] HB3.out.2 (by kernel_rfl) rfl (by simp [Value.oneCell']) ?_; intro w9 k9 b9 o9; have HB9 := Lib.hid (And.intro (HB3.out.1.trans (b9 w.heap.size (Nat.le_refl _))) k9); clear k9 b9 o9)
  unfold rgtO
  rw [z0_cells]
  exact bodyPost_ret (v := .tuple #[.agg #[.int .u64 0, .int .i64 0, .int .i64 0, .int .i64 0, .int .i64 0, .int .i64 0, .int .u64 0], .bool false]) (right_res rfl HB9.out.2 rfl rfl) rfl ⟨rfl, HB9.out.1⟩
theorem right_y (i sz n : Int) (b : Sb) (hg : b.good) (h1 : (b.s : Int) = sz) (h2 : totG b.s b.l b.n ≤ n) (h3 : U64 b.ep % 2 = i) (E : List (BitVec 8)) (A : Option Addr) (c : Nat) (w : World) (hc : E.length ≤ c) (hr : Rd b8 w w.heap.size A E) (hR : ∀ A c W, E.length ≤ c → Rd b8 W W.heap.size A E → Calls Try.prog 30 #[.slice A E.length c] W (RetP (decO (some b)) W)) :
    Calls Try.prog 11 #[.slice A E.length c, .int .i64 i, .int .i64 sz, .int .i64 n] w (RetP (rgtO (some b)) w) := by
  have HZ := Lib.hid (show Bk (w.alloc (.cells #[.int .u64 0, .int .i64 0, .int .i64 0, .int .i64 0, .int .i64 0, .int .i64 0, .int .u64 0] 41)) w.heap.size 41 #[.int .u64 0, .int .i64 0, .int .i64 0, .int .i64 0, .int .i64 0, .int .i64 0, .int .u64 0] ∧ Below w.heap.size w (w.alloc (.cells #[.int .u64 0, .int .i64 0, .int .i64 0, .int .i64 0, .int .i64 0, .int .i64 0, .int .u64 0] 41)) from ⟨Bk.new w _ _, Gw.alloc w _⟩)
  have HR := Lib.hid (hR A c (w.alloc (.cells #[.int .u64 0, .int .i64 0, .int .i64 0, .int .i64 0, .int .i64 0, .int .i64 0, .int .u64 0] 41)) hc ((hr.alloc (Nat.le_refl _) _).more (by simp)))
  obtain ⟨N, hN⟩ : ∃ N, N = E.length := ⟨_, rfl⟩
  rw [← hN] at HR ⊢
  unfold decO at HR
  obtain ⟨H0, hH0⟩ : ∃ k, k = w.heap.size := ⟨_, rfl⟩
  have HH0 := Lib.hid hH0
  unfold Sb.cells at HR
  have HSE := Lib.hid (show ∀ W, Calls Try.prog 31 #[.agg #[.int .i64 b.s, .int .i64 b.l, .int .i64 b.n]] W (RetP (.int .i64 (totG b.s b.l b.n)) W) from fun W => rsec_c b.s b.l b.n W (Sb.geo hg).inb)
  obtain ⟨tt, htt⟩ : ∃ t, t = totG b.s b.l b.n := ⟨_, rfl⟩
  have hlo : 0 ≤ U64 b.ep := U64_lo _
  have hhi : U64 b.ep ≤ 18446744073709551615 := by have := U64_hi b.ep; omega
  rw [← htt] at HSE h2
  have q1 : ((b.s : Int) != sz) = false := by simpa using h1
  have q2 : decide (n < tt) = false := by simp; omega
  have q3 : (U64 b.ep % 2 != i) = false := by simpa using h3
  have HCO := Lib.hid (cells_one b)
  unfold Sb.cells at HCO
  clear hc hr hR hN hH0 hg htt h1 h2 h3
  go_enter Try.func11, Try.ntmps11
  go_wp2_with fail
  refine Calls.mono HR.out ?_
  rintro e w1 ⟨rfl, b1⟩
  have HB1 := Lib.hid (show Below w.heap.size w w1 ∧ Bk w1 w.heap.size 41 #[.int .u64 0, .int .i64 0, .int .i64 0, .int .i64 0, .int .i64 0, .int .i64 0, .int .u64 0] from ⟨HZ.out.2.trans (b1.mono HZ.out.2.size), HZ.out.1.below b1 HZ.out.1.lt⟩)
  have HB2 := Lib.hid (show Below w.heap.size w (w1.alloc (.cells #[.int .u64 (U64 b.ep), .int .i64 b.s, .int .i64 b.l, .int .i64 b.n, .int .i64 b.sp, .int .i64 b.wd, .int .u64 (U64 b.lg)] 41)) ∧ Bk (w1.alloc (.cells #[.int .u64 (U64 b.ep), .int .i64 b.s, .int .i64 b.l, .int .i64 b.n, .int .i64 b.sp, .int .i64 b.wd, .int .u64 (U64 b.lg)] 41)) w.heap.size 41 #[.int .u64 0, .int .i64 0, .int .i64 0, .int .i64 0, .int .i64 0, .int .i64 0, .int .u64 0] from ⟨HB1.out.1.alloc HB1.out.1.size _, HB1.out.2.alloc _⟩)
  have HK2 := Lib.hid (Bk.new w1 41 #[.int .u64 (U64 b.ep), .int .i64 b.s, .int .i64 b.l, .int .i64 b.n, .int .i64 b.sp, .int .i64 b.wd, .int .u64 (U64 b.lg)])
  clear b1 HB1 HZ
  go_wp2_with fail
  refine Calls.mono (HSE.out _) ?_
  rintro e w3 ⟨rfl, b3⟩
  have HB3 := Lib.hid (show Below w.heap.size w w3 ∧ Bk w3 w.heap.size 41 #[.int .u64 0, .int .i64 0, .int .i64 0, .int .i64 0, .int .i64 0, .int .i64 0, .int .u64 0] from ⟨HB2.out.1.trans (b3.mono HB2.out.1.size), HB2.out.2.below b3 HB2.out.2.lt⟩)
  obtain ⟨c0, c1, c2, c3, c4, c5, c6⟩ := (HK2.out.below b3 HK2.out.lt).seven
  clear b3 HB2 HK2
  go_wp2_with (refine wp_stR rfl 41 _ _ rfl w.heap.size #[.int .u64 (U64 b.ep), .int .i64 b.s, .int .i64 b.l, .int .i64 b.n, .int .i64 b.sp, .int .i64 b.wd, .int .u64 (U64 b.lg)] rfl rfl 41 #[.int .u64 0, .int .i64 0, .int .i64 0, .int .i64 0, .int .i64 0, .int .i64 0, .int .u64 0] HB3.out.2 (by kernel_rfl) rfl HCO.out ?_; intro w9 k9 b9 o9; have HB9 := Lib.hid (And.intro (HB3.out.1.trans (b9 w.heap.size (Nat.le_refl _))) k9); clear k9 b9 o9)
  unfold rgtO Sb.cells
  exact bodyPost_ret (v := .tuple #[.agg #[.int .u64 (U64 b.ep), .int .i64 b.s, .int .i64 b.l, .int .i64 b.n, .int .i64 b.sp, .int .i64 b.wd, .int .u64 (U64 b.lg)], .bool true]) (right_res rfl HB9.out.2 rfl rfl) rfl ⟨rfl, HB9.out.1⟩
theorem right_c7 {E : List (BitVec 8)} {r : Option Sb} (h : RecOK E r) (d : DK) (A : Option Addr) (c i : Nat) (w : World) (hc : E.length ≤ c) (hr : Rd b8 w w.heap.size A E) :
    Calls Try.prog 11 #[.slice A E.length c, .int .i64 i, .int .i64 d.size, .int .i64 d.secs] w (RetP (rgtO (inSlot d i r)) w) := by
  cases r with
  | none => exact right_n i d.size d.secs E A c w hc hr h.2
  | some b =>
    have hg := h.1 b rfl
    show Calls _ _ _ _ (RetP (rgtO (if fitB b d && decide (b.at_ = i) then some b else none)) w)
    have ham := at_mod b
    by_cases h1 : (b.s : Int) = (d.size : Int)
    · by_cases h2 : totG b.s b.l b.n ≤ (d.secs : Int)
      · have hf : fitB b d = true := decide_eq_true ⟨h1, h2⟩
        by_cases h3 : b.at_ = i
        · rw [hf, decide_eq_true h3]
          exact right_y i d.size d.secs b hg h1 h2 (by omega) E A c w hc hr h.2
        · rw [hf, decide_eq_false h3]
          exact right_a i d.size d.secs b hg h1 h2 (by omega) E A c w hc hr h.2
      · have hf : fitB b d = false := decide_eq_false (fun e => h2 e.2)
        rw [hf]
        exact right_t i d.size d.secs b hg h1 (by omega) E A c w hc hr h.2
    · have hf : fitB b d = false := decide_eq_false (fun e => h1 e.1)
      rw [hf]
      exact right_s i d.size d.secs b hg h1 E A c w hc hr h.2
end Go.Proofs.Ytjcpbhjmmnpjnaa
/- loamlaw6.Of: a block as the document's. No conditions. -/
namespace Go.Proofs.Ytjcpbhjmmnpjnaa
set_option linter.unusedVariables false
set_option linter.unusedSimpArgs false
open Go.RowKit
set_option maxRecDepth 100000
set_option maxHeartbeats 2000000
theorem of6_reg (Q : Exit → Act → World → Prop) (a0 : Act) (w : World) (g q : Nat) (ep lg : BitVec 64) (s l n sp wd : Int) (hk : Bk w g 32 #[.int .u64 (U64 ep), .int .i64 s, .int .i64 l, .int .i64 n, .int .i64 sp, .int .i64 wd, .int .u64 (U64 lg)]) (hsz : a0.tmps.size = 15) (sl1 : a0.tmps.getD 1 undef = .pointer (some ⟨g, 0, none⟩))
    (fin : ∀ (vals : Nat → Value) (w1 : World), Below w.heap.size w w1 → (IsV (.agg #[.int .u64 (U64 ep), .int .i64 s, .int .i64 l, .int .i64 n, .int .i64 sp, .int .i64 wd, .int .u64 (U64 lg)])) (vals 11) w1 → wpList Try.prog #[{ dst := none, op := Go.Op.store 41 (Go.Operand.tmp 2) (Go.Operand.tmp 14), type := 0, pos := "", after := #[], guard := none }] Q [{ dst := none, op := Go.Op.store 41 (Go.Operand.tmp 2) (Go.Operand.tmp 14), type := 0, pos := "", after := #[], guard := none }] (putD vals [3, 4, 5, 6, 7, 8, 9, 10, 11, 12, 13, 14] 0 a0) w1) :
    (Code.region 1 (regIn Try.f12 1) true).wp Try.prog Q a0 w := by
  refine region_by_tail (m := 12) (G := fun w w1 => Below w.heap.size w w1) [IsV (.pointer (some ⟨g, 0, none⟩)),
    IsV (.int .u64 (U64 ep)),
    IsV (.pointer (some ⟨g, 1, none⟩)),
    IsV (.agg #[.int .i64 s, .int .i64 l, .int .i64 n]),
    IsV (.agg #[.int .i64 s, .int .i64 l, .int .i64 n]),
    IsV (.pointer (some ⟨g, 4, none⟩)),
    IsV (.int .i64 sp),
    IsV (.pointer (some ⟨g, 5, none⟩)),
    IsV (.int .i64 wd),
    IsV (.pointer (some ⟨g, 6, none⟩)),
    IsV (.int .u64 (U64 lg)),
    IsV (.agg #[.int .u64 (U64 ep), .int .i64 s, .int .i64 l, .int .i64 n, .int .i64 sp, .int .i64 wd, .int .u64 (U64 lg)])]
    [3, 4, 5, 6, 7, 8, 9, 10, 11, 12, 13, 14] (by kernel_rfl) (Gw.drew _) Gw.trans (by rw [hsz]; kernel_rfl) (by kernel_rfl) ?_ ?_ ?_
  · intro f hf
    simp only [List.mem_cons, List.not_mem_nil, or_false] at hf
    rcases hf with rfl | rfl | rfl | rfl | rfl | rfl | rfl | rfl | rfl | rfl | rfl | rfl <;> intro v a b h g <;> first | exact IsV.mono h
  · refine ⟨?_, ?_, ?_, ?_, ?_, ?_, ?_, ?_, ?_, ?_, ?_, ?_, trivial⟩
    · refine owes_v (Go.Op.fieldAddr 32 (Go.Operand.tmp 1) 0) 0 [] (by kernel_rfl) (by kernel_rfl) (by kernel_rfl) rfl fun vals w1 ρ hG hF hρ hcst hfun => ?_
      have e1 : ρ (.tmp 1) = .pointer (some ⟨g, 0, none⟩) := ((hρ 1).trans (slotO [] (by kernel_rfl))).trans sl1
      clear hρ hF hcst hfun sl1 fin
      exact opv_val (by go_simp <;> rfl) ⟨gw_self _, rfl⟩
    · refine owes_v (Go.Op.load 28 (Go.Operand.tmp 3)) 28 [0] (by kernel_rfl) (by kernel_rfl) (by kernel_rfl) rfl fun vals w1 ρ hG hF hρ hcst hfun => ?_
      have e3 : ρ (.tmp 3) = .pointer (some ⟨g, 0, none⟩) := ((hρ 3).trans (slotJ [0] (by rw [hsz]; decide) (by kernel_rfl))).trans (hF 0 (by decide))
      have k := (hk.below hG hk.lt).cell 0
      clear hρ hF hcst hfun sl1 fin
      exact opv_val (by go_simp <;> rfl) ⟨gw_self _, rfl⟩
    · refine owes_v (Go.Op.fieldAddr 32 (Go.Operand.tmp 1) 1) 0 [] (by kernel_rfl) (by kernel_rfl) (by kernel_rfl) rfl fun vals w1 ρ hG hF hρ hcst hfun => ?_
      have e1 : ρ (.tmp 1) = .pointer (some ⟨g, 0, none⟩) := ((hρ 1).trans (slotO [] (by kernel_rfl))).trans sl1
      clear hρ hF hcst hfun sl1 fin
      exact opv_val (by go_simp <;> rfl) ⟨gw_self _, rfl⟩
    · refine owes_v (Go.Op.load 30 (Go.Operand.tmp 5)) 30 [2] (by kernel_rfl) (by kernel_rfl) (by kernel_rfl) rfl fun vals w1 ρ hG hF hρ hcst hfun => ?_
      have e5 : ρ (.tmp 5) = .pointer (some ⟨g, 1, none⟩) := ((hρ 5).trans (slotJ [2] (by rw [hsz]; decide) (by kernel_rfl))).trans (hF 2 (by decide))
      obtain ⟨k0, k1, k2, k3, k4, k5, k6⟩ := (hk.below hG hk.lt).seven
      clear hρ hF hcst hfun sl1 fin
      exact opv_val (by go_simp <;> rfl) ⟨gw_self _, rfl⟩
    · refine owes_v (Go.Op.call { callee := Go.Callee.value (Go.Operand.func 32), args := #[Go.Operand.tmp 6], argTypes := #[30] }) 39 [3] (by kernel_rfl) (by kernel_rfl) (by kernel_rfl) rfl fun vals w1 ρ hG hF hρ hcst hfun => ?_
      have e6 : ρ (.tmp 6) = .agg #[.int .i64 s, .int .i64 l, .int .i64 n] := ((hρ 6).trans (slotJ [3] (by rw [hsz]; decide) (by kernel_rfl))).trans (hF 3 (by decide))
      clear hρ hF hcst sl1 fin
      exact opv_enter (by go_simp <;> rfl) (of_ret (of_c s l n w1))
    · refine owes_v (Go.Op.fieldAddr 32 (Go.Operand.tmp 1) 2) 0 [] (by kernel_rfl) (by kernel_rfl) (by kernel_rfl) rfl fun vals w1 ρ hG hF hρ hcst hfun => ?_
      have e1 : ρ (.tmp 1) = .pointer (some ⟨g, 0, none⟩) := ((hρ 1).trans (slotO [] (by kernel_rfl))).trans sl1
      clear hρ hF hcst hfun sl1 fin
      exact opv_val (by go_simp <;> rfl) ⟨gw_self _, rfl⟩
    · refine owes_v (Go.Op.load 3 (Go.Operand.tmp 8)) 3 [5] (by kernel_rfl) (by kernel_rfl) (by kernel_rfl) rfl fun vals w1 ρ hG hF hρ hcst hfun => ?_
      have e8 : ρ (.tmp 8) = .pointer (some ⟨g, 4, none⟩) := ((hρ 8).trans (slotJ [5] (by rw [hsz]; decide) (by kernel_rfl))).trans (hF 5 (by decide))
      obtain ⟨k0, k1, k2, k3, k4, k5, k6⟩ := (hk.below hG hk.lt).seven
      clear hρ hF hcst hfun sl1 fin
      exact opv_val (by go_simp <;> rfl) ⟨gw_self _, rfl⟩
    · refine owes_v (Go.Op.fieldAddr 32 (Go.Operand.tmp 1) 3) 0 [] (by kernel_rfl) (by kernel_rfl) (by kernel_rfl) rfl fun vals w1 ρ hG hF hρ hcst hfun => ?_
      have e1 : ρ (.tmp 1) = .pointer (some ⟨g, 0, none⟩) := ((hρ 1).trans (slotO [] (by kernel_rfl))).trans sl1
      clear hρ hF hcst hfun sl1 fin
      exact opv_val (by go_simp <;> rfl) ⟨gw_self _, rfl⟩
    · refine owes_v (Go.Op.load 3 (Go.Operand.tmp 10)) 3 [7] (by kernel_rfl) (by kernel_rfl) (by kernel_rfl) rfl fun vals w1 ρ hG hF hρ hcst hfun => ?_
      have e10 : ρ (.tmp 10) = .pointer (some ⟨g, 5, none⟩) := ((hρ 10).trans (slotJ [7] (by rw [hsz]; decide) (by kernel_rfl))).trans (hF 7 (by decide))
      obtain ⟨k0, k1, k2, k3, k4, k5, k6⟩ := (hk.below hG hk.lt).seven
      clear hρ hF hcst hfun sl1 fin
      exact opv_val (by go_simp <;> rfl) ⟨gw_self _, rfl⟩
    · refine owes_v (Go.Op.fieldAddr 32 (Go.Operand.tmp 1) 4) 0 [] (by kernel_rfl) (by kernel_rfl) (by kernel_rfl) rfl fun vals w1 ρ hG hF hρ hcst hfun => ?_
      have e1 : ρ (.tmp 1) = .pointer (some ⟨g, 0, none⟩) := ((hρ 1).trans (slotO [] (by kernel_rfl))).trans sl1
      clear hρ hF hcst hfun sl1 fin
      exact opv_val (by go_simp <;> rfl) ⟨gw_self _, rfl⟩
    · refine owes_v (Go.Op.load 28 (Go.Operand.tmp 12)) 28 [9] (by kernel_rfl) (by kernel_rfl) (by kernel_rfl) rfl fun vals w1 ρ hG hF hρ hcst hfun => ?_
      have e12 : ρ (.tmp 12) = .pointer (some ⟨g, 6, none⟩) := ((hρ 12).trans (slotJ [9] (by rw [hsz]; decide) (by kernel_rfl))).trans (hF 9 (by decide))
      obtain ⟨k0, k1, k2, k3, k4, k5, k6⟩ := (hk.below hG hk.lt).seven
      clear hρ hF hcst hfun sl1 fin
      exact opv_val (by go_simp <;> rfl) ⟨gw_self _, rfl⟩
    · refine owes_v (Go.Op.build 41 #[(0, Go.Operand.tmp 4), (1, Go.Operand.tmp 7), (2, Go.Operand.tmp 9), (3, Go.Operand.tmp 11), (4, Go.Operand.tmp 13)]) 41 [1, 4, 6, 8, 10] (by kernel_rfl) (by kernel_rfl) (by kernel_rfl) rfl fun vals w1 ρ hG hF hρ hcst hfun => ?_
      have e4 : ρ (.tmp 4) = .int .u64 (U64 ep) := ((hρ 4).trans (slotJ [1, 4, 6, 8, 10] (by rw [hsz]; decide) (by kernel_rfl))).trans (hF 1 (by decide))
      have e7 : ρ (.tmp 7) = .agg #[.int .i64 s, .int .i64 l, .int .i64 n] := ((hρ 7).trans (slotJ [1, 4, 6, 8, 10] (by rw [hsz]; decide) (by kernel_rfl))).trans (hF 4 (by decide))
      have e9 : ρ (.tmp 9) = .int .i64 sp := ((hρ 9).trans (slotJ [1, 4, 6, 8, 10] (by rw [hsz]; decide) (by kernel_rfl))).trans (hF 6 (by decide))
      have e11 : ρ (.tmp 11) = .int .i64 wd := ((hρ 11).trans (slotJ [1, 4, 6, 8, 10] (by rw [hsz]; decide) (by kernel_rfl))).trans (hF 8 (by decide))
      have e13 : ρ (.tmp 13) = .int .u64 (U64 lg) := ((hρ 13).trans (slotJ [1, 4, 6, 8, 10] (by rw [hsz]; decide) (by kernel_rfl))).trans (hF 10 (by decide))
      clear hρ hF hcst hfun sl1 fin
      exact opv_val (by go_simp <;> rfl) ⟨gw_self _, rfl⟩
  · intro vals w1 hG hF
    exact last_list (by kernel_rfl) (by kernel_rfl) (by kernel_rfl) (fin vals w1 hG (hF 11 (by decide +kernel)))
theorem of6_c (ep lg : BitVec 64) (s l n sp wd : Int) (w : World) : Calls Try.prog 12 #[blkV ep s l n sp wd lg] w (RetP (blkV ep s l n sp wd lg) w) := by
  obtain ⟨W0, hW0⟩ : ∃ X, X = w.alloc (.cells #[.int .u64 (U64 ep), .int .i64 s, .int .i64 l, .int .i64 n, .int .i64 sp, .int .i64 wd, .int .u64 (U64 lg)] 32) := ⟨_, rfl⟩
  obtain ⟨W1, hW1⟩ : ∃ X, X = W0.alloc (.cells #[.int .u64 0, .int .i64 0, .int .i64 0, .int .i64 0, .int .i64 0, .int .i64 0, .int .u64 0] 41) := ⟨_, rfl⟩
  obtain ⟨H, hH⟩ : ∃ H, H = w.heap.size := ⟨_, rfl⟩
  have HK := Lib.hid (show Bk W1 H 32 #[.int .u64 (U64 ep), .int .i64 s, .int .i64 l, .int .i64 n, .int .i64 sp, .int .i64 wd, .int .u64 (U64 lg)] from by rw [hW1, hW0, hH]; exact (Bk.new w _ _).alloc _)
  have HQ := Lib.hid (show Bk W1 (H + 1) 41 #[.int .u64 0, .int .i64 0, .int .i64 0, .int .i64 0, .int .i64 0, .int .i64 0, .int .u64 0] from by
    have := Bk.new W0 41 #[.int .u64 0, .int .i64 0, .int .i64 0, .int .i64 0, .int .i64 0, .int .i64 0, .int .u64 0]
    rw [hW1, hH]
    have e : W0.heap.size = w.heap.size + 1 := by rw [hW0]; simp
    rw [e] at this
    exact this)
  have HB := Lib.hid (show Below w.heap.size w W1 from by rw [hW1, hW0]; exact (Gw.alloc w _).alloc (by simp) _)
  have HE := Lib.hid hH
  unfold blkV
  go_enter Try.func12, Try.ntmps12
  go_wp2_with fail
  rw [← hW0, ← hW1, ← hH]
  clear hW0 hW1 hH
  refine of6_reg _ _ _ H (H + 1) ep lg s l n sp wd HK.out rfl rfl ?_
  intro vals w1 hG h14
  unfold IsV at h14
  simp only [putD, Act.put, List.setIfInBounds_toArray, List.set_cons_zero, List.set_cons_succ, h14]
  have HQ1 := Lib.hid (HQ.out.below hG HQ.out.lt)
  have HB1 := Lib.hid (HB.out.trans (hG.mono HB.out.size))
  clear h14 hG
  obtain ⟨f0, f1, f2, f3, f4, f5, f6⟩ := HQ1.out.seven
  have z0 := HQ1.out.free 0
  have z1 := HQ1.out.free 1
  have z2 := HQ1.out.free 2
  have z3 := HQ1.out.free 3
  have z4 := HQ1.out.free 4
  have z5 := HQ1.out.free 5
  have z6 := HQ1.out.free 6
  have hb := (((((((HQ1.out.set 0 (.int .u64 (U64 ep))).set 1 (.int .i64 s)).set 2 (.int .i64 l)).set 3 (.int .i64 n)).set 4 (.int .i64 sp)).set 5 (.int .i64 wd)).set 6 (.int .u64 (U64 lg)))
  have hle : w.heap.size ≤ H + 1 := by rw [← HE.out]; omega
  have hbel := (((((((HB1.out.setCell (p := ⟨H + 1, 0, none⟩) hle (.int .u64 (U64 ep))).setCell (p := ⟨H + 1, 1, none⟩) hle (.int .i64 s)).setCell (p := ⟨H + 1, 2, none⟩) hle (.int .i64 l)).setCell (p := ⟨H + 1, 3, none⟩) hle (.int .i64 n)).setCell (p := ⟨H + 1, 4, none⟩) hle (.int .i64 sp)).setCell (p := ⟨H + 1, 5, none⟩) hle (.int .i64 wd)).setCell (p := ⟨H + 1, 6, none⟩) hle (.int .u64 (U64 lg)))
  have HBL := Lib.hid hbel
  have HBB := Lib.hid hb
  clear hb hbel hle
  go_wp2_with fail
  clear f0 f1 f2 f3 f4 f5 f6 z0 z1 z2 z3 z4 z5 z6
  refine bodyPost_ret (v := .agg #[.int .u64 (U64 ep), .int .i64 s, .int .i64 l, .int .i64 n, .int .i64 sp, .int .i64 wd, .int .u64 (U64 lg)]) ?_ rfl ⟨rfl, HBL.out⟩
  exact results_cell_row (ty := 41) (p := 2) (by kernel_rfl) _ _ (H + 1) 41 #[.int .u64 (U64 ep), .int .i64 s, .int .i64 l, .int .i64 n, .int .i64 sp, .int .i64 wd, .int .u64 (U64 lg)] (0, 0) _ (by kernel_rfl) HBB.out Try.underlying41 rfl (by kernel_rfl)
end Go.Proofs.Ytjcpbhjmmnpjnaa
/- 'append(row, make([]T, k)...)' on a row of the call's own: k zeros behind it. Conditions: lengths. -/
namespace Go.Proofs.Ytjcpbhjmmnpjnaa
set_option linter.unusedVariables false
set_option linter.unusedSimpArgs false
open Go.RowKit
theorem zeroCells_list (z : Value) (k : Nat) : (Builtin.zeroCells #[z] k).toList = List.replicate k z := by
  apply List.ext_getElem
  · simp [Builtin.zeroCells]
  · intro i h1 h2
    simp [Builtin.zeroCells, Nat.mod_one]
theorem zeroCells_arr (z : Value) (k : Nat) : Builtin.zeroCells #[z] k = (List.replicate k z).toArray := by
  rw [← zeroCells_list z k]
theorem run_appZ {P : Program} (w : World) (base : Nat) (t tn ty e : TypeId) (i : TypeInfo) (z : Value) (kq kn : IntKind) (ht : P.underlying t = some (.slice e)) (htn : P.underlying tn = some (.int kn)) (hi : P.info? e = some i) (hz : i.zero = some z) (hs1 : i.size = 1) (hb1 : i.bytes = 1) (hzc : z.cells = #[z]) (ho : z.oneCell' = true)
    (g n cap : Nat) (xs : List Value) (hown : w.ownsRow base e 1 (.slice (some ⟨g, 0, none⟩) n cap) n xs) (k : Nat) (hk : 0 < k) (hb : n + k ≤ 1000000000) (hbase : base ≤ w.heap.size) :
    ∃ v' w', (Builtin.append_ #[t, tn] ty #[.slice (some ⟨g, 0, none⟩) n cap, .int kq k]).run P w = .ok v' w' ∧ w'.ownsRow base e 1 v' (n + k) (xs ++ List.replicate k z) ∧ w.grownBy w' (some g) := by
  have hlen : (xs ++ List.replicate k z).length = (n + k) * 1 := by rw [List.length_append, hown.1, List.length_replicate]; omega
  have hxl : xs.length = n := by have := hown.1; omega
  have holds : ∀ j u, xs[j]? = some u → w.cell? ((⟨g, 0, none⟩ : Addr).add j) = some u := hown.cells (g := g) rfl
  rcases hown.2 with ⟨e1, _⟩ | ⟨g', cap', cur, e1, hbg, hg, hnc, hcm, hcs, htake⟩
  · cases e1
  · injection e1 with e1 e2 e3
    injection e1 with e1
    injection e1 with e1
    subst e1 e3
    have hk0 : k ≠ 0 := by omega
    have hw : IntKind.i64.wrap (k : Int) = k := by rw [IntKind.wrap_i64]; omega
    have hneg : ¬ ((k : Int) < 0) := by omega
    by_cases hroom : n + k ≤ cap
    · have hfit : n * 1 + (List.replicate k z).length ≤ cur.size := by rw [List.length_replicate]; omega
      have hst := run_storeCells_at P g (n * 1) e (List.replicate k z) 0 cur w hg (by simpa using hfit) (fun u hu => by rw [(List.mem_replicate.1 hu).2]; exact ho)
      simp only [Nat.add_zero, Nat.mul_one] at hst
      have h63' : ¬ (9223372036854775807 < ((n : Int) + (k : Int))) := by omega
      have h48i : ¬ (281474976710656 < (k : Int)) := by omega
      refine ⟨.slice (some ⟨g, 0, none⟩) (n + k) cap, w.setRow g (cur.toList.take n ++ List.replicate k z ++ cur.toList.drop (n + (List.replicate k z).length)).toArray, ?_, ⟨hlen, .inr ⟨g, cap, _, rfl, hbg, setRow_heap w g cur _ e _ hg, hroom, hcm, ?_, ?_⟩⟩, ⟨rfl, rfl, rfl, by simp, fun j _ hj => setRow_other w g j _ (fun e => hj (by simp [e]))⟩⟩
      · simp [Builtin.append_, run_underlying ht, run_underlying htn, sizeOf, typeInfo, zeroValue, hi, hz, hs1, hb1, asInt, asIntOf, hw, hk0, hneg, hroom, h63', h48i, Question.forced, hzc, zeroCells_list, zeroCells_arr, Addr.add_lit, hst]
      · simp only [List.size_toArray, List.length_append, List.length_take, List.length_drop, Array.length_toList, List.length_replicate]
        omega
      · rw [Nat.mul_one] at htake hlen ⊢
        rw [htake, ← hlen]
        exact List.take_left
    · have hf : (Builtin.firstCells i.size n (.slice (some ⟨g, 0, none⟩) n cap)).run P w.drew = .ok xs.toArray w.drew :=
        run_firstCells_some (P := P) w.drew i.size n ⟨g, 0, none⟩ n cap xs (by rw [hs1]; omega) holds
      have hr := Lib.run_append_grow_zeros (P := P) w t tn ty e i z kq kn ht htn hi hz (some ⟨g, 0, none⟩) n cap xs hf k hk (by omega) (by omega) (by omega) (by rw [hb1]; omega) (growslice_fits (by omega) (by rw [hb1]; omega))
      rw [hzc, zeroCells_arr] at hr
      have hge := grownCap_ge w (n + k) cap e
      have hcm2 : grownCap w (n + k) cap e ≤ maxLen := grownCap_le_maxLen w (n + k) cap e (by simp only [maxLen]; omega)
      refine ⟨_, _, hr, ⟨hlen, .inr ⟨w.heap.size, _, _, rfl, hbase, heap_alloc_new w.drew _, hge, hcm2, ?_, ?_⟩⟩, ⟨rfl, rfl, rfl, by simp, fun j hj _ => Below.heap_alloc w.drew _ j hj⟩⟩
      · simp only [Array.size_append, List.size_toArray, size_zeroCells, hxl, List.length_replicate]
        simp
        omega
      · simp only [Array.toList_append, List.append_assoc]
        rw [← List.append_assoc, ← hlen]
        exact List.take_left
theorem infoB : (Try.prog.info? 5).map (fun i => (i.zero, i.size, i.bytes)) = some (some (.int .u8 0), 1, 1) := by kernel_rfl
theorem wp_appZ {ops : Array Oper} {rest : List Oper} {o : Oper} {a : Act} {w : World} {Q : Exit → Act → World → Prop} (hgd : o.guard = none) (s x : Operand)
    (ho : o.op = .call { callee := .builtin .append, args := #[s, x], argTypes := #[22, 3] })
    (base : Nat) (g n cap : Nat) (xs : List (BitVec 8)) (hs : a.eval s = .slice (some ⟨g, 0, none⟩) n cap) (hown : Ow b8 5 w base (.slice (some ⟨g, 0, none⟩) n cap) xs) (hn : n = xs.length) (k : Nat) (v : Int) (hv : v = (k : Int)) (hx : a.eval x = .int .i64 v) (hk : 0 < k) (hb : n + k ≤ 1000000000) (hbase : base ≤ w.heap.size)
    (h : ∀ v' w', Ow b8 5 w' base v' (xs ++ List.replicate k 0#8) → Below base w w' → wpList Try.prog ops Q rest (a.put o.dst v') w') : wpList Try.prog ops Q (o :: rest) a w := by
  subst hv hn
  have hI := infoB
  cases hi : Try.prog.info? 5 with
  | none => rw [hi] at hI; cases hI
  | some i =>
    rw [hi] at hI
    simp only [Option.map_some, Option.some.injEq, Prod.mk.injEq] at hI
    obtain ⟨v', w', hr, h1, h2⟩ := run_appZ (P := Try.prog) w base 22 3 o.type 5 i (.int .u8 0) .i64 .i64 Try.underlying22 Try.underlying3 hi hI.1 hI.2.1 hI.2.2 rfl rfl g xs.length cap (xs.map b8) hown k hk hb hbase
    refine Lib.wpList_append_run w hgd s x _ _ ho _ _ hs hx v' w' hr (h v' w' ?_ (below_of_grown h2 hbase (fun j e => by injection e with e; subst e; exact (hown.lt g rfl).1)))
    unfold Ow
    rw [List.map_append, List.map_replicate, List.length_append, List.length_replicate]
    exact h1
end Go.Proofs.Ytjcpbhjmmnpjnaa
/- The law SlotsBytes of layer 7 returns true for every argument. No conditions. -/
namespace Go.Proofs.Ytjcpbhjmmnpjnaa
set_option linter.unusedVariables false
set_option linter.unusedSimpArgs false
open Go.RowKit Go.Maps
set_option maxRecDepth 100000
set_option maxHeartbeats 8000000
theorem eqR7 (a0 a6 : BitVec 64) (a1 a2 a3 a4 a5 : Int) (W : World) :
    (Op.equalIn 10000 41 (.agg #[.int .u64 (U64 a0), .int .i64 a1, .int .i64 a2, .int .i64 a3, .int .i64 a4, .int .i64 a5, .int .u64 (U64 a6)]) (.agg #[.int .u64 (U64 a0), .int .i64 a1, .int .i64 a2, .int .i64 a3, .int .i64 a4, .int .i64 a5, .int .u64 (U64 a6)])).run Try.prog W = .ok true W := by
  go_simp
theorem of7_c (b : Sb) (W : World) : Calls Try.prog 12 #[.agg #[.int .u64 (U64 b.ep), .int .i64 b.s, .int .i64 b.l, .int .i64 b.n, .int .i64 b.sp, .int .i64 b.wd, .int .u64 (U64 b.lg)]] W (RetP (.agg #[.int .u64 (U64 b.ep), .int .i64 b.s, .int .i64 b.l, .int .i64 b.n, .int .i64 b.sp, .int .i64 b.wd, .int .u64 (U64 b.lg)]) W) := of6_c b.ep b.lg b.s b.l b.n b.sp b.wd W
theorem sb16_nn (Q : Exit → Act → World → Prop) (a0 : Act) (w : World) (G12 G13 G17 G19 : Nat) (a b : Sb) (H12 : Hid (Bk w G12 33 (c14 a b))) (H13 : Hid (Bk w G13 34 #[.bool false, .bool false])) (H17 : Hid (Bk w G17 41 a.cells)) (H19 : Hid (Bk w G19 41 b.cells)) (hsz : a0.tmps.size = 171) (sl13 : a0.tmps.getD 13 undef = .pointer (some ⟨G13, 0, none⟩)) (sl14 : a0.tmps.getD 14 undef = .int .i64 0) (sl18 : a0.tmps.getD 18 undef = .bool false) (sl20 : a0.tmps.getD 20 undef = .bool false)
    (fin : ∀ (vals : Nat → Value) (w1 : World), Below w.heap.size w w1 → (IsV (.bool false)) (vals 33) w1 → Q .normal (putD vals [104, 105, 106, 107, 108, 109, 110, 111, 112, 113, 114, 115, 116, 117, 118, 119, 120, 121, 122, 123, 124, 125, 126, 127, 128, 129, 130, 131, 132, 133, 134, 135, 136, 137] 0 a0) w1) :
    (Code.region 16 (regIn Try.f3 16) true).wp Try.prog Q a0 w := by
  refine region_by (G := fun w w1 => Below w.heap.size w w1) [IsV (.int .i64 0),
    IsV (.bool false),
    IsV (.bool false),
    IsV (.pointer (some ⟨G13, 0, none⟩)),
    IsV (.bool false),
    IsV (.bool false),
    IsV (.bool false),
    IsV (.bool false),
    IsV (.bool false),
    IsV (.pointer (some ⟨G13, 1, none⟩)),
    IsV (.bool false),
    IsV (.bool false),
    IsV (.bool false),
    IsV (.bool false),
    IsV (.bool false),
    IsV (.bool false),
    IsV (.bool false),
    IsV undef,
    IsV undef,
    IsV undef,
    IsV undef,
    IsV undef,
    IsV (.bool false),
    IsV (.bool false),
    IsV (.bool false),
    IsV (.bool false),
    IsV (.bool false),
    IsV undef,
    IsV undef,
    IsV undef,
    IsV undef,
    IsV undef,
    IsV (.bool false),
    IsV (.bool false)]
    [104, 105, 106, 107, 108, 109, 110, 111, 112, 113, 114, 115, 116, 117, 118, 119, 120, 121, 122, 123, 124, 125, 126, 127, 128, 129, 130, 131, 132, 133, 134, 135, 136, 137] (by kernel_rfl) (Gw.drew _) Gw.trans (by rw [hsz]; kernel_rfl) (by kernel_rfl) ?_ ?_ ?_
  · intro f hf
    simp only [List.mem_cons, List.not_mem_nil, or_false] at hf
    rcases hf with rfl | rfl | rfl | rfl | rfl | rfl | rfl | rfl | rfl | rfl | rfl | rfl | rfl | rfl | rfl | rfl | rfl | rfl | rfl | rfl | rfl | rfl | rfl | rfl | rfl | rfl | rfl | rfl | rfl | rfl | rfl | rfl | rfl | rfl <;> intro v a b h g <;> first | exact IsV.mono h
  · refine ⟨?_, ?_, ?_, ?_, ?_, ?_, ?_, ?_, ?_, ?_, ?_, ?_, ?_, ?_, ?_, ?_, ?_, ?_, ?_, ?_, ?_, ?_, ?_, ?_, ?_, ?_, ?_, ?_, ?_, ?_, ?_, ?_, ?_, ?_, trivial⟩
    · exact owes_mv 14 (by kernel_rfl) (by kernel_rfl) (by kernel_rfl) sl14 (fun _ => rfl)
    · refine owes_v (Go.Op.binOp Go.BinOp.neq 3 (Go.Operand.tmp 104) (Go.Operand.const (Go.Value.int Go.IntKind.i64 0)) 3) 4 [0] (by kernel_rfl) (by kernel_rfl) (by kernel_rfl) rfl fun vals w1 ρ hG hF hρ hcst hfun => ?_
      have e104 : ρ (.tmp 104) = .int .i64 0 := ((hρ 104).trans (slotJ [0] (by rw [hsz]; decide) (by kernel_rfl))).trans (hF 0 (by decide))
      clear hρ hF hfun sl13 sl14 sl18 sl20 fin
      exact opv_val (by go_simp <;> rfl) ⟨gw_self _, rfl⟩
    · exact owes_mvj 1 105 (by kernel_rfl) (by kernel_rfl) (by kernel_rfl) (by kernel_rfl) (by rw [hsz]; decide) (fun v w h => h)
    · refine owes_vt 2 false (Go.Op.indexAddr 34 (Go.Operand.tmp 13) (Go.Operand.const (Go.Value.int Go.IntKind.i64 0))) 0 [] (by kernel_rfl) (by kernel_rfl) (by kernel_rfl) (fun _ _ h => h) (by rw [hsz]; kernel_rfl) (by kernel_rfl) rfl fun vals w1 ρ hG hF hρ hcst hfun => ?_
      have e13 : ρ (.tmp 13) = .pointer (some ⟨G13, 0, none⟩) := ((hρ 13).trans (slotO [] (by kernel_rfl))).trans sl13
      clear hρ hF hfun sl13 sl14 sl18 sl20 fin
      exact opv_val (by go_simp <;> rfl) ⟨gw_self _, rfl⟩
    · refine owes_vt 2 false (Go.Op.load 4 (Go.Operand.tmp 107)) 4 [3] (by kernel_rfl) (by kernel_rfl) (by kernel_rfl) (fun _ _ h => h) (by rw [hsz]; kernel_rfl) (by kernel_rfl) rfl fun vals w1 ρ hG hF hρ hcst hfun => ?_
      have e107 : ρ (.tmp 107) = .pointer (some ⟨G13, 0, none⟩) := ((hρ 107).trans (slotJ [3] (by rw [hsz]; decide) (by kernel_rfl))).trans (hF 3 (by decide))
      have k0 : w1.cell? ⟨G13, 0, none⟩ = some (.bool false) := (H13.out.below hG H13.out.lt).cell 0
      clear hρ hF hcst hfun sl13 sl14 sl18 sl20 fin
      exact opv_val (by go_simp <;> rfl) ⟨gw_self _, rfl⟩
    · refine owes_vt 2 false (Go.Op.move (Go.Operand.tmp 18)) 4 [] (by kernel_rfl) (by kernel_rfl) (by kernel_rfl) (fun _ _ h => h) (by rw [hsz]; kernel_rfl) (by kernel_rfl) rfl fun vals w1 ρ hG hF hρ hcst hfun => ?_
      have e18 : ρ (.tmp 18) = .bool false := ((hρ 18).trans (slotO [] (by kernel_rfl))).trans sl18
      clear hρ hF hcst hfun sl13 sl14 sl18 sl20 fin
      exact opv_val (by go_simp <;> rfl) ⟨gw_self _, rfl⟩
    · refine owes_vt 2 false (Go.Op.binOp Go.BinOp.neq 4 (Go.Operand.tmp 108) (Go.Operand.tmp 109) 4) 4 [4, 5] (by kernel_rfl) (by kernel_rfl) (by kernel_rfl) (fun _ _ h => h) (by rw [hsz]; kernel_rfl) (by kernel_rfl) rfl fun vals w1 ρ hG hF hρ hcst hfun => ?_
      have e108 : ρ (.tmp 108) = .bool false := ((hρ 108).trans (slotJ [4, 5] (by rw [hsz]; decide) (by kernel_rfl))).trans (hF 4 (by decide))
      have e109 : ρ (.tmp 109) = .bool false := ((hρ 109).trans (slotJ [4, 5] (by rw [hsz]; decide) (by kernel_rfl))).trans (hF 5 (by decide))
      clear hρ hF hcst hfun sl13 sl14 sl18 sl20 fin
      exact opv_val (by go_simp <;> rfl) ⟨gw_self _, rfl⟩
    · refine owes_v (Go.Op.pick (Go.Operand.tmp 106) (Go.Operand.const (Go.Value.bool true)) (Go.Operand.tmp 110)) 4 [2, 6] (by kernel_rfl) (by kernel_rfl) (by kernel_rfl) rfl fun vals w1 ρ hG hF hρ hcst hfun => ?_
      have e106 : ρ (.tmp 106) = .bool false := ((hρ 106).trans (slotJ [2, 6] (by rw [hsz]; decide) (by kernel_rfl))).trans (hF 2 (by decide))
      have e110 : ρ (.tmp 110) = .bool false := ((hρ 110).trans (slotJ [2, 6] (by rw [hsz]; decide) (by kernel_rfl))).trans (hF 6 (by decide))
      clear hρ hF hfun sl13 sl14 sl18 sl20 fin
      exact opv_val (by go_simp <;> rfl) ⟨gw_self _, rfl⟩
    · exact owes_mvj 7 111 (by kernel_rfl) (by kernel_rfl) (by kernel_rfl) (by kernel_rfl) (by rw [hsz]; decide) (fun v w h => h)
    · refine owes_vt 8 false (Go.Op.indexAddr 34 (Go.Operand.tmp 13) (Go.Operand.const (Go.Value.int Go.IntKind.i64 1))) 0 [] (by kernel_rfl) (by kernel_rfl) (by kernel_rfl) (fun _ _ h => h) (by rw [hsz]; kernel_rfl) (by kernel_rfl) rfl fun vals w1 ρ hG hF hρ hcst hfun => ?_
      have e13 : ρ (.tmp 13) = .pointer (some ⟨G13, 0, none⟩) := ((hρ 13).trans (slotO [] (by kernel_rfl))).trans sl13
      clear hρ hF hfun sl13 sl14 sl18 sl20 fin
      exact opv_val (by go_simp <;> rfl) ⟨gw_self _, rfl⟩
    · refine owes_vt 8 false (Go.Op.load 4 (Go.Operand.tmp 113)) 4 [9] (by kernel_rfl) (by kernel_rfl) (by kernel_rfl) (fun _ _ h => h) (by rw [hsz]; kernel_rfl) (by kernel_rfl) rfl fun vals w1 ρ hG hF hρ hcst hfun => ?_
      have e113 : ρ (.tmp 113) = .pointer (some ⟨G13, 1, none⟩) := ((hρ 113).trans (slotJ [9] (by rw [hsz]; decide) (by kernel_rfl))).trans (hF 9 (by decide))
      have k0 : w1.cell? ⟨G13, 1, none⟩ = some (.bool false) := (H13.out.below hG H13.out.lt).cell 1
      clear hρ hF hcst hfun sl13 sl14 sl18 sl20 fin
      exact opv_val (by go_simp <;> rfl) ⟨gw_self _, rfl⟩
    · refine owes_vt 8 false (Go.Op.move (Go.Operand.tmp 20)) 4 [] (by kernel_rfl) (by kernel_rfl) (by kernel_rfl) (fun _ _ h => h) (by rw [hsz]; kernel_rfl) (by kernel_rfl) rfl fun vals w1 ρ hG hF hρ hcst hfun => ?_
      have e20 : ρ (.tmp 20) = .bool false := ((hρ 20).trans (slotO [] (by kernel_rfl))).trans sl20
      clear hρ hF hcst hfun sl13 sl14 sl18 sl20 fin
      exact opv_val (by go_simp <;> rfl) ⟨gw_self _, rfl⟩
    · refine owes_vt 8 false (Go.Op.binOp Go.BinOp.neq 4 (Go.Operand.tmp 114) (Go.Operand.tmp 115) 4) 4 [10, 11] (by kernel_rfl) (by kernel_rfl) (by kernel_rfl) (fun _ _ h => h) (by rw [hsz]; kernel_rfl) (by kernel_rfl) rfl fun vals w1 ρ hG hF hρ hcst hfun => ?_
      have e114 : ρ (.tmp 114) = .bool false := ((hρ 114).trans (slotJ [10, 11] (by rw [hsz]; decide) (by kernel_rfl))).trans (hF 10 (by decide))
      have e115 : ρ (.tmp 115) = .bool false := ((hρ 115).trans (slotJ [10, 11] (by rw [hsz]; decide) (by kernel_rfl))).trans (hF 11 (by decide))
      clear hρ hF hcst hfun sl13 sl14 sl18 sl20 fin
      exact opv_val (by go_simp <;> rfl) ⟨gw_self _, rfl⟩
    · refine owes_v (Go.Op.pick (Go.Operand.tmp 112) (Go.Operand.const (Go.Value.bool true)) (Go.Operand.tmp 116)) 4 [8, 12] (by kernel_rfl) (by kernel_rfl) (by kernel_rfl) rfl fun vals w1 ρ hG hF hρ hcst hfun => ?_
      have e112 : ρ (.tmp 112) = .bool false := ((hρ 112).trans (slotJ [8, 12] (by rw [hsz]; decide) (by kernel_rfl))).trans (hF 8 (by decide))
      have e116 : ρ (.tmp 116) = .bool false := ((hρ 116).trans (slotJ [8, 12] (by rw [hsz]; decide) (by kernel_rfl))).trans (hF 12 (by decide))
      clear hρ hF hfun sl13 sl14 sl18 sl20 fin
      exact opv_val (by go_simp <;> rfl) ⟨gw_self _, rfl⟩
    · exact owes_mvj 13 117 (by kernel_rfl) (by kernel_rfl) (by kernel_rfl) (by kernel_rfl) (by rw [hsz]; decide) (fun v w h => h)
    · refine owes_vt 14 false (Go.Op.move (Go.Operand.tmp 18)) 4 [] (by kernel_rfl) (by kernel_rfl) (by kernel_rfl) (fun _ _ h => h) (by rw [hsz]; kernel_rfl) (by kernel_rfl) rfl fun vals w1 ρ hG hF hρ hcst hfun => ?_
      have e18 : ρ (.tmp 18) = .bool false := ((hρ 18).trans (slotO [] (by kernel_rfl))).trans sl18
      clear hρ hF hcst hfun sl13 sl14 sl18 sl20 fin
      exact opv_val (by go_simp <;> rfl) ⟨gw_self _, rfl⟩
    · refine owes_vt 14 false (Go.Op.move (Go.Operand.tmp 119)) 4 [15] (by kernel_rfl) (by kernel_rfl) (by kernel_rfl) (fun _ _ h => h) (by rw [hsz]; kernel_rfl) (by kernel_rfl) rfl fun vals w1 ρ hG hF hρ hcst hfun => ?_
      have e119 : ρ (.tmp 119) = .bool false := ((hρ 119).trans (slotJ [15] (by rw [hsz]; decide) (by kernel_rfl))).trans (hF 15 (by decide))
      clear hρ hF hcst hfun sl13 sl14 sl18 sl20 fin
      exact opv_val (by go_simp <;> rfl) ⟨gw_self _, rfl⟩
    · exact owes_no 16 false true (by decide) (by kernel_rfl) (by kernel_rfl) (fun _ _ h => h) (by rw [hsz]; kernel_rfl) (fun _ => rfl)
    · exact owes_no 16 false true (by decide) (by kernel_rfl) (by kernel_rfl) (fun _ _ h => h) (by rw [hsz]; kernel_rfl) (fun _ => rfl)
    · exact owes_no 16 false true (by decide) (by kernel_rfl) (by kernel_rfl) (fun _ _ h => h) (by rw [hsz]; kernel_rfl) (fun _ => rfl)
    · exact owes_no 16 false true (by decide) (by kernel_rfl) (by kernel_rfl) (fun _ _ h => h) (by rw [hsz]; kernel_rfl) (fun _ => rfl)
    · exact owes_no 16 false true (by decide) (by kernel_rfl) (by kernel_rfl) (fun _ _ h => h) (by rw [hsz]; kernel_rfl) (fun _ => rfl)
    · refine owes_vt 14 false (Go.Op.pick (Go.Operand.tmp 120) (Go.Operand.tmp 125) (Go.Operand.const (Go.Value.bool false))) 4 [16, 21] (by kernel_rfl) (by kernel_rfl) (by kernel_rfl) (fun _ _ h => h) (by rw [hsz]; kernel_rfl) (by kernel_rfl) rfl fun vals w1 ρ hG hF hρ hcst hfun => ?_
      have e120 : ρ (.tmp 120) = .bool false := ((hρ 120).trans (slotJ [16, 21] (by rw [hsz]; decide) (by kernel_rfl))).trans (hF 16 (by decide))
      have e125 : ρ (.tmp 125) = undef := ((hρ 125).trans (slotJ [16, 21] (by rw [hsz]; decide) (by kernel_rfl))).trans (hF 21 (by decide))
      clear hρ hF hfun sl13 sl14 sl18 sl20 fin
      exact opv_val (by go_simp <;> rfl) ⟨gw_self _, rfl⟩
    · refine owes_v (Go.Op.pick (Go.Operand.tmp 118) (Go.Operand.const (Go.Value.bool true)) (Go.Operand.tmp 126)) 4 [14, 22] (by kernel_rfl) (by kernel_rfl) (by kernel_rfl) rfl fun vals w1 ρ hG hF hρ hcst hfun => ?_
      have e118 : ρ (.tmp 118) = .bool false := ((hρ 118).trans (slotJ [14, 22] (by rw [hsz]; decide) (by kernel_rfl))).trans (hF 14 (by decide))
      have e126 : ρ (.tmp 126) = .bool false := ((hρ 126).trans (slotJ [14, 22] (by rw [hsz]; decide) (by kernel_rfl))).trans (hF 22 (by decide))
      clear hρ hF hfun sl13 sl14 sl18 sl20 fin
      exact opv_val (by go_simp <;> rfl) ⟨gw_self _, rfl⟩
    · exact owes_mvj 23 127 (by kernel_rfl) (by kernel_rfl) (by kernel_rfl) (by kernel_rfl) (by rw [hsz]; decide) (fun v w h => h)
    · refine owes_vt 24 false (Go.Op.move (Go.Operand.tmp 20)) 4 [] (by kernel_rfl) (by kernel_rfl) (by kernel_rfl) (fun _ _ h => h) (by rw [hsz]; kernel_rfl) (by kernel_rfl) rfl fun vals w1 ρ hG hF hρ hcst hfun => ?_
      have e20 : ρ (.tmp 20) = .bool false := ((hρ 20).trans (slotO [] (by kernel_rfl))).trans sl20
      clear hρ hF hcst hfun sl13 sl14 sl18 sl20 fin
      exact opv_val (by go_simp <;> rfl) ⟨gw_self _, rfl⟩
    · refine owes_vt 24 false (Go.Op.move (Go.Operand.tmp 129)) 4 [25] (by kernel_rfl) (by kernel_rfl) (by kernel_rfl) (fun _ _ h => h) (by rw [hsz]; kernel_rfl) (by kernel_rfl) rfl fun vals w1 ρ hG hF hρ hcst hfun => ?_
      have e129 : ρ (.tmp 129) = .bool false := ((hρ 129).trans (slotJ [25] (by rw [hsz]; decide) (by kernel_rfl))).trans (hF 25 (by decide))
      clear hρ hF hcst hfun sl13 sl14 sl18 sl20 fin
      exact opv_val (by go_simp <;> rfl) ⟨gw_self _, rfl⟩
    · exact owes_no 26 false true (by decide) (by kernel_rfl) (by kernel_rfl) (fun _ _ h => h) (by rw [hsz]; kernel_rfl) (fun _ => rfl)
    · exact owes_no 26 false true (by decide) (by kernel_rfl) (by kernel_rfl) (fun _ _ h => h) (by rw [hsz]; kernel_rfl) (fun _ => rfl)
    · exact owes_no 26 false true (by decide) (by kernel_rfl) (by kernel_rfl) (fun _ _ h => h) (by rw [hsz]; kernel_rfl) (fun _ => rfl)
    · exact owes_no 26 false true (by decide) (by kernel_rfl) (by kernel_rfl) (fun _ _ h => h) (by rw [hsz]; kernel_rfl) (fun _ => rfl)
    · exact owes_no 26 false true (by decide) (by kernel_rfl) (by kernel_rfl) (fun _ _ h => h) (by rw [hsz]; kernel_rfl) (fun _ => rfl)
    · refine owes_vt 24 false (Go.Op.pick (Go.Operand.tmp 130) (Go.Operand.tmp 135) (Go.Operand.const (Go.Value.bool false))) 4 [26, 31] (by kernel_rfl) (by kernel_rfl) (by kernel_rfl) (fun _ _ h => h) (by rw [hsz]; kernel_rfl) (by kernel_rfl) rfl fun vals w1 ρ hG hF hρ hcst hfun => ?_
      have e130 : ρ (.tmp 130) = .bool false := ((hρ 130).trans (slotJ [26, 31] (by rw [hsz]; decide) (by kernel_rfl))).trans (hF 26 (by decide))
      have e135 : ρ (.tmp 135) = undef := ((hρ 135).trans (slotJ [26, 31] (by rw [hsz]; decide) (by kernel_rfl))).trans (hF 31 (by decide))
      clear hρ hF hfun sl13 sl14 sl18 sl20 fin
      exact opv_val (by go_simp <;> rfl) ⟨gw_self _, rfl⟩
    · refine owes_v (Go.Op.pick (Go.Operand.tmp 128) (Go.Operand.const (Go.Value.bool true)) (Go.Operand.tmp 136)) 4 [24, 32] (by kernel_rfl) (by kernel_rfl) (by kernel_rfl) rfl fun vals w1 ρ hG hF hρ hcst hfun => ?_
      have e128 : ρ (.tmp 128) = .bool false := ((hρ 128).trans (slotJ [24, 32] (by rw [hsz]; decide) (by kernel_rfl))).trans (hF 24 (by decide))
      have e136 : ρ (.tmp 136) = .bool false := ((hρ 136).trans (slotJ [24, 32] (by rw [hsz]; decide) (by kernel_rfl))).trans (hF 32 (by decide))
      clear hρ hF hfun sl13 sl14 sl18 sl20 fin
      exact opv_val (by go_simp <;> rfl) ⟨gw_self _, rfl⟩
  · intro vals w1 hG hF
    exact fin vals w1 hG (hF 33 (by decide +kernel))
theorem sb16_yn (Q : Exit → Act → World → Prop) (a0 : Act) (w : World) (G12 G13 G17 G19 : Nat) (a b : Sb) (H12 : Hid (Bk w G12 33 (c14 a b))) (H13 : Hid (Bk w G13 34 #[.bool true, .bool false])) (H17 : Hid (Bk w G17 41 a.cells)) (H19 : Hid (Bk w G19 41 b.cells)) (hsz : a0.tmps.size = 171) (sl12 : a0.tmps.getD 12 undef = .pointer (some ⟨G12, 0, none⟩)) (sl13 : a0.tmps.getD 13 undef = .pointer (some ⟨G13, 0, none⟩)) (sl14 : a0.tmps.getD 14 undef = .int .i64 0) (sl17 : a0.tmps.getD 17 undef = .pointer (some ⟨G17, 0, none⟩)) (sl18 : a0.tmps.getD 18 undef = .bool true) (sl20 : a0.tmps.getD 20 undef = .bool false)
    (fin : ∀ (vals : Nat → Value) (w1 : World), Below w.heap.size w w1 → (IsV (.bool false)) (vals 33) w1 → Q .normal (putD vals [104, 105, 106, 107, 108, 109, 110, 111, 112, 113, 114, 115, 116, 117, 118, 119, 120, 121, 122, 123, 124, 125, 126, 127, 128, 129, 130, 131, 132, 133, 134, 135, 136, 137] 0 a0) w1) :
    (Code.region 16 (regIn Try.f3 16) true).wp Try.prog Q a0 w := by
  refine region_by (G := fun w w1 => Below w.heap.size w w1) [IsV (.int .i64 0),
    IsV (.bool false),
    IsV (.bool false),
    IsV (.pointer (some ⟨G13, 0, none⟩)),
    IsV (.bool true),
    IsV (.bool true),
    IsV (.bool false),
    IsV (.bool false),
    IsV (.bool false),
    IsV (.pointer (some ⟨G13, 1, none⟩)),
    IsV (.bool false),
    IsV (.bool false),
    IsV (.bool false),
    IsV (.bool false),
    IsV (.bool false),
    IsV (.bool true),
    IsV (.bool true),
    IsV (.pointer (some ⟨G12, 0, none⟩)),
    IsV (.agg #[.int .u64 (U64 a.ep), .int .i64 a.s, .int .i64 a.l, .int .i64 a.n, .int .i64 a.sp, .int .i64 a.wd, .int .u64 (U64 a.lg)]),
    IsV (.agg #[.int .u64 (U64 a.ep), .int .i64 a.s, .int .i64 a.l, .int .i64 a.n, .int .i64 a.sp, .int .i64 a.wd, .int .u64 (U64 a.lg)]),
    IsV (.agg #[.int .u64 (U64 a.ep), .int .i64 a.s, .int .i64 a.l, .int .i64 a.n, .int .i64 a.sp, .int .i64 a.wd, .int .u64 (U64 a.lg)]),
    IsV (.bool false),
    IsV (.bool false),
    IsV (.bool false),
    IsV (.bool false),
    IsV (.bool false),
    IsV (.bool false),
    IsV undef,
    IsV undef,
    IsV undef,
    IsV undef,
    IsV undef,
    IsV (.bool false),
    IsV (.bool false)]
    [104, 105, 106, 107, 108, 109, 110, 111, 112, 113, 114, 115, 116, 117, 118, 119, 120, 121, 122, 123, 124, 125, 126, 127, 128, 129, 130, 131, 132, 133, 134, 135, 136, 137] (by kernel_rfl) (Gw.drew _) Gw.trans (by rw [hsz]; kernel_rfl) (by kernel_rfl) ?_ ?_ ?_
  · intro f hf
    simp only [List.mem_cons, List.not_mem_nil, or_false] at hf
    rcases hf with rfl | rfl | rfl | rfl | rfl | rfl | rfl | rfl | rfl | rfl | rfl | rfl | rfl | rfl | rfl | rfl | rfl | rfl | rfl | rfl | rfl | rfl | rfl | rfl | rfl | rfl | rfl | rfl | rfl | rfl | rfl | rfl | rfl | rfl <;> intro v a b h g <;> first | exact IsV.mono h
  · refine ⟨?_, ?_, ?_, ?_, ?_, ?_, ?_, ?_, ?_, ?_, ?_, ?_, ?_, ?_, ?_, ?_, ?_, ?_, ?_, ?_, ?_, ?_, ?_, ?_, ?_, ?_, ?_, ?_, ?_, ?_, ?_, ?_, ?_, ?_, trivial⟩
    · exact owes_mv 14 (by kernel_rfl) (by kernel_rfl) (by kernel_rfl) sl14 (fun _ => rfl)
    · refine owes_v (Go.Op.binOp Go.BinOp.neq 3 (Go.Operand.tmp 104) (Go.Operand.const (Go.Value.int Go.IntKind.i64 0)) 3) 4 [0] (by kernel_rfl) (by kernel_rfl) (by kernel_rfl) rfl fun vals w1 ρ hG hF hρ hcst hfun => ?_
      have e104 : ρ (.tmp 104) = .int .i64 0 := ((hρ 104).trans (slotJ [0] (by rw [hsz]; decide) (by kernel_rfl))).trans (hF 0 (by decide))
      clear hρ hF hfun sl12 sl13 sl14 sl17 sl18 sl20 fin
      exact opv_val (by go_simp <;> rfl) ⟨gw_self _, rfl⟩
    · exact owes_mvj 1 105 (by kernel_rfl) (by kernel_rfl) (by kernel_rfl) (by kernel_rfl) (by rw [hsz]; decide) (fun v w h => h)
    · refine owes_vt 2 false (Go.Op.indexAddr 34 (Go.Operand.tmp 13) (Go.Operand.const (Go.Value.int Go.IntKind.i64 0))) 0 [] (by kernel_rfl) (by kernel_rfl) (by kernel_rfl) (fun _ _ h => h) (by rw [hsz]; kernel_rfl) (by kernel_rfl) rfl fun vals w1 ρ hG hF hρ hcst hfun => ?_
      have e13 : ρ (.tmp 13) = .pointer (some ⟨G13, 0, none⟩) := ((hρ 13).trans (slotO [] (by kernel_rfl))).trans sl13
      clear hρ hF hfun sl12 sl13 sl14 sl17 sl18 sl20 fin
      exact opv_val (by go_simp <;> rfl) ⟨gw_self _, rfl⟩
    · refine owes_vt 2 false (Go.Op.load 4 (Go.Operand.tmp 107)) 4 [3] (by kernel_rfl) (by kernel_rfl) (by kernel_rfl) (fun _ _ h => h) (by rw [hsz]; kernel_rfl) (by kernel_rfl) rfl fun vals w1 ρ hG hF hρ hcst hfun => ?_
      have e107 : ρ (.tmp 107) = .pointer (some ⟨G13, 0, none⟩) := ((hρ 107).trans (slotJ [3] (by rw [hsz]; decide) (by kernel_rfl))).trans (hF 3 (by decide))
      have k0 : w1.cell? ⟨G13, 0, none⟩ = some (.bool true) := (H13.out.below hG H13.out.lt).cell 0
      clear hρ hF hcst hfun sl12 sl13 sl14 sl17 sl18 sl20 fin
      exact opv_val (by go_simp <;> rfl) ⟨gw_self _, rfl⟩
    · refine owes_vt 2 false (Go.Op.move (Go.Operand.tmp 18)) 4 [] (by kernel_rfl) (by kernel_rfl) (by kernel_rfl) (fun _ _ h => h) (by rw [hsz]; kernel_rfl) (by kernel_rfl) rfl fun vals w1 ρ hG hF hρ hcst hfun => ?_
      have e18 : ρ (.tmp 18) = .bool true := ((hρ 18).trans (slotO [] (by kernel_rfl))).trans sl18
      clear hρ hF hcst hfun sl12 sl13 sl14 sl17 sl18 sl20 fin
      exact opv_val (by go_simp <;> rfl) ⟨gw_self _, rfl⟩
    · refine owes_vt 2 false (Go.Op.binOp Go.BinOp.neq 4 (Go.Operand.tmp 108) (Go.Operand.tmp 109) 4) 4 [4, 5] (by kernel_rfl) (by kernel_rfl) (by kernel_rfl) (fun _ _ h => h) (by rw [hsz]; kernel_rfl) (by kernel_rfl) rfl fun vals w1 ρ hG hF hρ hcst hfun => ?_
      have e108 : ρ (.tmp 108) = .bool true := ((hρ 108).trans (slotJ [4, 5] (by rw [hsz]; decide) (by kernel_rfl))).trans (hF 4 (by decide))
      have e109 : ρ (.tmp 109) = .bool true := ((hρ 109).trans (slotJ [4, 5] (by rw [hsz]; decide) (by kernel_rfl))).trans (hF 5 (by decide))
      clear hρ hF hcst hfun sl12 sl13 sl14 sl17 sl18 sl20 fin
      exact opv_val (by go_simp <;> rfl) ⟨gw_self _, rfl⟩
    · refine owes_v (Go.Op.pick (Go.Operand.tmp 106) (Go.Operand.const (Go.Value.bool true)) (Go.Operand.tmp 110)) 4 [2, 6] (by kernel_rfl) (by kernel_rfl) (by kernel_rfl) rfl fun vals w1 ρ hG hF hρ hcst hfun => ?_
      have e106 : ρ (.tmp 106) = .bool false := ((hρ 106).trans (slotJ [2, 6] (by rw [hsz]; decide) (by kernel_rfl))).trans (hF 2 (by decide))
      have e110 : ρ (.tmp 110) = .bool false := ((hρ 110).trans (slotJ [2, 6] (by rw [hsz]; decide) (by kernel_rfl))).trans (hF 6 (by decide))
      clear hρ hF hfun sl12 sl13 sl14 sl17 sl18 sl20 fin
      exact opv_val (by go_simp <;> rfl) ⟨gw_self _, rfl⟩
    · exact owes_mvj 7 111 (by kernel_rfl) (by kernel_rfl) (by kernel_rfl) (by kernel_rfl) (by rw [hsz]; decide) (fun v w h => h)
    · refine owes_vt 8 false (Go.Op.indexAddr 34 (Go.Operand.tmp 13) (Go.Operand.const (Go.Value.int Go.IntKind.i64 1))) 0 [] (by kernel_rfl) (by kernel_rfl) (by kernel_rfl) (fun _ _ h => h) (by rw [hsz]; kernel_rfl) (by kernel_rfl) rfl fun vals w1 ρ hG hF hρ hcst hfun => ?_
      have e13 : ρ (.tmp 13) = .pointer (some ⟨G13, 0, none⟩) := ((hρ 13).trans (slotO [] (by kernel_rfl))).trans sl13
      clear hρ hF hfun sl12 sl13 sl14 sl17 sl18 sl20 fin
      exact opv_val (by go_simp <;> rfl) ⟨gw_self _, rfl⟩
    · refine owes_vt 8 false (Go.Op.load 4 (Go.Operand.tmp 113)) 4 [9] (by kernel_rfl) (by kernel_rfl) (by kernel_rfl) (fun _ _ h => h) (by rw [hsz]; kernel_rfl) (by kernel_rfl) rfl fun vals w1 ρ hG hF hρ hcst hfun => ?_
      have e113 : ρ (.tmp 113) = .pointer (some ⟨G13, 1, none⟩) := ((hρ 113).trans (slotJ [9] (by rw [hsz]; decide) (by kernel_rfl))).trans (hF 9 (by decide))
      have k0 : w1.cell? ⟨G13, 1, none⟩ = some (.bool false) := (H13.out.below hG H13.out.lt).cell 1
      clear hρ hF hcst hfun sl12 sl13 sl14 sl17 sl18 sl20 fin
      exact opv_val (by go_simp <;> rfl) ⟨gw_self _, rfl⟩
    · refine owes_vt 8 false (Go.Op.move (Go.Operand.tmp 20)) 4 [] (by kernel_rfl) (by kernel_rfl) (by kernel_rfl) (fun _ _ h => h) (by rw [hsz]; kernel_rfl) (by kernel_rfl) rfl fun vals w1 ρ hG hF hρ hcst hfun => ?_
      have e20 : ρ (.tmp 20) = .bool false := ((hρ 20).trans (slotO [] (by kernel_rfl))).trans sl20
      clear hρ hF hcst hfun sl12 sl13 sl14 sl17 sl18 sl20 fin
      exact opv_val (by go_simp <;> rfl) ⟨gw_self _, rfl⟩
    · refine owes_vt 8 false (Go.Op.binOp Go.BinOp.neq 4 (Go.Operand.tmp 114) (Go.Operand.tmp 115) 4) 4 [10, 11] (by kernel_rfl) (by kernel_rfl) (by kernel_rfl) (fun _ _ h => h) (by rw [hsz]; kernel_rfl) (by kernel_rfl) rfl fun vals w1 ρ hG hF hρ hcst hfun => ?_
      have e114 : ρ (.tmp 114) = .bool false := ((hρ 114).trans (slotJ [10, 11] (by rw [hsz]; decide) (by kernel_rfl))).trans (hF 10 (by decide))
      have e115 : ρ (.tmp 115) = .bool false := ((hρ 115).trans (slotJ [10, 11] (by rw [hsz]; decide) (by kernel_rfl))).trans (hF 11 (by decide))
      clear hρ hF hcst hfun sl12 sl13 sl14 sl17 sl18 sl20 fin
      exact opv_val (by go_simp <;> rfl) ⟨gw_self _, rfl⟩
    · refine owes_v (Go.Op.pick (Go.Operand.tmp 112) (Go.Operand.const (Go.Value.bool true)) (Go.Operand.tmp 116)) 4 [8, 12] (by kernel_rfl) (by kernel_rfl) (by kernel_rfl) rfl fun vals w1 ρ hG hF hρ hcst hfun => ?_
      have e112 : ρ (.tmp 112) = .bool false := ((hρ 112).trans (slotJ [8, 12] (by rw [hsz]; decide) (by kernel_rfl))).trans (hF 8 (by decide))
      have e116 : ρ (.tmp 116) = .bool false := ((hρ 116).trans (slotJ [8, 12] (by rw [hsz]; decide) (by kernel_rfl))).trans (hF 12 (by decide))
      clear hρ hF hfun sl12 sl13 sl14 sl17 sl18 sl20 fin
      exact opv_val (by go_simp <;> rfl) ⟨gw_self _, rfl⟩
    · exact owes_mvj 13 117 (by kernel_rfl) (by kernel_rfl) (by kernel_rfl) (by kernel_rfl) (by rw [hsz]; decide) (fun v w h => h)
    · refine owes_vt 14 false (Go.Op.move (Go.Operand.tmp 18)) 4 [] (by kernel_rfl) (by kernel_rfl) (by kernel_rfl) (fun _ _ h => h) (by rw [hsz]; kernel_rfl) (by kernel_rfl) rfl fun vals w1 ρ hG hF hρ hcst hfun => ?_
      have e18 : ρ (.tmp 18) = .bool true := ((hρ 18).trans (slotO [] (by kernel_rfl))).trans sl18
      clear hρ hF hcst hfun sl12 sl13 sl14 sl17 sl18 sl20 fin
      exact opv_val (by go_simp <;> rfl) ⟨gw_self _, rfl⟩
    · refine owes_vt 14 false (Go.Op.move (Go.Operand.tmp 119)) 4 [15] (by kernel_rfl) (by kernel_rfl) (by kernel_rfl) (fun _ _ h => h) (by rw [hsz]; kernel_rfl) (by kernel_rfl) rfl fun vals w1 ρ hG hF hρ hcst hfun => ?_
      have e119 : ρ (.tmp 119) = .bool true := ((hρ 119).trans (slotJ [15] (by rw [hsz]; decide) (by kernel_rfl))).trans (hF 15 (by decide))
      clear hρ hF hcst hfun sl12 sl13 sl14 sl17 sl18 sl20 fin
      exact opv_val (by go_simp <;> rfl) ⟨gw_self _, rfl⟩
    · refine owes_vt 16 true (Go.Op.indexAddr 33 (Go.Operand.tmp 12) (Go.Operand.const (Go.Value.int Go.IntKind.i64 0))) 0 [] (by kernel_rfl) (by kernel_rfl) (by kernel_rfl) (fun _ _ h => h) (by rw [hsz]; kernel_rfl) (by kernel_rfl) rfl fun vals w1 ρ hG hF hρ hcst hfun => ?_
      have e12 : ρ (.tmp 12) = .pointer (some ⟨G12, 0, none⟩) := ((hρ 12).trans (slotO [] (by kernel_rfl))).trans sl12
      clear hρ hF hfun sl12 sl13 sl14 sl17 sl18 sl20 fin
      exact opv_val (by go_simp <;> rfl) ⟨gw_self _, rfl⟩
    · refine owes_vt 16 true (Go.Op.load 32 (Go.Operand.tmp 121)) 32 [17] (by kernel_rfl) (by kernel_rfl) (by kernel_rfl) (fun _ _ h => h) (by rw [hsz]; kernel_rfl) (by kernel_rfl) rfl fun vals w1 ρ hG hF hρ hcst hfun => ?_
      have e121 : ρ (.tmp 121) = .pointer (some ⟨G12, 0, none⟩) := ((hρ 121).trans (slotJ [17] (by rw [hsz]; decide) (by kernel_rfl))).trans (hF 17 (by decide))
      obtain ⟨⟨x0, x1, x2, x3, x4, x5, x6⟩, x7, x8, x9, x10, x11, x12, x13⟩ := (H12.out.below hG H12.out.lt).cut7
      clear hρ hF hcst hfun sl12 sl13 sl14 sl17 sl18 sl20 fin
      exact opv_val (by go_simp <;> rfl) ⟨gw_self _, rfl⟩
    · refine owes_vt 16 true (Go.Op.call { callee := Go.Callee.value (Go.Operand.func 12), args := #[Go.Operand.tmp 122], argTypes := #[32] }) 41 [18] (by kernel_rfl) (by kernel_rfl) (by kernel_rfl) (fun _ _ h => h) (by rw [hsz]; kernel_rfl) (by kernel_rfl) rfl fun vals w1 ρ hG hF hρ hcst hfun => ?_
      have e122 : ρ (.tmp 122) = .agg #[.int .u64 (U64 a.ep), .int .i64 a.s, .int .i64 a.l, .int .i64 a.n, .int .i64 a.sp, .int .i64 a.wd, .int .u64 (U64 a.lg)] := ((hρ 122).trans (slotJ [18] (by rw [hsz]; decide) (by kernel_rfl))).trans (hF 18 (by decide))
      clear hρ hF hcst sl12 sl13 sl14 sl17 sl18 sl20 fin
      exact opv_enter (by go_simp <;> rfl) (of_ret7 (of7_c a w1))
    · refine owes_vt 16 true (Go.Op.load 41 (Go.Operand.tmp 17)) 41 [] (by kernel_rfl) (by kernel_rfl) (by kernel_rfl) (fun _ _ h => h) (by rw [hsz]; kernel_rfl) (by kernel_rfl) rfl fun vals w1 ρ hG hF hρ hcst hfun => ?_
      have e17 : ρ (.tmp 17) = .pointer (some ⟨G17, 0, none⟩) := ((hρ 17).trans (slotO [] (by kernel_rfl))).trans sl17
      have k9 := H17.out.below hG H17.out.lt
      unfold Sb.cells at k9
      obtain ⟨x0, x1, x2, x3, x4, x5, x6⟩ := k9.seven
      clear hρ hF hcst hfun sl12 sl13 sl14 sl17 sl18 sl20 fin
      exact opv_val (by go_simp <;> rfl) ⟨gw_self _, rfl⟩
    · refine owes_vt 16 true (Go.Op.binOp Go.BinOp.neq 41 (Go.Operand.tmp 123) (Go.Operand.tmp 124) 41) 4 [19, 20] (by kernel_rfl) (by kernel_rfl) (by kernel_rfl) (fun _ _ h => h) (by rw [hsz]; kernel_rfl) (by kernel_rfl) rfl fun vals w1 ρ hG hF hρ hcst hfun => ?_
      have e123 : ρ (.tmp 123) = .agg #[.int .u64 (U64 a.ep), .int .i64 a.s, .int .i64 a.l, .int .i64 a.n, .int .i64 a.sp, .int .i64 a.wd, .int .u64 (U64 a.lg)] := ((hρ 123).trans (slotJ [19, 20] (by rw [hsz]; decide) (by kernel_rfl))).trans (hF 19 (by decide))
      have e124 : ρ (.tmp 124) = .agg #[.int .u64 (U64 a.ep), .int .i64 a.s, .int .i64 a.l, .int .i64 a.n, .int .i64 a.sp, .int .i64 a.wd, .int .u64 (U64 a.lg)] := ((hρ 124).trans (slotJ [19, 20] (by rw [hsz]; decide) (by kernel_rfl))).trans (hF 20 (by decide))
      have q := eqR7 a.ep a.lg a.s a.l a.n a.sp a.wd
      clear hρ hF hcst hfun sl12 sl13 sl14 sl17 sl18 sl20 fin
      exact opv_val (by go_simp <;> rfl) ⟨gw_self _, rfl⟩
    · refine owes_vt 14 false (Go.Op.pick (Go.Operand.tmp 120) (Go.Operand.tmp 125) (Go.Operand.const (Go.Value.bool false))) 4 [16, 21] (by kernel_rfl) (by kernel_rfl) (by kernel_rfl) (fun _ _ h => h) (by rw [hsz]; kernel_rfl) (by kernel_rfl) rfl fun vals w1 ρ hG hF hρ hcst hfun => ?_
      have e120 : ρ (.tmp 120) = .bool true := ((hρ 120).trans (slotJ [16, 21] (by rw [hsz]; decide) (by kernel_rfl))).trans (hF 16 (by decide))
      have e125 : ρ (.tmp 125) = .bool false := ((hρ 125).trans (slotJ [16, 21] (by rw [hsz]; decide) (by kernel_rfl))).trans (hF 21 (by decide))
      clear hρ hF hfun sl12 sl13 sl14 sl17 sl18 sl20 fin
      exact opv_val (by go_simp <;> rfl) ⟨gw_self _, rfl⟩
    · refine owes_v (Go.Op.pick (Go.Operand.tmp 118) (Go.Operand.const (Go.Value.bool true)) (Go.Operand.tmp 126)) 4 [14, 22] (by kernel_rfl) (by kernel_rfl) (by kernel_rfl) rfl fun vals w1 ρ hG hF hρ hcst hfun => ?_
      have e118 : ρ (.tmp 118) = .bool false := ((hρ 118).trans (slotJ [14, 22] (by rw [hsz]; decide) (by kernel_rfl))).trans (hF 14 (by decide))
      have e126 : ρ (.tmp 126) = .bool false := ((hρ 126).trans (slotJ [14, 22] (by rw [hsz]; decide) (by kernel_rfl))).trans (hF 22 (by decide))
      clear hρ hF hfun sl12 sl13 sl14 sl17 sl18 sl20 fin
      exact opv_val (by go_simp <;> rfl) ⟨gw_self _, rfl⟩
    · exact owes_mvj 23 127 (by kernel_rfl) (by kernel_rfl) (by kernel_rfl) (by kernel_rfl) (by rw [hsz]; decide) (fun v w h => h)
    · refine owes_vt 24 false (Go.Op.move (Go.Operand.tmp 20)) 4 [] (by kernel_rfl) (by kernel_rfl) (by kernel_rfl) (fun _ _ h => h) (by rw [hsz]; kernel_rfl) (by kernel_rfl) rfl fun vals w1 ρ hG hF hρ hcst hfun => ?_
      have e20 : ρ (.tmp 20) = .bool false := ((hρ 20).trans (slotO [] (by kernel_rfl))).trans sl20
      clear hρ hF hcst hfun sl12 sl13 sl14 sl17 sl18 sl20 fin
      exact opv_val (by go_simp <;> rfl) ⟨gw_self _, rfl⟩
    · refine owes_vt 24 false (Go.Op.move (Go.Operand.tmp 129)) 4 [25] (by kernel_rfl) (by kernel_rfl) (by kernel_rfl) (fun _ _ h => h) (by rw [hsz]; kernel_rfl) (by kernel_rfl) rfl fun vals w1 ρ hG hF hρ hcst hfun => ?_
      have e129 : ρ (.tmp 129) = .bool false := ((hρ 129).trans (slotJ [25] (by rw [hsz]; decide) (by kernel_rfl))).trans (hF 25 (by decide))
      clear hρ hF hcst hfun sl12 sl13 sl14 sl17 sl18 sl20 fin
      exact opv_val (by go_simp <;> rfl) ⟨gw_self _, rfl⟩
    · exact owes_no 26 false true (by decide) (by kernel_rfl) (by kernel_rfl) (fun _ _ h => h) (by rw [hsz]; kernel_rfl) (fun _ => rfl)
    · exact owes_no 26 false true (by decide) (by kernel_rfl) (by kernel_rfl) (fun _ _ h => h) (by rw [hsz]; kernel_rfl) (fun _ => rfl)
    · exact owes_no 26 false true (by decide) (by kernel_rfl) (by kernel_rfl) (fun _ _ h => h) (by rw [hsz]; kernel_rfl) (fun _ => rfl)
    · exact owes_no 26 false true (by decide) (by kernel_rfl) (by kernel_rfl) (fun _ _ h => h) (by rw [hsz]; kernel_rfl) (fun _ => rfl)
    · exact owes_no 26 false true (by decide) (by kernel_rfl) (by kernel_rfl) (fun _ _ h => h) (by rw [hsz]; kernel_rfl) (fun _ => rfl)
    · refine owes_vt 24 false (Go.Op.pick (Go.Operand.tmp 130) (Go.Operand.tmp 135) (Go.Operand.const (Go.Value.bool false))) 4 [26, 31] (by kernel_rfl) (by kernel_rfl) (by kernel_rfl) (fun _ _ h => h) (by rw [hsz]; kernel_rfl) (by kernel_rfl) rfl fun vals w1 ρ hG hF hρ hcst hfun => ?_
      have e130 : ρ (.tmp 130) = .bool false := ((hρ 130).trans (slotJ [26, 31] (by rw [hsz]; decide) (by kernel_rfl))).trans (hF 26 (by decide))
      have e135 : ρ (.tmp 135) = undef := ((hρ 135).trans (slotJ [26, 31] (by rw [hsz]; decide) (by kernel_rfl))).trans (hF 31 (by decide))
      clear hρ hF hfun sl12 sl13 sl14 sl17 sl18 sl20 fin
      exact opv_val (by go_simp <;> rfl) ⟨gw_self _, rfl⟩
    · refine owes_v (Go.Op.pick (Go.Operand.tmp 128) (Go.Operand.const (Go.Value.bool true)) (Go.Operand.tmp 136)) 4 [24, 32] (by kernel_rfl) (by kernel_rfl) (by kernel_rfl) rfl fun vals w1 ρ hG hF hρ hcst hfun => ?_
      have e128 : ρ (.tmp 128) = .bool false := ((hρ 128).trans (slotJ [24, 32] (by rw [hsz]; decide) (by kernel_rfl))).trans (hF 24 (by decide))
      have e136 : ρ (.tmp 136) = .bool false := ((hρ 136).trans (slotJ [24, 32] (by rw [hsz]; decide) (by kernel_rfl))).trans (hF 32 (by decide))
      clear hρ hF hfun sl12 sl13 sl14 sl17 sl18 sl20 fin
      exact opv_val (by go_simp <;> rfl) ⟨gw_self _, rfl⟩
  · intro vals w1 hG hF
    exact fin vals w1 hG (hF 33 (by decide +kernel))
theorem sb16_ny (Q : Exit → Act → World → Prop) (a0 : Act) (w : World) (G12 G13 G17 G19 : Nat) (a b : Sb) (H12 : Hid (Bk w G12 33 (c14 a b))) (H13 : Hid (Bk w G13 34 #[.bool false, .bool true])) (H17 : Hid (Bk w G17 41 a.cells)) (H19 : Hid (Bk w G19 41 b.cells)) (hsz : a0.tmps.size = 171) (sl12 : a0.tmps.getD 12 undef = .pointer (some ⟨G12, 0, none⟩)) (sl13 : a0.tmps.getD 13 undef = .pointer (some ⟨G13, 0, none⟩)) (sl14 : a0.tmps.getD 14 undef = .int .i64 0) (sl18 : a0.tmps.getD 18 undef = .bool false) (sl19 : a0.tmps.getD 19 undef = .pointer (some ⟨G19, 0, none⟩)) (sl20 : a0.tmps.getD 20 undef = .bool true)
    (fin : ∀ (vals : Nat → Value) (w1 : World), Below w.heap.size w w1 → (IsV (.bool false)) (vals 33) w1 → Q .normal (putD vals [104, 105, 106, 107, 108, 109, 110, 111, 112, 113, 114, 115, 116, 117, 118, 119, 120, 121, 122, 123, 124, 125, 126, 127, 128, 129, 130, 131, 132, 133, 134, 135, 136, 137] 0 a0) w1) :
    (Code.region 16 (regIn Try.f3 16) true).wp Try.prog Q a0 w := by
  refine region_by (G := fun w w1 => Below w.heap.size w w1) [IsV (.int .i64 0),
    IsV (.bool false),
    IsV (.bool false),
    IsV (.pointer (some ⟨G13, 0, none⟩)),
    IsV (.bool false),
    IsV (.bool false),
    IsV (.bool false),
    IsV (.bool false),
    IsV (.bool false),
    IsV (.pointer (some ⟨G13, 1, none⟩)),
    IsV (.bool true),
    IsV (.bool true),
    IsV (.bool false),
    IsV (.bool false),
    IsV (.bool false),
    IsV (.bool false),
    IsV (.bool false),
    IsV undef,
    IsV undef,
    IsV undef,
    IsV undef,
    IsV undef,
    IsV (.bool false),
    IsV (.bool false),
    IsV (.bool false),
    IsV (.bool true),
    IsV (.bool true),
    IsV (.pointer (some ⟨G12, 7, none⟩)),
    IsV (.agg #[.int .u64 (U64 b.ep), .int .i64 b.s, .int .i64 b.l, .int .i64 b.n, .int .i64 b.sp, .int .i64 b.wd, .int .u64 (U64 b.lg)]),
    IsV (.agg #[.int .u64 (U64 b.ep), .int .i64 b.s, .int .i64 b.l, .int .i64 b.n, .int .i64 b.sp, .int .i64 b.wd, .int .u64 (U64 b.lg)]),
    IsV (.agg #[.int .u64 (U64 b.ep), .int .i64 b.s, .int .i64 b.l, .int .i64 b.n, .int .i64 b.sp, .int .i64 b.wd, .int .u64 (U64 b.lg)]),
    IsV (.bool false),
    IsV (.bool false),
    IsV (.bool false)]
    [104, 105, 106, 107, 108, 109, 110, 111, 112, 113, 114, 115, 116, 117, 118, 119, 120, 121, 122, 123, 124, 125, 126, 127, 128, 129, 130, 131, 132, 133, 134, 135, 136, 137] (by kernel_rfl) (Gw.drew _) Gw.trans (by rw [hsz]; kernel_rfl) (by kernel_rfl) ?_ ?_ ?_
  · intro f hf
    simp only [List.mem_cons, List.not_mem_nil, or_false] at hf
    rcases hf with rfl | rfl | rfl | rfl | rfl | rfl | rfl | rfl | rfl | rfl | rfl | rfl | rfl | rfl | rfl | rfl | rfl | rfl | rfl | rfl | rfl | rfl | rfl | rfl | rfl | rfl | rfl | rfl | rfl | rfl | rfl | rfl | rfl | rfl <;> intro v a b h g <;> first | exact IsV.mono h
  · refine ⟨?_, ?_, ?_, ?_, ?_, ?_, ?_, ?_, ?_, ?_, ?_, ?_, ?_, ?_, ?_, ?_, ?_, ?_, ?_, ?_, ?_, ?_, ?_, ?_, ?_, ?_, ?_, ?_, ?_, ?_, ?_, ?_, ?_, ?_, trivial⟩
    · exact owes_mv 14 (by kernel_rfl) (by kernel_rfl) (by kernel_rfl) sl14 (fun _ => rfl)
    · refine owes_v (Go.Op.binOp Go.BinOp.neq 3 (Go.Operand.tmp 104) (Go.Operand.const (Go.Value.int Go.IntKind.i64 0)) 3) 4 [0] (by kernel_rfl) (by kernel_rfl) (by kernel_rfl) rfl fun vals w1 ρ hG hF hρ hcst hfun => ?_
      have e104 : ρ (.tmp 104) = .int .i64 0 := ((hρ 104).trans (slotJ [0] (by rw [hsz]; decide) (by kernel_rfl))).trans (hF 0 (by decide))
      clear hρ hF hfun sl12 sl13 sl14 sl18 sl19 sl20 fin
      exact opv_val (by go_simp <;> rfl) ⟨gw_self _, rfl⟩
    · exact owes_mvj 1 105 (by kernel_rfl) (by kernel_rfl) (by kernel_rfl) (by kernel_rfl) (by rw [hsz]; decide) (fun v w h => h)
    · refine owes_vt 2 false (Go.Op.indexAddr 34 (Go.Operand.tmp 13) (Go.Operand.const (Go.Value.int Go.IntKind.i64 0))) 0 [] (by kernel_rfl) (by kernel_rfl) (by kernel_rfl) (fun _ _ h => h) (by rw [hsz]; kernel_rfl) (by kernel_rfl) rfl fun vals w1 ρ hG hF hρ hcst hfun => ?_
      have e13 : ρ (.tmp 13) = .pointer (some ⟨G13, 0, none⟩) := ((hρ 13).trans (slotO [] (by kernel_rfl))).trans sl13
      clear hρ hF hfun sl12 sl13 sl14 sl18 sl19 sl20 fin
      exact opv_val (by go_simp <;> rfl) ⟨gw_self _, rfl⟩
    · refine owes_vt 2 false (Go.Op.load 4 (Go.Operand.tmp 107)) 4 [3] (by kernel_rfl) (by kernel_rfl) (by kernel_rfl) (fun _ _ h => h) (by rw [hsz]; kernel_rfl) (by kernel_rfl) rfl fun vals w1 ρ hG hF hρ hcst hfun => ?_
      have e107 : ρ (.tmp 107) = .pointer (some ⟨G13, 0, none⟩) := ((hρ 107).trans (slotJ [3] (by rw [hsz]; decide) (by kernel_rfl))).trans (hF 3 (by decide))
      have k0 : w1.cell? ⟨G13, 0, none⟩ = some (.bool false) := (H13.out.below hG H13.out.lt).cell 0
      clear hρ hF hcst hfun sl12 sl13 sl14 sl18 sl19 sl20 fin
      exact opv_val (by go_simp <;> rfl) ⟨gw_self _, rfl⟩
    · refine owes_vt 2 false (Go.Op.move (Go.Operand.tmp 18)) 4 [] (by kernel_rfl) (by kernel_rfl) (by kernel_rfl) (fun _ _ h => h) (by rw [hsz]; kernel_rfl) (by kernel_rfl) rfl fun vals w1 ρ hG hF hρ hcst hfun => ?_
      have e18 : ρ (.tmp 18) = .bool false := ((hρ 18).trans (slotO [] (by kernel_rfl))).trans sl18
      clear hρ hF hcst hfun sl12 sl13 sl14 sl18 sl19 sl20 fin
      exact opv_val (by go_simp <;> rfl) ⟨gw_self _, rfl⟩
    · refine owes_vt 2 false (Go.Op.binOp Go.BinOp.neq 4 (Go.Operand.tmp 108) (Go.Operand.tmp 109) 4) 4 [4, 5] (by kernel_rfl) (by kernel_rfl) (by kernel_rfl) (fun _ _ h => h) (by rw [hsz]; kernel_rfl) (by kernel_rfl) rfl fun vals w1 ρ hG hF hρ hcst hfun => ?_
      have e108 : ρ (.tmp 108) = .bool false := ((hρ 108).trans (slotJ [4, 5] (by rw [hsz]; decide) (by kernel_rfl))).trans (hF 4 (by decide))
      have e109 : ρ (.tmp 109) = .bool false := ((hρ 109).trans (slotJ [4, 5] (by rw [hsz]; decide) (by kernel_rfl))).trans (hF 5 (by decide))
      clear hρ hF hcst hfun sl12 sl13 sl14 sl18 sl19 sl20 fin
      exact opv_val (by go_simp <;> rfl) ⟨gw_self _, rfl⟩
    · refine owes_v (Go.Op.pick (Go.Operand.tmp 106) (Go.Operand.const (Go.Value.bool true)) (Go.Operand.tmp 110)) 4 [2, 6] (by kernel_rfl) (by kernel_rfl) (by kernel_rfl) rfl fun vals w1 ρ hG hF hρ hcst hfun => ?_
      have e106 : ρ (.tmp 106) = .bool false := ((hρ 106).trans (slotJ [2, 6] (by rw [hsz]; decide) (by kernel_rfl))).trans (hF 2 (by decide))
      have e110 : ρ (.tmp 110) = .bool false := ((hρ 110).trans (slotJ [2, 6] (by rw [hsz]; decide) (by kernel_rfl))).trans (hF 6 (by decide))
      clear hρ hF hfun sl12 sl13 sl14 sl18 sl19 sl20 fin
      exact opv_val (by go_simp <;> rfl) ⟨gw_self _, rfl⟩
    · exact owes_mvj 7 111 (by kernel_rfl) (by kernel_rfl) (by kernel_rfl) (by kernel_rfl) (by rw [hsz]; decide) (fun v w h => h)
    · refine owes_vt 8 false (Go.Op.indexAddr 34 (Go.Operand.tmp 13) (Go.Operand.const (Go.Value.int Go.IntKind.i64 1))) 0 [] (by kernel_rfl) (by kernel_rfl) (by kernel_rfl) (fun _ _ h => h) (by rw [hsz]; kernel_rfl) (by kernel_rfl) rfl fun vals w1 ρ hG hF hρ hcst hfun => ?_
      have e13 : ρ (.tmp 13) = .pointer (some ⟨G13, 0, none⟩) := ((hρ 13).trans (slotO [] (by kernel_rfl))).trans sl13
      clear hρ hF hfun sl12 sl13 sl14 sl18 sl19 sl20 fin
      exact opv_val (by go_simp <;> rfl) ⟨gw_self _, rfl⟩
    · refine owes_vt 8 false (Go.Op.load 4 (Go.Operand.tmp 113)) 4 [9] (by kernel_rfl) (by kernel_rfl) (by kernel_rfl) (fun _ _ h => h) (by rw [hsz]; kernel_rfl) (by kernel_rfl) rfl fun vals w1 ρ hG hF hρ hcst hfun => ?_
      have e113 : ρ (.tmp 113) = .pointer (some ⟨G13, 1, none⟩) := ((hρ 113).trans (slotJ [9] (by rw [hsz]; decide) (by kernel_rfl))).trans (hF 9 (by decide))
      have k0 : w1.cell? ⟨G13, 1, none⟩ = some (.bool true) := (H13.out.below hG H13.out.lt).cell 1
      clear hρ hF hcst hfun sl12 sl13 sl14 sl18 sl19 sl20 fin
      exact opv_val (by go_simp <;> rfl) ⟨gw_self _, rfl⟩
    · refine owes_vt 8 false (Go.Op.move (Go.Operand.tmp 20)) 4 [] (by kernel_rfl) (by kernel_rfl) (by kernel_rfl) (fun _ _ h => h) (by rw [hsz]; kernel_rfl) (by kernel_rfl) rfl fun vals w1 ρ hG hF hρ hcst hfun => ?_
      have e20 : ρ (.tmp 20) = .bool true := ((hρ 20).trans (slotO [] (by kernel_rfl))).trans sl20
      clear hρ hF hcst hfun sl12 sl13 sl14 sl18 sl19 sl20 fin
      exact opv_val (by go_simp <;> rfl) ⟨gw_self _, rfl⟩
    · refine owes_vt 8 false (Go.Op.binOp Go.BinOp.neq 4 (Go.Operand.tmp 114) (Go.Operand.tmp 115) 4) 4 [10, 11] (by kernel_rfl) (by kernel_rfl) (by kernel_rfl) (fun _ _ h => h) (by rw [hsz]; kernel_rfl) (by kernel_rfl) rfl fun vals w1 ρ hG hF hρ hcst hfun => ?_
      have e114 : ρ (.tmp 114) = .bool true := ((hρ 114).trans (slotJ [10, 11] (by rw [hsz]; decide) (by kernel_rfl))).trans (hF 10 (by decide))
      have e115 : ρ (.tmp 115) = .bool true := ((hρ 115).trans (slotJ [10, 11] (by rw [hsz]; decide) (by kernel_rfl))).trans (hF 11 (by decide))
      clear hρ hF hcst hfun sl12 sl13 sl14 sl18 sl19 sl20 fin
      exact opv_val (by go_simp <;> rfl) ⟨gw_self _, rfl⟩
    · refine owes_v (Go.Op.pick (Go.Operand.tmp 112) (Go.Operand.const (Go.Value.bool true)) (Go.Operand.tmp 116)) 4 [8, 12] (by kernel_rfl) (by kernel_rfl) (by kernel_rfl) rfl fun vals w1 ρ hG hF hρ hcst hfun => ?_
      have e112 : ρ (.tmp 112) = .bool false := ((hρ 112).trans (slotJ [8, 12] (by rw [hsz]; decide) (by kernel_rfl))).trans (hF 8 (by decide))
      have e116 : ρ (.tmp 116) = .bool false := ((hρ 116).trans (slotJ [8, 12] (by rw [hsz]; decide) (by kernel_rfl))).trans (hF 12 (by decide))
      clear hρ hF hfun sl12 sl13 sl14 sl18 sl19 sl20 fin
      exact opv_val (by go_simp <;> rfl) ⟨gw_self _, rfl⟩
    · exact owes_mvj 13 117 (by kernel_rfl) (by kernel_rfl) (by kernel_rfl) (by kernel_rfl) (by rw [hsz]; decide) (fun v w h => h)
    · refine owes_vt 14 false (Go.Op.move (Go.Operand.tmp 18)) 4 [] (by kernel_rfl) (by kernel_rfl) (by kernel_rfl) (fun _ _ h => h) (by rw [hsz]; kernel_rfl) (by kernel_rfl) rfl fun vals w1 ρ hG hF hρ hcst hfun => ?_
      have e18 : ρ (.tmp 18) = .bool false := ((hρ 18).trans (slotO [] (by kernel_rfl))).trans sl18
      clear hρ hF hcst hfun sl12 sl13 sl14 sl18 sl19 sl20 fin
      exact opv_val (by go_simp <;> rfl) ⟨gw_self _, rfl⟩
    · refine owes_vt 14 false (Go.Op.move (Go.Operand.tmp 119)) 4 [15] (by kernel_rfl) (by kernel_rfl) (by kernel_rfl) (fun _ _ h => h) (by rw [hsz]; kernel_rfl) (by kernel_rfl) rfl fun vals w1 ρ hG hF hρ hcst hfun => ?_
      have e119 : ρ (.tmp 119) = .bool false := ((hρ 119).trans (slotJ [15] (by rw [hsz]; decide) (by kernel_rfl))).trans (hF 15 (by decide))
      clear hρ hF hcst hfun sl12 sl13 sl14 sl18 sl19 sl20 fin
      exact opv_val (by go_simp <;> rfl) ⟨gw_self _, rfl⟩
    · exact owes_no 16 false true (by decide) (by kernel_rfl) (by kernel_rfl) (fun _ _ h => h) (by rw [hsz]; kernel_rfl) (fun _ => rfl)
    · exact owes_no 16 false true (by decide) (by kernel_rfl) (by kernel_rfl) (fun _ _ h => h) (by rw [hsz]; kernel_rfl) (fun _ => rfl)
    · exact owes_no 16 false true (by decide) (by kernel_rfl) (by kernel_rfl) (fun _ _ h => h) (by rw [hsz]; kernel_rfl) (fun _ => rfl)
    · exact owes_no 16 false true (by decide) (by kernel_rfl) (by kernel_rfl) (fun _ _ h => h) (by rw [hsz]; kernel_rfl) (fun _ => rfl)
    · exact owes_no 16 false true (by decide) (by kernel_rfl) (by kernel_rfl) (fun _ _ h => h) (by rw [hsz]; kernel_rfl) (fun _ => rfl)
    · refine owes_vt 14 false (Go.Op.pick (Go.Operand.tmp 120) (Go.Operand.tmp 125) (Go.Operand.const (Go.Value.bool false))) 4 [16, 21] (by kernel_rfl) (by kernel_rfl) (by kernel_rfl) (fun _ _ h => h) (by rw [hsz]; kernel_rfl) (by kernel_rfl) rfl fun vals w1 ρ hG hF hρ hcst hfun => ?_
      have e120 : ρ (.tmp 120) = .bool false := ((hρ 120).trans (slotJ [16, 21] (by rw [hsz]; decide) (by kernel_rfl))).trans (hF 16 (by decide))
      have e125 : ρ (.tmp 125) = undef := ((hρ 125).trans (slotJ [16, 21] (by rw [hsz]; decide) (by kernel_rfl))).trans (hF 21 (by decide))
      clear hρ hF hfun sl12 sl13 sl14 sl18 sl19 sl20 fin
      exact opv_val (by go_simp <;> rfl) ⟨gw_self _, rfl⟩
    · refine owes_v (Go.Op.pick (Go.Operand.tmp 118) (Go.Operand.const (Go.Value.bool true)) (Go.Operand.tmp 126)) 4 [14, 22] (by kernel_rfl) (by kernel_rfl) (by kernel_rfl) rfl fun vals w1 ρ hG hF hρ hcst hfun => ?_
      have e118 : ρ (.tmp 118) = .bool false := ((hρ 118).trans (slotJ [14, 22] (by rw [hsz]; decide) (by kernel_rfl))).trans (hF 14 (by decide))
      have e126 : ρ (.tmp 126) = .bool false := ((hρ 126).trans (slotJ [14, 22] (by rw [hsz]; decide) (by kernel_rfl))).trans (hF 22 (by decide))
      clear hρ hF hfun sl12 sl13 sl14 sl18 sl19 sl20 fin
      exact opv_val (by go_simp <;> rfl) ⟨gw_self _, rfl⟩
    · exact owes_mvj 23 127 (by kernel_rfl) (by kernel_rfl) (by kernel_rfl) (by kernel_rfl) (by rw [hsz]; decide) (fun v w h => h)
    · refine owes_vt 24 false (Go.Op.move (Go.Operand.tmp 20)) 4 [] (by kernel_rfl) (by kernel_rfl) (by kernel_rfl) (fun _ _ h => h) (by rw [hsz]; kernel_rfl) (by kernel_rfl) rfl fun vals w1 ρ hG hF hρ hcst hfun => ?_
      have e20 : ρ (.tmp 20) = .bool true := ((hρ 20).trans (slotO [] (by kernel_rfl))).trans sl20
      clear hρ hF hcst hfun sl12 sl13 sl14 sl18 sl19 sl20 fin
      exact opv_val (by go_simp <;> rfl) ⟨gw_self _, rfl⟩
    · refine owes_vt 24 false (Go.Op.move (Go.Operand.tmp 129)) 4 [25] (by kernel_rfl) (by kernel_rfl) (by kernel_rfl) (fun _ _ h => h) (by rw [hsz]; kernel_rfl) (by kernel_rfl) rfl fun vals w1 ρ hG hF hρ hcst hfun => ?_
      have e129 : ρ (.tmp 129) = .bool true := ((hρ 129).trans (slotJ [25] (by rw [hsz]; decide) (by kernel_rfl))).trans (hF 25 (by decide))
      clear hρ hF hcst hfun sl12 sl13 sl14 sl18 sl19 sl20 fin
      exact opv_val (by go_simp <;> rfl) ⟨gw_self _, rfl⟩
    · refine owes_vt 26 true (Go.Op.indexAddr 33 (Go.Operand.tmp 12) (Go.Operand.const (Go.Value.int Go.IntKind.i64 1))) 0 [] (by kernel_rfl) (by kernel_rfl) (by kernel_rfl) (fun _ _ h => h) (by rw [hsz]; kernel_rfl) (by kernel_rfl) rfl fun vals w1 ρ hG hF hρ hcst hfun => ?_
      have e12 : ρ (.tmp 12) = .pointer (some ⟨G12, 0, none⟩) := ((hρ 12).trans (slotO [] (by kernel_rfl))).trans sl12
      clear hρ hF hfun sl12 sl13 sl14 sl18 sl19 sl20 fin
      exact opv_val (by go_simp <;> rfl) ⟨gw_self _, rfl⟩
    · refine owes_vt 26 true (Go.Op.load 32 (Go.Operand.tmp 131)) 32 [27] (by kernel_rfl) (by kernel_rfl) (by kernel_rfl) (fun _ _ h => h) (by rw [hsz]; kernel_rfl) (by kernel_rfl) rfl fun vals w1 ρ hG hF hρ hcst hfun => ?_
      have e131 : ρ (.tmp 131) = .pointer (some ⟨G12, 7, none⟩) := ((hρ 131).trans (slotJ [27] (by rw [hsz]; decide) (by kernel_rfl))).trans (hF 27 (by decide))
      obtain ⟨⟨x0, x1, x2, x3, x4, x5, x6⟩, x7, x8, x9, x10, x11, x12, x13⟩ := (H12.out.below hG H12.out.lt).cut7
      clear hρ hF hcst hfun sl12 sl13 sl14 sl18 sl19 sl20 fin
      exact opv_val (by go_simp <;> rfl) ⟨gw_self _, rfl⟩
    · refine owes_vt 26 true (Go.Op.call { callee := Go.Callee.value (Go.Operand.func 12), args := #[Go.Operand.tmp 132], argTypes := #[32] }) 41 [28] (by kernel_rfl) (by kernel_rfl) (by kernel_rfl) (fun _ _ h => h) (by rw [hsz]; kernel_rfl) (by kernel_rfl) rfl fun vals w1 ρ hG hF hρ hcst hfun => ?_
      have e132 : ρ (.tmp 132) = .agg #[.int .u64 (U64 b.ep), .int .i64 b.s, .int .i64 b.l, .int .i64 b.n, .int .i64 b.sp, .int .i64 b.wd, .int .u64 (U64 b.lg)] := ((hρ 132).trans (slotJ [28] (by rw [hsz]; decide) (by kernel_rfl))).trans (hF 28 (by decide))
      clear hρ hF hcst sl12 sl13 sl14 sl18 sl19 sl20 fin
      exact opv_enter (by go_simp <;> rfl) (of_ret7 (of7_c b w1))
    · refine owes_vt 26 true (Go.Op.load 41 (Go.Operand.tmp 19)) 41 [] (by kernel_rfl) (by kernel_rfl) (by kernel_rfl) (fun _ _ h => h) (by rw [hsz]; kernel_rfl) (by kernel_rfl) rfl fun vals w1 ρ hG hF hρ hcst hfun => ?_
      have e19 : ρ (.tmp 19) = .pointer (some ⟨G19, 0, none⟩) := ((hρ 19).trans (slotO [] (by kernel_rfl))).trans sl19
      have k9 := H19.out.below hG H19.out.lt
      unfold Sb.cells at k9
      obtain ⟨x0, x1, x2, x3, x4, x5, x6⟩ := k9.seven
      clear hρ hF hcst hfun sl12 sl13 sl14 sl18 sl19 sl20 fin
      exact opv_val (by go_simp <;> rfl) ⟨gw_self _, rfl⟩
    · refine owes_vt 26 true (Go.Op.binOp Go.BinOp.neq 41 (Go.Operand.tmp 133) (Go.Operand.tmp 134) 41) 4 [29, 30] (by kernel_rfl) (by kernel_rfl) (by kernel_rfl) (fun _ _ h => h) (by rw [hsz]; kernel_rfl) (by kernel_rfl) rfl fun vals w1 ρ hG hF hρ hcst hfun => ?_
      have e133 : ρ (.tmp 133) = .agg #[.int .u64 (U64 b.ep), .int .i64 b.s, .int .i64 b.l, .int .i64 b.n, .int .i64 b.sp, .int .i64 b.wd, .int .u64 (U64 b.lg)] := ((hρ 133).trans (slotJ [29, 30] (by rw [hsz]; decide) (by kernel_rfl))).trans (hF 29 (by decide))
      have e134 : ρ (.tmp 134) = .agg #[.int .u64 (U64 b.ep), .int .i64 b.s, .int .i64 b.l, .int .i64 b.n, .int .i64 b.sp, .int .i64 b.wd, .int .u64 (U64 b.lg)] := ((hρ 134).trans (slotJ [29, 30] (by rw [hsz]; decide) (by kernel_rfl))).trans (hF 30 (by decide))
      have q := eqR7 b.ep b.lg b.s b.l b.n b.sp b.wd
      clear hρ hF hcst hfun sl12 sl13 sl14 sl18 sl19 sl20 fin
      exact opv_val (by go_simp <;> rfl) ⟨gw_self _, rfl⟩
    · refine owes_vt 24 false (Go.Op.pick (Go.Operand.tmp 130) (Go.Operand.tmp 135) (Go.Operand.const (Go.Value.bool false))) 4 [26, 31] (by kernel_rfl) (by kernel_rfl) (by kernel_rfl) (fun _ _ h => h) (by rw [hsz]; kernel_rfl) (by kernel_rfl) rfl fun vals w1 ρ hG hF hρ hcst hfun => ?_
      have e130 : ρ (.tmp 130) = .bool true := ((hρ 130).trans (slotJ [26, 31] (by rw [hsz]; decide) (by kernel_rfl))).trans (hF 26 (by decide))
      have e135 : ρ (.tmp 135) = .bool false := ((hρ 135).trans (slotJ [26, 31] (by rw [hsz]; decide) (by kernel_rfl))).trans (hF 31 (by decide))
      clear hρ hF hfun sl12 sl13 sl14 sl18 sl19 sl20 fin
      exact opv_val (by go_simp <;> rfl) ⟨gw_self _, rfl⟩
    · refine owes_v (Go.Op.pick (Go.Operand.tmp 128) (Go.Operand.const (Go.Value.bool true)) (Go.Operand.tmp 136)) 4 [24, 32] (by kernel_rfl) (by kernel_rfl) (by kernel_rfl) rfl fun vals w1 ρ hG hF hρ hcst hfun => ?_
      have e128 : ρ (.tmp 128) = .bool false := ((hρ 128).trans (slotJ [24, 32] (by rw [hsz]; decide) (by kernel_rfl))).trans (hF 24 (by decide))
      have e136 : ρ (.tmp 136) = .bool false := ((hρ 136).trans (slotJ [24, 32] (by rw [hsz]; decide) (by kernel_rfl))).trans (hF 32 (by decide))
      clear hρ hF hfun sl12 sl13 sl14 sl18 sl19 sl20 fin
      exact opv_val (by go_simp <;> rfl) ⟨gw_self _, rfl⟩
  · intro vals w1 hG hF
    exact fin vals w1 hG (hF 33 (by decide +kernel))
theorem sb16_yy (Q : Exit → Act → World → Prop) (a0 : Act) (w : World) (G12 G13 G17 G19 : Nat) (a b : Sb) (H12 : Hid (Bk w G12 33 (c14 a b))) (H13 : Hid (Bk w G13 34 #[.bool true, .bool true])) (H17 : Hid (Bk w G17 41 a.cells)) (H19 : Hid (Bk w G19 41 b.cells)) (hsz : a0.tmps.size = 171) (sl12 : a0.tmps.getD 12 undef = .pointer (some ⟨G12, 0, none⟩)) (sl13 : a0.tmps.getD 13 undef = .pointer (some ⟨G13, 0, none⟩)) (sl14 : a0.tmps.getD 14 undef = .int .i64 0) (sl17 : a0.tmps.getD 17 undef = .pointer (some ⟨G17, 0, none⟩)) (sl18 : a0.tmps.getD 18 undef = .bool true) (sl19 : a0.tmps.getD 19 undef = .pointer (some ⟨G19, 0, none⟩)) (sl20 : a0.tmps.getD 20 undef = .bool true)
    (fin : ∀ (vals : Nat → Value) (w1 : World), Below w.heap.size w w1 → (IsV (.bool false)) (vals 33) w1 → Q .normal (putD vals [104, 105, 106, 107, 108, 109, 110, 111, 112, 113, 114, 115, 116, 117, 118, 119, 120, 121, 122, 123, 124, 125, 126, 127, 128, 129, 130, 131, 132, 133, 134, 135, 136, 137] 0 a0) w1) :
    (Code.region 16 (regIn Try.f3 16) true).wp Try.prog Q a0 w := by
  refine region_by (G := fun w w1 => Below w.heap.size w w1) [IsV (.int .i64 0),
    IsV (.bool false),
    IsV (.bool false),
    IsV (.pointer (some ⟨G13, 0, none⟩)),
    IsV (.bool true),
    IsV (.bool true),
    IsV (.bool false),
    IsV (.bool false),
    IsV (.bool false),
    IsV (.pointer (some ⟨G13, 1, none⟩)),
    IsV (.bool true),
    IsV (.bool true),
    IsV (.bool false),
    IsV (.bool false),
    IsV (.bool false),
    IsV (.bool true),
    IsV (.bool true),
    IsV (.pointer (some ⟨G12, 0, none⟩)),
    IsV (.agg #[.int .u64 (U64 a.ep), .int .i64 a.s, .int .i64 a.l, .int .i64 a.n, .int .i64 a.sp, .int .i64 a.wd, .int .u64 (U64 a.lg)]),
    IsV (.agg #[.int .u64 (U64 a.ep), .int .i64 a.s, .int .i64 a.l, .int .i64 a.n, .int .i64 a.sp, .int .i64 a.wd, .int .u64 (U64 a.lg)]),
    IsV (.agg #[.int .u64 (U64 a.ep), .int .i64 a.s, .int .i64 a.l, .int .i64 a.n, .int .i64 a.sp, .int .i64 a.wd, .int .u64 (U64 a.lg)]),
    IsV (.bool false),
    IsV (.bool false),
    IsV (.bool false),
    IsV (.bool false),
    IsV (.bool true),
    IsV (.bool true),
    IsV (.pointer (some ⟨G12, 7, none⟩)),
    IsV (.agg #[.int .u64 (U64 b.ep), .int .i64 b.s, .int .i64 b.l, .int .i64 b.n, .int .i64 b.sp, .int .i64 b.wd, .int .u64 (U64 b.lg)]),
    IsV (.agg #[.int .u64 (U64 b.ep), .int .i64 b.s, .int .i64 b.l, .int .i64 b.n, .int .i64 b.sp, .int .i64 b.wd, .int .u64 (U64 b.lg)]),
    IsV (.agg #[.int .u64 (U64 b.ep), .int .i64 b.s, .int .i64 b.l, .int .i64 b.n, .int .i64 b.sp, .int .i64 b.wd, .int .u64 (U64 b.lg)]),
    IsV (.bool false),
    IsV (.bool false),
    IsV (.bool false)]
    [104, 105, 106, 107, 108, 109, 110, 111, 112, 113, 114, 115, 116, 117, 118, 119, 120, 121, 122, 123, 124, 125, 126, 127, 128, 129, 130, 131, 132, 133, 134, 135, 136, 137] (by kernel_rfl) (Gw.drew _) Gw.trans (by rw [hsz]; kernel_rfl) (by kernel_rfl) ?_ ?_ ?_
  · intro f hf
    simp only [List.mem_cons, List.not_mem_nil, or_false] at hf
    rcases hf with rfl | rfl | rfl | rfl | rfl | rfl | rfl | rfl | rfl | rfl | rfl | rfl | rfl | rfl | rfl | rfl | rfl | rfl | rfl | rfl | rfl | rfl | rfl | rfl | rfl | rfl | rfl | rfl | rfl | rfl | rfl | rfl | rfl | rfl <;> intro v a b h g <;> first | exact IsV.mono h
  · refine ⟨?_, ?_, ?_, ?_, ?_, ?_, ?_, ?_, ?_, ?_, ?_, ?_, ?_, ?_, ?_, ?_, ?_, ?_, ?_, ?_, ?_, ?_, ?_, ?_, ?_, ?_, ?_, ?_, ?_, ?_, ?_, ?_, ?_, ?_, trivial⟩
    · exact owes_mv 14 (by kernel_rfl) (by kernel_rfl) (by kernel_rfl) sl14 (fun _ => rfl)
    · refine owes_v (Go.Op.binOp Go.BinOp.neq 3 (Go.Operand.tmp 104) (Go.Operand.const (Go.Value.int Go.IntKind.i64 0)) 3) 4 [0] (by kernel_rfl) (by kernel_rfl) (by kernel_rfl) rfl fun vals w1 ρ hG hF hρ hcst hfun => ?_
      have e104 : ρ (.tmp 104) = .int .i64 0 := ((hρ 104).trans (slotJ [0] (by rw [hsz]; decide) (by kernel_rfl))).trans (hF 0 (by decide))
      clear hρ hF hfun sl12 sl13 sl14 sl17 sl18 sl19 sl20 fin
      exact opv_val (by go_simp <;> rfl) ⟨gw_self _, rfl⟩
    · exact owes_mvj 1 105 (by kernel_rfl) (by kernel_rfl) (by kernel_rfl) (by kernel_rfl) (by rw [hsz]; decide) (fun v w h => h)
    · refine owes_vt 2 false (Go.Op.indexAddr 34 (Go.Operand.tmp 13) (Go.Operand.const (Go.Value.int Go.IntKind.i64 0))) 0 [] (by kernel_rfl) (by kernel_rfl) (by kernel_rfl) (fun _ _ h => h) (by rw [hsz]; kernel_rfl) (by kernel_rfl) rfl fun vals w1 ρ hG hF hρ hcst hfun => ?_
      have e13 : ρ (.tmp 13) = .pointer (some ⟨G13, 0, none⟩) := ((hρ 13).trans (slotO [] (by kernel_rfl))).trans sl13
      clear hρ hF hfun sl12 sl13 sl14 sl17 sl18 sl19 sl20 fin
      exact opv_val (by go_simp <;> rfl) ⟨gw_self _, rfl⟩
    · refine owes_vt 2 false (Go.Op.load 4 (Go.Operand.tmp 107)) 4 [3] (by kernel_rfl) (by kernel_rfl) (by kernel_rfl) (fun _ _ h => h) (by rw [hsz]; kernel_rfl) (by kernel_rfl) rfl fun vals w1 ρ hG hF hρ hcst hfun => ?_
      have e107 : ρ (.tmp 107) = .pointer (some ⟨G13, 0, none⟩) := ((hρ 107).trans (slotJ [3] (by rw [hsz]; decide) (by kernel_rfl))).trans (hF 3 (by decide))
      have k0 : w1.cell? ⟨G13, 0, none⟩ = some (.bool true) := (H13.out.below hG H13.out.lt).cell 0
      clear hρ hF hcst hfun sl12 sl13 sl14 sl17 sl18 sl19 sl20 fin
      exact opv_val (by go_simp <;> rfl) ⟨gw_self _, rfl⟩
    · refine owes_vt 2 false (Go.Op.move (Go.Operand.tmp 18)) 4 [] (by kernel_rfl) (by kernel_rfl) (by kernel_rfl) (fun _ _ h => h) (by rw [hsz]; kernel_rfl) (by kernel_rfl) rfl fun vals w1 ρ hG hF hρ hcst hfun => ?_
      have e18 : ρ (.tmp 18) = .bool true := ((hρ 18).trans (slotO [] (by kernel_rfl))).trans sl18
      clear hρ hF hcst hfun sl12 sl13 sl14 sl17 sl18 sl19 sl20 fin
      exact opv_val (by go_simp <;> rfl) ⟨gw_self _, rfl⟩
    · refine owes_vt 2 false (Go.Op.binOp Go.BinOp.neq 4 (Go.Operand.tmp 108) (Go.Operand.tmp 109) 4) 4 [4, 5] (by kernel_rfl) (by kernel_rfl) (by kernel_rfl) (fun _ _ h => h) (by rw [hsz]; kernel_rfl) (by kernel_rfl) rfl fun vals w1 ρ hG hF hρ hcst hfun => ?_
      have e108 : ρ (.tmp 108) = .bool true := ((hρ 108).trans (slotJ [4, 5] (by rw [hsz]; decide) (by kernel_rfl))).trans (hF 4 (by decide))
      have e109 : ρ (.tmp 109) = .bool true := ((hρ 109).trans (slotJ [4, 5] (by rw [hsz]; decide) (by kernel_rfl))).trans (hF 5 (by decide))
      clear hρ hF hcst hfun sl12 sl13 sl14 sl17 sl18 sl19 sl20 fin
      exact opv_val (by go_simp <;> rfl) ⟨gw_self _, rfl⟩
    · refine owes_v (Go.Op.pick (Go.Operand.tmp 106) (Go.Operand.const (Go.Value.bool true)) (Go.Operand.tmp 110)) 4 [2, 6] (by kernel_rfl) (by kernel_rfl) (by kernel_rfl) rfl fun vals w1 ρ hG hF hρ hcst hfun => ?_
      have e106 : ρ (.tmp 106) = .bool false := ((hρ 106).trans (slotJ [2, 6] (by rw [hsz]; decide) (by kernel_rfl))).trans (hF 2 (by decide))
      have e110 : ρ (.tmp 110) = .bool false := ((hρ 110).trans (slotJ [2, 6] (by rw [hsz]; decide) (by kernel_rfl))).trans (hF 6 (by decide))
      clear hρ hF hfun sl12 sl13 sl14 sl17 sl18 sl19 sl20 fin
      exact opv_val (by go_simp <;> rfl) ⟨gw_self _, rfl⟩
    · exact owes_mvj 7 111 (by kernel_rfl) (by kernel_rfl) (by kernel_rfl) (by kernel_rfl) (by rw [hsz]; decide) (fun v w h => h)
    · refine owes_vt 8 false (Go.Op.indexAddr 34 (Go.Operand.tmp 13) (Go.Operand.const (Go.Value.int Go.IntKind.i64 1))) 0 [] (by kernel_rfl) (by kernel_rfl) (by kernel_rfl) (fun _ _ h => h) (by rw [hsz]; kernel_rfl) (by kernel_rfl) rfl fun vals w1 ρ hG hF hρ hcst hfun => ?_
      have e13 : ρ (.tmp 13) = .pointer (some ⟨G13, 0, none⟩) := ((hρ 13).trans (slotO [] (by kernel_rfl))).trans sl13
      clear hρ hF hfun sl12 sl13 sl14 sl17 sl18 sl19 sl20 fin
      exact opv_val (by go_simp <;> rfl) ⟨gw_self _, rfl⟩
    · refine owes_vt 8 false (Go.Op.load 4 (Go.Operand.tmp 113)) 4 [9] (by kernel_rfl) (by kernel_rfl) (by kernel_rfl) (fun _ _ h => h) (by rw [hsz]; kernel_rfl) (by kernel_rfl) rfl fun vals w1 ρ hG hF hρ hcst hfun => ?_
      have e113 : ρ (.tmp 113) = .pointer (some ⟨G13, 1, none⟩) := ((hρ 113).trans (slotJ [9] (by rw [hsz]; decide) (by kernel_rfl))).trans (hF 9 (by decide))
      have k0 : w1.cell? ⟨G13, 1, none⟩ = some (.bool true) := (H13.out.below hG H13.out.lt).cell 1
      clear hρ hF hcst hfun sl12 sl13 sl14 sl17 sl18 sl19 sl20 fin
      exact opv_val (by go_simp <;> rfl) ⟨gw_self _, rfl⟩
    · refine owes_vt 8 false (Go.Op.move (Go.Operand.tmp 20)) 4 [] (by kernel_rfl) (by kernel_rfl) (by kernel_rfl) (fun _ _ h => h) (by rw [hsz]; kernel_rfl) (by kernel_rfl) rfl fun vals w1 ρ hG hF hρ hcst hfun => ?_
      have e20 : ρ (.tmp 20) = .bool true := ((hρ 20).trans (slotO [] (by kernel_rfl))).trans sl20
      clear hρ hF hcst hfun sl12 sl13 sl14 sl17 sl18 sl19 sl20 fin
      exact opv_val (by go_simp <;> rfl) ⟨gw_self _, rfl⟩
    · refine owes_vt 8 false (Go.Op.binOp Go.BinOp.neq 4 (Go.Operand.tmp 114) (Go.Operand.tmp 115) 4) 4 [10, 11] (by kernel_rfl) (by kernel_rfl) (by kernel_rfl) (fun _ _ h => h) (by rw [hsz]; kernel_rfl) (by kernel_rfl) rfl fun vals w1 ρ hG hF hρ hcst hfun => ?_
      have e114 : ρ (.tmp 114) = .bool true := ((hρ 114).trans (slotJ [10, 11] (by rw [hsz]; decide) (by kernel_rfl))).trans (hF 10 (by decide))
      have e115 : ρ (.tmp 115) = .bool true := ((hρ 115).trans (slotJ [10, 11] (by rw [hsz]; decide) (by kernel_rfl))).trans (hF 11 (by decide))
      clear hρ hF hcst hfun sl12 sl13 sl14 sl17 sl18 sl19 sl20 fin
      exact opv_val (by go_simp <;> rfl) ⟨gw_self _, rfl⟩
    · refine owes_v (Go.Op.pick (Go.Operand.tmp 112) (Go.Operand.const (Go.Value.bool true)) (Go.Operand.tmp 116)) 4 [8, 12] (by kernel_rfl) (by kernel_rfl) (by kernel_rfl) rfl fun vals w1 ρ hG hF hρ hcst hfun => ?_
      have e112 : ρ (.tmp 112) = .bool false := ((hρ 112).trans (slotJ [8, 12] (by rw [hsz]; decide) (by kernel_rfl))).trans (hF 8 (by decide))
      have e116 : ρ (.tmp 116) = .bool false := ((hρ 116).trans (slotJ [8, 12] (by rw [hsz]; decide) (by kernel_rfl))).trans (hF 12 (by decide))
      clear hρ hF hfun sl12 sl13 sl14 sl17 sl18 sl19 sl20 fin
      exact opv_val (by go_simp <;> rfl) ⟨gw_self _, rfl⟩
    · exact owes_mvj 13 117 (by kernel_rfl) (by kernel_rfl) (by kernel_rfl) (by kernel_rfl) (by rw [hsz]; decide) (fun v w h => h)
    · refine owes_vt 14 false (Go.Op.move (Go.Operand.tmp 18)) 4 [] (by kernel_rfl) (by kernel_rfl) (by kernel_rfl) (fun _ _ h => h) (by rw [hsz]; kernel_rfl) (by kernel_rfl) rfl fun vals w1 ρ hG hF hρ hcst hfun => ?_
      have e18 : ρ (.tmp 18) = .bool true := ((hρ 18).trans (slotO [] (by kernel_rfl))).trans sl18
      clear hρ hF hcst hfun sl12 sl13 sl14 sl17 sl18 sl19 sl20 fin
      exact opv_val (by go_simp <;> rfl) ⟨gw_self _, rfl⟩
    · refine owes_vt 14 false (Go.Op.move (Go.Operand.tmp 119)) 4 [15] (by kernel_rfl) (by kernel_rfl) (by kernel_rfl) (fun _ _ h => h) (by rw [hsz]; kernel_rfl) (by kernel_rfl) rfl fun vals w1 ρ hG hF hρ hcst hfun => ?_
      have e119 : ρ (.tmp 119) = .bool true := ((hρ 119).trans (slotJ [15] (by rw [hsz]; decide) (by kernel_rfl))).trans (hF 15 (by decide))
      clear hρ hF hcst hfun sl12 sl13 sl14 sl17 sl18 sl19 sl20 fin
      exact opv_val (by go_simp <;> rfl) ⟨gw_self _, rfl⟩
    · refine owes_vt 16 true (Go.Op.indexAddr 33 (Go.Operand.tmp 12) (Go.Operand.const (Go.Value.int Go.IntKind.i64 0))) 0 [] (by kernel_rfl) (by kernel_rfl) (by kernel_rfl) (fun _ _ h => h) (by rw [hsz]; kernel_rfl) (by kernel_rfl) rfl fun vals w1 ρ hG hF hρ hcst hfun => ?_
      have e12 : ρ (.tmp 12) = .pointer (some ⟨G12, 0, none⟩) := ((hρ 12).trans (slotO [] (by kernel_rfl))).trans sl12
      clear hρ hF hfun sl12 sl13 sl14 sl17 sl18 sl19 sl20 fin
      exact opv_val (by go_simp <;> rfl) ⟨gw_self _, rfl⟩
    · refine owes_vt 16 true (Go.Op.load 32 (Go.Operand.tmp 121)) 32 [17] (by kernel_rfl) (by kernel_rfl) (by kernel_rfl) (fun _ _ h => h) (by rw [hsz]; kernel_rfl) (by kernel_rfl) rfl fun vals w1 ρ hG hF hρ hcst hfun => ?_
      have e121 : ρ (.tmp 121) = .pointer (some ⟨G12, 0, none⟩) := ((hρ 121).trans (slotJ [17] (by rw [hsz]; decide) (by kernel_rfl))).trans (hF 17 (by decide))
      obtain ⟨⟨x0, x1, x2, x3, x4, x5, x6⟩, x7, x8, x9, x10, x11, x12, x13⟩ := (H12.out.below hG H12.out.lt).cut7
      clear hρ hF hcst hfun sl12 sl13 sl14 sl17 sl18 sl19 sl20 fin
      exact opv_val (by go_simp <;> rfl) ⟨gw_self _, rfl⟩
    · refine owes_vt 16 true (Go.Op.call { callee := Go.Callee.value (Go.Operand.func 12), args := #[Go.Operand.tmp 122], argTypes := #[32] }) 41 [18] (by kernel_rfl) (by kernel_rfl) (by kernel_rfl) (fun _ _ h => h) (by rw [hsz]; kernel_rfl) (by kernel_rfl) rfl fun vals w1 ρ hG hF hρ hcst hfun => ?_
      have e122 : ρ (.tmp 122) = .agg #[.int .u64 (U64 a.ep), .int .i64 a.s, .int .i64 a.l, .int .i64 a.n, .int .i64 a.sp, .int .i64 a.wd, .int .u64 (U64 a.lg)] := ((hρ 122).trans (slotJ [18] (by rw [hsz]; decide) (by kernel_rfl))).trans (hF 18 (by decide))
      clear hρ hF hcst sl12 sl13 sl14 sl17 sl18 sl19 sl20 fin
      exact opv_enter (by go_simp <;> rfl) (of_ret7 (of7_c a w1))
    · refine owes_vt 16 true (Go.Op.load 41 (Go.Operand.tmp 17)) 41 [] (by kernel_rfl) (by kernel_rfl) (by kernel_rfl) (fun _ _ h => h) (by rw [hsz]; kernel_rfl) (by kernel_rfl) rfl fun vals w1 ρ hG hF hρ hcst hfun => ?_
      have e17 : ρ (.tmp 17) = .pointer (some ⟨G17, 0, none⟩) := ((hρ 17).trans (slotO [] (by kernel_rfl))).trans sl17
      have k9 := H17.out.below hG H17.out.lt
      unfold Sb.cells at k9
      obtain ⟨x0, x1, x2, x3, x4, x5, x6⟩ := k9.seven
      clear hρ hF hcst hfun sl12 sl13 sl14 sl17 sl18 sl19 sl20 fin
      exact opv_val (by go_simp <;> rfl) ⟨gw_self _, rfl⟩
    · refine owes_vt 16 true (Go.Op.binOp Go.BinOp.neq 41 (Go.Operand.tmp 123) (Go.Operand.tmp 124) 41) 4 [19, 20] (by kernel_rfl) (by kernel_rfl) (by kernel_rfl) (fun _ _ h => h) (by rw [hsz]; kernel_rfl) (by kernel_rfl) rfl fun vals w1 ρ hG hF hρ hcst hfun => ?_
      have e123 : ρ (.tmp 123) = .agg #[.int .u64 (U64 a.ep), .int .i64 a.s, .int .i64 a.l, .int .i64 a.n, .int .i64 a.sp, .int .i64 a.wd, .int .u64 (U64 a.lg)] := ((hρ 123).trans (slotJ [19, 20] (by rw [hsz]; decide) (by kernel_rfl))).trans (hF 19 (by decide))
      have e124 : ρ (.tmp 124) = .agg #[.int .u64 (U64 a.ep), .int .i64 a.s, .int .i64 a.l, .int .i64 a.n, .int .i64 a.sp, .int .i64 a.wd, .int .u64 (U64 a.lg)] := ((hρ 124).trans (slotJ [19, 20] (by rw [hsz]; decide) (by kernel_rfl))).trans (hF 20 (by decide))
      have q := eqR7 a.ep a.lg a.s a.l a.n a.sp a.wd
      clear hρ hF hcst hfun sl12 sl13 sl14 sl17 sl18 sl19 sl20 fin
      exact opv_val (by go_simp <;> rfl) ⟨gw_self _, rfl⟩
    · refine owes_vt 14 false (Go.Op.pick (Go.Operand.tmp 120) (Go.Operand.tmp 125) (Go.Operand.const (Go.Value.bool false))) 4 [16, 21] (by kernel_rfl) (by kernel_rfl) (by kernel_rfl) (fun _ _ h => h) (by rw [hsz]; kernel_rfl) (by kernel_rfl) rfl fun vals w1 ρ hG hF hρ hcst hfun => ?_
      have e120 : ρ (.tmp 120) = .bool true := ((hρ 120).trans (slotJ [16, 21] (by rw [hsz]; decide) (by kernel_rfl))).trans (hF 16 (by decide))
      have e125 : ρ (.tmp 125) = .bool false := ((hρ 125).trans (slotJ [16, 21] (by rw [hsz]; decide) (by kernel_rfl))).trans (hF 21 (by decide))
      clear hρ hF hfun sl12 sl13 sl14 sl17 sl18 sl19 sl20 fin
      exact opv_val (by go_simp <;> rfl) ⟨gw_self _, rfl⟩
    · refine owes_v (Go.Op.pick (Go.Operand.tmp 118) (Go.Operand.const (Go.Value.bool true)) (Go.Operand.tmp 126)) 4 [14, 22] (by kernel_rfl) (by kernel_rfl) (by kernel_rfl) rfl fun vals w1 ρ hG hF hρ hcst hfun => ?_
      have e118 : ρ (.tmp 118) = .bool false := ((hρ 118).trans (slotJ [14, 22] (by rw [hsz]; decide) (by kernel_rfl))).trans (hF 14 (by decide))
      have e126 : ρ (.tmp 126) = .bool false := ((hρ 126).trans (slotJ [14, 22] (by rw [hsz]; decide) (by kernel_rfl))).trans (hF 22 (by decide))
      clear hρ hF hfun sl12 sl13 sl14 sl17 sl18 sl19 sl20 fin
      exact opv_val (by go_simp <;> rfl) ⟨gw_self _, rfl⟩
    · exact owes_mvj 23 127 (by kernel_rfl) (by kernel_rfl) (by kernel_rfl) (by kernel_rfl) (by rw [hsz]; decide) (fun v w h => h)
    · refine owes_vt 24 false (Go.Op.move (Go.Operand.tmp 20)) 4 [] (by kernel_rfl) (by kernel_rfl) (by kernel_rfl) (fun _ _ h => h) (by rw [hsz]; kernel_rfl) (by kernel_rfl) rfl fun vals w1 ρ hG hF hρ hcst hfun => ?_
      have e20 : ρ (.tmp 20) = .bool true := ((hρ 20).trans (slotO [] (by kernel_rfl))).trans sl20
      clear hρ hF hcst hfun sl12 sl13 sl14 sl17 sl18 sl19 sl20 fin
      exact opv_val (by go_simp <;> rfl) ⟨gw_self _, rfl⟩
    · refine owes_vt 24 false (Go.Op.move (Go.Operand.tmp 129)) 4 [25] (by kernel_rfl) (by kernel_rfl) (by kernel_rfl) (fun _ _ h => h) (by rw [hsz]; kernel_rfl) (by kernel_rfl) rfl fun vals w1 ρ hG hF hρ hcst hfun => ?_
      have e129 : ρ (.tmp 129) = .bool true := ((hρ 129).trans (slotJ [25] (by rw [hsz]; decide) (by kernel_rfl))).trans (hF 25 (by decide))
      clear hρ hF hcst hfun sl12 sl13 sl14 sl17 sl18 sl19 sl20 fin
      exact opv_val (by go_simp <;> rfl) ⟨gw_self _, rfl⟩
    · refine owes_vt 26 true (Go.Op.indexAddr 33 (Go.Operand.tmp 12) (Go.Operand.const (Go.Value.int Go.IntKind.i64 1))) 0 [] (by kernel_rfl) (by kernel_rfl) (by kernel_rfl) (fun _ _ h => h) (by rw [hsz]; kernel_rfl) (by kernel_rfl) rfl fun vals w1 ρ hG hF hρ hcst hfun => ?_
      have e12 : ρ (.tmp 12) = .pointer (some ⟨G12, 0, none⟩) := ((hρ 12).trans (slotO [] (by kernel_rfl))).trans sl12
      clear hρ hF hfun sl12 sl13 sl14 sl17 sl18 sl19 sl20 fin
      exact opv_val (by go_simp <;> rfl) ⟨gw_self _, rfl⟩
    · refine owes_vt 26 true (Go.Op.load 32 (Go.Operand.tmp 131)) 32 [27] (by kernel_rfl) (by kernel_rfl) (by kernel_rfl) (fun _ _ h => h) (by rw [hsz]; kernel_rfl) (by kernel_rfl) rfl fun vals w1 ρ hG hF hρ hcst hfun => ?_
      have e131 : ρ (.tmp 131) = .pointer (some ⟨G12, 7, none⟩) := ((hρ 131).trans (slotJ [27] (by rw [hsz]; decide) (by kernel_rfl))).trans (hF 27 (by decide))
      obtain ⟨⟨x0, x1, x2, x3, x4, x5, x6⟩, x7, x8, x9, x10, x11, x12, x13⟩ := (H12.out.below hG H12.out.lt).cut7
      clear hρ hF hcst hfun sl12 sl13 sl14 sl17 sl18 sl19 sl20 fin
      exact opv_val (by go_simp <;> rfl) ⟨gw_self _, rfl⟩
    · refine owes_vt 26 true (Go.Op.call { callee := Go.Callee.value (Go.Operand.func 12), args := #[Go.Operand.tmp 132], argTypes := #[32] }) 41 [28] (by kernel_rfl) (by kernel_rfl) (by kernel_rfl) (fun _ _ h => h) (by rw [hsz]; kernel_rfl) (by kernel_rfl) rfl fun vals w1 ρ hG hF hρ hcst hfun => ?_
      have e132 : ρ (.tmp 132) = .agg #[.int .u64 (U64 b.ep), .int .i64 b.s, .int .i64 b.l, .int .i64 b.n, .int .i64 b.sp, .int .i64 b.wd, .int .u64 (U64 b.lg)] := ((hρ 132).trans (slotJ [28] (by rw [hsz]; decide) (by kernel_rfl))).trans (hF 28 (by decide))
      clear hρ hF hcst sl12 sl13 sl14 sl17 sl18 sl19 sl20 fin
      exact opv_enter (by go_simp <;> rfl) (of_ret7 (of7_c b w1))
    · refine owes_vt 26 true (Go.Op.load 41 (Go.Operand.tmp 19)) 41 [] (by kernel_rfl) (by kernel_rfl) (by kernel_rfl) (fun _ _ h => h) (by rw [hsz]; kernel_rfl) (by kernel_rfl) rfl fun vals w1 ρ hG hF hρ hcst hfun => ?_
      have e19 : ρ (.tmp 19) = .pointer (some ⟨G19, 0, none⟩) := ((hρ 19).trans (slotO [] (by kernel_rfl))).trans sl19
      have k9 := H19.out.below hG H19.out.lt
      unfold Sb.cells at k9
      obtain ⟨x0, x1, x2, x3, x4, x5, x6⟩ := k9.seven
      clear hρ hF hcst hfun sl12 sl13 sl14 sl17 sl18 sl19 sl20 fin
      exact opv_val (by go_simp <;> rfl) ⟨gw_self _, rfl⟩
    · refine owes_vt 26 true (Go.Op.binOp Go.BinOp.neq 41 (Go.Operand.tmp 133) (Go.Operand.tmp 134) 41) 4 [29, 30] (by kernel_rfl) (by kernel_rfl) (by kernel_rfl) (fun _ _ h => h) (by rw [hsz]; kernel_rfl) (by kernel_rfl) rfl fun vals w1 ρ hG hF hρ hcst hfun => ?_
      have e133 : ρ (.tmp 133) = .agg #[.int .u64 (U64 b.ep), .int .i64 b.s, .int .i64 b.l, .int .i64 b.n, .int .i64 b.sp, .int .i64 b.wd, .int .u64 (U64 b.lg)] := ((hρ 133).trans (slotJ [29, 30] (by rw [hsz]; decide) (by kernel_rfl))).trans (hF 29 (by decide))
      have e134 : ρ (.tmp 134) = .agg #[.int .u64 (U64 b.ep), .int .i64 b.s, .int .i64 b.l, .int .i64 b.n, .int .i64 b.sp, .int .i64 b.wd, .int .u64 (U64 b.lg)] := ((hρ 134).trans (slotJ [29, 30] (by rw [hsz]; decide) (by kernel_rfl))).trans (hF 30 (by decide))
      have q := eqR7 b.ep b.lg b.s b.l b.n b.sp b.wd
      clear hρ hF hcst hfun sl12 sl13 sl14 sl17 sl18 sl19 sl20 fin
      exact opv_val (by go_simp <;> rfl) ⟨gw_self _, rfl⟩
    · refine owes_vt 24 false (Go.Op.pick (Go.Operand.tmp 130) (Go.Operand.tmp 135) (Go.Operand.const (Go.Value.bool false))) 4 [26, 31] (by kernel_rfl) (by kernel_rfl) (by kernel_rfl) (fun _ _ h => h) (by rw [hsz]; kernel_rfl) (by kernel_rfl) rfl fun vals w1 ρ hG hF hρ hcst hfun => ?_
      have e130 : ρ (.tmp 130) = .bool true := ((hρ 130).trans (slotJ [26, 31] (by rw [hsz]; decide) (by kernel_rfl))).trans (hF 26 (by decide))
      have e135 : ρ (.tmp 135) = .bool false := ((hρ 135).trans (slotJ [26, 31] (by rw [hsz]; decide) (by kernel_rfl))).trans (hF 31 (by decide))
      clear hρ hF hfun sl12 sl13 sl14 sl17 sl18 sl19 sl20 fin
      exact opv_val (by go_simp <;> rfl) ⟨gw_self _, rfl⟩
    · refine owes_v (Go.Op.pick (Go.Operand.tmp 128) (Go.Operand.const (Go.Value.bool true)) (Go.Operand.tmp 136)) 4 [24, 32] (by kernel_rfl) (by kernel_rfl) (by kernel_rfl) rfl fun vals w1 ρ hG hF hρ hcst hfun => ?_
      have e128 : ρ (.tmp 128) = .bool false := ((hρ 128).trans (slotJ [24, 32] (by rw [hsz]; decide) (by kernel_rfl))).trans (hF 24 (by decide))
      have e136 : ρ (.tmp 136) = .bool false := ((hρ 136).trans (slotJ [24, 32] (by rw [hsz]; decide) (by kernel_rfl))).trans (hF 32 (by decide))
      clear hρ hF hfun sl12 sl13 sl14 sl17 sl18 sl19 sl20 fin
      exact opv_val (by go_simp <;> rfl) ⟨gw_self _, rfl⟩
  · intro vals w1 hG hF
    exact fin vals w1 hG (hF 33 (by decide +kernel))
theorem sb19 (Q : Exit → Act → World → Prop) (a0 : Act) (w : World) (G15 GP : Nat) (b : Sb) (H15 : Hid (Bk w G15 32 b.cells)) (HP : Hid (Bk w GP 41 b.cells)) (hsz : a0.tmps.size = 171) (sl15 : a0.tmps.getD 15 undef = .pointer (some ⟨G15, 0, none⟩)) (sl16 : a0.tmps.getD 16 undef = .int .i64 0) (sl17 : a0.tmps.getD 17 undef = .pointer (some ⟨GP, 0, none⟩))
    (fin : ∀ (vals : Nat → Value) (w1 : World), Below w.heap.size w w1 → (IsV (.bool true)) (vals 8) w1 → Q .normal (putD vals [151, 152, 153, 154, 155, 156, 157, 158, 8] 0 a0) w1) :
    (Code.region 19 (regIn Try.f3 19) true).wp Try.prog Q a0 w := by
  refine region_by (G := fun w w1 => Below w.heap.size w w1) [IsV (.int .i64 0),
    IsV (.bool true),
    IsV (.bool true),
    IsV (.agg #[.int .u64 (U64 b.ep), .int .i64 b.s, .int .i64 b.l, .int .i64 b.n, .int .i64 b.sp, .int .i64 b.wd, .int .u64 (U64 b.lg)]),
    IsV (.agg #[.int .u64 (U64 b.ep), .int .i64 b.s, .int .i64 b.l, .int .i64 b.n, .int .i64 b.sp, .int .i64 b.wd, .int .u64 (U64 b.lg)]),
    IsV (.agg #[.int .u64 (U64 b.ep), .int .i64 b.s, .int .i64 b.l, .int .i64 b.n, .int .i64 b.sp, .int .i64 b.wd, .int .u64 (U64 b.lg)]),
    IsV (.bool true),
    IsV (.bool true),
    IsV (.bool true)]
    [151, 152, 153, 154, 155, 156, 157, 158, 8] (by kernel_rfl) (Gw.drew _) Gw.trans (by rw [hsz]; kernel_rfl) (by kernel_rfl) ?_ ?_ ?_
  · intro f hf
    simp only [List.mem_cons, List.not_mem_nil, or_false] at hf
    rcases hf with rfl | rfl | rfl | rfl | rfl | rfl | rfl | rfl | rfl <;> intro v a b h g <;> first | exact IsV.mono h
  · refine ⟨?_, ?_, ?_, ?_, ?_, ?_, ?_, ?_, ?_, trivial⟩
    · exact owes_mv 16 (by kernel_rfl) (by kernel_rfl) (by kernel_rfl) sl16 (fun _ => rfl)
    · refine owes_v (Go.Op.binOp Go.BinOp.eql 3 (Go.Operand.tmp 151) (Go.Operand.const (Go.Value.int Go.IntKind.i64 0)) 3) 4 [0] (by kernel_rfl) (by kernel_rfl) (by kernel_rfl) rfl fun vals w1 ρ hG hF hρ hcst hfun => ?_
      have e151 : ρ (.tmp 151) = .int .i64 0 := ((hρ 151).trans (slotJ [0] (by rw [hsz]; decide) (by kernel_rfl))).trans (hF 0 (by decide))
      clear hρ hF hfun sl15 sl16 sl17 fin
      exact opv_val (by go_simp <;> rfl) ⟨gw_self _, rfl⟩
    · exact owes_mvj 1 152 (by kernel_rfl) (by kernel_rfl) (by kernel_rfl) (by kernel_rfl) (by rw [hsz]; decide) (fun v w h => h)
    · refine owes_vt 2 true (Go.Op.load 32 (Go.Operand.tmp 15)) 32 [] (by kernel_rfl) (by kernel_rfl) (by kernel_rfl) (fun _ _ h => h) (by rw [hsz]; kernel_rfl) (by kernel_rfl) rfl fun vals w1 ρ hG hF hρ hcst hfun => ?_
      have e15 : ρ (.tmp 15) = .pointer (some ⟨G15, 0, none⟩) := ((hρ 15).trans (slotO [] (by kernel_rfl))).trans sl15
      have k9 := H15.out.below hG H15.out.lt
      unfold Sb.cells at k9
      obtain ⟨x0, x1, x2, x3, x4, x5, x6⟩ := k9.seven
      clear hρ hF hcst hfun sl15 sl16 sl17 fin
      exact opv_val (by go_simp <;> rfl) ⟨gw_self _, rfl⟩
    · refine owes_vt 2 true (Go.Op.call { callee := Go.Callee.value (Go.Operand.func 12), args := #[Go.Operand.tmp 154], argTypes := #[32] }) 41 [3] (by kernel_rfl) (by kernel_rfl) (by kernel_rfl) (fun _ _ h => h) (by rw [hsz]; kernel_rfl) (by kernel_rfl) rfl fun vals w1 ρ hG hF hρ hcst hfun => ?_
      have e154 : ρ (.tmp 154) = .agg #[.int .u64 (U64 b.ep), .int .i64 b.s, .int .i64 b.l, .int .i64 b.n, .int .i64 b.sp, .int .i64 b.wd, .int .u64 (U64 b.lg)] := ((hρ 154).trans (slotJ [3] (by rw [hsz]; decide) (by kernel_rfl))).trans (hF 3 (by decide))
      clear hρ hF hcst sl15 sl16 sl17 fin
      exact opv_enter (by go_simp <;> rfl) (of_ret7 (of7_c b w1))
    · refine owes_vt 2 true (Go.Op.load 41 (Go.Operand.tmp 17)) 41 [] (by kernel_rfl) (by kernel_rfl) (by kernel_rfl) (fun _ _ h => h) (by rw [hsz]; kernel_rfl) (by kernel_rfl) rfl fun vals w1 ρ hG hF hρ hcst hfun => ?_
      have e17 : ρ (.tmp 17) = .pointer (some ⟨GP, 0, none⟩) := ((hρ 17).trans (slotO [] (by kernel_rfl))).trans sl17
      have k9 := HP.out.below hG HP.out.lt
      unfold Sb.cells at k9
      obtain ⟨x0, x1, x2, x3, x4, x5, x6⟩ := k9.seven
      clear hρ hF hcst hfun sl15 sl16 sl17 fin
      exact opv_val (by go_simp <;> rfl) ⟨gw_self _, rfl⟩
    · refine owes_vt 2 true (Go.Op.binOp Go.BinOp.eql 41 (Go.Operand.tmp 155) (Go.Operand.tmp 156) 41) 4 [4, 5] (by kernel_rfl) (by kernel_rfl) (by kernel_rfl) (fun _ _ h => h) (by rw [hsz]; kernel_rfl) (by kernel_rfl) rfl fun vals w1 ρ hG hF hρ hcst hfun => ?_
      have e155 : ρ (.tmp 155) = .agg #[.int .u64 (U64 b.ep), .int .i64 b.s, .int .i64 b.l, .int .i64 b.n, .int .i64 b.sp, .int .i64 b.wd, .int .u64 (U64 b.lg)] := ((hρ 155).trans (slotJ [4, 5] (by rw [hsz]; decide) (by kernel_rfl))).trans (hF 4 (by decide))
      have e156 : ρ (.tmp 156) = .agg #[.int .u64 (U64 b.ep), .int .i64 b.s, .int .i64 b.l, .int .i64 b.n, .int .i64 b.sp, .int .i64 b.wd, .int .u64 (U64 b.lg)] := ((hρ 156).trans (slotJ [4, 5] (by rw [hsz]; decide) (by kernel_rfl))).trans (hF 5 (by decide))
      have q := eqR7 b.ep b.lg b.s b.l b.n b.sp b.wd
      clear hρ hF hcst hfun sl15 sl16 sl17 fin
      exact opv_val (by go_simp <;> rfl) ⟨gw_self _, rfl⟩
    · refine owes_v (Go.Op.pick (Go.Operand.tmp 153) (Go.Operand.tmp 157) (Go.Operand.const (Go.Value.bool false))) 4 [2, 6] (by kernel_rfl) (by kernel_rfl) (by kernel_rfl) rfl fun vals w1 ρ hG hF hρ hcst hfun => ?_
      have e153 : ρ (.tmp 153) = .bool true := ((hρ 153).trans (slotJ [2, 6] (by rw [hsz]; decide) (by kernel_rfl))).trans (hF 2 (by decide))
      have e157 : ρ (.tmp 157) = .bool true := ((hρ 157).trans (slotJ [2, 6] (by rw [hsz]; decide) (by kernel_rfl))).trans (hF 6 (by decide))
      clear hρ hF hfun sl15 sl16 sl17 fin
      exact opv_val (by go_simp <;> rfl) ⟨gw_self _, rfl⟩
    · exact owes_mvj 7 158 (by kernel_rfl) (by kernel_rfl) (by kernel_rfl) (by kernel_rfl) (by rw [hsz]; decide) (fun v w h => h)
  · intro vals w1 hG hF
    exact fin vals w1 hG (hF 8 (by decide +kernel))
theorem sb21 (Q : Exit → Act → World → Prop) (a0 : Act) (w : World) (G15 GP : Nat) (b : Sb) (H15 : Hid (Bk w G15 32 b.cells)) (HP : Hid (Bk w GP 41 b.cells)) (hsz : a0.tmps.size = 171) (sl15 : a0.tmps.getD 15 undef = .pointer (some ⟨G15, 0, none⟩)) (sl16 : a0.tmps.getD 16 undef = .int .i64 0) (sl19 : a0.tmps.getD 19 undef = .pointer (some ⟨GP, 0, none⟩))
    (fin : ∀ (vals : Nat → Value) (w1 : World), Below w.heap.size w w1 → (IsV (.bool true)) (vals 8) w1 → Q .normal (putD vals [161, 162, 163, 164, 165, 166, 167, 168, 8] 0 a0) w1) :
    (Code.region 21 (regIn Try.f3 21) true).wp Try.prog Q a0 w := by
  refine region_by (G := fun w w1 => Below w.heap.size w w1) [IsV (.int .i64 0),
    IsV (.bool true),
    IsV (.bool true),
    IsV (.agg #[.int .u64 (U64 b.ep), .int .i64 b.s, .int .i64 b.l, .int .i64 b.n, .int .i64 b.sp, .int .i64 b.wd, .int .u64 (U64 b.lg)]),
    IsV (.agg #[.int .u64 (U64 b.ep), .int .i64 b.s, .int .i64 b.l, .int .i64 b.n, .int .i64 b.sp, .int .i64 b.wd, .int .u64 (U64 b.lg)]),
    IsV (.agg #[.int .u64 (U64 b.ep), .int .i64 b.s, .int .i64 b.l, .int .i64 b.n, .int .i64 b.sp, .int .i64 b.wd, .int .u64 (U64 b.lg)]),
    IsV (.bool true),
    IsV (.bool true),
    IsV (.bool true)]
    [161, 162, 163, 164, 165, 166, 167, 168, 8] (by kernel_rfl) (Gw.drew _) Gw.trans (by rw [hsz]; kernel_rfl) (by kernel_rfl) ?_ ?_ ?_
  · intro f hf
    simp only [List.mem_cons, List.not_mem_nil, or_false] at hf
    rcases hf with rfl | rfl | rfl | rfl | rfl | rfl | rfl | rfl | rfl <;> intro v a b h g <;> first | exact IsV.mono h
  · refine ⟨?_, ?_, ?_, ?_, ?_, ?_, ?_, ?_, ?_, trivial⟩
    · exact owes_mv 16 (by kernel_rfl) (by kernel_rfl) (by kernel_rfl) sl16 (fun _ => rfl)
    · refine owes_v (Go.Op.binOp Go.BinOp.eql 3 (Go.Operand.tmp 161) (Go.Operand.const (Go.Value.int Go.IntKind.i64 0)) 3) 4 [0] (by kernel_rfl) (by kernel_rfl) (by kernel_rfl) rfl fun vals w1 ρ hG hF hρ hcst hfun => ?_
      have e161 : ρ (.tmp 161) = .int .i64 0 := ((hρ 161).trans (slotJ [0] (by rw [hsz]; decide) (by kernel_rfl))).trans (hF 0 (by decide))
      clear hρ hF hfun sl15 sl16 sl19 fin
      exact opv_val (by go_simp <;> rfl) ⟨gw_self _, rfl⟩
    · exact owes_mvj 1 162 (by kernel_rfl) (by kernel_rfl) (by kernel_rfl) (by kernel_rfl) (by rw [hsz]; decide) (fun v w h => h)
    · refine owes_vt 2 true (Go.Op.load 32 (Go.Operand.tmp 15)) 32 [] (by kernel_rfl) (by kernel_rfl) (by kernel_rfl) (fun _ _ h => h) (by rw [hsz]; kernel_rfl) (by kernel_rfl) rfl fun vals w1 ρ hG hF hρ hcst hfun => ?_
      have e15 : ρ (.tmp 15) = .pointer (some ⟨G15, 0, none⟩) := ((hρ 15).trans (slotO [] (by kernel_rfl))).trans sl15
      have k9 := H15.out.below hG H15.out.lt
      unfold Sb.cells at k9
      obtain ⟨x0, x1, x2, x3, x4, x5, x6⟩ := k9.seven
      clear hρ hF hcst hfun sl15 sl16 sl19 fin
      exact opv_val (by go_simp <;> rfl) ⟨gw_self _, rfl⟩
    · refine owes_vt 2 true (Go.Op.call { callee := Go.Callee.value (Go.Operand.func 12), args := #[Go.Operand.tmp 164], argTypes := #[32] }) 41 [3] (by kernel_rfl) (by kernel_rfl) (by kernel_rfl) (fun _ _ h => h) (by rw [hsz]; kernel_rfl) (by kernel_rfl) rfl fun vals w1 ρ hG hF hρ hcst hfun => ?_
      have e164 : ρ (.tmp 164) = .agg #[.int .u64 (U64 b.ep), .int .i64 b.s, .int .i64 b.l, .int .i64 b.n, .int .i64 b.sp, .int .i64 b.wd, .int .u64 (U64 b.lg)] := ((hρ 164).trans (slotJ [3] (by rw [hsz]; decide) (by kernel_rfl))).trans (hF 3 (by decide))
      clear hρ hF hcst sl15 sl16 sl19 fin
      exact opv_enter (by go_simp <;> rfl) (of_ret7 (of7_c b w1))
    · refine owes_vt 2 true (Go.Op.load 41 (Go.Operand.tmp 19)) 41 [] (by kernel_rfl) (by kernel_rfl) (by kernel_rfl) (fun _ _ h => h) (by rw [hsz]; kernel_rfl) (by kernel_rfl) rfl fun vals w1 ρ hG hF hρ hcst hfun => ?_
      have e19 : ρ (.tmp 19) = .pointer (some ⟨GP, 0, none⟩) := ((hρ 19).trans (slotO [] (by kernel_rfl))).trans sl19
      have k9 := HP.out.below hG HP.out.lt
      unfold Sb.cells at k9
      obtain ⟨x0, x1, x2, x3, x4, x5, x6⟩ := k9.seven
      clear hρ hF hcst hfun sl15 sl16 sl19 fin
      exact opv_val (by go_simp <;> rfl) ⟨gw_self _, rfl⟩
    · refine owes_vt 2 true (Go.Op.binOp Go.BinOp.eql 41 (Go.Operand.tmp 165) (Go.Operand.tmp 166) 41) 4 [4, 5] (by kernel_rfl) (by kernel_rfl) (by kernel_rfl) (fun _ _ h => h) (by rw [hsz]; kernel_rfl) (by kernel_rfl) rfl fun vals w1 ρ hG hF hρ hcst hfun => ?_
      have e165 : ρ (.tmp 165) = .agg #[.int .u64 (U64 b.ep), .int .i64 b.s, .int .i64 b.l, .int .i64 b.n, .int .i64 b.sp, .int .i64 b.wd, .int .u64 (U64 b.lg)] := ((hρ 165).trans (slotJ [4, 5] (by rw [hsz]; decide) (by kernel_rfl))).trans (hF 4 (by decide))
      have e166 : ρ (.tmp 166) = .agg #[.int .u64 (U64 b.ep), .int .i64 b.s, .int .i64 b.l, .int .i64 b.n, .int .i64 b.sp, .int .i64 b.wd, .int .u64 (U64 b.lg)] := ((hρ 166).trans (slotJ [4, 5] (by rw [hsz]; decide) (by kernel_rfl))).trans (hF 5 (by decide))
      have q := eqR7 b.ep b.lg b.s b.l b.n b.sp b.wd
      clear hρ hF hcst hfun sl15 sl16 sl19 fin
      exact opv_val (by go_simp <;> rfl) ⟨gw_self _, rfl⟩
    · refine owes_v (Go.Op.pick (Go.Operand.tmp 163) (Go.Operand.tmp 167) (Go.Operand.const (Go.Value.bool false))) 4 [2, 6] (by kernel_rfl) (by kernel_rfl) (by kernel_rfl) rfl fun vals w1 ρ hG hF hρ hcst hfun => ?_
      have e163 : ρ (.tmp 163) = .bool true := ((hρ 163).trans (slotJ [2, 6] (by rw [hsz]; decide) (by kernel_rfl))).trans (hF 2 (by decide))
      have e167 : ρ (.tmp 167) = .bool true := ((hρ 167).trans (slotJ [2, 6] (by rw [hsz]; decide) (by kernel_rfl))).trans (hF 6 (by decide))
      clear hρ hF hfun sl15 sl16 sl19 fin
      exact opv_val (by go_simp <;> rfl) ⟨gw_self _, rfl⟩
    · exact owes_mvj 7 168 (by kernel_rfl) (by kernel_rfl) (by kernel_rfl) (by kernel_rfl) (by rw [hsz]; decide) (fun v w h => h)
  · intro vals w1 hG hF
    exact fin vals w1 hG (hF 8 (by decide +kernel))
theorem ow_at {w : World} {base : Nat} {v : Value} {xs : List (BitVec 8)} (h : Ow b8 5 w base v xs) (hp : 0 < xs.length) : ∃ g cap, v = .slice (some ⟨g, 0, none⟩) xs.length cap ∧ xs.length ≤ cap ∧ cap ≤ maxLen := by
  rcases h.2 with ⟨rfl, hn⟩ | ⟨g, cap, cur, rfl, _, _, hnc, hcm, _⟩
  · omega
  · exact ⟨g, cap, rfl, hnc, hcm⟩
/-- The bytes of the disk. -/
def ksB (xs ys : List (BitVec 8)) (N n : Nat) : List (BitVec 8) := (xs ++ ys ++ List.replicate (N * n) 0#8).take (N * n)
theorem ksB_len (xs ys : List (BitVec 8)) (N n : Nat) : (ksB xs ys N n).length = n * N := by
  unfold ksB; rw [List.length_take, List.length_append, List.length_replicate, Nat.mul_comm n N]; omega
theorem ks_0 (xs ys : List (BitVec 8)) (N n : Nat) (hx : xs.length = N) (hn : 1 ≤ n) : curL (dk0 n N (ksB xs ys N n)) 0 = xs := by
  rw [cur_sec rfl]
  show ((ksB xs ys N n).drop (0 * N)).take N = _
  have : N * 1 ≤ N * n := Nat.mul_le_mul_left _ hn
  unfold ksB
  rw [Nat.zero_mul, List.drop_zero, List.take_take, Nat.min_eq_left (by omega), List.append_assoc, List.take_append_of_le_length (by omega), List.take_of_length_le (by omega)]
theorem ks_1 (xs ys : List (BitVec 8)) (N n : Nat) (hx : xs.length = N) (hy : ys.length = N) (hn : 2 ≤ n) : curL (dk0 n N (ksB xs ys N n)) 1 = ys := by
  rw [cur_sec rfl]
  show ((ksB xs ys N n).drop (1 * N)).take N = _
  have : N * 2 ≤ N * n := Nat.mul_le_mul_left _ hn
  unfold ksB
  rw [Nat.one_mul, List.drop_take, List.take_take, Nat.min_eq_left (by omega), List.append_assoc, List.drop_append_of_le_length (by omega), List.drop_of_length_le (by omega), List.nil_append, List.take_append_of_le_length (by omega), List.take_of_length_le (by omega)]
theorem sb_out (w : World) (A : Option Addr) (N c : Nat) (A2 : Option Addr) (N2 c2 : Nat) (s n : Int) (h : s < 64 ∨ 256 < s ∨ n < 1 ∨ 300 < n ∨ (N : Int) ≠ s ∨ (N2 : Int) ≠ s) : Calls Try.prog 3 #[.slice A N c, .slice A2 N2 c2, .int .i64 s, .int .i64 n] w (TruP (.bool true) w) := by
  have hc : s < 64 ∨ (¬ s < 64 ∧ 256 < s) ∨ (¬ s < 64 ∧ ¬ 256 < s ∧ n < 1) ∨ (¬ s < 64 ∧ ¬ 256 < s ∧ ¬ n < 1 ∧ 300 < n) ∨ (¬ s < 64 ∧ ¬ 256 < s ∧ ¬ n < 1 ∧ ¬ 300 < n ∧ (N : Int) ≠ s) ∨ (¬ s < 64 ∧ ¬ 256 < s ∧ ¬ n < 1 ∧ ¬ 300 < n ∧ (N : Int) = s ∧ (N2 : Int) ≠ s) := by omega
  clear h
  rcases hc with h1 | ⟨h1, h2⟩ | ⟨h1, h2, h3⟩ | ⟨h1, h2, h3, h4⟩ | ⟨h1, h2, h3, h4, h5⟩ | ⟨h1, h2, h3, h4, h5, h6⟩
  all_goals
    try have q5 : ((N : Int) != s) = true := by simpa using h5
    try have q5 : ((N : Int) != s) = false := by simpa using h5
    try have q6 : ((N2 : Int) != s) = true := by simpa using h6
    try clear h5
    try clear h6
    go_enter Try.func3, Try.ntmps3
    go_wp2_with fail
    refine Calls.mono (known7_c _) ?_
    rintro e w1 ⟨rfl, b1⟩
    have HB1 := Lib.hid b1
    clear b1
    go_wp2_with fail
    go_ret
    exact ⟨rfl, HB1.out⟩
end Go.Proofs.Ytjcpbhjmmnpjnaa
/- How an argument that is a row of structs is opened. No conditions. -/
namespace Go.Proofs.Ytjcpbhjmmnpjnaa
set_option linter.unusedVariables false
set_option linter.unusedSimpArgs false
open Go.ChangeShapes Go.WideShapes Go.ChangeAt Go.RowKit
section
variable {H : Type} {enc : TypeId × Value → H} {P : Program} {w : World} {base : Nat} {spare : Nat → Bool} {held : Bool} {r : Reach} {b0 : Nat}
theorem cell_int {k : IntKind} {n : Nat} {t : TypeId} {u : Value} {y : DataW H × List MemPlace} (ht : P.underlying t = some (.int k)) (h : DataW.trod enc P w base spare held n t [u] = some y) : ∃ a, u = .int k a ∧ (Lit.int k a).wf = true := by
  obtain ⟨a, h, _, hw⟩ := DataW.trod_int ht h
  exact ⟨a, by simpa using h, hw⟩
/-- A cell that is a slice of numbers. -/
theorem cell_nums {α : Type} (f : α → Value) {k : IntKind} {n : Nat} {t e : TypeId} {u : Value} {y : DataW H × List MemPlace} (hf : ∀ z : Int, (Lit.int k z).wf = true → ∃ a, f a = .int k z) (ht : P.underlying t = some (.slice e)) (he : P.underlying e = some (.int k)) (hc : P.cellsOf e = 1) (h : DataW.trod enc P w base spare held n t [u] = some y) :
    ∃ (A : Option Addr) (bs : List α) (c : Nat), u = .slice A bs.length c ∧ bs.length ≤ c ∧ c ≤ maxLen ∧ Rd f w w.heap.size A bs := by
  rcases open_ints ht he hc h with ⟨hcs, _⟩ | ⟨x, l, c, zs, hcs, _, hl, hm, hz, _, hcell, hwz⟩
  · have hu : u = .slice none 0 0 := by simpa using hcs
    exact ⟨none, [], 0, hu, Nat.le_refl _, by simp [maxLen], Rd.nil⟩
  · have hu : u = .slice (some x) l c := by simpa using hcs
    have hlen : l ≤ zs.length := by rw [hz]; split <;> omega
    have : ∃ bs : List α, bs.length = l ∧ ∀ j (h : j < bs.length), f bs[j] = .int k (zs.getD j 0) := by
      have hk : ∀ m, m ≤ l → ∃ bs : List α, bs.length = m ∧ ∀ j (h : j < bs.length), f bs[j] = .int k (zs.getD j 0) := by
        intro m
        induction m with
        | zero => intro _; exact ⟨[], rfl, fun j h => absurd h (by simp)⟩
        | succ m ih =>
          intro hm
          obtain ⟨bs, hb, hp⟩ := ih (by omega)
          obtain ⟨a, ha⟩ := hf (zs.getD m 0) (hwz _ (by rw [List.getD_eq_getElem?_getD, List.getElem?_eq_getElem (by omega)]; exact List.getElem_mem _))
          refine ⟨bs ++ [a], by simp [hb], fun j hj => ?_⟩
          rw [List.getElem_append]
          split
          · exact hp j _
          · have : j = m := by simp at hj; omega
            subst this
            simpa using ha
      exact hk l (Nat.le_refl _)
    obtain ⟨bs, hb, hp⟩ := this
    refine ⟨some x, bs, c, by rw [hb]; exact hu, by omega, hm, fun j hj => ?_⟩
    have hc1 := hcell j (by omega)
    have hbk := cell_lt hc1
    rw [add_block] at hbk
    exact ⟨x, rfl, hbk, by rw [hc1, hp j hj]⟩
theorem rows_at {t e : TypeId} {fs : Array Field} {K : Nat} {v : Value} {d : DataW H} {p : List MemPlace} (ht : P.underlying t = some (.slice e)) (he : P.underlying e = some (.struct fs)) (hone : Go.Deep.oneCellFields P fs = true) (hC : P.cellsOf e = K) (hK : fs.size = K)
    (hv : Value.okWide P w r b0 t v) (h : DataW.Trod enc P w base spare held t v d p) :
    ∃ (A : Option Addr) (n c : Nat), v = .slice A n c ∧ n ≤ c ∧ c ≤ maxLen ∧ ∀ i, i < n → ∃ ad m, A = some ad ∧ ∀ j f, fs[j]? = some f → ∃ u y, w.cell? (ad.add (i * K + j)) = some u ∧ DataW.trod enc P w base spare held m f.type [u] = some y := by
  obtain ⟨a0, len, cap, rfl⟩ := okWide_slice ht hv
  obtain ⟨fuel, hf⟩ := h
  rcases Go.Deep.open_slice ht hf with ⟨hcs, _⟩ | ⟨a, len', cap', m, n', D, Pl, hcs, hb, hl, hm, hmm, hx, hrow⟩
  · simp [Value.cells] at hcs
    obtain ⟨rfl, rfl, rfl⟩ := hcs
    exact ⟨none, 0, 0, rfl, Nat.le_refl _, by simp [maxLen], fun i hi => absurd hi (by omega)⟩
  · simp [Value.cells] at hcs
    obtain ⟨rfl, rfl, rfl⟩ := hcs
    refine ⟨some a, len, cap, rfl, hl, hm, fun i hi => ?_⟩
    obtain ⟨cs', h1, h2⟩ := hrow i (by rw [hmm]; split <;> omega)
    obtain ⟨_, hlen, hcell⟩ := World.cells?_some h1
    obtain ⟨xs, n2, _, _, hl2, hlen2, hfs⟩ := DataW.trod_struct he h2
    refine ⟨a, n2, rfl, fun j f hj => ?_⟩
    obtain ⟨ho, h1c⟩ := Go.Deep.hone_of hone j f hj
    have hjk : j < fs.size := (Array.getElem?_eq_some_iff.1 hj).1
    have hjl : j < cs'.length := by omega
    have hfj := hfs j f hj
    have e1 : (cs'.drop f.offset).take (P.cellsOf f.type) = [cs'[j]] := by
      rw [ho, h1c, List.drop_eq_getElem_cons hjl]
      rfl
    rw [e1, List.getElem?_eq_getElem (by omega)] at hfj
    refine ⟨cs'[j], _, ?_, hfj⟩
    have := hcell j (by omega)
    rw [List.getElem?_eq_getElem hjl, add_add', hC] at this
    exact this
end
theorem choose_lst {α : Type} {p : Nat → α → Prop} : ∀ n : Nat, (∀ r, r < n → ∃ x, p r x) → ∃ l : List α, l.length = n ∧ ∀ r (h : r < l.length), p r l[r]
  | 0, _ => ⟨[], rfl, fun r h => absurd h (by simp)⟩
  | n + 1, h => by
    obtain ⟨l, hl, hp⟩ := choose_lst n fun r hr => h r (by omega)
    obtain ⟨x, hx⟩ := h n (by omega)
    refine ⟨l ++ [x], by simp [hl], fun r hr => ?_⟩
    rw [List.getElem_append]
    split
    · exact hp r _
    · have : r = n := by simp at hr; omega
      subst this
      simpa using hx
theorem num64 : ∀ z : Int, (Lit.int .u64 z).wf = true → ∃ a : BitVec 64, (Value.int .u64 (U64 a)) = .int .u64 z := fun z h => ⟨_, by rw [← wfu64 h]⟩
theorem num8 : ∀ z : Int, (Lit.int .u8 z).wf = true → ∃ a : BitVec 8, b8 a = .int .u8 z := fun z h => ⟨_, by unfold b8; rw [← wfu8 h]⟩
set_option maxRecDepth 100000
theorem add_far (a : Addr) (m j : Nat) : a.add (m + (j + 1)) = ⟨(a.add m).block, (a.add m).off + (j + 1), none⟩ := by
  rw [← add_add']
  rfl
/-- One of CodeBack's items. -/
structure Itm where
  op : Int
  u : BitVec 64
  i : BitVec 64
  ba : Option Addr
  bb : List (BitVec 8)
  bc : Nat
  wa : Option Addr
  ww : List (BitVec 64)
  wc : Nat
structure ItmAt (W : World) (B : Nat) (ad : Addr) (k : Nat) (x : Itm) : Prop where
  blk : ad.block < B
  op : W.cell? (ad.add (k * 5)) = some (.int .i64 x.op)
  u : W.cell? ⟨(ad.add (k * 5)).block, (ad.add (k * 5)).off + 1, none⟩ = some (.int .u64 (U64 x.u))
  i : W.cell? ⟨(ad.add (k * 5)).block, (ad.add (k * 5)).off + 2, none⟩ = some (.int .i64 (I64 x.i))
  b : W.cell? ⟨(ad.add (k * 5)).block, (ad.add (k * 5)).off + 3, none⟩ = some (.slice x.ba x.bb.length x.bc)
  w : W.cell? ⟨(ad.add (k * 5)).block, (ad.add (k * 5)).off + 4, none⟩ = some (.slice x.wa x.ww.length x.wc)
  bbc : x.bb.length ≤ x.bc
  wwc : x.ww.length ≤ x.wc
  br : Rd b8 W B x.ba x.bb
  wr : Rd (fun a => Value.int .u64 (U64 a)) W B x.wa x.ww
def Its (W : World) (B : Nat) (A : Option Addr) (l : List Itm) : Prop := ∀ k (h : k < l.length), ∃ ad, A = some ad ∧ ItmAt W B ad k l[k]
/-- One of MemPlays' acts. -/
structure Ac where
  op : Int
  at_ : Int
  fr : Int
  n : Int
  u : BitVec 64
  ba : Option Addr
  bb : List (BitVec 8)
  bc : Nat
structure AcAt (W : World) (B : Nat) (ad : Addr) (k : Nat) (x : Ac) : Prop where
  blk : ad.block < B
  op : W.cell? (ad.add (k * 6)) = some (.int .i64 x.op)
  at_ : W.cell? ⟨(ad.add (k * 6)).block, (ad.add (k * 6)).off + 1, none⟩ = some (.int .i64 x.at_)
  fr : W.cell? ⟨(ad.add (k * 6)).block, (ad.add (k * 6)).off + 2, none⟩ = some (.int .i64 x.fr)
  n : W.cell? ⟨(ad.add (k * 6)).block, (ad.add (k * 6)).off + 3, none⟩ = some (.int .i64 x.n)
  u : W.cell? ⟨(ad.add (k * 6)).block, (ad.add (k * 6)).off + 4, none⟩ = some (.int .u64 (U64 x.u))
  b : W.cell? ⟨(ad.add (k * 6)).block, (ad.add (k * 6)).off + 5, none⟩ = some (.slice x.ba x.bb.length x.bc)
  w0 : (Lit.int .i64 x.op).wf = true
  w1 : (Lit.int .i64 x.at_).wf = true
  w2 : (Lit.int .i64 x.fr).wf = true
  w3 : (Lit.int .i64 x.n).wf = true
  bbc : x.bb.length ≤ x.bc
  bcm : x.bc ≤ maxLen
  br : Rd b8 W B x.ba x.bb
def Acs (W : World) (B : Nat) (A : Option Addr) (l : List Ac) : Prop := ∀ k (h : k < l.length), ∃ ad, A = some ad ∧ AcAt W B ad k l[k]
theorem Acs.below {W W' : World} {B : Nat} {A : Option Addr} {l : List Ac} (h : Acs W B A l) (hb : Below B W W') : Acs W' B A l := fun k hk => by
  obtain ⟨ad, e, m⟩ := h k hk
  have hbk : (ad.add (k * 6)).block < B := by rw [add_block]; exact m.blk
  have c : ∀ j, W'.cell? ⟨(ad.add (k * 6)).block, (ad.add (k * 6)).off + j, none⟩ = W.cell? ⟨(ad.add (k * 6)).block, (ad.add (k * 6)).off + j, none⟩ := fun j => hb.cell (p := ⟨(ad.add (k * 6)).block, (ad.add (k * 6)).off + j, none⟩) hbk
  exact ⟨ad, e, m.blk, (hb.cell hbk).trans m.op, (c _).trans m.at_, (c _).trans m.fr, (c _).trans m.n, (c _).trans m.u, (c _).trans m.b, m.w0, m.w1, m.w2, m.w3, m.bbc, m.bcm, m.br.below hb⟩
end Go.Proofs.Ytjcpbhjmmnpjnaa
/- How an argument that is a superblock is opened. No conditions. -/
namespace Go.Proofs.Ytjcpbhjmmnpjnaa
set_option linter.unusedVariables false
set_option linter.unusedSimpArgs false
open Go.ChangeShapes Go.WideShapes Go.ChangeAt Go.RowKit
set_option maxRecDepth 100000
structure Bl where
  ep : BitVec 64
  s : Int
  l : Int
  n : Int
  sp : Int
  wd : Int
  lg : BitVec 64
def Bl.v (x : Bl) : Value := blkV x.ep x.s x.l x.n x.sp x.wd x.lg
structure BlOk (x : Bl) : Prop where
  w1 : (Lit.int .i64 x.s).wf = true
  w2 : (Lit.int .i64 x.l).wf = true
  w3 : (Lit.int .i64 x.n).wf = true
  w4 : (Lit.int .i64 x.sp).wf = true
  w5 : (Lit.int .i64 x.wd).wf = true
section
variable {H : Type} {enc : TypeId × Value → H} {W : World} {base : Nat} {sp : Nat → Bool} {hd : Bool}
theorem trod_Block {n : Nat} {cs : List Value} {y : DataW H × List MemPlace} (h : DataW.trod enc Try.prog W base sp hd n 32 cs = some y) :
    ∃ x : Bl, cs = [.int .u64 (U64 x.ep), .int .i64 x.s, .int .i64 x.l, .int .i64 x.n, .int .i64 x.sp, .int .i64 x.wd, .int .u64 (U64 x.lg)] ∧ BlOk x := by
  have kI : Try.prog.cellsOf 3 = 1 := by kernel_rfl
  have kU : Try.prog.cellsOf 28 = 1 := by kernel_rfl
  have kG : Try.prog.cellsOf 30 = 3 := by kernel_rfl
  have k7 : Try.prog.cellsOf 32 = 7 := by kernel_rfl
  obtain ⟨xs, m, _, hx, hl, hlen, hg⟩ := DataW.trod_struct Try.underlying32 h
  match cs, hl.trans k7 with
  | [c0, c1, c2, c3, c4, c5, c6], _ =>
    match xs, hlen with
    | [y0, y1, y2, y3, y4], _ =>
      have g0 := hg 0 _ rfl
      have g1 := hg 1 _ rfl
      have g2 := hg 2 _ rfl
      have g3 := hg 3 _ rfl
      have g4 := hg 4 _ rfl
      simp only [kI, kU, kG, List.drop_zero, List.drop_succ_cons, List.take_succ_cons, List.take_zero, List.getElem?_cons_zero, List.getElem?_cons_succ] at g0 g1 g2 g3 g4
      obtain ⟨zs, m2, _, hx2, hl2, hlen2, hg2⟩ := DataW.trod_struct Try.underlying30 g1
      match zs, hlen2 with
      | [z0, z1, z2], _ =>
        have f0 := hg2 0 _ rfl
        have f1 := hg2 1 _ rfl
        have f2 := hg2 2 _ rfl
        simp only [kI, List.drop_zero, List.drop_succ_cons, List.take_succ_cons, List.take_zero, List.getElem?_cons_zero, List.getElem?_cons_succ] at f0 f1 f2
        obtain ⟨a0, rfl, w0⟩ := cell_int (k := .u64) (by kernel_rfl) g0
        obtain ⟨a1, rfl, w1⟩ := cell_int (k := .i64) (by kernel_rfl) f0
        obtain ⟨a2, rfl, w2⟩ := cell_int (k := .i64) (by kernel_rfl) f1
        obtain ⟨a3, rfl, w3⟩ := cell_int (k := .i64) (by kernel_rfl) f2
        obtain ⟨a4, rfl, w4⟩ := cell_int (k := .i64) (by kernel_rfl) g2
        obtain ⟨a5, rfl, w5⟩ := cell_int (k := .i64) (by kernel_rfl) g3
        obtain ⟨a6, rfl, w6⟩ := cell_int (k := .u64) (by kernel_rfl) g4
        exact ⟨⟨BitVec.ofInt 64 a0, a1, a2, a3, a4, a5, BitVec.ofInt 64 a6⟩, by rw [← wfu64 w0, ← wfu64 w6], ⟨w1, w2, w3, w4, w5⟩⟩
theorem open_str_Block {r : Reach} {b0 : Nat} {v : Value} {d : DataW H} {p : List MemPlace}
    (hv : Value.okWide Try.prog W r b0 32 v) (h : DataW.Trod enc Try.prog W base sp hd 32 v d p) : ∃ x : Bl, v = x.v ∧ BlOk x := by
  obtain ⟨cs, rfl, hsz⟩ := okWide_struct Try.underlying32 hv
  obtain ⟨l⟩ := cs
  obtain ⟨fuel, hf⟩ := h
  obtain ⟨x, e, hk⟩ := trod_Block hf
  refine ⟨x, ?_, hk⟩
  have e2 : l = [.int .u64 (U64 x.ep), .int .i64 x.s, .int .i64 x.l, .int .i64 x.n, .int .i64 x.sp, .int .i64 x.wd, .int .u64 (U64 x.lg)] := by simpa [Value.cells] using e
  rw [e2]
  rfl
end
end Go.Proofs.Ytjcpbhjmmnpjnaa
/- A row of superblocks as an argument; loamlaw7.Encode, loamlaw3.Keeps; what a row of writes leaves. Conditions: numbers. -/
namespace Go.Proofs.Ytjcpbhjmmnpjnaa
set_option linter.unusedVariables false
set_option linter.unusedSimpArgs false
open Go.ChangeShapes Go.WideShapes Go.ChangeAt Go.RowKit
set_option maxRecDepth 100000
set_option maxHeartbeats 2000000
structure BlAt (W : World) (B : Nat) (ad : Addr) (k : Nat) (x : Bl) : Prop where
  blk : ad.block < B
  c0 : W.cell? (ad.add (k * 7)) = some (.int .u64 (U64 x.ep))
  c1 : W.cell? ⟨(ad.add (k * 7)).block, (ad.add (k * 7)).off + 1, none⟩ = some (.int .i64 x.s)
  c2 : W.cell? ⟨(ad.add (k * 7)).block, (ad.add (k * 7)).off + 2, none⟩ = some (.int .i64 x.l)
  c3 : W.cell? ⟨(ad.add (k * 7)).block, (ad.add (k * 7)).off + 3, none⟩ = some (.int .i64 x.n)
  c4 : W.cell? ⟨(ad.add (k * 7)).block, (ad.add (k * 7)).off + 4, none⟩ = some (.int .i64 x.sp)
  c5 : W.cell? ⟨(ad.add (k * 7)).block, (ad.add (k * 7)).off + 5, none⟩ = some (.int .i64 x.wd)
  c6 : W.cell? ⟨(ad.add (k * 7)).block, (ad.add (k * 7)).off + 6, none⟩ = some (.int .u64 (U64 x.lg))
def Bls (W : World) (B : Nat) (A : Option Addr) (l : List Bl) : Prop := ∀ k (h : k < l.length), ∃ ad, A = some ad ∧ BlAt W B ad k l[k]
theorem Bls.below {W W' : World} {B : Nat} {A : Option Addr} {l : List Bl} (h : Bls W B A l) (hb : Below B W W') : Bls W' B A l := fun k hk => by
  obtain ⟨ad, e, m⟩ := h k hk
  have hbk : (ad.add (k * 7)).block < B := by rw [add_block]; exact m.blk
  have c : ∀ j, W'.cell? ⟨(ad.add (k * 7)).block, (ad.add (k * 7)).off + j, none⟩ = W.cell? ⟨(ad.add (k * 7)).block, (ad.add (k * 7)).off + j, none⟩ := fun j => hb.cell (p := ⟨(ad.add (k * 7)).block, (ad.add (k * 7)).off + j, none⟩) hbk
  exact ⟨ad, e, m.blk, (hb.cell hbk).trans m.c0, (c _).trans m.c1, (c _).trans m.c2, (c _).trans m.c3, (c _).trans m.c4, (c _).trans m.c5, (c _).trans m.c6⟩
theorem open_rows_Block {H : Type} {enc : TypeId × Value → H} {W : World} {base : Nat} {sp : Nat → Bool} {hd : Bool} {r : Reach} {b0 : Nat} {v : Value} {d : DataW H} {p : List MemPlace}
    (hv : Value.okWide Try.prog W r b0 46 v) (h : DataW.Trod enc Try.prog W base sp hd 46 v d p) :
    ∃ (A : Option Addr) (l : List Bl) (c : Nat), v = .slice A l.length c ∧ l.length ≤ c ∧ c ≤ maxLen ∧ (Bls W W.heap.size A l ∧ ∀ x ∈ l, BlOk x) := by
  have ht := Try.underlying46
  have k7 : Try.prog.cellsOf 32 = 7 := by kernel_rfl
  obtain ⟨a0, len, cap, rfl⟩ := okWide_slice ht hv
  obtain ⟨fuel, hf⟩ := h
  rcases Go.Deep.open_slice ht hf with ⟨hcs, _⟩ | ⟨a, len', cap', m, n', D, Pl, hcs, hb, hl, hm, hmm, hx, hrow⟩
  · simp [Value.cells] at hcs
    obtain ⟨rfl, rfl, rfl⟩ := hcs
    exact ⟨none, [], 0, rfl, Nat.le_refl _, by simp [maxLen], fun i hi => absurd hi (by simp), fun x hx => by cases hx⟩
  · simp [Value.cells] at hcs
    obtain ⟨rfl, rfl, rfl⟩ := hcs
    obtain ⟨l, hll, hp⟩ := choose_lst (α := Bl) (p := fun k x => BlAt W W.heap.size a k x ∧ BlOk x) len (fun i hi => by
      obtain ⟨cs', h1, h2⟩ := hrow i (by rw [hmm]; split <;> omega)
      obtain ⟨_, hlen, hcell⟩ := World.cells?_some h1
      obtain ⟨x, e, hok⟩ := trod_Block h2
      subst e
      rw [k7] at hcell
      have g : ∀ j u, ([Value.int .u64 (U64 x.ep), .int .i64 x.s, .int .i64 x.l, .int .i64 x.n, .int .i64 x.sp, .int .i64 x.wd, .int .u64 (U64 x.lg)] : List Value)[j]? = some u → W.cell? ((a.add (i * 7)).add j) = some u := fun j u hj => by
        have hj2 : j < 7 := by have := (List.getElem?_eq_some_iff.1 hj).1; simpa using this
        have := hcell j (by simpa using hj2)
        rw [this, hj]
      have c0 := g 0 _ rfl
      have c1 := g 1 _ rfl
      have c2 := g 2 _ rfl
      have c3 := g 3 _ rfl
      have c4 := g 4 _ rfl
      have c5 := g 5 _ rfl
      have c6 := g 6 _ rfl
      have hbk := cell_lt c0
      rw [add_block, add_block] at hbk
      exact ⟨x, ⟨hbk, c0, c1, c2, c3, c4, c5, c6⟩, hok⟩)
    subst hll
    refine ⟨some a, l, cap, rfl, hl, hm, fun k hk => ⟨a, rfl, (hp k hk).1⟩, fun x hx => ?_⟩
    obtain ⟨k, hk, rfl⟩ := List.mem_iff_getElem.1 hx
    exact (hp k hk).2
theorem keeps_c (A : Option Addr) (n c : Nat) (w : World) : Calls Try.prog 13 #[.slice A n c] w fun e w' => e = .returned (.bool (decide ((n : Int) ≤ 300))) ∧ w' = w := by
  by_cases h : (n : Int) ≤ 300
  · have q : decide ((n : Int) ≤ 300) = true := decide_eq_true h
    rw [q]
    clear h
    go_enter Try.func13, Try.ntmps13
    go_wp2_with fail
    go_ret
    exact ⟨rfl, rfl⟩
  · have q : decide ((n : Int) ≤ 300) = false := decide_eq_false h
    rw [q]
    clear h
    go_enter Try.func13, Try.ntmps13
    go_wp2_with fail
    go_ret
    exact ⟨rfl, rfl⟩
theorem encode7_c (ep : BitVec 64) (s l n : Nat) (sp wd : Int) (lg : BitVec 64) (w : World) (h : OkG s l n) (gd : Bool) (hg : gd = decide (0 ≤ sp ∧ sp ≤ 1 ∧ 0 ≤ wd ∧ wd ≤ (n : Int))) : Calls Try.prog 17 #[.agg #[.int .u64 (U64 ep), .int .i64 s, .int .i64 l, .int .i64 n, .int .i64 sp, .int .i64 wd, .int .u64 (U64 lg)]] w (RetP (.bool gd) w) := by
  have HO := Lib.hid (show ∀ W, Calls Try.prog 12 #[.agg #[.int .u64 (U64 ep), .int .i64 s, .int .i64 l, .int .i64 n, .int .i64 sp, .int .i64 wd, .int .u64 (U64 lg)]] W (RetP (.agg #[.int .u64 (U64 ep), .int .i64 s, .int .i64 l, .int .i64 n, .int .i64 sp, .int .i64 wd, .int .u64 (U64 lg)]) W) from fun W => of6_c ep lg s l n sp wd W)
  have HW := Lib.hid (Gw.alloc w (.cells #[.int .u64 (U64 ep), .int .i64 s, .int .i64 l, .int .i64 n, .int .i64 sp, .int .i64 wd, .int .u64 (U64 lg)] 32))
  cases hgd : gd with
  | false =>
    have hb : badS s l n sp wd := by
      rw [hgd] at hg
      have := of_decide_eq_false hg.symm
      unfold badS
      rw [okG_in h]
      omega
    have HE := Lib.hid (show ∀ W, Calls Try.prog 40 #[.agg #[.int .u64 (U64 ep), .int .i64 s, .int .i64 l, .int .i64 n, .int .i64 sp, .int .i64 wd, .int .u64 (U64 lg)]] W (RetP (.tuple #[.slice none 0 0, .int .i64 1]) W) from fun W => renc6_bad ep s l n sp wd lg W hb)
    clear hb hg hgd h
    go_enter Try.func17, Try.ntmps17
    go_wp2_with fail
    refine Calls.mono (HO.out _) ?_
    rintro e w1 ⟨rfl, b1⟩
    have HB1 := Lib.hid (HW.out.trans (b1.mono HW.out.size))
    clear b1
    go_wp2_with fail
    refine Calls.mono (HE.out _) ?_
    rintro e w2 ⟨rfl, b2⟩
    have HB2 := Lib.hid (HB1.out.trans (b2.mono HB1.out.size))
    clear b2
    go_wp2_with fail
    go_ret
    exact ⟨rfl, HB2.out⟩
  | true =>
    rw [hgd] at hg
    have hd := of_decide_eq_true hg.symm
    obtain ⟨sp', rfl⟩ : ∃ k : Nat, sp = k := ⟨sp.toNat, by omega⟩
    obtain ⟨wd', rfl⟩ : ∃ k : Nat, wd = k := ⟨wd.toNat, by omega⟩
    have gdS : goodS s l n sp' wd' := ⟨okG_in h, by omega, by omega⟩
    have HE := Lib.hid (show ∀ W, Calls Try.prog 40 #[.agg #[.int .u64 (U64 ep), .int .i64 s, .int .i64 l, .int .i64 n, .int .i64 sp', .int .i64 wd', .int .u64 (U64 lg)]] W (Enc6P (encSB ep s l n sp' wd' lg) W) from fun W => renc6_ok ep s l n sp' wd' lg W gdS)
    clear gdS hd hg hgd h
    obtain ⟨N, hN⟩ : ∃ N, N = (encSB ep s l n sp' wd' lg).length := ⟨_, rfl⟩
    unfold Enc6P at HE
    rw [← hN] at HE
    clear hN
    go_enter Try.func17, Try.ntmps17
    go_wp2_with fail
    refine Calls.mono (HO.out _) ?_
    rintro e w1 ⟨rfl, b1⟩
    have HB1 := Lib.hid (HW.out.trans (b1.mono HW.out.size))
    clear b1
    go_wp2_with fail
    refine Calls.mono (HE.out _) ?_
    rintro e w2 ⟨A, c, rfl, _, _, b2, _⟩
    have HB2 := Lib.hid (HB1.out.trans (b2.mono HB1.out.size))
    clear b2
    go_wp2_with fail
    go_ret
    exact ⟨rfl, HB2.out⟩
/-- What a disk of that shape holds: o0, o1 in its slots. -/
structure Hol (d : DK) (s l n : Nat) (o0 o1 : Option Sb) : Prop where
  size : d.size = s
  secs : (d.secs : Int) = totG s l n
  pend : d.pend = []
  d0 : DecOK (curL d 0) o0
  d1 : DecOK (curL d 1) o1
  f0 : ∀ b, o0 = some b → b.at_ = 0 ∧ b.s = s ∧ b.l = l ∧ b.n = n
  f1 : ∀ b, o1 = some b → b.at_ = 1 ∧ b.s = s ∧ b.l = l ∧ b.n = n
theorem Hol.fit {d : DK} {s l n : Nat} {o0 o1 : Option Sb} (h : Hol d s l n o0 o1) (b : Sb) (e : b.s = s ∧ b.l = l ∧ b.n = n) : b.fit d := ⟨by rw [e.1, h.size], by rw [e.1, e.2.1, e.2.2, h.secs]; exact Int.le_refl _⟩
theorem Hol.in0 {d : DK} {s l n : Nat} {o0 o1 : Option Sb} (h : Hol d s l n o0 o1) : inSlot d 0 o0 = o0 := by
  cases o0 with
  | none => rfl
  | some b =>
    show (if fitB b d && decide (b.at_ = 0) then some b else none) = _
    rw [show fitB b d = true from decide_eq_true (h.fit b (h.f0 b rfl).2), (h.f0 b rfl).1]; rfl
theorem Hol.in1 {d : DK} {s l n : Nat} {o0 o1 : Option Sb} (h : Hol d s l n o0 o1) : inSlot d 1 o1 = o1 := by
  cases o1 with
  | none => rfl
  | some b =>
    show (if fitB b d && decide (b.at_ = 1) then some b else none) = _
    rw [show fitB b d = true from decide_eq_true (h.fit b (h.f1 b rfl).2), (h.f1 b rfl).1]; rfl
theorem Hol.start {s l n : Nat} (h : OkG s l n) : Hol (fr0 s l n) s l n none none :=
  ⟨rfl, (tot_hi h).1, rfl, by rw [fr0_sec h 0 (by decide)]; exact DecOK.zeros s (by have := h.s1; omega) (by have := h.s2; omega), by rw [fr0_sec h 1 (by decide)]; exact DecOK.zeros s (by have := h.s1; omega) (by have := h.s2; omega), fun b e => (by cases e), fun b e => (by cases e)⟩
theorem Hol.same {d d' : DK} {s l n : Nat} {o0 o1 : Option Sb} (h : Hol d s l n o0 o1) (h1 : d'.size = d.size) (h2 : d'.secs = d.secs) (h3 : d'.pend = []) (h4 : d'.kept = d.kept) : Hol d' s l n o0 o1 := by
  have e : ∀ i, curL d' i = curL d i := fun i => by
    rw [cur_sec h3, cur_sec h.pend]
    unfold secL
    rw [h4, h1]
  exact ⟨h1.trans h.size, by rw [h2]; exact h.secs, h3, by rw [e]; exact h.d0, by rw [e]; exact h.d1, h.f0, h.f1⟩
theorem Hol.put {B : Nat} {X : Nat → Prop} {w : World} {g : Nat} {d : DK} {s l n : Nat} {o0 o1 : Option Sb} (hd : DiskX B X w g d) (h : Hol d s l n o0 o1) (b : Sb) (hg : b.good) (e : b.s = s ∧ b.l = l ∧ b.n = n) :
    Hol (d.put b) s l n (if b.at_ = 0 then some b else o0) (if b.at_ = 1 then some b else o1) := by
  have hf := h.fit b e
  refine ⟨h.size, h.secs, rfl, ?_, ?_, ?_, ?_⟩
  · rw [put_sec hd h.pend b hg hf 0]
    by_cases h0 : b.at_ = 0
    · rw [if_pos h0.symm, if_pos h0]; exact DecOK.bytes hg
    · rw [if_neg (fun x => h0 x.symm), if_neg h0]; exact h.d0
  · rw [put_sec hd h.pend b hg hf 1]
    by_cases h0 : b.at_ = 1
    · rw [if_pos h0.symm, if_pos h0]; exact DecOK.bytes hg
    · rw [if_neg (fun x => h0 x.symm), if_neg h0]; exact h.d1
  · intro b' e'
    split at e'
    · rename_i h0; injection e' with e'; subst e'; exact ⟨h0, e⟩
    · exact h.f0 b' e'
  · intro b' e'
    split at e'
    · rename_i h0; injection e' with e'; subst e'; exact ⟨h0, e⟩
    · exact h.f1 b' e'
theorem Hol.cut {d : DK} {s l n : Nat} {o0 o1 : Option Sb} (h : Hol d s l n o0 o1) (kp : List Bool) : Hol (((d.settled (fun _ => true)).cut kp).on) s l n o0 o1 := by
  refine h.same rfl rfl rfl ?_
  have e : (((d.settled (fun _ => true)).cut kp).on).kept = layL d.size (fun i => kp.getD i false) [] 0 (layL d.size (fun _ => true) d.pend 0 d.kept) := rfl
  rw [e, h.pend]
  rfl
end Go.Proofs.Ytjcpbhjmmnpjnaa
