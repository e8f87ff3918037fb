/- Texts joined: SlC SlD SupH Few6 SlE SlF SlG OpenS. -/
import Derived.Test.YtjcpbhjmmnpjnaaZa8
import Derived.Deep.CutRange
import Derived.Lib.SmallJoins
/- What slots.Both tells of a disk: the walk. Conditions: the disk is on, it has two sectors. -/
namespace Go.Proofs.Ytjcpbhjmmnpjnaa
set_option linter.unusedVariables false
set_option linter.unusedSimpArgs false
open Go.RowKit Go.Maps
set_option maxRecDepth 100000
set_option maxHeartbeats 4000000
def fitB (b : Sb) (d : DK) : Bool := decide ((b.s : Int) = (d.size : Int) ∧ totG b.s b.l b.n ≤ (d.secs : Int))
/-- The block of a slot, if it is right. -/
def inSlot (d : DK) (i : Nat) : Option Sb → Option Sb
  | some b => if fitB b d && decide (b.at_ = i) then some b else none
  | none => none
def c14 (a b : Sb) : Array Value := #[.int .u64 (U64 a.ep), .int .i64 a.s, .int .i64 a.l, .int .i64 a.n, .int .i64 a.sp, .int .i64 a.wd, .int .u64 (U64 a.lg), .int .u64 (U64 b.ep), .int .i64 b.s, .int .i64 b.l, .int .i64 b.n, .int .i64 b.sp, .int .i64 b.wd, .int .u64 (U64 b.lg)]
theorem z0_cells : z0.cells = #[.int .u64 0, .int .i64 0, .int .i64 0, .int .i64 0, .int .i64 0, .int .i64 0, .int .u64 0] := by kernel_rfl
theorem z0_14 : c14 z0 z0 = #[.int .u64 0, .int .i64 0, .int .i64 0, .int .i64 0, .int .i64 0, .int .i64 0, .int .u64 0, .int .u64 0, .int .i64 0, .int .i64 0, .int .i64 0, .int .i64 0, .int .i64 0, .int .u64 0] := by kernel_rfl
theorem c14_one (a b : Sb) : (c14 a b).all (·.oneCell') = true := by simp [c14, Value.oneCell']
theorem r2_one (a b : Bool) : (#[Value.bool a, .bool b] : Array Value).all (·.oneCell') = true := by simp [Value.oneCell']
structure BSt (w wr : World) (a b : Sb) (f0 f1 : Bool) : Prop where
  c2 : Bk wr w.heap.size 33 (c14 z0 z0)
  c3 : Bk wr (w.heap.size + 1) 34 #[.bool false, .bool false]
  c5 : Bk wr (w.heap.size + 2) 33 (c14 a b)
  c6 : Bk wr (w.heap.size + 3) 34 #[.bool f0, .bool f1]
  bel : Below w.heap.size w wr
theorem BSt.below {w wr w' : World} {a b : Sb} {f0 f1 : Bool} (h : BSt w wr a b f0 f1) (hb : Below wr.heap.size wr w') : BSt w w' a b f0 f1 :=
  ⟨h.c2.below hb h.c2.lt, h.c3.below hb h.c3.lt, h.c5.below hb h.c5.lt, h.c6.below hb h.c6.lt, h.bel.trans (hb.mono h.bel.size)⟩
theorem BSt.start (w : World) : BSt w ((((w.alloc (.cells (c14 z0 z0) 33)).alloc (.cells #[.bool false, .bool false] 34)).alloc (.cells (c14 z0 z0) 33)).alloc (.cells #[.bool false, .bool false] 34)) z0 z0 false false := by
  refine ⟨(((Bk.new w _ _).alloc _).alloc _).alloc _, ?_, ?_, ?_, ?_⟩
  · have := (((Bk.new (w.alloc (.cells (c14 z0 z0) 33)) 34 #[.bool false, .bool false]).alloc (.cells (c14 z0 z0) 33)).alloc (.cells #[.bool false, .bool false] 34))
    simpa using this
  · have := ((Bk.new ((w.alloc (.cells (c14 z0 z0) 33)).alloc (.cells #[.bool false, .bool false] 34)) 33 (c14 z0 z0)).alloc (.cells #[.bool false, .bool false] 34))
    simpa using this
  · have := Bk.new (((w.alloc (.cells (c14 z0 z0) 33)).alloc (.cells #[.bool false, .bool false] 34)).alloc (.cells (c14 z0 z0) 33)) 34 #[.bool false, .bool false]
    simpa using this
  · exact ((((Below.refl _ _).alloc (Nat.le_refl _) _).alloc (by simp) _).alloc (by simp; omega) _).alloc (by simp; omega) _
/-- The second store of a round: the block, then that it is right. -/
theorem BSt.set0 {w wr : World} {a b : Sb} {f0 f1 : Bool} (h : BSt w wr a b f0 f1) (x : Sb) :
    BSt w ((((((((wr.setCell ⟨w.heap.size + 2, 0, none⟩ (.int .u64 (U64 x.ep))).setCell ⟨w.heap.size + 2, 1, none⟩ (.int .i64 x.s)).setCell ⟨w.heap.size + 2, 2, none⟩ (.int .i64 x.l)).setCell ⟨w.heap.size + 2, 3, none⟩ (.int .i64 x.n)).setCell ⟨w.heap.size + 2, 4, none⟩ (.int .i64 x.sp)).setCell ⟨w.heap.size + 2, 5, none⟩ (.int .i64 x.wd)).setCell ⟨w.heap.size + 2, 6, none⟩ (.int .u64 (U64 x.lg))).setCell ⟨w.heap.size + 3, 0, none⟩ (.bool true)) x b true f1 := by
  refine ⟨?_, ?_, ?_, ?_, ?_⟩
  · exact (((((((h.c2.far (by simp) _).far (by simp) _).far (by simp) _).far (by simp) _).far (by simp) _).far (by simp) _).far (by simp) _).far (by simp) _
  · exact (((((((h.c3.far (by simp) _).far (by simp) _).far (by simp) _).far (by simp) _).far (by simp) _).far (by simp) _).far (by simp) _).far (by simp) _
  · exact (((((((h.c5.set 0 _).set 1 _).set 2 _).set 3 _).set 4 _).set 5 _).set 6 _).far (by simp) _
  · exact (((((((h.c6.far (by simp) _).far (by simp) _).far (by simp) _).far (by simp) _).far (by simp) _).far (by simp) _).far (by simp) _).set 0 _
  · exact (((((((h.bel.setCell (by simp) _).setCell (by simp) _).setCell (by simp) _).setCell (by simp) _).setCell (by simp) _).setCell (by simp) _).setCell (by simp) _).setCell (by simp) _
theorem BSt.set1 {w wr : World} {a b : Sb} {f0 f1 : Bool} (h : BSt w wr a b f0 f1) (x : Sb) :
    BSt w ((((((((wr.setCell ⟨w.heap.size + 2, 7, none⟩ (.int .u64 (U64 x.ep))).setCell ⟨w.heap.size + 2, 8, none⟩ (.int .i64 x.s)).setCell ⟨w.heap.size + 2, 9, none⟩ (.int .i64 x.l)).setCell ⟨w.heap.size + 2, 10, none⟩ (.int .i64 x.n)).setCell ⟨w.heap.size + 2, 11, none⟩ (.int .i64 x.sp)).setCell ⟨w.heap.size + 2, 12, none⟩ (.int .i64 x.wd)).setCell ⟨w.heap.size + 2, 13, none⟩ (.int .u64 (U64 x.lg))).setCell ⟨w.heap.size + 3, 1, none⟩ (.bool true)) a x f0 true := by
  refine ⟨?_, ?_, ?_, ?_, ?_⟩
  · exact (((((((h.c2.far (by simp) _).far (by simp) _).far (by simp) _).far (by simp) _).far (by simp) _).far (by simp) _).far (by simp) _).far (by simp) _
  · exact (((((((h.c3.far (by simp) _).far (by simp) _).far (by simp) _).far (by simp) _).far (by simp) _).far (by simp) _).far (by simp) _).far (by simp) _
  · exact (((((((h.c5.set 7 _).set 8 _).set 9 _).set 10 _).set 11 _).set 12 _).set 13 _).far (by simp) _
  · exact (((((((h.c6.far (by simp) _).far (by simp) _).far (by simp) _).far (by simp) _).far (by simp) _).far (by simp) _).far (by simp) _).set 1 _
  · exact (((((((h.bel.setCell (by simp) _).setCell (by simp) _).setCell (by simp) _).setCell (by simp) _).setCell (by simp) _).setCell (by simp) _).setCell (by simp) _).setCell (by simp) _
def aK (o : Option Sb) (k : Nat) : Sb := if k = 0 then z0 else o.getD z0
def bK (o : Option Sb) (k : Nat) : Sb := if k ≤ 1 then z0 else o.getD z0
def fK (o : Option Sb) (k : Nat) : Bool := if k = 0 then false else o.isSome
def gK (o : Option Sb) (k : Nat) : Bool := if k ≤ 1 then false else o.isSome
theorem slot_out {o : Option Sb} {d : DK} {i : Nat} {r : Option Sb} (ho : o = inSlot d i r) (h : r = none ∨ ∃ b, r = some b ∧ (fitB b d = false ∨ b.at_ ≠ i)) : o = none := by
  subst ho
  rcases h with rfl | ⟨b, rfl, h | h⟩
  · rfl
  · simp [inSlot, h]
  · simp [inSlot, h]
theorem slot_in {o : Option Sb} {d : DK} {i : Nat} {r : Option Sb} {b : Sb} (ho : o = inSlot d i r) (hr : r = some b) (h1 : fitB b d = true) (h2 : b.at_ = i) : o = some b := by
  subst ho hr
  simp [inSlot, h1, h2]
theorem both_c {B : Nat} {X : Nat → Prop} {w : World} {g : Nat} {d : DK} (h : DiskX B X w g d) (ho : d.off = false) (h2 : 2 ≤ d.secs) (r0 r1 : Option Sb) (D0 : DecOK (curL d 0) r0) (D1 : DecOK (curL d 1) r1) :
    Calls Try.prog 9 #[.pointer (some ⟨g, 0, none⟩)] w (RetP (.tuple #[.agg (c14 ((inSlot d 0 r0).getD z0) ((inSlot d 1 r1).getD z0)), .agg #[.bool (inSlot d 0 r0).isSome, .bool (inSlot d 1 r1).isSome], .int .i64 0]) w) := by
  obtain ⟨o0, ho0⟩ : ∃ o, o = inSlot d 0 r0 := ⟨_, rfl⟩
  obtain ⟨o1, ho1⟩ : ∃ o, o = inSlot d 1 r1 := ⟨_, rfl⟩
  rw [← ho0, ← ho1]
  have HO0 := Lib.hid ho0
  have HO1 := Lib.hid ho1
  have HD := Lib.hid h
  have HRD := Lib.hid (show ∀ W, Below w.heap.size w W → (Calls Try.prog 26 #[.pointer (some ⟨g, 0, none⟩), .int .i64 0] W (NewQ (curL d 0) W)) ∧ (Calls Try.prog 26 #[.pointer (some ⟨g, 0, none⟩), .int .i64 1] W (NewQ (curL d 1) W)) from fun W hb =>
    ⟨xread_ok (h.below hb) 0 ho (by omega), xread_ok (h.below hb) 1 ho (by omega)⟩)
  have HF := Lib.hid (show ∀ (b : Sb), b.good → ∀ W, Below w.heap.size w W → Calls Try.prog 28 #[.pointer (some ⟨g, 0, none⟩), .agg #[.int .i64 b.s, .int .i64 b.l, .int .i64 b.n]] W (RetP (.bool (fitB b d)) W) from fun b hg W hb => sfits_c (h.below hb) b.s b.l b.n (Sb.geo hg))
  have HSL := Lib.hid (show ∀ (b : Sb) W, Calls Try.prog 19 #[.int .u64 (U64 b.ep)] W fun e w' => e = .returned (.int .i64 (b.at_ : Int)) ∧ w' = W from fun b W => slot_c b.ep W)
  have HST := Lib.hid (BSt.start w)
  rw [z0_14] at HST
  have HD0 := Lib.hid D0
  have HD1 := Lib.hid D1
  clear h ho h2 D0 D1 ho0 ho1
  go_enter Try.func9, Try.ntmps9
  go_wp2_with fail
  go_loopw [11] (fun i wr => ∃ k : Nat, k ≤ 2 ∧ i = .int .i64 k ∧ BSt w wr (aK o0 k) (bK o1 k) (fK o0 k) (gK o1 k)) (fun i _ => 2 - (Go.RowKit.intOf i).toNat)
  case atStart => exact ⟨0, by omega, rfl, HST.out⟩
  case round =>
    obtain ⟨k, hk, rfl, hs⟩ := hrel
    have hk3 : k = 0 ∨ k = 1 ∨ k = 2 := by omega
    clear hk HST
    rcases hk3 with rfl | rfl | rfl
    · have HS := Lib.hid (show BSt w wr z0 z0 false false from hs)
      clear hs
      go_wp2_with fail
      refine Calls.mono (HRD.out _ HS.out.bel).1 ?_
      rintro e w1 ⟨A, c, rfl, hc, how, b1⟩
      have HS1 := Lib.hid (HS.out.below b1)
      have HDC := Lib.hid (HD0.out.2 A c w1 hc how.rd)
      clear hc how b1 HS
      go_wp2_with fail
      cases hr : r0 with
      | none =>
        rw [hr] at HDC
        have HN := Lib.hid (slot_out HO0.out (.inl hr))
        clear hr
        unfold decO at HDC
        rw [z0_cells] at HDC
        refine Calls.mono HDC.out ?_
        rintro e w2 ⟨rfl, b2⟩
        have HS2 := Lib.hid (HS1.out.below b2)
        have HS3 := Lib.hid (HS2.out.below (Gw.alloc w2 (.cells #[.int .u64 0, .int .i64 0, .int .i64 0, .int .i64 0, .int .i64 0, .int .i64 0, .int .u64 0] 32)))
        clear b2 HS1 HDC
        go_wp2_with fail
        go_roundw
        case rel => exact ⟨1, by omega, rfl, by rw [show o0 = none from HN.out]; exact HS3.out⟩
        case measure => (first | (simp [Go.RowKit.intOf]; done) | (simp [Go.RowKit.intOf]; omega))
      | some b =>
        rw [hr] at HDC
        have HG := Lib.hid (HD0.out.1 b hr)
        have HFb := Lib.hid (HF.out b HG.out)
        have HSb := Lib.hid (HSL.out b)
        unfold decO Sb.cells at HDC
        have HRB := Lib.hid hr
        have HSETT := Lib.hid (fun W (h : BSt w W z0 z0 false false) => h.set0 b)
        have HAT := Lib.hid (show b.at_ = b.at_ from rfl)
        have HNO := Lib.hid (show fitB b d = false ∨ b.at_ ≠ 0 → o0 = none from fun h => slot_out HO0.out (.inr ⟨b, HRB.out, h⟩))
        have HYES := Lib.hid (show fitB b d = true → b.at_ = 0 → o0 = some b from fun h1 h2 => slot_in HO0.out HRB.out h1 h2)
        obtain ⟨at_, hat⟩ : ∃ q, q = b.at_ := ⟨_, rfl⟩
        obtain ⟨ff, hff⟩ : ∃ q, q = fitB b d := ⟨_, rfl⟩
        rw [← hat] at HSb HNO HYES
        rw [← hff] at HFb HNO HYES
        clear hr hat hff HRB HG HAT
        obtain ⟨ep, s, l, n, sp, wd, lg⟩ := b
        simp only at HFb HSb HSETT HDC HNO HYES
        refine Calls.mono HDC.out ?_
        rintro e w2 ⟨rfl, b2⟩
        have HS2 := Lib.hid (HS1.out.below b2)
        obtain ⟨W3, hW3⟩ : ∃ X, X = w2.alloc (.cells #[.int .u64 (U64 ep), .int .i64 s, .int .i64 l, .int .i64 n, .int .i64 sp, .int .i64 wd, .int .u64 (U64 lg)] 32) := ⟨_, rfl⟩
        obtain ⟨G, hG⟩ : ∃ G, G = w2.heap.size := ⟨_, rfl⟩
        have HS3 := Lib.hid (show BSt w W3 z0 z0 false false from by rw [hW3]; exact HS2.out.below (Gw.alloc w2 _))
        have HK3 := Lib.hid (show Bk W3 G 32 #[.int .u64 (U64 ep), .int .i64 s, .int .i64 l, .int .i64 n, .int .i64 sp, .int .i64 wd, .int .u64 (U64 lg)] from by rw [hW3, hG]; exact Bk.new w2 _ _)
        clear b2 HS1 HDC HS2
        obtain ⟨c0, c1, c2, c3, c4, c5, c6⟩ := HK3.out.seven
        go_wp2_with fail
        rw [← hW3, ← hG]
        clear hW3 hG
        refine Calls.mono (HFb.out _ HS3.out.bel) ?_
        rintro e w4 ⟨rfl, b4⟩
        have HS4 := Lib.hid (HS3.out.below b4)
        have HK4 := Lib.hid (HK3.out.below b4 HK3.out.lt)
        clear b4 HS3 HK3 c0 c1 c2 c3 c4 c5 c6
        obtain ⟨c0, c1, c2, c3, c4, c5, c6⟩ := HK4.out.seven
        cases ff with
        | false =>
          have HN := Lib.hid (HNO.out (.inl rfl))
          go_wp2_with fail
          go_roundw
          case rel => exact ⟨1, by omega, rfl, by rw [show o0 = none from HN.out]; exact HS4.out⟩
          case measure => (first | (simp [Go.RowKit.intOf]; done) | (simp [Go.RowKit.intOf]; omega))
        | true =>
          go_wp2_with fail
          refine Calls.mono (HSb.out _) ?_
          rintro e w' ⟨rfl, rfl⟩
          by_cases hat : at_ = 0
          · have HY := Lib.hid (show _ = some _ from by first | exact HYES.out trivial hat | exact HYES.out rfl hat)
            have qa : ((at_ : Int) == 0) = true := by rw [hat]; rfl
            have k5 := HS4.out.c5
            have k6 := HS4.out.c6
            have HSE := Lib.hid (HSETT.out _ HS4.out)
            have HL5 := Lib.hid k5.lt
            have HL6 := Lib.hid k6.lt
            unfold c14 at k5
            have x0 := k5.cell 0
            have y0 := k5.free 0
            have x1 := k5.cell 1
            have y1 := k5.free 1
            have x2 := k5.cell 2
            have y2 := k5.free 2
            have x3 := k5.cell 3
            have y3 := k5.free 3
            have x4 := k5.cell 4
            have y4 := k5.free 4
            have x5 := k5.cell 5
            have y5 := k5.free 5
            have x6 := k5.cell 6
            have y6 := k5.free 6
            have x20 := k6.cell 0
            have y20 := k6.free 0
            clear k5 k6 hat HNO HYES
            go_wp2_with fail
            go_roundw
            case rel => exact ⟨1, by omega, rfl, by rw [show o0 = some _ from HY.out]; exact HSE.out⟩
            case measure => (first | (simp [Go.RowKit.intOf]; done) | (simp [Go.RowKit.intOf]; omega))
          · have HN := Lib.hid (HNO.out (.inr hat))
            have qa : ((at_ : Int) == 0) = false := by simp; omega
            clear hat HNO HYES
            go_wp2_with fail
            go_roundw
            case rel => exact ⟨1, by omega, rfl, by rw [show o0 = none from HN.out]; exact HS4.out⟩
            case measure => (first | (simp [Go.RowKit.intOf]; done) | (simp [Go.RowKit.intOf]; omega))
    · have HS := Lib.hid (show BSt w wr (o0.getD z0) z0 o0.isSome false from hs)
      clear hs
      go_wp2_with fail
      refine Calls.mono (HRD.out _ HS.out.bel).2 ?_
      rintro e w1 ⟨A, c, rfl, hc, how, b1⟩
      have HS1 := Lib.hid (HS.out.below b1)
      have HDC := Lib.hid (HD1.out.2 A c w1 hc how.rd)
      clear hc how b1 HS
      go_wp2_with fail
      cases hr : r1 with
      | none =>
        rw [hr] at HDC
        have HN := Lib.hid (slot_out HO1.out (.inl hr))
        clear hr
        unfold decO at HDC
        rw [z0_cells] at HDC
        refine Calls.mono HDC.out ?_
        rintro e w2 ⟨rfl, b2⟩
        have HS2 := Lib.hid (HS1.out.below b2)
        have HS3 := Lib.hid (HS2.out.below (Gw.alloc w2 (.cells #[.int .u64 0, .int .i64 0, .int .i64 0, .int .i64 0, .int .i64 0, .int .i64 0, .int .u64 0] 32)))
        clear b2 HS1 HDC
        go_wp2_with fail
        go_roundw
        case rel => exact ⟨2, by omega, rfl, by rw [show o1 = none from HN.out]; exact HS3.out⟩
        case measure => (first | (simp [Go.RowKit.intOf]; done) | (simp [Go.RowKit.intOf]; omega))
      | some b =>
        rw [hr] at HDC
        have HG := Lib.hid (HD1.out.1 b hr)
        have HFb := Lib.hid (HF.out b HG.out)
        have HSb := Lib.hid (HSL.out b)
        unfold decO Sb.cells at HDC
        have HRB := Lib.hid hr
        have HSETT := Lib.hid (fun W (h : BSt w W (o0.getD z0) z0 o0.isSome false) => h.set1 b)
        have HAT := Lib.hid (show b.at_ = b.at_ from rfl)
        have HNO := Lib.hid (show fitB b d = false ∨ b.at_ ≠ 1 → o1 = none from fun h => slot_out HO1.out (.inr ⟨b, HRB.out, h⟩))
        have HYES := Lib.hid (show fitB b d = true → b.at_ = 1 → o1 = some b from fun h1 h2 => slot_in HO1.out HRB.out h1 h2)
        obtain ⟨at_, hat⟩ : ∃ q, q = b.at_ := ⟨_, rfl⟩
        obtain ⟨ff, hff⟩ : ∃ q, q = fitB b d := ⟨_, rfl⟩
        rw [← hat] at HSb HNO HYES
        rw [← hff] at HFb HNO HYES
        clear hr hat hff HRB HG HAT
        obtain ⟨ep, s, l, n, sp, wd, lg⟩ := b
        simp only at HFb HSb HSETT HDC HNO HYES
        refine Calls.mono HDC.out ?_
        rintro e w2 ⟨rfl, b2⟩
        have HS2 := Lib.hid (HS1.out.below b2)
        obtain ⟨W3, hW3⟩ : ∃ X, X = w2.alloc (.cells #[.int .u64 (U64 ep), .int .i64 s, .int .i64 l, .int .i64 n, .int .i64 sp, .int .i64 wd, .int .u64 (U64 lg)] 32) := ⟨_, rfl⟩
        obtain ⟨G, hG⟩ : ∃ G, G = w2.heap.size := ⟨_, rfl⟩
        have HS3 := Lib.hid (show BSt w W3 (o0.getD z0) z0 o0.isSome false from by rw [hW3]; exact HS2.out.below (Gw.alloc w2 _))
        have HK3 := Lib.hid (show Bk W3 G 32 #[.int .u64 (U64 ep), .int .i64 s, .int .i64 l, .int .i64 n, .int .i64 sp, .int .i64 wd, .int .u64 (U64 lg)] from by rw [hW3, hG]; exact Bk.new w2 _ _)
        clear b2 HS1 HDC HS2
        obtain ⟨c0, c1, c2, c3, c4, c5, c6⟩ := HK3.out.seven
        go_wp2_with fail
        rw [← hW3, ← hG]
        clear hW3 hG
        refine Calls.mono (HFb.out _ HS3.out.bel) ?_
        rintro e w4 ⟨rfl, b4⟩
        have HS4 := Lib.hid (HS3.out.below b4)
        have HK4 := Lib.hid (HK3.out.below b4 HK3.out.lt)
        clear b4 HS3 HK3 c0 c1 c2 c3 c4 c5 c6
        obtain ⟨c0, c1, c2, c3, c4, c5, c6⟩ := HK4.out.seven
        cases ff with
        | false =>
          have HN := Lib.hid (HNO.out (.inl rfl))
          go_wp2_with fail
          go_roundw
          case rel => exact ⟨2, by omega, rfl, by rw [show o1 = none from HN.out]; exact HS4.out⟩
          case measure => (first | (simp [Go.RowKit.intOf]; done) | (simp [Go.RowKit.intOf]; omega))
        | true =>
          go_wp2_with fail
          refine Calls.mono (HSb.out _) ?_
          rintro e w' ⟨rfl, rfl⟩
          by_cases hat : at_ = 1
          · have HY := Lib.hid (show _ = some _ from by first | exact HYES.out trivial hat | exact HYES.out rfl hat)
            have qa : ((at_ : Int) == 1) = true := by rw [hat]; rfl
            have k5 := HS4.out.c5
            have k6 := HS4.out.c6
            have HSE := Lib.hid (HSETT.out _ HS4.out)
            have HL5 := Lib.hid k5.lt
            have HL6 := Lib.hid k6.lt
            unfold c14 at k5
            have x7 := k5.cell 7
            have y7 := k5.free 7
            have x8 := k5.cell 8
            have y8 := k5.free 8
            have x9 := k5.cell 9
            have y9 := k5.free 9
            have x10 := k5.cell 10
            have y10 := k5.free 10
            have x11 := k5.cell 11
            have y11 := k5.free 11
            have x12 := k5.cell 12
            have y12 := k5.free 12
            have x13 := k5.cell 13
            have y13 := k5.free 13
            have x20 := k6.cell 1
            have y20 := k6.free 1
            clear k5 k6 hat HNO HYES
            go_wp2_with fail
            go_roundw
            case rel => exact ⟨2, by omega, rfl, by rw [show o1 = some _ from HY.out]; exact HSE.out⟩
            case measure => (first | (simp [Go.RowKit.intOf]; done) | (simp [Go.RowKit.intOf]; omega))
          · have HN := Lib.hid (HNO.out (.inr hat))
            have qa : ((at_ : Int) == 1) = false := by simp; omega
            clear hat HNO HYES
            go_wp2_with fail
            go_roundw
            case rel => exact ⟨2, by omega, rfl, by rw [show o1 = none from HN.out]; exact HS4.out⟩
            case measure => (first | (simp [Go.RowKit.intOf]; done) | (simp [Go.RowKit.intOf]; omega))
    · have HS := Lib.hid (show BSt w wr (o0.getD z0) (o1.getD z0) o0.isSome o1.isSome from hs)
      clear hs HRD HF HSL HD0 HD1
      go_wp2_with fail
      refine both_end _ _ _ w.heap.size (w.heap.size + 1) (w.heap.size + 2) (w.heap.size + 3) _ _ _ _ HS.out.c5 HS.out.c6 HS.out.c2 HS.out.c3 rfl rfl rfl rfl (c14_one _ _) (r2_one _ _) (by omega) (by omega) ?_ ?_ ?_ ?_ ?_ ?_
      iterate 5 (· rfl)
      intro w5 k2 k3 hb
      have HE := Lib.hid (show Bk w5 w.heap.size 33 (c14 (o0.getD z0) (o1.getD z0)) ∧ Bk w5 (w.heap.size + 1) 34 #[.bool o0.isSome, .bool o1.isSome] ∧ Below w.heap.size w w5 from ⟨k2, k3, HS.out.bel.trans (hb _ (Nat.le_refl _) (by omega))⟩)
      clear k2 k3 hb
      simp only [putD, Act.put, List.setIfInBounds_toArray, List.set_cons_zero, List.set_cons_succ]
      go_wp2_with fail
      exact bodyPost_ret (v := .tuple #[.agg (c14 (o0.getD z0) (o1.getD z0)), .agg #[.bool o0.isSome, .bool o1.isSome], .int .i64 0]) (both_res rfl HE.out.1 rfl HE.out.2.1 rfl rfl rfl) rfl ⟨rfl, HE.out.2.2⟩
end Go.Proofs.Ytjcpbhjmmnpjnaa
/- What slots.Read tells. Conditions: the disk is on, it has two sectors. -/
namespace Go.Proofs.Ytjcpbhjmmnpjnaa
set_option linter.unusedVariables false
set_option linter.unusedSimpArgs false
open Go.RowKit Go.Maps
set_option maxRecDepth 100000
set_option maxHeartbeats 4000000
theorem wp_stR {P : Program} {ops : Array Oper} {rest : List Oper} {o : Oper} {a : Act} {w : World} {Q : Exit → Act → World → Prop} (hg : o.guard = none) (T : TypeId) (x y : Operand) (ho : o.op = .store T x y) (g : Nat) (cs : Array Value) (hx : a.eval x = .pointer (some ⟨g, 0, none⟩)) (hy : a.eval y = .agg cs) (E : TypeId) (old : Array Value) (hb : Bk w g E old)
    (hi : (P.info? T).map (·.size) = some cs.size) (hold : old.size = cs.size) (h1 : cs.all (·.oneCell') = true)
    (h : ∀ w', Bk w' g E cs → (∀ B, B ≤ g → Below B w w') → (∀ k, k ≠ g → w'.heap[k]? = w.heap[k]?) → wpList P ops Q rest (a.put o.dst undef) w') : wpList P ops Q (o :: rest) a w :=
  wpList_store_row hg T x y ho g cs hx hy E old hb hi hold h1 (h _ (setRow_heap w g old cs E (0, 0) hb) (fun B hB => srow_below hB cs) (fun k hk => setRow_other w g k cs hk))
def pickS : Option Sb → Option Sb → Option Sb
  | some a, some b => if U64 b.ep < U64 a.ep then some a else some b
  | some a, none => some a
  | none, o => o
theorem read_res {tmps : Array Value} {W : World} {g : Nat} {E : TypeId} {cs : Array Value} {y : Value} (hs : cs.size = 7) (hb : Bk W g E cs) (h2 : tmps.getD 2 undef = .pointer (some ⟨g, 0, none⟩)) (h3 : tmps.getD 3 undef = y) :
    (results Try.f10 tmps).run Try.prog W = .ok (.tuple #[.agg cs, y]) W := by
  have hl := run_loadVar_row (P := Try.prog) W g E 32 cs (0, 0) _ hb Try.underlying32 rfl (by rw [hs]; kernel_rfl)
  have h2' : tmps[2]?.getD undef = .pointer (some ⟨g, 0, none⟩) := by simpa using h2
  have h3' : tmps[3]?.getD undef = y := by simpa using h3
  simp [results, Try.results10, h2', h3', asAddr, hl]
theorem eq2b (x y u v : Bool) (W : World) : (Op.equalIn 10000 34 (.agg #[.bool x, .bool y]) (.agg #[.bool u, .bool v])).run Try.prog W = .ok (x == u && y == v) W := by
  have u3 := Try.underlying4
  rw [show (10000 : Nat) = 9999 + 1 from rfl, Op.equalIn]
  simp only [Sem.run_bind, run_underlying Try.underlying34, Result.andThen_ok]
  simp only [Std.Legacy.Range.forIn_eq_forIn_range', Std.Legacy.Range.size, Nat.sub_zero, Nat.add_sub_cancel, Nat.div_one, List.range'_succ, List.range'_zero, List.forIn_cons, List.forIn_nil]
  go_simp
  cases x <;> cases y <;> cases u <;> cases v <;> simp
theorem cells_one (a : Sb) : a.cells.all (·.oneCell') = true := by simp [Sb.cells, Value.oneCell']
theorem Bk.cut7 {w : World} {g : Nat} {E : TypeId} {a b : Sb} (h : Bk w g E (c14 a b)) :
    (w.cell? ⟨g, 0, none⟩ = some (.int .u64 (U64 a.ep)) ∧ w.cell? ⟨g, 1, none⟩ = some (.int .i64 a.s) ∧ w.cell? ⟨g, 2, none⟩ = some (.int .i64 a.l) ∧ w.cell? ⟨g, 3, none⟩ = some (.int .i64 a.n) ∧ w.cell? ⟨g, 4, none⟩ = some (.int .i64 a.sp) ∧ w.cell? ⟨g, 5, none⟩ = some (.int .i64 a.wd) ∧ w.cell? ⟨g, 6, none⟩ = some (.int .u64 (U64 a.lg))) ∧
    w.cell? ⟨g, 7, none⟩ = some (.int .u64 (U64 b.ep)) ∧ w.cell? ⟨g, 8, none⟩ = some (.int .i64 b.s) ∧ w.cell? ⟨g, 9, none⟩ = some (.int .i64 b.l) ∧ w.cell? ⟨g, 10, none⟩ = some (.int .i64 b.n) ∧ w.cell? ⟨g, 11, none⟩ = some (.int .i64 b.sp) ∧ w.cell? ⟨g, 12, none⟩ = some (.int .i64 b.wd) ∧ w.cell? ⟨g, 13, none⟩ = some (.int .u64 (U64 b.lg)) :=
  ⟨⟨h.cell 0, h.cell 1, h.cell 2, h.cell 3, h.cell 4, h.cell 5, h.cell 6⟩, h.cell 7, h.cell 8, h.cell 9, h.cell 10, h.cell 11, h.cell 12, h.cell 13⟩
theorem read_nn (g : Nat) (w : World) (a b : Sb) (h : ∀ W, Below w.heap.size w W → Calls Try.prog 9 #[.pointer (some ⟨g, 0, none⟩)] W (RetP (.tuple #[.agg (c14 a b), .agg #[.bool false, .bool false], .int .i64 0]) W)) :
    Calls Try.prog 10 #[.pointer (some ⟨g, 0, none⟩)] w (RetP (.tuple #[.agg z0.cells, .int .i64 2]) w) := by
  have H := Lib.hid h
  have HC := Lib.hid (c14_one a b)
  obtain ⟨cc, hcc⟩ : ∃ cc, cc = c14 a b := ⟨_, rfl⟩
  have HCC := Lib.hid hcc
  have HCS := Lib.hid (show cc.size = 14 from by rw [hcc]; rfl)
  rw [← hcc] at H HC
  have HBA := Lib.hid (Bk.new w 32 #[.int .u64 0, .int .i64 0, .int .i64 0, .int .i64 0, .int .i64 0, .int .i64 0, .int .u64 0])
  have HWA := Lib.hid (Gw.alloc w (.cells #[.int .u64 0, .int .i64 0, .int .i64 0, .int .i64 0, .int .i64 0, .int .i64 0, .int .u64 0] 32))
  clear h hcc
  have heq := eq2b
  go_enter Try.func10, Try.ntmps10
  go_wp2_with fail
  refine Calls.mono (H.out _ HWA.out) ?_
  rintro e w1 ⟨rfl, b1⟩
  have HB1 := Lib.hid (HWA.out.trans (b1.mono HWA.out.size))
  have HBA1 := Lib.hid (HBA.out.below b1 HBA.out.lt)
  obtain ⟨H0, hH0⟩ : ∃ k, k = w.heap.size := ⟨_, rfl⟩
  have HLT := Lib.hid (show H0 < w1.heap.size from by rw [hH0]; exact HBA1.out.lt)
  obtain ⟨Z14, hZ⟩ : ∃ z : Array Value, z = #[.int .u64 0, .int .i64 0, .int .i64 0, .int .i64 0, .int .i64 0, .int .i64 0, .int .u64 0, .int .u64 0, .int .i64 0, .int .i64 0, .int .i64 0, .int .i64 0, .int .i64 0, .int .u64 0] := ⟨_, rfl⟩
  have HZS := Lib.hid (show Z14.size = 14 from by rw [hZ]; rfl)
  obtain ⟨W2, hW2⟩ : ∃ W, W = (w1.alloc (.cells #[.int .u64 0, .int .i64 0, .int .i64 0, .int .i64 0, .int .i64 0, .int .i64 0, .int .u64 0, .int .u64 0, .int .i64 0, .int .i64 0, .int .i64 0, .int .i64 0, .int .i64 0, .int .u64 0] 33)).alloc (.cells #[.bool false, .bool false] 34) := ⟨_, rfl⟩
  have HB2 := Lib.hid (show Below w.heap.size w W2 ∧ Bk W2 H0 32 #[.int .u64 0, .int .i64 0, .int .i64 0, .int .i64 0, .int .i64 0, .int .i64 0, .int .u64 0] ∧ Bk W2 w1.heap.size 33 Z14 ∧ Bk W2 (w1.heap.size + 1) 34 #[.bool false, .bool false] from by
    rw [hW2, hH0, hZ]
    refine ⟨(HB1.out.alloc HB1.out.size _).alloc (by have := HB1.out.size; simp; omega) _, (HBA1.out.alloc _).alloc _, (Bk.new w1 _ _).alloc _, ?_⟩
    have := Bk.new (w1.alloc (.cells #[.int .u64 0, .int .i64 0, .int .i64 0, .int .i64 0, .int .i64 0, .int .i64 0, .int .u64 0, .int .u64 0, .int .i64 0, .int .i64 0, .int .i64 0, .int .i64 0, .int .i64 0, .int .u64 0] 33)) 34 #[.bool false, .bool false]
    simpa using this)
  have HW2 := Lib.hid hW2
  have HH0 := Lib.hid hH0
  clear b1 HBA HWA HBA1 hZ hW2 hH0
  go_wp2_with (first
    | (refine wp_stR rfl 33 _ _ rfl w1.heap.size cc rfl rfl 33 Z14 (by have := HB2.out.2.2.1; rw [HW2.out] at this; exact this) (by rw [HCS.out]; kernel_rfl) (by rw [HCS.out, HZS.out]) HC.out ?_; intro w3 k3 b3 o3; have HB3 := Lib.hid (show Below w.heap.size w w3 ∧ Bk w3 H0 32 #[.int .u64 0, .int .i64 0, .int .i64 0, .int .i64 0, .int .i64 0, .int .i64 0, .int .u64 0] ∧ Bk w3 w1.heap.size 33 cc ∧ Bk w3 (w1.heap.size + 1) 34 #[.bool false, .bool false] from (by rw [← HW2.out] at b3 o3; exact ⟨HB2.out.1.trans (b3 _ HB1.out.size), (o3 _ (by have := HLT.out; omega)).trans HB2.out.2.1, k3, (o3 _ (by omega)).trans HB2.out.2.2.2⟩)); clear k3 b3 o3)
    | (refine wp_stR rfl 34 _ _ rfl (w1.heap.size + 1) #[.bool false, .bool false] rfl rfl 34 #[.bool false, .bool false] HB3.out.2.2.2 (by kernel_rfl) rfl (r2_one _ _) ?_; intro w4 k4 b4 o4; have HB4 := Lib.hid (show Below w.heap.size w w4 ∧ Bk w4 H0 32 #[.int .u64 0, .int .i64 0, .int .i64 0, .int .i64 0, .int .i64 0, .int .i64 0, .int .u64 0] ∧ Bk w4 w1.heap.size 33 (c14 a b) from (by exact ⟨HB3.out.1.trans (b4 _ (by have := HB1.out.size; omega)), (o4 _ (by have := HLT.out; omega)).trans HB3.out.2.1, by rw [← HCC.out]; exact (o4 _ (by omega)).trans HB3.out.2.2.1⟩)); have r0 : w4.cell? ⟨w1.heap.size + 1, 0, none⟩ = some (.bool false) := k4.cell 0; have r1 : w4.cell? ⟨w1.heap.size + 1, 1, none⟩ = some (.bool false) := k4.cell 1; have HK4 := Lib.hid k4; obtain ⟨⟨x0, x1, x2, x3, x4, x5, x6⟩, x7, x8, x9, x10, x11, x12, x13⟩ := HB4.out.2.2.cut7; have HLT4 := Lib.hid HB4.out.2.2.lt; clear b4 o4 k4)
    | (refine wp_stR rfl 32 _ _ rfl H0 #[.int .u64 0, .int .i64 0, .int .i64 0, .int .i64 0, .int .i64 0, .int .i64 0, .int .u64 0] (by rw [HH0.out]; rfl) rfl 32 #[.int .u64 0, .int .i64 0, .int .i64 0, .int .i64 0, .int .i64 0, .int .i64 0, .int .u64 0] HB4.out.2.1 (by kernel_rfl) rfl (by simp [Value.oneCell']) ?_; intro w9 k9 b9 o9; have HB9 := Lib.hid (And.intro HB4.out.1 (And.intro (b9 H0 (Nat.le_refl _)) k9)); clear k9 b9 o9))
  refine bodyPost_ret (v := .tuple #[.agg z0.cells, .int .i64 2]) (read_res rfl HB9.out.2.2 (by rw [HH0.out]; rfl) rfl) rfl ⟨rfl, HB9.out.1.trans (HH0.out ▸ HB9.out.2.1)⟩
theorem read_ny (g : Nat) (w : World) (a b : Sb) (h : ∀ W, Below w.heap.size w W → Calls Try.prog 9 #[.pointer (some ⟨g, 0, none⟩)] W (RetP (.tuple #[.agg (c14 a b), .agg #[.bool false, .bool true], .int .i64 0]) W)) :
    Calls Try.prog 10 #[.pointer (some ⟨g, 0, none⟩)] w (RetP (.tuple #[.agg b.cells, .int .i64 0]) w) := by
  have H := Lib.hid h
  have HC := Lib.hid (c14_one a b)
  obtain ⟨cc, hcc⟩ : ∃ cc, cc = c14 a b := ⟨_, rfl⟩
  have HCC := Lib.hid hcc
  have HCS := Lib.hid (show cc.size = 14 from by rw [hcc]; rfl)
  rw [← hcc] at H HC
  have HBA := Lib.hid (Bk.new w 32 #[.int .u64 0, .int .i64 0, .int .i64 0, .int .i64 0, .int .i64 0, .int .i64 0, .int .u64 0])
  have HWA := Lib.hid (Gw.alloc w (.cells #[.int .u64 0, .int .i64 0, .int .i64 0, .int .i64 0, .int .i64 0, .int .i64 0, .int .u64 0] 32))
  clear h hcc
  have heq := eq2b
  go_enter Try.func10, Try.ntmps10
  go_wp2_with fail
  refine Calls.mono (H.out _ HWA.out) ?_
  rintro e w1 ⟨rfl, b1⟩
  have HB1 := Lib.hid (HWA.out.trans (b1.mono HWA.out.size))
  have HBA1 := Lib.hid (HBA.out.below b1 HBA.out.lt)
  obtain ⟨H0, hH0⟩ : ∃ k, k = w.heap.size := ⟨_, rfl⟩
  have HLT := Lib.hid (show H0 < w1.heap.size from by rw [hH0]; exact HBA1.out.lt)
  obtain ⟨Z14, hZ⟩ : ∃ z : Array Value, z = #[.int .u64 0, .int .i64 0, .int .i64 0, .int .i64 0, .int .i64 0, .int .i64 0, .int .u64 0, .int .u64 0, .int .i64 0, .int .i64 0, .int .i64 0, .int .i64 0, .int .i64 0, .int .u64 0] := ⟨_, rfl⟩
  have HZS := Lib.hid (show Z14.size = 14 from by rw [hZ]; rfl)
  obtain ⟨W2, hW2⟩ : ∃ W, W = (w1.alloc (.cells #[.int .u64 0, .int .i64 0, .int .i64 0, .int .i64 0, .int .i64 0, .int .i64 0, .int .u64 0, .int .u64 0, .int .i64 0, .int .i64 0, .int .i64 0, .int .i64 0, .int .i64 0, .int .u64 0] 33)).alloc (.cells #[.bool false, .bool false] 34) := ⟨_, rfl⟩
  have HB2 := Lib.hid (show Below w.heap.size w W2 ∧ Bk W2 H0 32 #[.int .u64 0, .int .i64 0, .int .i64 0, .int .i64 0, .int .i64 0, .int .i64 0, .int .u64 0] ∧ Bk W2 w1.heap.size 33 Z14 ∧ Bk W2 (w1.heap.size + 1) 34 #[.bool false, .bool false] from by
    rw [hW2, hH0, hZ]
    refine ⟨(HB1.out.alloc HB1.out.size _).alloc (by have := HB1.out.size; simp; omega) _, (HBA1.out.alloc _).alloc _, (Bk.new w1 _ _).alloc _, ?_⟩
    have := Bk.new (w1.alloc (.cells #[.int .u64 0, .int .i64 0, .int .i64 0, .int .i64 0, .int .i64 0, .int .i64 0, .int .u64 0, .int .u64 0, .int .i64 0, .int .i64 0, .int .i64 0, .int .i64 0, .int .i64 0, .int .u64 0] 33)) 34 #[.bool false, .bool false]
    simpa using this)
  have HW2 := Lib.hid hW2
  have HH0 := Lib.hid hH0
  clear b1 HBA HWA HBA1 hZ hW2 hH0
  go_wp2_with (first
    | (refine wp_stR rfl 33 _ _ rfl w1.heap.size cc rfl rfl 33 Z14 (by have := HB2.out.2.2.1; rw [HW2.out] at this; exact this) (by rw [HCS.out]; kernel_rfl) (by rw [HCS.out, HZS.out]) HC.out ?_; intro w3 k3 b3 o3; have HB3 := Lib.hid (show Below w.heap.size w w3 ∧ Bk w3 H0 32 #[.int .u64 0, .int .i64 0, .int .i64 0, .int .i64 0, .int .i64 0, .int .i64 0, .int .u64 0] ∧ Bk w3 w1.heap.size 33 cc ∧ Bk w3 (w1.heap.size + 1) 34 #[.bool false, .bool false] from (by rw [← HW2.out] at b3 o3; exact ⟨HB2.out.1.trans (b3 _ HB1.out.size), (o3 _ (by have := HLT.out; omega)).trans HB2.out.2.1, k3, (o3 _ (by omega)).trans HB2.out.2.2.2⟩)); clear k3 b3 o3)
    | (refine wp_stR rfl 34 _ _ rfl (w1.heap.size + 1) #[.bool false, .bool true] rfl rfl 34 #[.bool false, .bool false] HB3.out.2.2.2 (by kernel_rfl) rfl (r2_one _ _) ?_; intro w4 k4 b4 o4; have HB4 := Lib.hid (show Below w.heap.size w w4 ∧ Bk w4 H0 32 #[.int .u64 0, .int .i64 0, .int .i64 0, .int .i64 0, .int .i64 0, .int .i64 0, .int .u64 0] ∧ Bk w4 w1.heap.size 33 (c14 a b) from (by exact ⟨HB3.out.1.trans (b4 _ (by have := HB1.out.size; omega)), (o4 _ (by have := HLT.out; omega)).trans HB3.out.2.1, by rw [← HCC.out]; exact (o4 _ (by omega)).trans HB3.out.2.2.1⟩)); have r0 : w4.cell? ⟨w1.heap.size + 1, 0, none⟩ = some (.bool false) := k4.cell 0; have r1 : w4.cell? ⟨w1.heap.size + 1, 1, none⟩ = some (.bool true) := k4.cell 1; have HK4 := Lib.hid k4; obtain ⟨⟨x0, x1, x2, x3, x4, x5, x6⟩, x7, x8, x9, x10, x11, x12, x13⟩ := HB4.out.2.2.cut7; have HLT4 := Lib.hid HB4.out.2.2.lt; clear b4 o4 k4)
    | (refine wp_stR rfl 32 _ _ rfl H0 #[.int .u64 (U64 b.ep), .int .i64 b.s, .int .i64 b.l, .int .i64 b.n, .int .i64 b.sp, .int .i64 b.wd, .int .u64 (U64 b.lg)] (by rw [HH0.out]; rfl) rfl 32 #[.int .u64 0, .int .i64 0, .int .i64 0, .int .i64 0, .int .i64 0, .int .i64 0, .int .u64 0] HB4.out.2.1 (by kernel_rfl) rfl (cells_one b) ?_; intro w9 k9 b9 o9; have HB9 := Lib.hid (And.intro HB4.out.1 (And.intro (b9 H0 (Nat.le_refl _)) k9)); clear k9 b9 o9))
  refine bodyPost_ret (v := .tuple #[.agg b.cells, .int .i64 0]) (read_res rfl HB9.out.2.2 (by rw [HH0.out]; rfl) rfl) rfl ⟨rfl, HB9.out.1.trans (HH0.out ▸ HB9.out.2.1)⟩
theorem read_yn (g : Nat) (w : World) (a b : Sb) (h : ∀ W, Below w.heap.size w W → Calls Try.prog 9 #[.pointer (some ⟨g, 0, none⟩)] W (RetP (.tuple #[.agg (c14 a b), .agg #[.bool true, .bool false], .int .i64 0]) W)) :
    Calls Try.prog 10 #[.pointer (some ⟨g, 0, none⟩)] w (RetP (.tuple #[.agg a.cells, .int .i64 0]) w) := by
  have H := Lib.hid h
  have HC := Lib.hid (c14_one a b)
  obtain ⟨cc, hcc⟩ : ∃ cc, cc = c14 a b := ⟨_, rfl⟩
  have HCC := Lib.hid hcc
  have HCS := Lib.hid (show cc.size = 14 from by rw [hcc]; rfl)
  rw [← hcc] at H HC
  have HBA := Lib.hid (Bk.new w 32 #[.int .u64 0, .int .i64 0, .int .i64 0, .int .i64 0, .int .i64 0, .int .i64 0, .int .u64 0])
  have HWA := Lib.hid (Gw.alloc w (.cells #[.int .u64 0, .int .i64 0, .int .i64 0, .int .i64 0, .int .i64 0, .int .i64 0, .int .u64 0] 32))
  clear h hcc
  have heq := eq2b
  go_enter Try.func10, Try.ntmps10
  go_wp2_with fail
  refine Calls.mono (H.out _ HWA.out) ?_
  rintro e w1 ⟨rfl, b1⟩
  have HB1 := Lib.hid (HWA.out.trans (b1.mono HWA.out.size))
  have HBA1 := Lib.hid (HBA.out.below b1 HBA.out.lt)
  obtain ⟨H0, hH0⟩ : ∃ k, k = w.heap.size := ⟨_, rfl⟩
  have HLT := Lib.hid (show H0 < w1.heap.size from by rw [hH0]; exact HBA1.out.lt)
  obtain ⟨Z14, hZ⟩ : ∃ z : Array Value, z = #[.int .u64 0, .int .i64 0, .int .i64 0, .int .i64 0, .int .i64 0, .int .i64 0, .int .u64 0, .int .u64 0, .int .i64 0, .int .i64 0, .int .i64 0, .int .i64 0, .int .i64 0, .int .u64 0] := ⟨_, rfl⟩
  have HZS := Lib.hid (show Z14.size = 14 from by rw [hZ]; rfl)
  obtain ⟨W2, hW2⟩ : ∃ W, W = (w1.alloc (.cells #[.int .u64 0, .int .i64 0, .int .i64 0, .int .i64 0, .int .i64 0, .int .i64 0, .int .u64 0, .int .u64 0, .int .i64 0, .int .i64 0, .int .i64 0, .int .i64 0, .int .i64 0, .int .u64 0] 33)).alloc (.cells #[.bool false, .bool false] 34) := ⟨_, rfl⟩
  have HB2 := Lib.hid (show Below w.heap.size w W2 ∧ Bk W2 H0 32 #[.int .u64 0, .int .i64 0, .int .i64 0, .int .i64 0, .int .i64 0, .int .i64 0, .int .u64 0] ∧ Bk W2 w1.heap.size 33 Z14 ∧ Bk W2 (w1.heap.size + 1) 34 #[.bool false, .bool false] from by
    rw [hW2, hH0, hZ]
    refine ⟨(HB1.out.alloc HB1.out.size _).alloc (by have := HB1.out.size; simp; omega) _, (HBA1.out.alloc _).alloc _, (Bk.new w1 _ _).alloc _, ?_⟩
    have := Bk.new (w1.alloc (.cells #[.int .u64 0, .int .i64 0, .int .i64 0, .int .i64 0, .int .i64 0, .int .i64 0, .int .u64 0, .int .u64 0, .int .i64 0, .int .i64 0, .int .i64 0, .int .i64 0, .int .i64 0, .int .u64 0] 33)) 34 #[.bool false, .bool false]
    simpa using this)
  have HW2 := Lib.hid hW2
  have HH0 := Lib.hid hH0
  clear b1 HBA HWA HBA1 hZ hW2 hH0
  go_wp2_with (first
    | (refine wp_stR rfl 33 _ _ rfl w1.heap.size cc rfl rfl 33 Z14 (by have := HB2.out.2.2.1; rw [HW2.out] at this; exact this) (by rw [HCS.out]; kernel_rfl) (by rw [HCS.out, HZS.out]) HC.out ?_; intro w3 k3 b3 o3; have HB3 := Lib.hid (show Below w.heap.size w w3 ∧ Bk w3 H0 32 #[.int .u64 0, .int .i64 0, .int .i64 0, .int .i64 0, .int .i64 0, .int .i64 0, .int .u64 0] ∧ Bk w3 w1.heap.size 33 cc ∧ Bk w3 (w1.heap.size + 1) 34 #[.bool false, .bool false] from (by rw [← HW2.out] at b3 o3; exact ⟨HB2.out.1.trans (b3 _ HB1.out.size), (o3 _ (by have := HLT.out; omega)).trans HB2.out.2.1, k3, (o3 _ (by omega)).trans HB2.out.2.2.2⟩)); clear k3 b3 o3)
    | (refine wp_stR rfl 34 _ _ rfl (w1.heap.size + 1) #[.bool true, .bool false] rfl rfl 34 #[.bool false, .bool false] HB3.out.2.2.2 (by kernel_rfl) rfl (r2_one _ _) ?_; intro w4 k4 b4 o4; have HB4 := Lib.hid (show Below w.heap.size w w4 ∧ Bk w4 H0 32 #[.int .u64 0, .int .i64 0, .int .i64 0, .int .i64 0, .int .i64 0, .int .i64 0, .int .u64 0] ∧ Bk w4 w1.heap.size 33 (c14 a b) from (by exact ⟨HB3.out.1.trans (b4 _ (by have := HB1.out.size; omega)), (o4 _ (by have := HLT.out; omega)).trans HB3.out.2.1, by rw [← HCC.out]; exact (o4 _ (by omega)).trans HB3.out.2.2.1⟩)); have r0 : w4.cell? ⟨w1.heap.size + 1, 0, none⟩ = some (.bool true) := k4.cell 0; have r1 : w4.cell? ⟨w1.heap.size + 1, 1, none⟩ = some (.bool false) := k4.cell 1; have HK4 := Lib.hid k4; obtain ⟨⟨x0, x1, x2, x3, x4, x5, x6⟩, x7, x8, x9, x10, x11, x12, x13⟩ := HB4.out.2.2.cut7; have HLT4 := Lib.hid HB4.out.2.2.lt; clear b4 o4 k4)
    | (refine wp_stR rfl 32 _ _ rfl H0 #[.int .u64 (U64 a.ep), .int .i64 a.s, .int .i64 a.l, .int .i64 a.n, .int .i64 a.sp, .int .i64 a.wd, .int .u64 (U64 a.lg)] (by rw [HH0.out]; rfl) rfl 32 #[.int .u64 0, .int .i64 0, .int .i64 0, .int .i64 0, .int .i64 0, .int .i64 0, .int .u64 0] HB4.out.2.1 (by kernel_rfl) rfl (cells_one a) ?_; intro w9 k9 b9 o9; have HB9 := Lib.hid (And.intro HB4.out.1 (And.intro (b9 H0 (Nat.le_refl _)) k9)); clear k9 b9 o9))
  refine bodyPost_ret (v := .tuple #[.agg a.cells, .int .i64 0]) (read_res rfl HB9.out.2.2 (by rw [HH0.out]; rfl) rfl) rfl ⟨rfl, HB9.out.1.trans (HH0.out ▸ HB9.out.2.1)⟩
theorem read_yy1 (g : Nat) (w : World) (a b : Sb) (hn : decide (U64 b.ep < U64 a.ep) = true) (h : ∀ W, Below w.heap.size w W → Calls Try.prog 9 #[.pointer (some ⟨g, 0, none⟩)] W (RetP (.tuple #[.agg (c14 a b), .agg #[.bool true, .bool true], .int .i64 0]) W)) :
    Calls Try.prog 10 #[.pointer (some ⟨g, 0, none⟩)] w (RetP (.tuple #[.agg a.cells, .int .i64 0]) w) := by
  have H := Lib.hid h
  have HNW := Lib.hid (show ∀ W, Calls Try.prog 29 #[.agg #[.int .u64 (U64 a.ep), .int .i64 a.s, .int .i64 a.l, .int .i64 a.n, .int .i64 a.sp, .int .i64 a.wd, .int .u64 (U64 a.lg)], .agg #[.int .u64 (U64 b.ep), .int .i64 b.s, .int .i64 b.l, .int .i64 b.n, .int .i64 b.sp, .int .i64 b.wd, .int .u64 (U64 b.lg)]] W (RetP (.bool true) W) from fun W => by
    have := newer_c a.ep b.ep a.s a.l a.n a.sp a.wd b.s b.l b.n b.sp b.wd a.lg b.lg W
    rw [hn] at this
    exact this)
  have HC := Lib.hid (c14_one a b)
  obtain ⟨cc, hcc⟩ : ∃ cc, cc = c14 a b := ⟨_, rfl⟩
  have HCC := Lib.hid hcc
  have HCS := Lib.hid (show cc.size = 14 from by rw [hcc]; rfl)
  rw [← hcc] at H HC
  have HBA := Lib.hid (Bk.new w 32 #[.int .u64 0, .int .i64 0, .int .i64 0, .int .i64 0, .int .i64 0, .int .i64 0, .int .u64 0])
  have HWA := Lib.hid (Gw.alloc w (.cells #[.int .u64 0, .int .i64 0, .int .i64 0, .int .i64 0, .int .i64 0, .int .i64 0, .int .u64 0] 32))
  clear h hcc hn
  have heq := eq2b
  go_enter Try.func10, Try.ntmps10
  go_wp2_with fail
  refine Calls.mono (H.out _ HWA.out) ?_
  rintro e w1 ⟨rfl, b1⟩
  have HB1 := Lib.hid (HWA.out.trans (b1.mono HWA.out.size))
  have HBA1 := Lib.hid (HBA.out.below b1 HBA.out.lt)
  obtain ⟨H0, hH0⟩ : ∃ k, k = w.heap.size := ⟨_, rfl⟩
  have HLT := Lib.hid (show H0 < w1.heap.size from by rw [hH0]; exact HBA1.out.lt)
  obtain ⟨Z14, hZ⟩ : ∃ z : Array Value, z = #[.int .u64 0, .int .i64 0, .int .i64 0, .int .i64 0, .int .i64 0, .int .i64 0, .int .u64 0, .int .u64 0, .int .i64 0, .int .i64 0, .int .i64 0, .int .i64 0, .int .i64 0, .int .u64 0] := ⟨_, rfl⟩
  have HZS := Lib.hid (show Z14.size = 14 from by rw [hZ]; rfl)
  obtain ⟨W2, hW2⟩ : ∃ W, W = (w1.alloc (.cells #[.int .u64 0, .int .i64 0, .int .i64 0, .int .i64 0, .int .i64 0, .int .i64 0, .int .u64 0, .int .u64 0, .int .i64 0, .int .i64 0, .int .i64 0, .int .i64 0, .int .i64 0, .int .u64 0] 33)).alloc (.cells #[.bool false, .bool false] 34) := ⟨_, rfl⟩
  have HB2 := Lib.hid (show Below w.heap.size w W2 ∧ Bk W2 H0 32 #[.int .u64 0, .int .i64 0, .int .i64 0, .int .i64 0, .int .i64 0, .int .i64 0, .int .u64 0] ∧ Bk W2 w1.heap.size 33 Z14 ∧ Bk W2 (w1.heap.size + 1) 34 #[.bool false, .bool false] from by
    rw [hW2, hH0, hZ]
    refine ⟨(HB1.out.alloc HB1.out.size _).alloc (by have := HB1.out.size; simp; omega) _, (HBA1.out.alloc _).alloc _, (Bk.new w1 _ _).alloc _, ?_⟩
    have := Bk.new (w1.alloc (.cells #[.int .u64 0, .int .i64 0, .int .i64 0, .int .i64 0, .int .i64 0, .int .i64 0, .int .u64 0, .int .u64 0, .int .i64 0, .int .i64 0, .int .i64 0, .int .i64 0, .int .i64 0, .int .u64 0] 33)) 34 #[.bool false, .bool false]
    simpa using this)
  have HW2 := Lib.hid hW2
  have HH0 := Lib.hid hH0
  clear b1 HBA HWA HBA1 hZ hW2 hH0
  go_wp2_with (first
    | (refine wp_stR rfl 33 _ _ rfl w1.heap.size cc rfl rfl 33 Z14 (by have := HB2.out.2.2.1; rw [HW2.out] at this; exact this) (by rw [HCS.out]; kernel_rfl) (by rw [HCS.out, HZS.out]) HC.out ?_; intro w3 k3 b3 o3; have HB3 := Lib.hid (show Below w.heap.size w w3 ∧ Bk w3 H0 32 #[.int .u64 0, .int .i64 0, .int .i64 0, .int .i64 0, .int .i64 0, .int .i64 0, .int .u64 0] ∧ Bk w3 w1.heap.size 33 cc ∧ Bk w3 (w1.heap.size + 1) 34 #[.bool false, .bool false] from (by rw [← HW2.out] at b3 o3; exact ⟨HB2.out.1.trans (b3 _ HB1.out.size), (o3 _ (by have := HLT.out; omega)).trans HB2.out.2.1, k3, (o3 _ (by omega)).trans HB2.out.2.2.2⟩)); clear k3 b3 o3)
    | (refine wp_stR rfl 34 _ _ rfl (w1.heap.size + 1) #[.bool true, .bool true] rfl rfl 34 #[.bool false, .bool false] HB3.out.2.2.2 (by kernel_rfl) rfl (r2_one _ _) ?_; intro w4 k4 b4 o4; have HB4 := Lib.hid (show Below w.heap.size w w4 ∧ Bk w4 H0 32 #[.int .u64 0, .int .i64 0, .int .i64 0, .int .i64 0, .int .i64 0, .int .i64 0, .int .u64 0] ∧ Bk w4 w1.heap.size 33 (c14 a b) from (by exact ⟨HB3.out.1.trans (b4 _ (by have := HB1.out.size; omega)), (o4 _ (by have := HLT.out; omega)).trans HB3.out.2.1, by rw [← HCC.out]; exact (o4 _ (by omega)).trans HB3.out.2.2.1⟩)); have r0 : w4.cell? ⟨w1.heap.size + 1, 0, none⟩ = some (.bool true) := k4.cell 0; have r1 : w4.cell? ⟨w1.heap.size + 1, 1, none⟩ = some (.bool true) := k4.cell 1; have HK4 := Lib.hid k4; obtain ⟨⟨x0, x1, x2, x3, x4, x5, x6⟩, x7, x8, x9, x10, x11, x12, x13⟩ := HB4.out.2.2.cut7; have HLT4 := Lib.hid HB4.out.2.2.lt; clear b4 o4 k4)
    | fail)
  refine Calls.mono (HNW.out _) ?_
  rintro e w5 ⟨rfl, b5⟩
  have HB5 := Lib.hid (show Below w.heap.size w w5 ∧ Bk w5 H0 32 #[.int .u64 0, .int .i64 0, .int .i64 0, .int .i64 0, .int .i64 0, .int .i64 0, .int .u64 0] from ⟨HB4.out.1.trans (b5.mono HB4.out.1.size), HB4.out.2.1.below b5 HB4.out.2.1.lt⟩)
  have HC5 := Lib.hid (HB4.out.2.2.below b5 HB4.out.2.2.lt)
  clear x0 x1 x2 x3 x4 x5 x6 x7 x8 x9 x10 x11 x12 x13 r0 r1 b5
  obtain ⟨⟨x0, x1, x2, x3, x4, x5, x6⟩, x7, x8, x9, x10, x11, x12, x13⟩ := HC5.out.cut7
  go_wp2_with (refine wp_stR rfl 32 _ _ rfl H0 #[.int .u64 (U64 a.ep), .int .i64 a.s, .int .i64 a.l, .int .i64 a.n, .int .i64 a.sp, .int .i64 a.wd, .int .u64 (U64 a.lg)] (by rw [HH0.out]; rfl) rfl 32 #[.int .u64 0, .int .i64 0, .int .i64 0, .int .i64 0, .int .i64 0, .int .i64 0, .int .u64 0] HB5.out.2 (by kernel_rfl) rfl (cells_one a) ?_; intro w9 k9 b9 o9; have HB9 := Lib.hid (And.intro HB5.out.1 (And.intro (b9 H0 (Nat.le_refl _)) k9)); clear k9 b9 o9)
  refine bodyPost_ret (v := .tuple #[.agg a.cells, .int .i64 0]) (read_res rfl HB9.out.2.2 (by rw [HH0.out]; rfl) rfl) rfl ⟨rfl, HB9.out.1.trans (HH0.out ▸ HB9.out.2.1)⟩
theorem read_yy2 (g : Nat) (w : World) (a b : Sb) (hn : decide (U64 b.ep < U64 a.ep) = false) (h : ∀ W, Below w.heap.size w W → Calls Try.prog 9 #[.pointer (some ⟨g, 0, none⟩)] W (RetP (.tuple #[.agg (c14 a b), .agg #[.bool true, .bool true], .int .i64 0]) W)) :
    Calls Try.prog 10 #[.pointer (some ⟨g, 0, none⟩)] w (RetP (.tuple #[.agg b.cells, .int .i64 0]) w) := by
  have H := Lib.hid h
  have HNW := Lib.hid (show ∀ W, Calls Try.prog 29 #[.agg #[.int .u64 (U64 a.ep), .int .i64 a.s, .int .i64 a.l, .int .i64 a.n, .int .i64 a.sp, .int .i64 a.wd, .int .u64 (U64 a.lg)], .agg #[.int .u64 (U64 b.ep), .int .i64 b.s, .int .i64 b.l, .int .i64 b.n, .int .i64 b.sp, .int .i64 b.wd, .int .u64 (U64 b.lg)]] W (RetP (.bool false) W) from fun W => by
    have := newer_c a.ep b.ep a.s a.l a.n a.sp a.wd b.s b.l b.n b.sp b.wd a.lg b.lg W
    rw [hn] at this
    exact this)
  have HC := Lib.hid (c14_one a b)
  obtain ⟨cc, hcc⟩ : ∃ cc, cc = c14 a b := ⟨_, rfl⟩
  have HCC := Lib.hid hcc
  have HCS := Lib.hid (show cc.size = 14 from by rw [hcc]; rfl)
  rw [← hcc] at H HC
  have HBA := Lib.hid (Bk.new w 32 #[.int .u64 0, .int .i64 0, .int .i64 0, .int .i64 0, .int .i64 0, .int .i64 0, .int .u64 0])
  have HWA := Lib.hid (Gw.alloc w (.cells #[.int .u64 0, .int .i64 0, .int .i64 0, .int .i64 0, .int .i64 0, .int .i64 0, .int .u64 0] 32))
  clear h hcc hn
  have heq := eq2b
  go_enter Try.func10, Try.ntmps10
  go_wp2_with fail
  refine Calls.mono (H.out _ HWA.out) ?_
  rintro e w1 ⟨rfl, b1⟩
  have HB1 := Lib.hid (HWA.out.trans (b1.mono HWA.out.size))
  have HBA1 := Lib.hid (HBA.out.below b1 HBA.out.lt)
  obtain ⟨H0, hH0⟩ : ∃ k, k = w.heap.size := ⟨_, rfl⟩
  have HLT := Lib.hid (show H0 < w1.heap.size from by rw [hH0]; exact HBA1.out.lt)
  obtain ⟨Z14, hZ⟩ : ∃ z : Array Value, z = #[.int .u64 0, .int .i64 0, .int .i64 0, .int .i64 0, .int .i64 0, .int .i64 0, .int .u64 0, .int .u64 0, .int .i64 0, .int .i64 0, .int .i64 0, .int .i64 0, .int .i64 0, .int .u64 0] := ⟨_, rfl⟩
  have HZS := Lib.hid (show Z14.size = 14 from by rw [hZ]; rfl)
  obtain ⟨W2, hW2⟩ : ∃ W, W = (w1.alloc (.cells #[.int .u64 0, .int .i64 0, .int .i64 0, .int .i64 0, .int .i64 0, .int .i64 0, .int .u64 0, .int .u64 0, .int .i64 0, .int .i64 0, .int .i64 0, .int .i64 0, .int .i64 0, .int .u64 0] 33)).alloc (.cells #[.bool false, .bool false] 34) := ⟨_, rfl⟩
  have HB2 := Lib.hid (show Below w.heap.size w W2 ∧ Bk W2 H0 32 #[.int .u64 0, .int .i64 0, .int .i64 0, .int .i64 0, .int .i64 0, .int .i64 0, .int .u64 0] ∧ Bk W2 w1.heap.size 33 Z14 ∧ Bk W2 (w1.heap.size + 1) 34 #[.bool false, .bool false] from by
    rw [hW2, hH0, hZ]
    refine ⟨(HB1.out.alloc HB1.out.size _).alloc (by have := HB1.out.size; simp; omega) _, (HBA1.out.alloc _).alloc _, (Bk.new w1 _ _).alloc _, ?_⟩
    have := Bk.new (w1.alloc (.cells #[.int .u64 0, .int .i64 0, .int .i64 0, .int .i64 0, .int .i64 0, .int .i64 0, .int .u64 0, .int .u64 0, .int .i64 0, .int .i64 0, .int .i64 0, .int .i64 0, .int .i64 0, .int .u64 0] 33)) 34 #[.bool false, .bool false]
    simpa using this)
  have HW2 := Lib.hid hW2
  have HH0 := Lib.hid hH0
  clear b1 HBA HWA HBA1 hZ hW2 hH0
  go_wp2_with (first
    | (refine wp_stR rfl 33 _ _ rfl w1.heap.size cc rfl rfl 33 Z14 (by have := HB2.out.2.2.1; rw [HW2.out] at this; exact this) (by rw [HCS.out]; kernel_rfl) (by rw [HCS.out, HZS.out]) HC.out ?_; intro w3 k3 b3 o3; have HB3 := Lib.hid (show Below w.heap.size w w3 ∧ Bk w3 H0 32 #[.int .u64 0, .int .i64 0, .int .i64 0, .int .i64 0, .int .i64 0, .int .i64 0, .int .u64 0] ∧ Bk w3 w1.heap.size 33 cc ∧ Bk w3 (w1.heap.size + 1) 34 #[.bool false, .bool false] from (by rw [← HW2.out] at b3 o3; exact ⟨HB2.out.1.trans (b3 _ HB1.out.size), (o3 _ (by have := HLT.out; omega)).trans HB2.out.2.1, k3, (o3 _ (by omega)).trans HB2.out.2.2.2⟩)); clear k3 b3 o3)
    | (refine wp_stR rfl 34 _ _ rfl (w1.heap.size + 1) #[.bool true, .bool true] rfl rfl 34 #[.bool false, .bool false] HB3.out.2.2.2 (by kernel_rfl) rfl (r2_one _ _) ?_; intro w4 k4 b4 o4; have HB4 := Lib.hid (show Below w.heap.size w w4 ∧ Bk w4 H0 32 #[.int .u64 0, .int .i64 0, .int .i64 0, .int .i64 0, .int .i64 0, .int .i64 0, .int .u64 0] ∧ Bk w4 w1.heap.size 33 (c14 a b) from (by exact ⟨HB3.out.1.trans (b4 _ (by have := HB1.out.size; omega)), (o4 _ (by have := HLT.out; omega)).trans HB3.out.2.1, by rw [← HCC.out]; exact (o4 _ (by omega)).trans HB3.out.2.2.1⟩)); have r0 : w4.cell? ⟨w1.heap.size + 1, 0, none⟩ = some (.bool true) := k4.cell 0; have r1 : w4.cell? ⟨w1.heap.size + 1, 1, none⟩ = some (.bool true) := k4.cell 1; have HK4 := Lib.hid k4; obtain ⟨⟨x0, x1, x2, x3, x4, x5, x6⟩, x7, x8, x9, x10, x11, x12, x13⟩ := HB4.out.2.2.cut7; have HLT4 := Lib.hid HB4.out.2.2.lt; clear b4 o4 k4)
    | fail)
  refine Calls.mono (HNW.out _) ?_
  rintro e w5 ⟨rfl, b5⟩
  have HB5 := Lib.hid (show Below w.heap.size w w5 ∧ Bk w5 H0 32 #[.int .u64 0, .int .i64 0, .int .i64 0, .int .i64 0, .int .i64 0, .int .i64 0, .int .u64 0] from ⟨HB4.out.1.trans (b5.mono HB4.out.1.size), HB4.out.2.1.below b5 HB4.out.2.1.lt⟩)
  have HC5 := Lib.hid (HB4.out.2.2.below b5 HB4.out.2.2.lt)
  clear x0 x1 x2 x3 x4 x5 x6 x7 x8 x9 x10 x11 x12 x13 r0 r1 b5
  obtain ⟨⟨x0, x1, x2, x3, x4, x5, x6⟩, x7, x8, x9, x10, x11, x12, x13⟩ := HC5.out.cut7
  go_wp2_with (refine wp_stR rfl 32 _ _ rfl H0 #[.int .u64 (U64 b.ep), .int .i64 b.s, .int .i64 b.l, .int .i64 b.n, .int .i64 b.sp, .int .i64 b.wd, .int .u64 (U64 b.lg)] (by rw [HH0.out]; rfl) rfl 32 #[.int .u64 0, .int .i64 0, .int .i64 0, .int .i64 0, .int .i64 0, .int .i64 0, .int .u64 0] HB5.out.2 (by kernel_rfl) rfl (cells_one b) ?_; intro w9 k9 b9 o9; have HB9 := Lib.hid (And.intro HB5.out.1 (And.intro (b9 H0 (Nat.le_refl _)) k9)); clear k9 b9 o9)
  refine bodyPost_ret (v := .tuple #[.agg b.cells, .int .i64 0]) (read_res rfl HB9.out.2.2 (by rw [HH0.out]; rfl) rfl) rfl ⟨rfl, HB9.out.1.trans (HH0.out ▸ HB9.out.2.1)⟩
theorem read_c {B : Nat} {X : Nat → Prop} {w : World} {g : Nat} {d : DK} (h : DiskX B X w g d) (ho : d.off = false) (h2 : 2 ≤ d.secs) (r0 r1 : Option Sb) (D0 : DecOK (curL d 0) r0) (D1 : DecOK (curL d 1) r1) :
    Calls Try.prog 10 #[.pointer (some ⟨g, 0, none⟩)] w (RetP (decO (pickS (inSlot d 0 r0) (inSlot d 1 r1))) w) := by
  have hb : ∀ W, Below w.heap.size w W → _ := fun W hb => both_c (h.below hb) ho h2 r0 r1 D0 D1
  generalize inSlot d 0 r0 = o0 at hb ⊢
  generalize inSlot d 1 r1 = o1 at hb ⊢
  cases o0 with
  | none => cases o1 with
    | none => exact read_nn g w z0 z0 hb
    | some b => exact read_ny g w z0 b hb
  | some a => cases o1 with
    | none => exact read_yn g w a z0 hb
    | some b =>
      show Calls _ _ _ _ (RetP (decO (if U64 b.ep < U64 a.ep then some a else some b)) w)
      by_cases hn : U64 b.ep < U64 a.ep
      · rw [if_pos hn]; exact read_yy1 g w a b (decide_eq_true hn) hb
      · rw [if_neg hn]; exact read_yy2 g w a b (decide_eq_false hn) hb
end Go.Proofs.Ytjcpbhjmmnpjnaa
/- What loamlaw6.known answers. No conditions. -/
namespace Go.Proofs.Ytjcpbhjmmnpjnaa
set_option linter.unusedVariables false
set_option linter.unusedSimpArgs false
open Go.RowKit
set_option maxRecDepth 100000
set_option maxHeartbeats 800000
theorem k6_enc (W : World) : Calls Try.prog 37 #[.agg #[.int .u64 3, .int .i64 64, .int .i64 8, .int .i64 64, .int .i64 1, .int .i64 9, .int .u64 4]] W (Enc6P (encSB 3#64 64 8 64 1 9 4#64) W) := by
  have h := enc6_ok 3#64 64 8 64 1 9 4#64 W ⟨by decide, by decide, by decide⟩
  unfold blkV at h
  rw [show U64 3#64 = 3 from by decide +kernel, show U64 4#64 = 4 from by decide +kernel] at h
  exact h
theorem k6_dec (W : World) (A : Option Addr) (c : Nat) (hc : 64 ≤ c) (hr : Rd b8 W W.heap.size A (encSB 3#64 64 8 64 1 9 4#64)) : Calls Try.prog 27 #[.slice A 64 c] W (RetP (.tuple #[.agg #[.int .u64 3, .int .i64 64, .int .i64 8, .int .i64 64, .int .i64 1, .int .i64 9, .int .u64 4], .int .i64 0]) W) := by
  have hl := encSB_len 3#64 64 8 64 1 9 4#64 (by decide)
  have h := dec6_ok 3#64 64 8 64 1 9 4#64 A c W ⟨by decide, by decide, by decide⟩ (by rw [hl]; exact hc) hr
  rw [hl] at h
  unfold blkV at h
  rw [show U64 3#64 = 3 from by decide +kernel, show U64 4#64 = 4 from by decide +kernel] at h
  exact h
theorem k6_enc0 (W : World) : Calls Try.prog 37 #[.agg #[.int .u64 0, .int .i64 0, .int .i64 0, .int .i64 0, .int .i64 0, .int .i64 0, .int .u64 0]] W (RetP (.tuple #[.slice none 0 0, .int .i64 1]) W) := by
  have h := enc6_bad 0#64 0 0 0 0 0 0#64 W (.inl (by decide))
  unfold blkV at h
  rw [show U64 0#64 = 0 from by decide +kernel] at h
  exact h
theorem k6_dec0 (W : World) : Calls Try.prog 27 #[.slice none 0 0] W (RetP (.tuple #[.agg #[.int .u64 0, .int .i64 0, .int .i64 0, .int .i64 0, .int .i64 0, .int .i64 0, .int .u64 0], .int .i64 2]) W) := by
  have h := dec6_nil W
  unfold blkV at h
  rw [show U64 0#64 = 0 from by decide +kernel] at h
  exact h
theorem k6_newer (W : World) : Calls Try.prog 29 #[.agg #[.int .u64 3, .int .i64 64, .int .i64 8, .int .i64 64, .int .i64 1, .int .i64 9, .int .u64 4], .agg #[.int .u64 2, .int .i64 0, .int .i64 0, .int .i64 0, .int .i64 0, .int .i64 0, .int .u64 0]] W (RetP (.bool true) W) := by
  have h := newer_c 3#64 2#64 64 8 64 1 9 0 0 0 0 0 4#64 0#64 W
  unfold blkV at h
  rw [show U64 3#64 = 3 from by decide +kernel, show U64 4#64 = 4 from by decide +kernel, show U64 2#64 = 2 from by decide +kernel, show U64 0#64 = 0 from by decide +kernel] at h
  exact h
theorem k6_slot (W : World) : Calls Try.prog 19 #[.int .u64 3] W fun e w' => e = .returned (.int .i64 1) ∧ w' = W := by
  have h := slot_c 3#64 W
  rw [show U64 3#64 = 3 from by decide +kernel, show U64 (3#64 &&& 1#64) = 1 from by decide +kernel] at h
  exact h
def c6 : Array Value := #[.int .u64 3, .int .i64 64, .int .i64 8, .int .i64 64, .int .i64 1, .int .i64 9, .int .u64 4]
end Go.Proofs.Ytjcpbhjmmnpjnaa
/- What loamlaw6.Few answers. No conditions. -/
namespace Go.Proofs.Ytjcpbhjmmnpjnaa
set_option linter.unusedVariables false
set_option linter.unusedSimpArgs false
open Go.RowKit
set_option maxRecDepth 100000
set_option maxHeartbeats 800000
def fewP (s l n : Int) : Prop := 8 ≤ s ∧ s ≤ 1048576 ∧ -1048576 ≤ n ∧ n ≤ 1048576 ∧ -1048576 ≤ l ∧ l ≤ 1048576
theorem few_yes (s l n : Int) (w : World) (h : fewP s l n) : Calls Try.prog 33 #[gV s l n] w (RetP (.bool true) w) := by
  obtain ⟨h1, h2, h3, h4, h5, h6⟩ := h
  unfold gV
  go_enter Try.func33, Try.ntmps33
  go_wp2_with fail
  go_ret
  exact ⟨rfl, (by repeat (first | with_reducible assumption | with_reducible exact Below.refl _ _ | with_reducible apply bdN | with_reducible apply Below.drew | with_reducible refine Below.alloc ?_ (by simp) _ | with_reducible refine Below.setCell ?_ (by simp) _))⟩
theorem few_no (s l n : Int) (w : World) (h : ¬ fewP s l n) : Calls Try.prog 33 #[gV s l n] w (RetP (.bool false) w) := by
  unfold gV
  rcases (show ¬ 8 ≤ s ∨ (8 ≤ s ∧ ¬ s ≤ 1048576) ∨ (8 ≤ s ∧ s ≤ 1048576 ∧ ¬ -1048576 ≤ n) ∨ (8 ≤ s ∧ s ≤ 1048576 ∧ -1048576 ≤ n ∧ ¬ n ≤ 1048576) ∨ (8 ≤ s ∧ s ≤ 1048576 ∧ -1048576 ≤ n ∧ n ≤ 1048576 ∧ ¬ -1048576 ≤ l) ∨ (8 ≤ s ∧ s ≤ 1048576 ∧ -1048576 ≤ n ∧ n ≤ 1048576 ∧ -1048576 ≤ l ∧ ¬ l ≤ 1048576) from by unfold fewP at h; omega) with h1 | ⟨h1, h2⟩ | ⟨h1, h2, h3⟩ | ⟨h1, h2, h3, h4⟩ | ⟨h1, h2, h3, h4, h5⟩ | ⟨h1, h2, h3, h4, h5, h6⟩
  all_goals
    clear h
    go_enter Try.func33, Try.ntmps33
    go_wp2_with fail
    go_ret
    exact ⟨rfl, (by repeat (first | with_reducible assumption | with_reducible exact Below.refl _ _ | with_reducible apply bdN | with_reducible apply Below.drew | with_reducible refine Below.alloc ?_ (by simp) _ | with_reducible refine Below.setCell ?_ (by simp) _))⟩
end Go.Proofs.Ytjcpbhjmmnpjnaa
/- A disk whose slots are written: what is read of each; a new disk of a geometry's shape. Conditions: numbers. -/
namespace Go.Proofs.Ytjcpbhjmmnpjnaa
set_option linter.unusedVariables false
set_option linter.unusedSimpArgs false
open Go.RowKit Go.Maps
set_option maxRecDepth 100000
set_option maxHeartbeats 1000000
theorem lay_get (ks : List (BitVec 8)) (o1 : Nat) (bs : List (BitVec 8)) (h : o1 + bs.length ≤ ks.length) (m : Nat) : (layA ks o1 bs)[m]? = if o1 ≤ m ∧ m < o1 + bs.length then bs[m - o1]? else ks[m]? := by
  unfold layA
  by_cases h1 : m < o1
  · rw [if_neg (by omega)]
    simp [List.getElem?_append, List.getElem?_take, h1, List.length_take, Nat.min_eq_left (show o1 ≤ ks.length by omega)]
  · by_cases h2 : m < o1 + bs.length
    · rw [if_pos ⟨by omega, h2⟩]
      simp [List.getElem?_append, List.length_take, Nat.min_eq_left (show o1 ≤ ks.length by omega), h1]
      try (intros; omega)
    · rw [if_neg (by omega)]
      simp [List.getElem?_append, List.getElem?_drop, List.length_take, Nat.min_eq_left (show o1 ≤ ks.length by omega), h1]
      rw [if_neg (by omega)]
      congr 1; omega
theorem sec_get (ks : List (BitVec 8)) (a n m : Nat) : ((ks.drop a).take n)[m]? = if m < n then ks[a + m]? else none := by
  rw [List.getElem?_take]
  split
  · rw [List.getElem?_drop]
  · rfl
theorem sec_same (ks : List (BitVec 8)) (size i : Nat) (bs : List (BitVec 8)) (hb : bs.length = size) (h : i * size + size ≤ ks.length) : ((layA ks (i * size) bs).drop (i * size)).take size = bs := by
  apply List.ext_getElem?
  intro m
  rw [sec_get]
  split
  · rename_i hm
    rw [lay_get _ _ _ (by omega), if_pos ⟨by omega, by omega⟩]
    congr 1; omega
  · rename_i hm
    rw [List.getElem?_eq_none (by omega)]
theorem sec_other (ks : List (BitVec 8)) (size i j : Nat) (bs : List (BitVec 8)) (hb : bs.length = size) (h : i * size + size ≤ ks.length) (hne : i ≠ j) : ((layA ks (i * size) bs).drop (j * size)).take size = (ks.drop (j * size)).take size := by
  apply List.ext_getElem?
  intro m
  rw [sec_get, sec_get]
  split
  · rename_i hm
    rw [lay_get _ _ _ (by omega), if_neg]
    rintro ⟨h1, h2⟩
    rcases Nat.lt_or_gt_of_ne hne with h3 | h3
    · have := Nat.mul_le_mul_right size (show i + 1 ≤ j from h3)
      rw [Nat.succ_mul] at this; omega
    · have := Nat.mul_le_mul_right size (show j + 1 ≤ i from h3)
      rw [Nat.succ_mul] at this; omega
  · rfl
theorem cur_sec {d : DK} (h : d.pend = []) (i : Nat) : curL d i = secL d i := by
  unfold curL
  rw [h, if_pos (show newF [] (i : Int) = 0 from rfl)]
theorem put_kept {d : DK} (h : d.pend = []) (b : Sb) : (d.put b).kept = layA d.kept (b.at_ * d.size) b.bytes := by
  show layL d.size _ (_ ++ [(b.at_, b.bytes)]) 0 (layL d.size _ d.pend 0 d.kept) = _
  rw [h]
  rfl
theorem put_sec {B : Nat} {X : Nat → Prop} {w : World} {g : Nat} {d : DK} (hd : DiskX B X w g d) (h : d.pend = []) (b : Sb) (hg : b.good) (hf : b.fit d) (i : Nat) : curL (d.put b) i = if i = b.at_ then b.bytes else curL d i := by
  obtain ⟨x, h1, _⟩ := hd
  have hat : b.at_ < d.secs := by have h1 := b.at_le; have h2 := Sb.tot hg; have h3 := hf.2; omega
  have hr := (h1.room hat).1
  have hsz : b.bytes.length = d.size := by have := Sb.len hg; have := hf.1; omega
  rw [cur_sec (d := d.put b) rfl, cur_sec h]
  unfold secL
  rw [put_kept h]
  show ((layA d.kept (b.at_ * d.size) b.bytes).drop (i * d.size)).take d.size = _
  split
  · rename_i e
    rw [e]
    exact sec_same _ _ _ _ hsz hr
  · rename_i e
    exact sec_other _ _ _ _ _ hsz hr (fun h => e h.symm)
/-- A new disk. -/
def fr0 (s l n : Nat) : DK := dk0 (totG s l n).toNat s (List.replicate ((totG s l n).toNat * s) 0#8)
theorem fr0_sec {s l n : Nat} (h : OkG s l n) (i : Nat) (hi : i < 2) : curL (fr0 s l n) i = List.replicate s 0#8 := by
  rw [cur_sec rfl]
  show ((List.replicate ((totG s l n).toNat * s) 0#8).drop (i * s)).take s = _
  rw [List.drop_replicate, List.take_replicate, Nat.min_eq_left]
  have h1 := (oneG_bd s n h.s1 h.s2 h.n1 h.n2).1
  have h2 := h.l1
  have h3 : 2 ≤ (totG s l n).toNat := by unfold totG; omega
  have h4 := Nat.mul_le_mul_right s h3
  have h5 := Nat.mul_le_mul_right s (show i + 1 ≤ 2 by omega)
  rw [Nat.succ_mul] at h5
  omega
def NwD (B : Nat) (d : DK) (v : Value) (w : World) : Prop := ∃ g, v = .tuple #[.pointer (some ⟨g, 0, none⟩), .int .i64 0] ∧ DiskX B (fun _ => False) w g d
def NwP (B : Nat) (d : DK) (v : Value) (w : World) : Prop := ∃ g, v = .pointer (some ⟨g, 0, none⟩) ∧ DiskX B (fun _ => False) w g d
theorem NwD.mono {B : Nat} {d : DK} {v : Value} {a b : World} (h : NwD B d v a) (g : Below a.heap.size a b) : NwD B d v b := by
  obtain ⟨k, e, hd⟩ := h
  exact ⟨k, e, hd.below g⟩
theorem NwP.mono {B : Nat} {d : DK} {v : Value} {a b : World} (h : NwP B d v a) (g : Below a.heap.size a b) : NwP B d v b := by
  obtain ⟨k, e, hd⟩ := h
  exact ⟨k, e, hd.below g⟩
theorem DiskX.down {B B' : Nat} {X : Nat → Prop} {w : World} {g : Nat} {d : DK} (h : DiskX B X w g d) (hB : B' ≤ B) : DiskX B' X w g d := by
  obtain ⟨x, h1, h2⟩ := h
  exact ⟨x, h1, fun k e => ⟨Nat.le_trans hB (h2 k e).1, (h2 k e).2⟩⟩
theorem tot_hi {s l n : Nat} (h : OkG s l n) : ((totG s l n).toNat : Int) = totG s l n ∧ 2 ≤ (totG s l n).toNat ∧ (totG s l n).toNat ≤ 16384 := by
  have h1 := (oneG_bd s n h.s1 h.s2 h.n1 h.n2).1
  have h2 := h.l1
  have h3 := h.tot
  unfold totG at h3 ⊢
  omega
theorem new_of (s l n : Nat) (w : World) (B : Nat) (hB : B ≤ w.heap.size) (h : OkG s l n) : Calls Try.prog 35 #[.int .i64 (totG s l n), .int .i64 s] w fun e w2 => ∃ u, e = .returned u ∧ Below w.heap.size w w2 ∧ NwD B (fr0 s l n) u w2 := by
  obtain ⟨h1, h2, h3⟩ := tot_hi h
  have := dnew_ok w (totG s l n).toNat s (by have := h.s1; have := h.s2; omega) (by omega)
  rw [h1] at this
  refine this.mono ?_
  rintro e w2 ⟨g, rfl, hd, hb⟩
  exact ⟨_, rfl, hb, g, rfl, hd.down hB⟩
theorem of_ret7 {P : Program} {f : FuncId} {args : Array Value} {v : Value} {w : World} (h : Calls P f args w (RetP v w)) : Calls P f args w fun e w2 => ∃ u, e = .returned u ∧ Below w.heap.size w w2 ∧ IsV v u w2 :=
  h.mono fun _ _ h => ⟨_, h.1, h.2, rfl⟩
theorem fr_reg (Q : Exit → Act → World → Prop) (a0 : Act) (w : World) (B g : Nat) (s l n : Nat) (hB : B ≤ w.heap.size) (h : OkG s l n) (hk : Bk w g 30 #[.int .i64 s, .int .i64 l, .int .i64 n]) (hsz : a0.tmps.size = 36) (sl1 : a0.tmps.getD 1 undef = .pointer (some ⟨g, 0, none⟩))
    (fin : ∀ (vals : Nat → Value) (w1 : World), Below w.heap.size w w1 → (NwP B (fr0 s l n)) (vals 9) w1 → (IsV (.int .i64 0)) (vals 10) w1 → Q .normal (putD vals [25, 26, 27, 28, 29, 30, 24, 31, 32, 3, 4] 0 a0) w1) :
    (Code.region 3 (regIn Try.f14 3) true).wp Try.prog Q a0 w := by
  refine region_by (G := fun w w1 => Below w.heap.size w w1) [IsV (.agg #[.int .i64 s, .int .i64 l, .int .i64 n]),
    IsV (.agg #[.int .i64 s, .int .i64 l, .int .i64 n]),
    IsV (.int .i64 (totG s l n)),
    IsV (.pointer (some ⟨g, 0, none⟩)),
    IsV (.int .i64 s),
    NwD B (fr0 s l n),
    NwD B (fr0 s l n),
    NwP B (fr0 s l n),
    IsV (.int .i64 0),
    NwP B (fr0 s l n),
    IsV (.int .i64 0)]
    [25, 26, 27, 28, 29, 30, 24, 31, 32, 3, 4] (by kernel_rfl) (Gw.drew _) Gw.trans (by rw [hsz]; kernel_rfl) (by kernel_rfl) ?_ ?_ ?_
  · intro f hf
    simp only [List.mem_cons, List.not_mem_nil, or_false] at hf
    rcases hf with rfl | rfl | rfl | rfl | rfl | rfl | rfl | rfl | rfl | rfl | rfl <;> intro v a b h g <;> first | exact IsV.mono h | exact NwD.mono h g | exact NwP.mono h g
  · refine ⟨?_, ?_, ?_, ?_, ?_, ?_, ?_, ?_, ?_, ?_, ?_, trivial⟩
    · refine owes_v (Go.Op.load 30 (Go.Operand.tmp 1)) 30 [] (by kernel_rfl) (by kernel_rfl) (by kernel_rfl) rfl fun vals w1 ρ hG hF hρ hcst hfun => ?_
      have e1 : ρ (.tmp 1) = .pointer (some ⟨g, 0, none⟩) := ((hρ 1).trans (slotO [] (by kernel_rfl))).trans sl1
      obtain ⟨k0, k1, k2⟩ := (hk.below hG hk.lt).three
      clear hρ hF hcst hfun sl1 fin
      exact opv_val (by go_simp <;> rfl) ⟨gw_self _, rfl⟩
    · refine owes_v (Go.Op.call { callee := Go.Callee.value (Go.Operand.func 32), args := #[Go.Operand.tmp 25], argTypes := #[30] }) 39 [0] (by kernel_rfl) (by kernel_rfl) (by kernel_rfl) rfl fun vals w1 ρ hG hF hρ hcst hfun => ?_
      have e25 : ρ (.tmp 25) = .agg #[.int .i64 s, .int .i64 l, .int .i64 n] := ((hρ 25).trans (slotJ [0] (by rw [hsz]; decide) (by kernel_rfl))).trans (hF 0 (by decide))
      clear hρ hF hcst sl1 fin
      exact opv_enter (by go_simp <;> rfl) (of_ret7 (of_c s l n w1))
    · refine owes_v (Go.Op.call { callee := Go.Callee.value (Go.Operand.func 31), args := #[Go.Operand.tmp 26], argTypes := #[39] }) 3 [1] (by kernel_rfl) (by kernel_rfl) (by kernel_rfl) rfl fun vals w1 ρ hG hF hρ hcst hfun => ?_
      have e26 : ρ (.tmp 26) = .agg #[.int .i64 s, .int .i64 l, .int .i64 n] := ((hρ 26).trans (slotJ [1] (by rw [hsz]; decide) (by kernel_rfl))).trans (hF 1 (by decide))
      clear hρ hF hcst sl1 fin
      exact opv_enter (by go_simp <;> rfl) (of_ret7 (rsec_c s l n w1 h.inb))
    · refine owes_v (Go.Op.fieldAddr 30 (Go.Operand.tmp 1) 0) 0 [] (by kernel_rfl) (by kernel_rfl) (by kernel_rfl) rfl fun vals w1 ρ hG hF hρ hcst hfun => ?_
      have e1 : ρ (.tmp 1) = .pointer (some ⟨g, 0, none⟩) := ((hρ 1).trans (slotO [] (by kernel_rfl))).trans sl1
      clear hρ hF hcst hfun sl1 fin
      exact opv_val (by go_simp <;> rfl) ⟨gw_self _, rfl⟩
    · refine owes_v (Go.Op.load 3 (Go.Operand.tmp 28)) 3 [3] (by kernel_rfl) (by kernel_rfl) (by kernel_rfl) rfl fun vals w1 ρ hG hF hρ hcst hfun => ?_
      have e28 : ρ (.tmp 28) = .pointer (some ⟨g, 0, none⟩) := ((hρ 28).trans (slotJ [3] (by rw [hsz]; decide) (by kernel_rfl))).trans (hF 3 (by decide))
      obtain ⟨k0, k1, k2⟩ := (hk.below hG hk.lt).three
      clear hρ hF hcst hfun sl1 fin
      exact opv_val (by go_simp <;> rfl) ⟨gw_self _, rfl⟩
    · refine owes_v (Go.Op.call { callee := Go.Callee.value (Go.Operand.func 35), args := #[Go.Operand.tmp 27, Go.Operand.tmp 29], argTypes := #[3, 3] }) 26 [2, 4] (by kernel_rfl) (by kernel_rfl) (by kernel_rfl) rfl fun vals w1 ρ hG hF hρ hcst hfun => ?_
      have e27 : ρ (.tmp 27) = .int .i64 (totG s l n) := ((hρ 27).trans (slotJ [2, 4] (by rw [hsz]; decide) (by kernel_rfl))).trans (hF 2 (by decide))
      have e29 : ρ (.tmp 29) = .int .i64 s := ((hρ 29).trans (slotJ [2, 4] (by rw [hsz]; decide) (by kernel_rfl))).trans (hF 4 (by decide))
      clear hρ hF hcst sl1 fin
      exact opv_enter (by go_simp <;> rfl) (new_of s l n w1 B (Nat.le_trans hB hG.size) h)
    · exact owes_mvj 5 30 (by kernel_rfl) (by kernel_rfl) (by kernel_rfl) (by kernel_rfl) (by rw [hsz]; decide) (fun v w h => h)
    · refine owes_v (Go.Op.extract (Go.Operand.tmp 24) 0) 24 [6] (by kernel_rfl) (by kernel_rfl) (by kernel_rfl) rfl fun vals w1 ρ hG hF hρ hcst hfun => ?_
      have f24 : (NwD B (fr0 s l n)) (vals 6) w1 := hF 6 (by decide)
      have e24 : ρ (.tmp 24) = vals 6 := (hρ 24).trans (slotJ [6] (by rw [hsz]; decide) (by kernel_rfl))
      obtain ⟨gg, hv, hd⟩ := f24
      rw [hv] at e24
      clear hρ hF hcst hfun sl1 fin
      exact opv_val (by go_simp <;> rfl) ⟨gw_self _, ⟨gg, rfl, hd⟩⟩
    · refine owes_v (Go.Op.extract (Go.Operand.tmp 24) 1) 25 [6] (by kernel_rfl) (by kernel_rfl) (by kernel_rfl) rfl fun vals w1 ρ hG hF hρ hcst hfun => ?_
      have f24 : (NwD B (fr0 s l n)) (vals 6) w1 := hF 6 (by decide)
      have e24 : ρ (.tmp 24) = vals 6 := (hρ 24).trans (slotJ [6] (by rw [hsz]; decide) (by kernel_rfl))
      obtain ⟨gg, hv, hd⟩ := f24
      rw [hv] at e24
      clear hρ hF hcst hfun sl1 fin
      exact opv_val (by go_simp <;> rfl) ⟨gw_self _, rfl⟩
    · exact owes_mvj 7 31 (by kernel_rfl) (by kernel_rfl) (by kernel_rfl) (by kernel_rfl) (by rw [hsz]; decide) (fun v w h => h)
    · exact owes_mvj 8 32 (by kernel_rfl) (by kernel_rfl) (by kernel_rfl) (by kernel_rfl) (by rw [hsz]; decide) (fun v w h => h)
  · intro vals w1 hG hF
    exact fin vals w1 hG (hF 9 (by decide +kernel)) (hF 10 (by decide +kernel))
theorem fresh_ok (s l n : Nat) (w : World) (h : OkG s l n) (hn : n ≤ 600) (hs : s ≤ 256) : Calls Try.prog 14 #[gV s l n] w fun e w' => ∃ g, e = .returned (.pointer (some ⟨g, 0, none⟩)) ∧ DiskX w.heap.size (fun _ => False) w' g (fr0 s l n) ∧ Below w.heap.size w w' := by
  have HFw := Lib.hid (fun W => few_yes s l n W ⟨by have := h.s1; omega, by omega, by omega, by omega, by have := h.l1; omega, by have := h.l2; omega⟩)
  have HC := Lib.hid (fun W => rcheck_c s l n W)
  rw [chkG_ok h] at HC
  have HO := Lib.hid (fun W => of_c s l n W)
  unfold gV at HFw HC HO ⊢
  have HH := Lib.hid h
  have HK := Lib.hid (Bk.new w 30 #[.int .i64 s, .int .i64 l, .int .i64 n])
  have HW := Lib.hid (Gw.alloc w (.cells #[.int .i64 s, .int .i64 l, .int .i64 n] 30))
  have q1 : decide ((600 : Int) < (n : Int)) = false := by simp; omega
  have q2 : decide ((256 : Int) < (s : Int)) = false := by simp; omega
  clear h hn hs
  go_enter Try.func14, Try.ntmps14
  go_wp2_with fail
  refine Calls.mono (HFw.out _) ?_
  rintro e w1 ⟨rfl, b1⟩
  have HK1 := Lib.hid (HK.out.below b1 HK.out.lt)
  have HB1 := Lib.hid (HW.out.trans (b1.mono HW.out.size))
  obtain ⟨c0, c1, c2⟩ := HK1.out.three
  clear b1 HK HW HFw
  go_wp2_with fail
  refine Calls.mono (HO.out _) ?_
  rintro e w2 ⟨rfl, b2⟩
  have HK2 := Lib.hid (HK1.out.below b2 HK1.out.lt)
  have HB2 := Lib.hid (HB1.out.trans (b2.mono HB1.out.size))
  clear b2 HK1 HB1 c0 c1 c2
  go_wp2_with fail
  refine Calls.mono (HC.out _) ?_
  rintro e w3 ⟨rfl, b3⟩
  have HK3 := Lib.hid (HK2.out.below b3 HK2.out.lt)
  have HB3 := Lib.hid (HB2.out.trans (b3.mono HB2.out.size))
  obtain ⟨c0, c1, c2⟩ := HK3.out.three
  clear b3 HK2 HB2
  go_wp2_with fail
  refine fr_reg _ _ _ w.heap.size w.heap.size s l n HB3.out.size HH.out HK3.out ?_ ?_ ?_
  iterate 2 (· rfl)
  intro vals w4 hG h3 h4
  unfold IsV at h4
  obtain ⟨g, hv, hd⟩ := h3
  simp only [putD, Act.put, List.setIfInBounds_toArray, List.set_cons_zero, List.set_cons_succ, hv, h4]
  have HF4 := Lib.hid (And.intro hd (HB3.out.trans (hG.mono HB3.out.size)))
  clear hv h4 hd hG
  go_wp2_with fail
  go_ret
  exact ⟨g, rfl, HF4.out.1, HF4.out.2⟩
end Go.Proofs.Ytjcpbhjmmnpjnaa
/- What loamlaw7.known answers. No conditions. -/
namespace Go.Proofs.Ytjcpbhjmmnpjnaa
set_option linter.unusedVariables false
set_option linter.unusedSimpArgs false
open Go.RowKit Go.Maps
set_option maxRecDepth 100000
set_option maxHeartbeats 4000000
def b4 : Sb := ⟨4#64, 64, 8, 64, 0, 0, 0#64⟩
def b5 : Sb := ⟨5#64, 64, 8, 64, 0, 3, 0#64⟩
theorem b4_cells : b4.cells = #[.int .u64 4, .int .i64 64, .int .i64 8, .int .i64 64, .int .i64 0, .int .i64 0, .int .u64 0] := by kernel_rfl
theorem b5_cells : b5.cells = #[.int .u64 5, .int .i64 64, .int .i64 8, .int .i64 64, .int .i64 0, .int .i64 3, .int .u64 0] := by kernel_rfl
theorem b45_cells : c14 b4 b5 = #[.int .u64 4, .int .i64 64, .int .i64 8, .int .i64 64, .int .i64 0, .int .i64 0, .int .u64 0, .int .u64 5, .int .i64 64, .int .i64 8, .int .i64 64, .int .i64 0, .int .i64 3, .int .u64 0] := by kernel_rfl
theorem ok_64 : okG 64 8 64 = true := by decide +kernel
theorem b4_good : b4.good := ⟨ok_64, by decide, by decide⟩
theorem b5_good : b5.good := ⟨ok_64, by decide, by decide⟩
def d70 : DK := fr0 64 8 64
theorem d70_size : d70.size = 64 := rfl
theorem d70_secs : d70.secs = 30 := by decide +kernel
theorem tot_64 : totG 64 8 64 = 30 := by decide +kernel
theorem b4_fit : b4.fit d70 := ⟨rfl, by rw [d70_secs]; show totG 64 8 64 ≤ _; rw [tot_64]; decide⟩
theorem b5_fit : b5.fit (d70.put b4) := ⟨rfl, by show totG 64 8 64 ≤ (d70.secs : Int); rw [d70_secs, tot_64]; decide⟩
theorem at4 : b4.at_ = 0 := by decide +kernel
theorem at5 : b5.at_ = 1 := by decide +kernel
def d72 : DK := (d70.put b4).put b5
theorem fit4 : fitB b4 d72 = true := decide_eq_true ⟨rfl, by show totG 64 8 64 ≤ (d70.secs : Int); rw [d70_secs, tot_64]; decide⟩
theorem fit5 : fitB b5 d72 = true := decide_eq_true ⟨rfl, by show totG 64 8 64 ≤ (d70.secs : Int); rw [d70_secs, tot_64]; decide⟩
section
variable {B : Nat} {X : Nat → Prop} {w : World} {g : Nat}
theorem k7_fresh (w : World) : Calls Try.prog 14 #[.agg #[.int .i64 64, .int .i64 8, .int .i64 64]] w fun e w' => ∃ g, e = .returned (.pointer (some ⟨g, 0, none⟩)) ∧ DiskX w.heap.size (fun _ => False) w' g d70 ∧ Below w.heap.size w w' :=
  fresh_ok 64 8 64 w (okG_out ok_64) (by decide) (by decide)
theorem k7_none (h : DiskX B X w g d70) : Calls Try.prog 10 #[.pointer (some ⟨g, 0, none⟩)] w (RetP (.tuple #[.agg #[.int .u64 0, .int .i64 0, .int .i64 0, .int .i64 0, .int .i64 0, .int .i64 0, .int .u64 0], .int .i64 2]) w) := by
  have e0 := fr0_sec (okG_out ok_64) 0 (by decide)
  have e1 := fr0_sec (okG_out ok_64) 1 (by decide)
  have := read_c h rfl (by rw [d70_secs]; decide) none none (by show DecOK (curL (fr0 64 8 64) 0) none; rw [e0]; exact DecOK.zeros 64 (by decide) (by decide)) (by show DecOK (curL (fr0 64 8 64) 1) none; rw [e1]; exact DecOK.zeros 64 (by decide) (by decide))
  rw [← z0_cells]
  exact this
theorem k7_w4 (h : DiskX B X w g d70) (hX : ∀ k, X k → k < w.heap.size) (hB : B ≤ w.heap.size) : Calls Try.prog 16 #[.pointer (some ⟨g, 0, none⟩), .agg #[.int .u64 4, .int .i64 64, .int .i64 8, .int .i64 64, .int .i64 0, .int .i64 0, .int .u64 0]] w (DkP B X w g (d70.put b4) (.int .i64 0)) := by
  rw [← b4_cells]
  exact swrite_ok h hX hB b4 b4_good b4_fit rfl (by decide) (by decide)
theorem k7_w5 (h : DiskX B X w g (d70.put b4)) (hX : ∀ k, X k → k < w.heap.size) (hB : B ≤ w.heap.size) : Calls Try.prog 16 #[.pointer (some ⟨g, 0, none⟩), .agg #[.int .u64 5, .int .i64 64, .int .i64 8, .int .i64 64, .int .i64 0, .int .i64 3, .int .u64 0]] w (DkP B X w g d72 (.int .i64 0)) := by
  rw [← b5_cells]
  exact swrite_ok h hX hB b5 b5_good b5_fit rfl (by decide) (by decide)
theorem k7_secs {w' : World} (h0 : DiskX B X w g d70) (h : DiskX B X w' g (d70.put b4)) : DecOK (curL d72 0) (some b4) ∧ DecOK (curL d72 1) (some b5) := by
  have e1 : curL d72 1 = b5.bytes := by
    show curL ((d70.put b4).put b5) 1 = _
    rw [put_sec h rfl b5 b5_good b5_fit 1, if_pos at5.symm]
  have e0 : curL d72 0 = b4.bytes := by
    show curL ((d70.put b4).put b5) 0 = _
    rw [put_sec h rfl b5 b5_good b5_fit 0, if_neg (by rw [at5]; decide), put_sec h0 rfl b4 b4_good b4_fit 0, if_pos at4.symm]
  rw [e0, e1]
  exact ⟨DecOK.bytes b4_good, DecOK.bytes b5_good⟩
theorem in4 : inSlot d72 0 (some b4) = some b4 := by
  show (if fitB b4 d72 && decide (b4.at_ = 0) then some b4 else none) = _
  rw [fit4, at4]; rfl
theorem in5 : inSlot d72 1 (some b5) = some b5 := by
  show (if fitB b5 d72 && decide (b5.at_ = 1) then some b5 else none) = _
  rw [fit5, at5]; rfl
theorem k7_read (h : DiskX B X w g d72) (hs : DecOK (curL d72 0) (some b4) ∧ DecOK (curL d72 1) (some b5)) : Calls Try.prog 10 #[.pointer (some ⟨g, 0, none⟩)] w (RetP (.tuple #[.agg #[.int .u64 5, .int .i64 64, .int .i64 8, .int .i64 64, .int .i64 0, .int .i64 3, .int .u64 0], .int .i64 0]) w) := by
  have := read_c h rfl (by show 2 ≤ d70.secs; rw [d70_secs]; decide) (some b4) (some b5) hs.1 hs.2
  rw [in4, in5, show pickS (some b4) (some b5) = some b5 from by show (if U64 b5.ep < U64 b4.ep then some b4 else some b5) = _; rw [if_neg (by decide +kernel)]] at this
  rw [← b5_cells]
  exact this
theorem k7_both (h : DiskX B X w g d72) (hs : DecOK (curL d72 0) (some b4) ∧ DecOK (curL d72 1) (some b5)) : Calls Try.prog 9 #[.pointer (some ⟨g, 0, none⟩)] w (RetP (.tuple #[.agg (c14 b4 b5), .agg #[.bool true, .bool true], .int .i64 0]) w) := by
  have := both_c h rfl (by show 2 ≤ d70.secs; rw [d70_secs]; decide) (some b4) (some b5) hs.1 hs.2
  rw [in4, in5] at this
  exact this
theorem k7_pend (h : DiskX B X w g d72) : Calls Try.prog 22 #[.pointer (some ⟨g, 0, none⟩)] w fun e w' => e = .returned (.int .i64 0) ∧ w' = w := xpending_c h
end
theorem k7_end (Q : Exit → Act → World → Prop) (a0 : Act) (w : World) (g G7 G9 G10 : Nat) (HD : Hid (DiskX 0 (fun _ => False) w g d72)) (H7 : Hid (w.cell? ⟨G7, 0, none⟩ = some (.int .u64 5) ∧ w.cell? ⟨G7, 5, none⟩ = some (.int .i64 3) ∧ G7 < w.heap.size)) (H9 : Hid (w.cell? ⟨G9, 0, none⟩ = some (.int .u64 4) ∧ G9 < w.heap.size)) (H10 : Hid (w.cell? ⟨G10, 0, none⟩ = some (.bool true) ∧ w.cell? ⟨G10, 1, none⟩ = some (.bool true) ∧ G10 < w.heap.size)) (ops0 : Array Oper) (rest : List Oper) (hops : ops0 = regIn Try.f7 10) (hrest : rest = cutOps 0 (regIn Try.f7 10)) (hsz : a0.tmps.size = 82) (sl2 : a0.tmps.getD 2 undef = .pointer (some ⟨g, 0, none⟩)) (sl4 : a0.tmps.getD 4 undef = .int .i64 2) (sl5 : a0.tmps.getD 5 undef = .int .i64 0) (sl6 : a0.tmps.getD 6 undef = .int .i64 0) (sl7 : a0.tmps.getD 7 undef = .pointer (some ⟨G7, 0, none⟩)) (sl8 : a0.tmps.getD 8 undef = .int .i64 0) (sl9 : a0.tmps.getD 9 undef = .pointer (some ⟨G9, 0, none⟩)) (sl10 : a0.tmps.getD 10 undef = .pointer (some ⟨G10, 0, none⟩)) (sl11 : a0.tmps.getD 11 undef = .int .i64 0)
    (fin : ∀ (vals : Nat → Value) (w1 : World), Below w.heap.size w w1 → (IsV (.bool true)) (vals 41) w1 → Q .normal (putD vals [41, 42, 43, 44, 45, 46, 47, 48, 49, 50, 51, 52, 53, 54, 55, 56, 57, 58, 59, 60, 61, 62, 63, 64, 65, 66, 67, 68, 69, 70, 71, 72, 73, 74, 75, 76, 77, 78, 79, 80, 81, 0] 0 a0) w1) :
    wpList Try.prog ops0 Q rest a0 w := by
  subst hops
  refine list_by0 (ops := fullOps 0 (regIn Try.f7 10)) (k := 0) (G := fun w w1 => Below w.heap.size w w1) [IsV (.int .i64 2),
    IsV (.bool true),
    IsV (.bool true),
    IsV (.int .i64 0),
    IsV (.int .i64 0),
    IsV (.int .i64 0),
    IsV (.int .i64 0),
    IsV (.int .i64 0),
    IsV (.int .i64 0),
    IsV (.int .i64 0),
    IsV (.bool true),
    IsV (.bool true),
    IsV (.bool true),
    IsV (.pointer (some ⟨G7, 0, none⟩)),
    IsV (.int .u64 5),
    IsV (.bool true),
    IsV (.bool true),
    IsV (.bool true),
    IsV (.pointer (some ⟨G7, 5, none⟩)),
    IsV (.int .i64 3),
    IsV (.bool true),
    IsV (.bool true),
    IsV (.bool true),
    IsV (.pointer (some ⟨G10, 0, none⟩)),
    IsV (.bool true),
    IsV (.bool true),
    IsV (.bool true),
    IsV (.pointer (some ⟨G10, 1, none⟩)),
    IsV (.bool true),
    IsV (.bool true),
    IsV (.bool true),
    IsV (.pointer (some ⟨G9, 0, none⟩)),
    IsV (.pointer (some ⟨G9, 0, none⟩)),
    IsV (.int .u64 4),
    IsV (.bool true),
    IsV (.bool true),
    IsV (.bool true),
    IsV (.pointer (some ⟨g, 0, none⟩)),
    IsV (.int .i64 0),
    IsV (.bool true),
    IsV (.bool true),
    IsV (.bool true)]
    [41, 42, 43, 44, 45, 46, 47, 48, 49, 50, 51, 52, 53, 54, 55, 56, 57, 58, 59, 60, 61, 62, 63, 64, 65, 66, 67, 68, 69, 70, 71, 72, 73, 74, 75, 76, 77, 78, 79, 80, 81, 0] rfl hrest (by kernel_rfl) (Gw.rfl_ _) Gw.trans (by rw [hsz]; kernel_rfl) (by kernel_rfl) ?_ ?_ ?_
  · intro f hf
    simp only [List.mem_cons, List.not_mem_nil, or_false] at hf
    rcases hf with rfl | rfl | rfl | rfl | rfl | rfl | rfl | rfl | rfl | rfl | rfl | rfl | rfl | rfl | rfl | rfl | rfl | rfl | rfl | rfl | rfl | rfl | rfl | rfl | rfl | rfl | rfl | rfl | rfl | rfl | rfl | rfl | rfl | rfl | rfl | rfl | rfl | rfl | rfl | rfl | rfl | rfl <;> intro v a b h g <;> first | exact IsV.mono h
  · refine ⟨?_, ?_, ?_, ?_, ?_, ?_, ?_, ?_, ?_, ?_, ?_, ?_, ?_, ?_, ?_, ?_, ?_, ?_, ?_, ?_, ?_, ?_, ?_, ?_, ?_, ?_, ?_, ?_, ?_, ?_, ?_, ?_, ?_, ?_, ?_, ?_, ?_, ?_, ?_, ?_, ?_, ?_, trivial⟩
    · exact owes_mv 4 (by kernel_rfl) (by kernel_rfl) (by kernel_rfl) sl4 (fun _ => rfl)
    · refine owes_v (Go.Op.binOp Go.BinOp.eql 3 (Go.Operand.tmp 41) (Go.Operand.const (Go.Value.int Go.IntKind.i64 2)) 3) 4 [0] (by kernel_rfl) (by kernel_rfl) (by kernel_rfl) rfl fun vals w1 ρ hG hF hρ hcst hfun => ?_
      have e41 : ρ (.tmp 41) = .int .i64 2 := ((hρ 41).trans (slotJ [0] (by rw [hsz]; decide) (by kernel_rfl))).trans (hF 0 (by decide))
      clear hρ hF hfun sl2 sl4 sl5 sl6 sl7 sl8 sl9 sl10 sl11 fin
      exact opv_val (by go_simp <;> rfl) ⟨gw_self _, rfl⟩
    · exact owes_mvj 1 42 (by kernel_rfl) (by kernel_rfl) (by kernel_rfl) (by kernel_rfl) (by rw [hsz]; decide) (fun v w h => h)
    · refine owes_vt 2 true (Go.Op.move (Go.Operand.tmp 5)) 25 [] (by kernel_rfl) (by kernel_rfl) (by kernel_rfl) (fun _ _ h => h) (by rw [hsz]; kernel_rfl) (by kernel_rfl) rfl fun vals w1 ρ hG hF hρ hcst hfun => ?_
      have e5 : ρ (.tmp 5) = .int .i64 0 := ((hρ 5).trans (slotO [] (by kernel_rfl))).trans sl5
      clear hρ hF hcst hfun sl2 sl4 sl5 sl6 sl7 sl8 sl9 sl10 sl11 fin
      exact opv_val (by go_simp <;> rfl) ⟨gw_self _, rfl⟩
    · refine owes_vt 2 true (Go.Op.move (Go.Operand.tmp 6)) 25 [] (by kernel_rfl) (by kernel_rfl) (by kernel_rfl) (fun _ _ h => h) (by rw [hsz]; kernel_rfl) (by kernel_rfl) rfl fun vals w1 ρ hG hF hρ hcst hfun => ?_
      have e6 : ρ (.tmp 6) = .int .i64 0 := ((hρ 6).trans (slotO [] (by kernel_rfl))).trans sl6
      clear hρ hF hcst hfun sl2 sl4 sl5 sl6 sl7 sl8 sl9 sl10 sl11 fin
      exact opv_val (by go_simp <;> rfl) ⟨gw_self _, rfl⟩
    · refine owes_vt 2 true (Go.Op.binOp Go.BinOp.add 3 (Go.Operand.tmp 44) (Go.Operand.tmp 45) 3) 3 [3, 4] (by kernel_rfl) (by kernel_rfl) (by kernel_rfl) (fun _ _ h => h) (by rw [hsz]; kernel_rfl) (by kernel_rfl) rfl fun vals w1 ρ hG hF hρ hcst hfun => ?_
      have e44 : ρ (.tmp 44) = .int .i64 0 := ((hρ 44).trans (slotJ [3, 4] (by rw [hsz]; decide) (by kernel_rfl))).trans (hF 3 (by decide))
      have e45 : ρ (.tmp 45) = .int .i64 0 := ((hρ 45).trans (slotJ [3, 4] (by rw [hsz]; decide) (by kernel_rfl))).trans (hF 4 (by decide))
      clear hρ hF hcst hfun sl2 sl4 sl5 sl6 sl7 sl8 sl9 sl10 sl11 fin
      exact opv_val (by go_simp <;> rfl) ⟨gw_self _, rfl⟩
    · refine owes_vt 2 true (Go.Op.move (Go.Operand.tmp 8)) 25 [] (by kernel_rfl) (by kernel_rfl) (by kernel_rfl) (fun _ _ h => h) (by rw [hsz]; kernel_rfl) (by kernel_rfl) rfl fun vals w1 ρ hG hF hρ hcst hfun => ?_
      have e8 : ρ (.tmp 8) = .int .i64 0 := ((hρ 8).trans (slotO [] (by kernel_rfl))).trans sl8
      clear hρ hF hcst hfun sl2 sl4 sl5 sl6 sl7 sl8 sl9 sl10 sl11 fin
      exact opv_val (by go_simp <;> rfl) ⟨gw_self _, rfl⟩
    · refine owes_vt 2 true (Go.Op.binOp Go.BinOp.add 3 (Go.Operand.tmp 46) (Go.Operand.tmp 47) 3) 3 [5, 6] (by kernel_rfl) (by kernel_rfl) (by kernel_rfl) (fun _ _ h => h) (by rw [hsz]; kernel_rfl) (by kernel_rfl) rfl fun vals w1 ρ hG hF hρ hcst hfun => ?_
      have e46 : ρ (.tmp 46) = .int .i64 0 := ((hρ 46).trans (slotJ [5, 6] (by rw [hsz]; decide) (by kernel_rfl))).trans (hF 5 (by decide))
      have e47 : ρ (.tmp 47) = .int .i64 0 := ((hρ 47).trans (slotJ [5, 6] (by rw [hsz]; decide) (by kernel_rfl))).trans (hF 6 (by decide))
      clear hρ hF hcst hfun sl2 sl4 sl5 sl6 sl7 sl8 sl9 sl10 sl11 fin
      exact opv_val (by go_simp <;> rfl) ⟨gw_self _, rfl⟩
    · refine owes_vt 2 true (Go.Op.move (Go.Operand.tmp 11)) 25 [] (by kernel_rfl) (by kernel_rfl) (by kernel_rfl) (fun _ _ h => h) (by rw [hsz]; kernel_rfl) (by kernel_rfl) rfl fun vals w1 ρ hG hF hρ hcst hfun => ?_
      have e11 : ρ (.tmp 11) = .int .i64 0 := ((hρ 11).trans (slotO [] (by kernel_rfl))).trans sl11
      clear hρ hF hcst hfun sl2 sl4 sl5 sl6 sl7 sl8 sl9 sl10 sl11 fin
      exact opv_val (by go_simp <;> rfl) ⟨gw_self _, rfl⟩
    · refine owes_vt 2 true (Go.Op.binOp Go.BinOp.add 3 (Go.Operand.tmp 48) (Go.Operand.tmp 49) 3) 3 [7, 8] (by kernel_rfl) (by kernel_rfl) (by kernel_rfl) (fun _ _ h => h) (by rw [hsz]; kernel_rfl) (by kernel_rfl) rfl fun vals w1 ρ hG hF hρ hcst hfun => ?_
      have e48 : ρ (.tmp 48) = .int .i64 0 := ((hρ 48).trans (slotJ [7, 8] (by rw [hsz]; decide) (by kernel_rfl))).trans (hF 7 (by decide))
      have e49 : ρ (.tmp 49) = .int .i64 0 := ((hρ 49).trans (slotJ [7, 8] (by rw [hsz]; decide) (by kernel_rfl))).trans (hF 8 (by decide))
      clear hρ hF hcst hfun sl2 sl4 sl5 sl6 sl7 sl8 sl9 sl10 sl11 fin
      exact opv_val (by go_simp <;> rfl) ⟨gw_self _, rfl⟩
    · refine owes_vt 2 true (Go.Op.binOp Go.BinOp.eql 3 (Go.Operand.tmp 50) (Go.Operand.const (Go.Value.int Go.IntKind.i64 0)) 3) 4 [9] (by kernel_rfl) (by kernel_rfl) (by kernel_rfl) (fun _ _ h => h) (by rw [hsz]; kernel_rfl) (by kernel_rfl) rfl fun vals w1 ρ hG hF hρ hcst hfun => ?_
      have e50 : ρ (.tmp 50) = .int .i64 0 := ((hρ 50).trans (slotJ [9] (by rw [hsz]; decide) (by kernel_rfl))).trans (hF 9 (by decide))
      clear hρ hF hfun sl2 sl4 sl5 sl6 sl7 sl8 sl9 sl10 sl11 fin
      exact opv_val (by go_simp <;> rfl) ⟨gw_self _, rfl⟩
    · refine owes_v (Go.Op.pick (Go.Operand.tmp 43) (Go.Operand.tmp 51) (Go.Operand.const (Go.Value.bool false))) 4 [2, 10] (by kernel_rfl) (by kernel_rfl) (by kernel_rfl) rfl fun vals w1 ρ hG hF hρ hcst hfun => ?_
      have e43 : ρ (.tmp 43) = .bool true := ((hρ 43).trans (slotJ [2, 10] (by rw [hsz]; decide) (by kernel_rfl))).trans (hF 2 (by decide))
      have e51 : ρ (.tmp 51) = .bool true := ((hρ 51).trans (slotJ [2, 10] (by rw [hsz]; decide) (by kernel_rfl))).trans (hF 10 (by decide))
      clear hρ hF hfun sl2 sl4 sl5 sl6 sl7 sl8 sl9 sl10 sl11 fin
      exact opv_val (by go_simp <;> rfl) ⟨gw_self _, rfl⟩
    · exact owes_mvj 11 52 (by kernel_rfl) (by kernel_rfl) (by kernel_rfl) (by kernel_rfl) (by rw [hsz]; decide) (fun v w h => h)
    · refine owes_vt 12 true (Go.Op.fieldAddr 32 (Go.Operand.tmp 7) 0) 0 [] (by kernel_rfl) (by kernel_rfl) (by kernel_rfl) (fun _ _ h => h) (by rw [hsz]; kernel_rfl) (by kernel_rfl) rfl fun vals w1 ρ hG hF hρ hcst hfun => ?_
      have e7 : ρ (.tmp 7) = .pointer (some ⟨G7, 0, none⟩) := ((hρ 7).trans (slotO [] (by kernel_rfl))).trans sl7
      clear hρ hF hcst hfun sl2 sl4 sl5 sl6 sl7 sl8 sl9 sl10 sl11 fin
      exact opv_val (by go_simp <;> rfl) ⟨gw_self _, rfl⟩
    · refine owes_vt 12 true (Go.Op.load 28 (Go.Operand.tmp 54)) 28 [13] (by kernel_rfl) (by kernel_rfl) (by kernel_rfl) (fun _ _ h => h) (by rw [hsz]; kernel_rfl) (by kernel_rfl) rfl fun vals w1 ρ hG hF hρ hcst hfun => ?_
      have e54 : ρ (.tmp 54) = .pointer (some ⟨G7, 0, none⟩) := ((hρ 54).trans (slotJ [13] (by rw [hsz]; decide) (by kernel_rfl))).trans (hF 13 (by decide))
      have k0 := (hG.cell (p := ⟨G7, 0, none⟩) H7.out.2.2).trans H7.out.1
      clear hρ hF hcst hfun sl2 sl4 sl5 sl6 sl7 sl8 sl9 sl10 sl11 fin
      exact opv_val (by go_simp <;> rfl) ⟨gw_self _, rfl⟩
    · refine owes_vt 12 true (Go.Op.binOp Go.BinOp.eql 28 (Go.Operand.tmp 55) (Go.Operand.const (Go.Value.int Go.IntKind.u64 5)) 28) 4 [14] (by kernel_rfl) (by kernel_rfl) (by kernel_rfl) (fun _ _ h => h) (by rw [hsz]; kernel_rfl) (by kernel_rfl) rfl fun vals w1 ρ hG hF hρ hcst hfun => ?_
      have e55 : ρ (.tmp 55) = .int .u64 5 := ((hρ 55).trans (slotJ [14] (by rw [hsz]; decide) (by kernel_rfl))).trans (hF 14 (by decide))
      clear hρ hF hfun sl2 sl4 sl5 sl6 sl7 sl8 sl9 sl10 sl11 fin
      exact opv_val (by go_simp <;> rfl) ⟨gw_self _, rfl⟩
    · refine owes_v (Go.Op.pick (Go.Operand.tmp 53) (Go.Operand.tmp 56) (Go.Operand.const (Go.Value.bool false))) 4 [12, 15] (by kernel_rfl) (by kernel_rfl) (by kernel_rfl) rfl fun vals w1 ρ hG hF hρ hcst hfun => ?_
      have e53 : ρ (.tmp 53) = .bool true := ((hρ 53).trans (slotJ [12, 15] (by rw [hsz]; decide) (by kernel_rfl))).trans (hF 12 (by decide))
      have e56 : ρ (.tmp 56) = .bool true := ((hρ 56).trans (slotJ [12, 15] (by rw [hsz]; decide) (by kernel_rfl))).trans (hF 15 (by decide))
      clear hρ hF hfun sl2 sl4 sl5 sl6 sl7 sl8 sl9 sl10 sl11 fin
      exact opv_val (by go_simp <;> rfl) ⟨gw_self _, rfl⟩
    · exact owes_mvj 16 57 (by kernel_rfl) (by kernel_rfl) (by kernel_rfl) (by kernel_rfl) (by rw [hsz]; decide) (fun v w h => h)
    · refine owes_vt 17 true (Go.Op.fieldAddr 32 (Go.Operand.tmp 7) 3) 0 [] (by kernel_rfl) (by kernel_rfl) (by kernel_rfl) (fun _ _ h => h) (by rw [hsz]; kernel_rfl) (by kernel_rfl) rfl fun vals w1 ρ hG hF hρ hcst hfun => ?_
      have e7 : ρ (.tmp 7) = .pointer (some ⟨G7, 0, none⟩) := ((hρ 7).trans (slotO [] (by kernel_rfl))).trans sl7
      clear hρ hF hcst hfun sl2 sl4 sl5 sl6 sl7 sl8 sl9 sl10 sl11 fin
      exact opv_val (by go_simp <;> rfl) ⟨gw_self _, rfl⟩
    · refine owes_vt 17 true (Go.Op.load 3 (Go.Operand.tmp 59)) 3 [18] (by kernel_rfl) (by kernel_rfl) (by kernel_rfl) (fun _ _ h => h) (by rw [hsz]; kernel_rfl) (by kernel_rfl) rfl fun vals w1 ρ hG hF hρ hcst hfun => ?_
      have e59 : ρ (.tmp 59) = .pointer (some ⟨G7, 5, none⟩) := ((hρ 59).trans (slotJ [18] (by rw [hsz]; decide) (by kernel_rfl))).trans (hF 18 (by decide))
      have k0 := (hG.cell (p := ⟨G7, 5, none⟩) H7.out.2.2).trans H7.out.2.1
      clear hρ hF hcst hfun sl2 sl4 sl5 sl6 sl7 sl8 sl9 sl10 sl11 fin
      exact opv_val (by go_simp <;> rfl) ⟨gw_self _, rfl⟩
    · refine owes_vt 17 true (Go.Op.binOp Go.BinOp.eql 3 (Go.Operand.tmp 60) (Go.Operand.const (Go.Value.int Go.IntKind.i64 3)) 3) 4 [19] (by kernel_rfl) (by kernel_rfl) (by kernel_rfl) (fun _ _ h => h) (by rw [hsz]; kernel_rfl) (by kernel_rfl) rfl fun vals w1 ρ hG hF hρ hcst hfun => ?_
      have e60 : ρ (.tmp 60) = .int .i64 3 := ((hρ 60).trans (slotJ [19] (by rw [hsz]; decide) (by kernel_rfl))).trans (hF 19 (by decide))
      clear hρ hF hfun sl2 sl4 sl5 sl6 sl7 sl8 sl9 sl10 sl11 fin
      exact opv_val (by go_simp <;> rfl) ⟨gw_self _, rfl⟩
    · refine owes_v (Go.Op.pick (Go.Operand.tmp 58) (Go.Operand.tmp 61) (Go.Operand.const (Go.Value.bool false))) 4 [17, 20] (by kernel_rfl) (by kernel_rfl) (by kernel_rfl) rfl fun vals w1 ρ hG hF hρ hcst hfun => ?_
      have e58 : ρ (.tmp 58) = .bool true := ((hρ 58).trans (slotJ [17, 20] (by rw [hsz]; decide) (by kernel_rfl))).trans (hF 17 (by decide))
      have e61 : ρ (.tmp 61) = .bool true := ((hρ 61).trans (slotJ [17, 20] (by rw [hsz]; decide) (by kernel_rfl))).trans (hF 20 (by decide))
      clear hρ hF hfun sl2 sl4 sl5 sl6 sl7 sl8 sl9 sl10 sl11 fin
      exact opv_val (by go_simp <;> rfl) ⟨gw_self _, rfl⟩
    · exact owes_mvj 21 62 (by kernel_rfl) (by kernel_rfl) (by kernel_rfl) (by kernel_rfl) (by rw [hsz]; decide) (fun v w h => h)
    · refine owes_vt 22 true (Go.Op.indexAddr 34 (Go.Operand.tmp 10) (Go.Operand.const (Go.Value.int Go.IntKind.i64 0))) 0 [] (by kernel_rfl) (by kernel_rfl) (by kernel_rfl) (fun _ _ h => h) (by rw [hsz]; kernel_rfl) (by kernel_rfl) rfl fun vals w1 ρ hG hF hρ hcst hfun => ?_
      have e10 : ρ (.tmp 10) = .pointer (some ⟨G10, 0, none⟩) := ((hρ 10).trans (slotO [] (by kernel_rfl))).trans sl10
      clear hρ hF hfun sl2 sl4 sl5 sl6 sl7 sl8 sl9 sl10 sl11 fin
      exact opv_val (by go_simp <;> rfl) ⟨gw_self _, rfl⟩
    · refine owes_vt 22 true (Go.Op.load 4 (Go.Operand.tmp 64)) 4 [23] (by kernel_rfl) (by kernel_rfl) (by kernel_rfl) (fun _ _ h => h) (by rw [hsz]; kernel_rfl) (by kernel_rfl) rfl fun vals w1 ρ hG hF hρ hcst hfun => ?_
      have e64 : ρ (.tmp 64) = .pointer (some ⟨G10, 0, none⟩) := ((hρ 64).trans (slotJ [23] (by rw [hsz]; decide) (by kernel_rfl))).trans (hF 23 (by decide))
      have k0 := (hG.cell (p := ⟨G10, 0, none⟩) H10.out.2.2).trans H10.out.1
      clear hρ hF hcst hfun sl2 sl4 sl5 sl6 sl7 sl8 sl9 sl10 sl11 fin
      exact opv_val (by go_simp <;> rfl) ⟨gw_self _, rfl⟩
    · refine owes_v (Go.Op.pick (Go.Operand.tmp 63) (Go.Operand.tmp 65) (Go.Operand.const (Go.Value.bool false))) 4 [22, 24] (by kernel_rfl) (by kernel_rfl) (by kernel_rfl) rfl fun vals w1 ρ hG hF hρ hcst hfun => ?_
      have e63 : ρ (.tmp 63) = .bool true := ((hρ 63).trans (slotJ [22, 24] (by rw [hsz]; decide) (by kernel_rfl))).trans (hF 22 (by decide))
      have e65 : ρ (.tmp 65) = .bool true := ((hρ 65).trans (slotJ [22, 24] (by rw [hsz]; decide) (by kernel_rfl))).trans (hF 24 (by decide))
      clear hρ hF hfun sl2 sl4 sl5 sl6 sl7 sl8 sl9 sl10 sl11 fin
      exact opv_val (by go_simp <;> rfl) ⟨gw_self _, rfl⟩
    · exact owes_mvj 25 66 (by kernel_rfl) (by kernel_rfl) (by kernel_rfl) (by kernel_rfl) (by rw [hsz]; decide) (fun v w h => h)
    · refine owes_vt 26 true (Go.Op.indexAddr 34 (Go.Operand.tmp 10) (Go.Operand.const (Go.Value.int Go.IntKind.i64 1))) 0 [] (by kernel_rfl) (by kernel_rfl) (by kernel_rfl) (fun _ _ h => h) (by rw [hsz]; kernel_rfl) (by kernel_rfl) rfl fun vals w1 ρ hG hF hρ hcst hfun => ?_
      have e10 : ρ (.tmp 10) = .pointer (some ⟨G10, 0, none⟩) := ((hρ 10).trans (slotO [] (by kernel_rfl))).trans sl10
      clear hρ hF hfun sl2 sl4 sl5 sl6 sl7 sl8 sl9 sl10 sl11 fin
      exact opv_val (by go_simp <;> rfl) ⟨gw_self _, rfl⟩
    · refine owes_vt 26 true (Go.Op.load 4 (Go.Operand.tmp 68)) 4 [27] (by kernel_rfl) (by kernel_rfl) (by kernel_rfl) (fun _ _ h => h) (by rw [hsz]; kernel_rfl) (by kernel_rfl) rfl fun vals w1 ρ hG hF hρ hcst hfun => ?_
      have e68 : ρ (.tmp 68) = .pointer (some ⟨G10, 1, none⟩) := ((hρ 68).trans (slotJ [27] (by rw [hsz]; decide) (by kernel_rfl))).trans (hF 27 (by decide))
      have k0 := (hG.cell (p := ⟨G10, 1, none⟩) H10.out.2.2).trans H10.out.2.1
      clear hρ hF hcst hfun sl2 sl4 sl5 sl6 sl7 sl8 sl9 sl10 sl11 fin
      exact opv_val (by go_simp <;> rfl) ⟨gw_self _, rfl⟩
    · refine owes_v (Go.Op.pick (Go.Operand.tmp 67) (Go.Operand.tmp 69) (Go.Operand.const (Go.Value.bool false))) 4 [26, 28] (by kernel_rfl) (by kernel_rfl) (by kernel_rfl) rfl fun vals w1 ρ hG hF hρ hcst hfun => ?_
      have e67 : ρ (.tmp 67) = .bool true := ((hρ 67).trans (slotJ [26, 28] (by rw [hsz]; decide) (by kernel_rfl))).trans (hF 26 (by decide))
      have e69 : ρ (.tmp 69) = .bool true := ((hρ 69).trans (slotJ [26, 28] (by rw [hsz]; decide) (by kernel_rfl))).trans (hF 28 (by decide))
      clear hρ hF hfun sl2 sl4 sl5 sl6 sl7 sl8 sl9 sl10 sl11 fin
      exact opv_val (by go_simp <;> rfl) ⟨gw_self _, rfl⟩
    · exact owes_mvj 29 70 (by kernel_rfl) (by kernel_rfl) (by kernel_rfl) (by kernel_rfl) (by rw [hsz]; decide) (fun v w h => h)
    · refine owes_vt 30 true (Go.Op.indexAddr 33 (Go.Operand.tmp 9) (Go.Operand.const (Go.Value.int Go.IntKind.i64 0))) 0 [] (by kernel_rfl) (by kernel_rfl) (by kernel_rfl) (fun _ _ h => h) (by rw [hsz]; kernel_rfl) (by kernel_rfl) rfl fun vals w1 ρ hG hF hρ hcst hfun => ?_
      have e9 : ρ (.tmp 9) = .pointer (some ⟨G9, 0, none⟩) := ((hρ 9).trans (slotO [] (by kernel_rfl))).trans sl9
      clear hρ hF hfun sl2 sl4 sl5 sl6 sl7 sl8 sl9 sl10 sl11 fin
      exact opv_val (by go_simp <;> rfl) ⟨gw_self _, rfl⟩
    · refine owes_vt 30 true (Go.Op.fieldAddr 32 (Go.Operand.tmp 72) 0) 0 [31] (by kernel_rfl) (by kernel_rfl) (by kernel_rfl) (fun _ _ h => h) (by rw [hsz]; kernel_rfl) (by kernel_rfl) rfl fun vals w1 ρ hG hF hρ hcst hfun => ?_
      have e72 : ρ (.tmp 72) = .pointer (some ⟨G9, 0, none⟩) := ((hρ 72).trans (slotJ [31] (by rw [hsz]; decide) (by kernel_rfl))).trans (hF 31 (by decide))
      clear hρ hF hcst hfun sl2 sl4 sl5 sl6 sl7 sl8 sl9 sl10 sl11 fin
      exact opv_val (by go_simp <;> rfl) ⟨gw_self _, rfl⟩
    · refine owes_vt 30 true (Go.Op.load 28 (Go.Operand.tmp 73)) 28 [32] (by kernel_rfl) (by kernel_rfl) (by kernel_rfl) (fun _ _ h => h) (by rw [hsz]; kernel_rfl) (by kernel_rfl) rfl fun vals w1 ρ hG hF hρ hcst hfun => ?_
      have e73 : ρ (.tmp 73) = .pointer (some ⟨G9, 0, none⟩) := ((hρ 73).trans (slotJ [32] (by rw [hsz]; decide) (by kernel_rfl))).trans (hF 32 (by decide))
      have k0 := (hG.cell (p := ⟨G9, 0, none⟩) H9.out.2).trans H9.out.1
      clear hρ hF hcst hfun sl2 sl4 sl5 sl6 sl7 sl8 sl9 sl10 sl11 fin
      exact opv_val (by go_simp <;> rfl) ⟨gw_self _, rfl⟩
    · refine owes_vt 30 true (Go.Op.binOp Go.BinOp.eql 28 (Go.Operand.tmp 74) (Go.Operand.const (Go.Value.int Go.IntKind.u64 4)) 28) 4 [33] (by kernel_rfl) (by kernel_rfl) (by kernel_rfl) (fun _ _ h => h) (by rw [hsz]; kernel_rfl) (by kernel_rfl) rfl fun vals w1 ρ hG hF hρ hcst hfun => ?_
      have e74 : ρ (.tmp 74) = .int .u64 4 := ((hρ 74).trans (slotJ [33] (by rw [hsz]; decide) (by kernel_rfl))).trans (hF 33 (by decide))
      clear hρ hF hfun sl2 sl4 sl5 sl6 sl7 sl8 sl9 sl10 sl11 fin
      exact opv_val (by go_simp <;> rfl) ⟨gw_self _, rfl⟩
    · refine owes_v (Go.Op.pick (Go.Operand.tmp 71) (Go.Operand.tmp 75) (Go.Operand.const (Go.Value.bool false))) 4 [30, 34] (by kernel_rfl) (by kernel_rfl) (by kernel_rfl) rfl fun vals w1 ρ hG hF hρ hcst hfun => ?_
      have e71 : ρ (.tmp 71) = .bool true := ((hρ 71).trans (slotJ [30, 34] (by rw [hsz]; decide) (by kernel_rfl))).trans (hF 30 (by decide))
      have e75 : ρ (.tmp 75) = .bool true := ((hρ 75).trans (slotJ [30, 34] (by rw [hsz]; decide) (by kernel_rfl))).trans (hF 34 (by decide))
      clear hρ hF hfun sl2 sl4 sl5 sl6 sl7 sl8 sl9 sl10 sl11 fin
      exact opv_val (by go_simp <;> rfl) ⟨gw_self _, rfl⟩
    · exact owes_mvj 35 76 (by kernel_rfl) (by kernel_rfl) (by kernel_rfl) (by kernel_rfl) (by rw [hsz]; decide) (fun v w h => h)
    · refine owes_vt 36 true (Go.Op.move (Go.Operand.tmp 2)) 24 [] (by kernel_rfl) (by kernel_rfl) (by kernel_rfl) (fun _ _ h => h) (by rw [hsz]; kernel_rfl) (by kernel_rfl) rfl fun vals w1 ρ hG hF hρ hcst hfun => ?_
      have e2 : ρ (.tmp 2) = .pointer (some ⟨g, 0, none⟩) := ((hρ 2).trans (slotO [] (by kernel_rfl))).trans sl2
      clear hρ hF hcst hfun sl2 sl4 sl5 sl6 sl7 sl8 sl9 sl10 sl11 fin
      exact opv_val (by go_simp <;> rfl) ⟨gw_self _, rfl⟩
    · refine owes_vt 36 true (Go.Op.call { callee := Go.Callee.value (Go.Operand.func 22), args := #[Go.Operand.tmp 78], argTypes := #[24] }) 3 [37] (by kernel_rfl) (by kernel_rfl) (by kernel_rfl) (fun _ _ h => h) (by rw [hsz]; kernel_rfl) (by kernel_rfl) rfl fun vals w1 ρ hG hF hρ hcst hfun => ?_
      have e78 : ρ (.tmp 78) = .pointer (some ⟨g, 0, none⟩) := ((hρ 78).trans (slotJ [37] (by rw [hsz]; decide) (by kernel_rfl))).trans (hF 37 (by decide))
      clear hρ hF hcst sl2 sl4 sl5 sl6 sl7 sl8 sl9 sl10 sl11 fin
      exact opv_enter (by go_simp <;> rfl) ((k7_pend (HD.out.below hG)).mono fun _ _ h => ⟨_, h.1, by rw [h.2]; exact gw_self _, rfl⟩)
    · refine owes_vt 36 true (Go.Op.binOp Go.BinOp.eql 3 (Go.Operand.tmp 79) (Go.Operand.const (Go.Value.int Go.IntKind.i64 0)) 3) 4 [38] (by kernel_rfl) (by kernel_rfl) (by kernel_rfl) (fun _ _ h => h) (by rw [hsz]; kernel_rfl) (by kernel_rfl) rfl fun vals w1 ρ hG hF hρ hcst hfun => ?_
      have e79 : ρ (.tmp 79) = .int .i64 0 := ((hρ 79).trans (slotJ [38] (by rw [hsz]; decide) (by kernel_rfl))).trans (hF 38 (by decide))
      clear hρ hF hfun sl2 sl4 sl5 sl6 sl7 sl8 sl9 sl10 sl11 fin
      exact opv_val (by go_simp <;> rfl) ⟨gw_self _, rfl⟩
    · refine owes_v (Go.Op.pick (Go.Operand.tmp 77) (Go.Operand.tmp 80) (Go.Operand.const (Go.Value.bool false))) 4 [36, 39] (by kernel_rfl) (by kernel_rfl) (by kernel_rfl) rfl fun vals w1 ρ hG hF hρ hcst hfun => ?_
      have e77 : ρ (.tmp 77) = .bool true := ((hρ 77).trans (slotJ [36, 39] (by rw [hsz]; decide) (by kernel_rfl))).trans (hF 36 (by decide))
      have e80 : ρ (.tmp 80) = .bool true := ((hρ 80).trans (slotJ [36, 39] (by rw [hsz]; decide) (by kernel_rfl))).trans (hF 39 (by decide))
      clear hρ hF hfun sl2 sl4 sl5 sl6 sl7 sl8 sl9 sl10 sl11 fin
      exact opv_val (by go_simp <;> rfl) ⟨gw_self _, rfl⟩
    · exact owes_mvj 40 81 (by kernel_rfl) (by kernel_rfl) (by kernel_rfl) (by kernel_rfl) (by rw [hsz]; decide) (fun v w h => h)
  · intro vals w1 hG hF
    exact fin vals w1 hG (hF 41 (by decide +kernel))
theorem known7_c (w : World) : Calls Try.prog 7 #[] w (RetP (.bool true) w) := by
  have HC := Lib.hid (c14_one b4 b5)
  have HCS := Lib.hid (show (c14 b4 b5).size = 14 from rfl)
  have HBC := Lib.hid b45_cells
  obtain ⟨W1, hW1⟩ : ∃ W, W = w.alloc (.cells #[.int .i64 64, .int .i64 8, .int .i64 64] 30) := ⟨_, rfl⟩
  have HK1 := Lib.hid (show Bk W1 w.heap.size 30 #[.int .i64 64, .int .i64 8, .int .i64 64] ∧ Below w.heap.size w W1 ∧ w.heap.size < W1.heap.size from by rw [hW1]; exact ⟨Bk.new w _ _, Gw.alloc w _, by simp⟩)
  obtain ⟨q0, q1, q2⟩ := HK1.out.1.three
  go_enter Try.func7, Try.ntmps7
  go_wp2_with fail
  rw [← hW1]
  clear hW1
  refine Calls.mono (k7_fresh W1) ?_
  rintro e w2 ⟨g, rfl, hd2, b2⟩
  have HD2 := Lib.hid hd2
  have HB2 := Lib.hid b2
  obtain ⟨c0, c1, c2⟩ := (HK1.out.1.below b2 HK1.out.2.2).three
  clear b2 hd2 q0 q1 q2
  go_wp2_with fail
  refine Calls.mono (k7_none HD2.out) ?_
  rintro e w3 ⟨rfl, b3⟩
  obtain ⟨W4, hW4⟩ : ∃ W, W = w3.alloc (.cells #[.int .u64 0, .int .i64 0, .int .i64 0, .int .i64 0, .int .i64 0, .int .i64 0, .int .u64 0] 32) := ⟨_, rfl⟩
  have b4' : Below w2.heap.size w2 W4 := by rw [hW4]; exact b3.alloc b3.size _
  have HD4 := Lib.hid (HD2.out.below b4')
  have HB4 := Lib.hid (HB2.out.trans (b4'.mono HB2.out.size))
  clear b3 b4' HD2 HB2 c0 c1 c2
  have k4 := HK1.out.1.below HB4.out HK1.out.2.2
  rw [hW4] at k4
  obtain ⟨c0, c1, c2⟩ := k4.three
  have HW4 := Lib.hid hW4
  clear k4 hW4
  go_wp2_with fail
  rw [← HW4.out]
  refine Calls.mono (k7_w4 HD4.out (fun k e => e.elim) HB4.out.size) ?_
  rintro e w5 ⟨rfl, d5, k5⟩
  have HB5 := Lib.hid (HB4.out.trans (k5.below HB4.out.size (fun k e => e.1)))
  have HD5 := Lib.hid d5
  clear k5 d5 c0 c1 c2
  obtain ⟨c0, c1, c2⟩ := (HK1.out.1.below HB5.out HK1.out.2.2).three
  go_wp2_with fail
  refine Calls.mono (k7_w5 HD5.out (fun k e => e.elim) HB5.out.size) ?_
  rintro e w6 ⟨rfl, d6, k6⟩
  have HB6 := Lib.hid (HB5.out.trans (k6.below HB5.out.size (fun k e => e.1)))
  have HD6 := Lib.hid d6
  have HSC := Lib.hid (k7_secs HD4.out HD5.out) 
  clear k6 d6 c0 c1 c2 HD4 HB4 HD5 HB5
  go_wp2_with fail
  refine Calls.mono (k7_read HD6.out HSC.out) ?_
  rintro e w7 ⟨rfl, b7⟩
  obtain ⟨W8, hW8⟩ : ∃ W, W = w7.alloc (.cells #[.int .u64 5, .int .i64 64, .int .i64 8, .int .i64 64, .int .i64 0, .int .i64 3, .int .u64 0] 32) := ⟨_, rfl⟩
  have b8' : Below w6.heap.size w6 W8 := by rw [hW8]; exact b7.alloc b7.size _
  have HD8 := Lib.hid (HD6.out.below b8')
  have HB8 := Lib.hid (HB6.out.trans (b8'.mono HB6.out.size))
  have HK8 := Lib.hid (show Bk W8 w7.heap.size 32 #[.int .u64 5, .int .i64 64, .int .i64 8, .int .i64 64, .int .i64 0, .int .i64 3, .int .u64 0] from by rw [hW8]; exact Bk.new w7 _ _)
  have HW8 := Lib.hid hW8
  obtain ⟨G7, hG7⟩ : ∃ k, k = w7.heap.size := ⟨_, rfl⟩
  rw [← hG7] at HK8
  have HG7 := Lib.hid hG7
  clear b7 b8' hW8 hG7 HD6 HB6
  go_wp2_with fail
  rw [← HW8.out, ← HG7.out]
  refine Calls.mono (k7_both HD8.out HSC.out) ?_
  rintro e w9 ⟨rfl, b9⟩
  have HD9 := Lib.hid (HD8.out.below b9)
  have HB9 := Lib.hid (HB8.out.trans (b9.mono HB8.out.size))
  have HK9 := Lib.hid (HK8.out.below b9 HK8.out.lt)
  obtain ⟨cc, hcc⟩ : ∃ cc, cc = c14 b4 b5 := ⟨_, rfl⟩
  have HCC := Lib.hid hcc
  rw [← hcc] at HC HCS ⊢
  obtain ⟨Z14, hZ⟩ : ∃ z : Array Value, z = #[.int .u64 0, .int .i64 0, .int .i64 0, .int .i64 0, .int .i64 0, .int .i64 0, .int .u64 0, .int .u64 0, .int .i64 0, .int .i64 0, .int .i64 0, .int .i64 0, .int .i64 0, .int .u64 0] := ⟨_, rfl⟩
  have HZS := Lib.hid (show Z14.size = 14 from by rw [hZ]; rfl)
  obtain ⟨WA, hWA⟩ : ∃ W, W = (w9.alloc (.cells #[.int .u64 0, .int .i64 0, .int .i64 0, .int .i64 0, .int .i64 0, .int .i64 0, .int .u64 0, .int .u64 0, .int .i64 0, .int .i64 0, .int .i64 0, .int .i64 0, .int .i64 0, .int .u64 0] 33)).alloc (.cells #[.bool false, .bool false] 34) := ⟨_, rfl⟩
  have HBA := Lib.hid (show Below w9.heap.size w9 WA ∧ Bk WA w9.heap.size 33 Z14 ∧ Bk WA (w9.heap.size + 1) 34 #[.bool false, .bool false] from by
    rw [hWA, hZ]
    refine ⟨((Below.refl _ _).alloc (Nat.le_refl _) _).alloc (by simp) _, (Bk.new w9 _ _).alloc _, ?_⟩
    have := Bk.new (w9.alloc (.cells #[.int .u64 0, .int .i64 0, .int .i64 0, .int .i64 0, .int .i64 0, .int .i64 0, .int .u64 0, .int .u64 0, .int .i64 0, .int .i64 0, .int .i64 0, .int .i64 0, .int .i64 0, .int .u64 0] 33)) 34 #[.bool false, .bool false]
    simpa using this)
  have HWA := Lib.hid hWA
  have HSZ := Lib.hid (show w.heap.size ≤ w9.heap.size ∧ G7 < w9.heap.size from ⟨Nat.le_trans (Nat.le_of_lt HK1.out.2.2) HB9.out.size, HK9.out.lt⟩)
  clear b9 hcc hZ hWA HD8 HB8 HK8
  go_upto_region 10 with (first
    | (refine wp_stR rfl 33 _ _ rfl w9.heap.size cc rfl rfl 33 Z14 (by have := HBA.out.2.1; rw [HWA.out] at this; exact this) (by rw [HCS.out]; kernel_rfl) (by rw [HCS.out, HZS.out]) HC.out ?_; intro wB kB bB oB; have HB := Lib.hid (show Below w9.heap.size w9 wB ∧ Bk wB w9.heap.size 33 cc ∧ Bk wB (w9.heap.size + 1) 34 #[.bool false, .bool false] from (by rw [← HWA.out] at bB oB; exact ⟨HBA.out.1.trans (bB _ (Nat.le_refl _)), kB, (oB _ (by omega)).trans HBA.out.2.2⟩)); clear kB bB oB)
    | (refine wp_stR rfl 34 _ _ rfl (w9.heap.size + 1) #[.bool true, .bool true] rfl rfl 34 #[.bool false, .bool false] HB.out.2.2 (by kernel_rfl) rfl (r2_one _ _) ?_; intro wC kC bC oC; have HCx := Lib.hid (show Below w9.heap.size w9 wC ∧ Bk wC w9.heap.size 33 cc ∧ Bk wC (w9.heap.size + 1) 34 #[.bool true, .bool true] from (by exact ⟨HB.out.1.trans (bC _ (by omega)), (oC _ (by omega)).trans HB.out.2.1, kC⟩)); clear kC bC oC))
  refine wp_region_lit ?_
  have k9 := HCx.out.2.1
  rw [HCC.out, HBC.out] at k9
  refine k7_end _ _ _ g G7 w9.heap.size (w9.heap.size + 1) (Lib.hid ((HD9.out.below HCx.out.1).down (Nat.zero_le _))) (Lib.hid (show _ ∧ _ ∧ _ from ⟨(HK9.out.below HCx.out.1 HK9.out.lt).cell 0, (HK9.out.below HCx.out.1 HK9.out.lt).cell 5, Nat.lt_of_lt_of_le HSZ.out.2 HCx.out.1.size⟩)) (Lib.hid ⟨k9.cell 0, k9.lt⟩) (Lib.hid ⟨HCx.out.2.2.cell 0, HCx.out.2.2.cell 1, HCx.out.2.2.lt⟩) _ _ (by kernel_rfl) (by kernel_rfl) ?_ ?_ ?_ ?_ ?_ ?_ ?_ ?_ ?_ ?_ ?_
  iterate 10 (· rfl)
  intro vals wD hG h0
  unfold IsV at h0
  simp only [putD, Act.put, List.setIfInBounds_toArray, List.set_cons_zero, List.set_cons_succ, h0]
  have HBD := Lib.hid (show Below w.heap.size w wD from (HK1.out.2.1.trans (HB9.out.mono (Nat.le_of_lt HK1.out.2.2))).trans ((HCx.out.1.trans (hG.mono HCx.out.1.size)).mono HSZ.out.1))
  clear h0 hG k9
  go_wp2_with fail
  go_ret
  exact ⟨rfl, HBD.out⟩
end Go.Proofs.Ytjcpbhjmmnpjnaa
/- When loamlaw7.fresh tells none. No conditions. -/
namespace Go.Proofs.Ytjcpbhjmmnpjnaa
set_option linter.unusedVariables false
set_option linter.unusedSimpArgs false
open Go.RowKit Go.Maps
set_option maxRecDepth 100000
set_option maxHeartbeats 1000000
def frB (s l n : Int) : Bool := okG s l n && decide (n ≤ 600) && decide (s ≤ 256)
theorem fresh_no (s l n : Int) (w : World) (h : frB s l n = false) : Calls Try.prog 14 #[gV s l n] w (RetP (.pointer none) w) := by
  have HK := Lib.hid (Bk.new w 30 #[.int .i64 s, .int .i64 l, .int .i64 n])
  have HW := Lib.hid (Gw.alloc w (.cells #[.int .i64 s, .int .i64 l, .int .i64 n] 30))
  by_cases hf : fewP s l n
  · have HFw := Lib.hid (fun W => few_yes s l n W hf)
    have HC0 := fun W => rcheck_c s l n W
    have HO := Lib.hid (fun W => of_c s l n W)
    cases hok : okG s l n with
    | false =>
      rw [show chkG s l n = 1 from by unfold chkG; rw [hok]; rfl] at HC0
      have HC := Lib.hid HC0
      unfold gV at HFw HC HO ⊢
      clear HC0 hok hf h
      go_enter Try.func14, Try.ntmps14
      go_wp2_with fail
      refine Calls.mono (HFw.out _) ?_
      rintro e w1 ⟨rfl, b1⟩
      have HK1 := Lib.hid (HK.out.below b1 HK.out.lt)
      have HB1 := Lib.hid (HW.out.trans (b1.mono HW.out.size))
      obtain ⟨c0, c1, c2⟩ := HK1.out.three
      clear b1 HK HW HFw
      go_wp2_with fail
      refine Calls.mono (HO.out _) ?_
      rintro e w2 ⟨rfl, b2⟩
      have HB2 := Lib.hid (HB1.out.trans (b2.mono HB1.out.size))
      clear b2 HK1 HB1 c0 c1 c2
      go_wp2_with fail
      refine Calls.mono (HC.out _) ?_
      rintro e w3 ⟨rfl, b3⟩
      have HB3 := Lib.hid (HB2.out.trans (b3.mono HB2.out.size))
      clear b3 HB2
      go_wp2_with fail
      go_ret
      exact ⟨rfl, HB3.out⟩
    | true =>
      rw [show chkG s l n = 0 from by unfold chkG; rw [hok]; rfl] at HC0
      have HC := Lib.hid HC0
      have hor : 600 < n ∨ (n ≤ 600 ∧ 256 < s) := by
        unfold frB at h
        rw [hok] at h
        by_cases h1 : n ≤ 600
        · by_cases h2 : s ≤ 256
          · simp [h1, h2] at h
          · omega
        · omega
      unfold gV at HFw HC HO ⊢
      clear HC0 hok hf h
      rcases hor with h1 | ⟨h1, h2⟩
      all_goals
        go_enter Try.func14, Try.ntmps14
        go_wp2_with fail
        refine Calls.mono (HFw.out _) ?_
        rintro e w1 ⟨rfl, b1⟩
        have HK1 := Lib.hid (HK.out.below b1 HK.out.lt)
        have HB1 := Lib.hid (HW.out.trans (b1.mono HW.out.size))
        obtain ⟨c0, c1, c2⟩ := HK1.out.three
        clear b1 HK HW HFw
        go_wp2_with fail
        refine Calls.mono (HO.out _) ?_
        rintro e w2 ⟨rfl, b2⟩
        have HK2 := Lib.hid (HK1.out.below b2 HK1.out.lt)
        have HB2 := Lib.hid (HB1.out.trans (b2.mono HB1.out.size))
        clear b2 HK1 HB1 c0 c1 c2
        go_wp2_with fail
        refine Calls.mono (HC.out _) ?_
        rintro e w3 ⟨rfl, b3⟩
        have HB3 := Lib.hid (HB2.out.trans (b3.mono HB2.out.size))
        obtain ⟨c0, c1, c2⟩ := (HK2.out.below b3 HK2.out.lt).three
        clear b3 HK2 HB2
        go_wp2_with fail
        go_ret
        exact ⟨rfl, HB3.out⟩
  · have HFw := Lib.hid (fun W => few_no s l n W hf)
    unfold gV at HFw ⊢
    clear hf h
    go_enter Try.func14, Try.ntmps14
    go_wp2_with fail
    refine Calls.mono (HFw.out _) ?_
    rintro e w1 ⟨rfl, b1⟩
    have HB1 := Lib.hid (HW.out.trans (b1.mono HW.out.size))
    clear b1 HK HW HFw
    go_wp2_with fail
    go_ret
    exact ⟨rfl, HB1.out⟩
theorem fr_nat {s l n : Int} (h : frB s l n = true) : ∃ s' l' n' : Nat, s = s' ∧ l = l' ∧ n = n' ∧ OkG s' l' n' ∧ n' ≤ 600 ∧ s' ≤ 256 := by
  unfold frB at h
  simp only [Bool.and_eq_true, decide_eq_true_eq] at h
  have og := okG_out h.1.1
  have h1 := og.s1
  have h2 := og.l1
  have h3 := og.n1
  refine ⟨s.toNat, l.toNat, n.toNat, by omega, by omega, by omega, ?_, by omega, by omega⟩
  rw [Int.toNat_of_nonneg (by omega), Int.toNat_of_nonneg (by omega), Int.toNat_of_nonneg (by omega)]
  exact og
end Go.Proofs.Ytjcpbhjmmnpjnaa
/- How an argument that is a struct of numbers is opened. No conditions. -/
namespace Go.Proofs.Ytjcpbhjmmnpjnaa
set_option linter.unusedVariables false
set_option linter.unusedSimpArgs false
open Go.ChangeShapes Go.WideShapes Go.ChangeAt Go.RowKit
section
variable {H : Type} {enc : TypeId × Value → H} {P : Program} {w : World} {base : Nat} {spare : Nat → Bool} {held : Bool} {r : Reach} {b0 : Nat} {t : TypeId} {v : Value} {d : DataW H} {p : List MemPlace}
theorem one_int {k : IntKind} {n : Nat} {t : TypeId} {u : Value} {y : DataW H × List MemPlace} (ht : P.underlying t = some (.int k)) (h : DataW.trod enc P w base spare held n t [u] = some y) : ∃ a, u = .int k a ∧ (Lit.int k a).wf = true := by
  obtain ⟨a, h, _, hw⟩ := DataW.trod_int ht h
  exact ⟨a, by simpa using h, hw⟩
theorem open_ints2 {f0 f1 : Field} (i0 i1 : IntKind) (hs : P.underlying t = some (.struct #[f0, f1])) (hone : Go.Deep.oneCellFields P #[f0, f1] = true) (hC : P.cellsOf t = 2)
    (k0 : P.underlying f0.type = some (.int i0)) (k1 : P.underlying f1.type = some (.int i1)) (hv : Value.okWide P w r b0 t v) (h : DataW.Trod enc P w base spare held t v d p) :
    ∃ a b, v = .agg #[.int i0 a, .int i1 b] ∧ (Lit.int i0 a).wf = true ∧ (Lit.int i1 b).wf = true := by
  obtain ⟨v0, v1, y0, y1, n, rfl, _, _, t0, t1⟩ := Joins.open_agg2 hs hone hC hv h
  obtain ⟨a, rfl, wa⟩ := one_int k0 t0
  obtain ⟨b, rfl, wb⟩ := one_int k1 t1
  exact ⟨a, b, rfl, wa, wb⟩
theorem open_ints3 {f0 f1 f2 : Field} (i0 i1 i2 : IntKind) (hs : P.underlying t = some (.struct #[f0, f1, f2])) (hone : Go.Deep.oneCellFields P #[f0, f1, f2] = true) (hC : P.cellsOf t = 3)
    (k0 : P.underlying f0.type = some (.int i0)) (k1 : P.underlying f1.type = some (.int i1)) (k2 : P.underlying f2.type = some (.int i2)) (hv : Value.okWide P w r b0 t v) (h : DataW.Trod enc P w base spare held t v d p) :
    ∃ a b c, v = .agg #[.int i0 a, .int i1 b, .int i2 c] ∧ (Lit.int i0 a).wf = true ∧ (Lit.int i1 b).wf = true ∧ (Lit.int i2 c).wf = true := by
  obtain ⟨v0, v1, v2, y0, y1, y2, n, rfl, _, _, t0, t1, t2⟩ := Joins.open_agg3 hs hone hC hv h
  obtain ⟨a, rfl, wa⟩ := one_int k0 t0
  obtain ⟨b, rfl, wb⟩ := one_int k1 t1
  obtain ⟨c, rfl, wc⟩ := one_int k2 t2
  exact ⟨a, b, c, rfl, wa, wb, wc⟩
end
end Go.Proofs.Ytjcpbhjmmnpjnaa
