/- What sup.Decode answers of any bytes at most 1100. No conditions but on the numbers. -/
import Derived.Test.YtjdifejnnkplaaaSupF
import Derived.Test.YtjdifejnnkplaaaCrcF
namespace Go.Proofs.Ytjdifejnnkplaaa
set_option linter.unusedVariables false
set_option linter.unusedSimpArgs false
open Go.RowKit
set_option maxRecDepth 100000
set_option maxHeartbeats 2000000
/-- What both Encodes answer: an error, and bytes. -/
def EncD (er : Int) (bs : List (BitVec 8)) (w : World) (e : Ending) (w' : World) : Prop := ∃ A c, e = .returned (.tuple #[.slice A bs.length c, .int .i64 er]) ∧ bs.length ≤ c ∧ Rd b8 w' w'.heap.size A bs ∧ Below w.heap.size w w'
def decR : Bool → Value → Value
  | true, v => .tuple #[v, .int .i64 0]
  | false, _ => .tuple #[blkV 0#64 0 0 0 0 0 0#64, .int .i64 2]
theorem dec6_wrong (E : List (BitVec 8)) (A : Option Addr) (c : Nat) (w : World) (hR : ∀ W, Rd b8 W W.heap.size A E → Calls Try.prog 23 #[.slice A E.length c] W (RetP (.bool false) W)) (hr : Rd b8 w w.heap.size A E) :
    Calls Try.prog 14 #[.slice A E.length c] w (RetP (.tuple #[blkV 0#64 0 0 0 0 0 0#64, .int .i64 2]) w) := by
  have hz : U64 0#64 = 0 := by decide +kernel
  unfold blkV
  rw [hz]
  clear hz
  have HRt := Lib.hid hR
  have HR := Lib.hid hr
  clear hR hr
  obtain ⟨N, hN⟩ : ∃ N, N = E.length := ⟨_, rfl⟩
  rw [← hN] at HRt ⊢
  clear hN
  have HZ := Lib.hid (show Bk ((w.alloc (.cells #[.slice A N c] 29)).alloc (.cells zero7 26)) (w.heap.size + 1) 26 zero7 ∧ Below w.heap.size w ((w.alloc (.cells #[.slice A N c] 29)).alloc (.cells zero7 26)) from by
    refine ⟨?_, (Gw.alloc w _).trans ((Gw.alloc _ _).mono (by simp))⟩
    have q := Bk.new (w.alloc (.cells #[.slice A N c] 29)) 26 zero7
    simpa using q)
  unfold zero7 at HZ
  go_enter Try.func14, Try.ntmps14
  go_wp2_with fail
  refine Calls.mono (HRt.out _ ((HR.out.below HZ.out.2).more HZ.out.2.size)) ?_
  rintro e w1 ⟨rfl, b1⟩
  have HZ1 := Lib.hid (HZ.out.1.below b1 HZ.out.1.lt)
  have HB1 := Lib.hid (HZ.out.2.trans (b1.mono HZ.out.2.size))
  obtain ⟨r0, r1, r2, r3, r4, r5, r6⟩ := HZ1.out.seven
  have z0 := HZ1.out.free 0
  have z1 := HZ1.out.free 1
  have z2 := HZ1.out.free 2
  have z3 := HZ1.out.free 3
  have z4 := HZ1.out.free 4
  have z5 := HZ1.out.free 5
  have z6 := HZ1.out.free 6
  have ll := HZ1.out.lt
  have HR7 := Lib.hid (((((((HZ1.out.set 0 (.int .u64 0)).set 1 (.int .i64 0)).set 2 (.int .i64 0)).set 3 (.int .i64 0)).set 4 (.int .i64 0)).set 5 (.int .i64 0)).set 6 (.int .u64 0))
  have HB7 := Lib.hid (((((((HB1.out.setCell (p := ⟨w.heap.size + 1, 0, none⟩) (by simp) (.int .u64 0)).setCell (p := ⟨w.heap.size + 1, 1, none⟩) (by simp) (.int .i64 0)).setCell (p := ⟨w.heap.size + 1, 2, none⟩) (by simp) (.int .i64 0)).setCell (p := ⟨w.heap.size + 1, 3, none⟩) (by simp) (.int .i64 0)).setCell (p := ⟨w.heap.size + 1, 4, none⟩) (by simp) (.int .i64 0)).setCell (p := ⟨w.heap.size + 1, 5, none⟩) (by simp) (.int .i64 0)).setCell (p := ⟨w.heap.size + 1, 6, none⟩) (by simp) (.int .u64 0))
  clear b1 HZ HR HRt
  go_wp2_with fail
  obtain ⟨t0, t1, t2, t3, t4, t5, t6⟩ := HR7.out.seven
  refine bodyPost_ret (v := .tuple #[.agg #[.int .u64 0, .int .i64 0, .int .i64 0, .int .i64 0, .int .i64 0, .int .i64 0, .int .u64 0], .int .i64 2]) (by simp [results, Try.results14, go_sem, t0, t1, t2, t3, t4, t5, t6]) rfl ?_
  exact ⟨rfl, HB7.out⟩
theorem dec6_any (E : List (BitVec 8)) (A : Option Addr) (c : Nat) (w : World) (hc : E.length ≤ c) (hl : E.length ≤ 2000) (hr : Rd b8 w w.heap.size A E) (hR : ∀ W, Rd b8 W W.heap.size A E → Calls Try.prog 23 #[.slice A E.length c] W (RetP (.bool true) W)) (ep : BitVec 64) (s l n sp wd : Nat) (lg : BitVec 64)
    (hG : getB E 8 8 = ep ∧ U64 (getB E 16 4) = (s : Int) ∧ U64 (getB E 20 4) = (l : Int) ∧ U64 (getB E 24 4) = (n : Int) ∧ U64 (getB E 28 4) = (sp : Int) ∧ U64 (getB E 32 4) = (wd : Int) ∧ getB E 36 8 = lg) (hX : s ≤ 4294967296 ∧ l ≤ 4294967296 ∧ n ≤ 4294967296 ∧ sp ≤ 4294967296 ∧ wd ≤ 4294967296)
    (er : Int) (xs : List (BitVec 8)) (hE : ∀ W, Calls Try.prog 9 #[blkV ep s l n sp wd lg] W (EncD er xs W)) (bb : Bool) (hw : (er = 1 ∧ bb = false) ∨ (er = 0 ∧ bb = decide (xs = E))) :
    Calls Try.prog 14 #[.slice A E.length c] w (RetP (decR bb (blkV ep s l n sp wd lg)) w) := by
  have HEnc := Lib.hid hE
  have HG := Lib.hid hG
  have HRt := Lib.hid hR
  have HL := Lib.hid hl
  have HX := Lib.hid hX
  have HWW := Lib.hid hw
  obtain ⟨N, hN⟩ : ∃ N, N = E.length := ⟨_, rfl⟩
  rw [← hN] at HRt ⊢
  have HN := Lib.hid hN
  have HR := Lib.hid hr
  have HW1 := Lib.hid (show Bk ((w.alloc (.cells #[.slice A N c] 29)).alloc (.cells zero7 26)) w.heap.size 29 #[.slice A N c] ∧ Bk ((w.alloc (.cells #[.slice A N c] 29)).alloc (.cells zero7 26)) (w.heap.size + 1) 26 zero7 ∧ Below w.heap.size w ((w.alloc (.cells #[.slice A N c] 29)).alloc (.cells zero7 26)) from by
    refine ⟨(Bk.new w _ _).alloc _, ?_, (Gw.alloc w _).trans ((Gw.alloc _ _).mono (by simp))⟩
    have q := Bk.new (w.alloc (.cells #[.slice A N c] 29)) 26 zero7
    simpa using q)
  unfold zero7 at HW1
  clear hG hX hR hE hw hl hc hr hN
  go_enter Try.func14, Try.ntmps14
  go_wp2_with fail
  refine Calls.mono (HRt.out _ ((HR.out.below HW1.out.2.2).more HW1.out.2.2.size)) ?_
  rintro e w1 ⟨rfl, b1⟩
  have HW2 := Lib.hid (And.intro (HW1.out.1.below b1 HW1.out.1.lt) (And.intro (HW1.out.2.1.below b1 HW1.out.2.1.lt) (HW1.out.2.2.trans (b1.mono HW1.out.2.2.size))))
  clear b1 HRt HW1
  have D0 := Lib.hid (show DecS w (((w1.alloc (.cells zero7 26)).alloc (.cells #[.int .i64 0] 3)).alloc (.cells #[.func (.func 24) #[] #[.pointer (some ⟨w.heap.size, 0, none⟩), .pointer (some ⟨w1.heap.size + 1, 0, none⟩)]] 59)) w.heap.size (w.heap.size + 1) w1.heap.size (w1.heap.size + 1) (w1.heap.size + 1 + 1) A c E 0 zero7 from by
    have q0 := HW2.out.2.1.lt
    refine ⟨by rw [← HN.out]; exact ((HW2.out.1.alloc _).alloc _).alloc _, ?_, ((HW2.out.2.1.alloc _).alloc _).alloc _, ((Bk.new w1 _ _).alloc _).alloc _, ?_, ?_, ?_, ⟨Nat.le_refl _, by omega, by omega, by omega, by omega⟩⟩
    · exact (((HR.out.below HW2.out.2.2).alloc HW2.out.2.2.size _).alloc (by simp; omega) _).alloc (by simp; omega) _
    · have q := (Bk.new (w1.alloc (.cells zero7 26)) 3 #[.int .i64 0]).alloc (.cells #[.func (.func 24) #[] #[.pointer (some ⟨w.heap.size, 0, none⟩), .pointer (some ⟨w1.heap.size + 1, 0, none⟩)]] 59)
      simpa using q
    · have q := Bk.new ((w1.alloc (.cells zero7 26)).alloc (.cells #[.int .i64 0] 3)) 59 #[.func (.func 24) #[] #[.pointer (some ⟨w.heap.size, 0, none⟩), .pointer (some ⟨w1.heap.size + 1, 0, none⟩)]]
      simpa using q
    · exact ((HW2.out.2.2.trans ((Gw.alloc w1 _).mono HW2.out.2.2.size)).trans ((Gw.alloc _ _).mono (by simp; omega))).trans ((Gw.alloc _ _).mono (by simp; omega)))
  have HLb := Lib.hid (show E.length ≤ 2147483648 from by have := HL.out; omega)
  clear HW2
  unfold zero7 at D0
  go_wp2_with fail
  refine Calls.mono (D0.out.next 8 8 _ rfl (by decide) HLb.out (by decide) (by decide) (by decide) (by decide)) ?_
  rintro e w2 ⟨rfl, d2⟩
  have D2 := Lib.hid d2
  have f2 := d2.fn.cell 0
  clear d2 D0
  go_wp2_with fail
  refine Calls.mono (D2.out.next 8 16 ep HG.out.1 (by decide) HLb.out (by decide) (by decide) (by decide) (by decide)) ?_
  rintro e w3 ⟨rfl, d3⟩
  have D3 := Lib.hid (d3.set 0 (.int .u64 (U64 ep)))
  have f3 := d3.bk.cell 0
  have z3 := d3.bk.free 0
  have l3 := d3.bk.lt
  clear d3 D2 f2
  go_wp2_with fail
  refine Calls.mono (D3.out.small s 20 HG.out.2.1 (by decide) HLb.out (by decide) (by decide) (by have := HX.out; omega)) ?_
  rintro e w4 ⟨rfl, d4⟩
  have D4 := Lib.hid d4
  clear d4 D3 f3 z3 l3
  go_wp2_with fail
  refine Calls.mono (D4.out.small l 24 HG.out.2.2.1 (by decide) HLb.out (by decide) (by decide) (by have := HX.out; omega)) ?_
  rintro e w5 ⟨rfl, d5⟩
  have D5 := Lib.hid d5
  clear d5 D4
  go_wp2_with fail
  refine Calls.mono (D5.out.small n 28 HG.out.2.2.2.1 (by decide) HLb.out (by decide) (by decide) (by have := HX.out; omega)) ?_
  rintro e w6 ⟨rfl, d6⟩
  have D6 := Lib.hid (((d6.set 1 (.int .i64 (s : Int))).set 2 (.int .i64 (l : Int))).set 3 (.int .i64 (n : Int)))
  have f1 := d6.bk.cell 1
  have f2 := d6.bk.cell 2
  have f3 := d6.bk.cell 3
  have z1 := d6.bk.free 1
  have z2 := d6.bk.free 2
  have z3 := d6.bk.free 3
  have l6 := d6.bk.lt
  clear d6 D5
  go_wp2_with fail
  refine Calls.mono (D6.out.small sp 32 HG.out.2.2.2.2.1 (by decide) HLb.out (by decide) (by decide) (by have := HX.out; omega)) ?_
  rintro e w7 ⟨rfl, d7⟩
  have D7 := Lib.hid d7
  clear d7 D6 f1 f2 f3 z1 z2 z3 l6
  go_wp2_with fail
  refine Calls.mono (D7.out.small wd 36 HG.out.2.2.2.2.2.1 (by decide) HLb.out (by decide) (by decide) (by have := HX.out; omega)) ?_
  rintro e w8 ⟨rfl, d8⟩
  have D8 := Lib.hid ((d8.set 4 (.int .i64 (sp : Int))).set 5 (.int .i64 (wd : Int)))
  have f4 := d8.bk.cell 4
  have f5 := d8.bk.cell 5
  have z4 := d8.bk.free 4
  have z5 := d8.bk.free 5
  have l8 := d8.bk.lt
  have g8 := D8.out.fn.cell 0
  clear d8 D7
  go_wp2_with fail
  refine Calls.mono (D8.out.next 8 44 lg HG.out.2.2.2.2.2.2 (by decide) HLb.out (by decide) (by decide) (by decide) (by decide)) ?_
  rintro e w9 ⟨rfl, d9⟩
  have D9 := Lib.hid (d9.set 6 (.int .u64 (U64 lg)))
  have f6 := d9.bk.cell 6
  have z6 := d9.bk.free 6
  have l9 := d9.bk.lt
  obtain ⟨e0, e1, e2, e3, e4, e5, e6⟩ := D9.out.bk.seven
  clear d9 D8 f4 f5 z4 z5 l8 g8
  go_wp2_with fail
  have HEn := Lib.hid (HEnc.out (w9.setCell ⟨w1.heap.size, 6, none⟩ (.int .u64 (U64 lg))))
  unfold blkV at HEn
  refine Calls.mono HEn.out ?_
  rintro e w10 ⟨A9, c9, rfl, hc9, hr9, b10⟩
  have D10 := Lib.hid (D9.out.below b10)
  have HQ := Lib.hid (equal_c A9 A c9 c xs E w10 hr9 (D10.out.rd.more D10.out.bel.size))
  have g10 := D10.out.s.cell 0
  rw [← HN.out] at g10
  obtain ⟨M, hM⟩ : ∃ M, M = xs.length := ⟨_, rfl⟩
  rw [← HN.out, ← hM] at HQ
  rw [← hM]
  clear hM hc9 hr9 b10 HEn HEnc D9 f6 z6 l9 e0 e1 e2 e3 e4 e5 e6
  rcases HWW.out with ⟨rfl, rfl⟩ | ⟨rfl, hbb⟩
  · clear HQ
    obtain ⟨e0, e1, e2, e3, e4, e5, e6⟩ := D10.out.bk.seven
    obtain ⟨r0, r1, r2, r3, r4, r5, r6⟩ := D10.out.res.seven
    have z0 := D10.out.res.free 0
    have z1 := D10.out.res.free 1
    have z2 := D10.out.res.free 2
    have z3 := D10.out.res.free 3
    have z4 := D10.out.res.free 4
    have z5 := D10.out.res.free 5
    have z6 := D10.out.res.free 6
    have ll := D10.out.res.lt
    have HR7 := Lib.hid (((((((D10.out.res.set 0 (.int .u64 0)).set 1 (.int .i64 0)).set 2 (.int .i64 0)).set 3 (.int .i64 0)).set 4 (.int .i64 0)).set 5 (.int .i64 0)).set 6 (.int .u64 0))
    have HB7 := Lib.hid (((((((D10.out.bel.setCell (p := ⟨w.heap.size + 1, 0, none⟩) (by simp) (.int .u64 0)).setCell (p := ⟨w.heap.size + 1, 1, none⟩) (by simp) (.int .i64 0)).setCell (p := ⟨w.heap.size + 1, 2, none⟩) (by simp) (.int .i64 0)).setCell (p := ⟨w.heap.size + 1, 3, none⟩) (by simp) (.int .i64 0)).setCell (p := ⟨w.heap.size + 1, 4, none⟩) (by simp) (.int .i64 0)).setCell (p := ⟨w.heap.size + 1, 5, none⟩) (by simp) (.int .i64 0)).setCell (p := ⟨w.heap.size + 1, 6, none⟩) (by simp) (.int .u64 0))
    clear g10
    go_wp2_with fail
    obtain ⟨t0, t1, t2, t3, t4, t5, t6⟩ := HR7.out.seven
    have hz : U64 0#64 = 0 := by decide +kernel
    refine bodyPost_ret (v := .tuple #[blkV 0#64 0 0 0 0 0 0#64, .int .i64 2]) (by unfold blkV; rw [hz]; simp [results, Try.results14, go_sem, t0, t1, t2, t3, t4, t5, t6]) rfl ?_
    exact ⟨rfl, HB7.out⟩
  · rw [← hbb] at HQ
    clear hbb HWW
    cases bb
    · go_wp2_with fail
      refine Calls.mono HQ.out ?_
      rintro e w11 ⟨rfl, rfl⟩
      clear HQ
      obtain ⟨e0, e1, e2, e3, e4, e5, e6⟩ := D10.out.bk.seven
      obtain ⟨r0, r1, r2, r3, r4, r5, r6⟩ := D10.out.res.seven
      have z0 := D10.out.res.free 0
      have z1 := D10.out.res.free 1
      have z2 := D10.out.res.free 2
      have z3 := D10.out.res.free 3
      have z4 := D10.out.res.free 4
      have z5 := D10.out.res.free 5
      have z6 := D10.out.res.free 6
      have ll := D10.out.res.lt
      have HR7 := Lib.hid (((((((D10.out.res.set 0 (.int .u64 0)).set 1 (.int .i64 0)).set 2 (.int .i64 0)).set 3 (.int .i64 0)).set 4 (.int .i64 0)).set 5 (.int .i64 0)).set 6 (.int .u64 0))
      have HB7 := Lib.hid (((((((D10.out.bel.setCell (p := ⟨w.heap.size + 1, 0, none⟩) (by simp) (.int .u64 0)).setCell (p := ⟨w.heap.size + 1, 1, none⟩) (by simp) (.int .i64 0)).setCell (p := ⟨w.heap.size + 1, 2, none⟩) (by simp) (.int .i64 0)).setCell (p := ⟨w.heap.size + 1, 3, none⟩) (by simp) (.int .i64 0)).setCell (p := ⟨w.heap.size + 1, 4, none⟩) (by simp) (.int .i64 0)).setCell (p := ⟨w.heap.size + 1, 5, none⟩) (by simp) (.int .i64 0)).setCell (p := ⟨w.heap.size + 1, 6, none⟩) (by simp) (.int .u64 0))
      clear g10
      go_wp2_with fail
      obtain ⟨t0, t1, t2, t3, t4, t5, t6⟩ := HR7.out.seven
      have hz : U64 0#64 = 0 := by decide +kernel
      refine bodyPost_ret (v := .tuple #[blkV 0#64 0 0 0 0 0 0#64, .int .i64 2]) (by unfold blkV; rw [hz]; simp [results, Try.results14, go_sem, t0, t1, t2, t3, t4, t5, t6]) rfl ?_
      exact ⟨rfl, HB7.out⟩
    · go_wp2_with fail
      refine Calls.mono HQ.out ?_
      rintro e w11 ⟨rfl, rfl⟩
      obtain ⟨e0, e1, e2, e3, e4, e5, e6⟩ := D10.out.bk.seven
      obtain ⟨r0, r1, r2, r3, r4, r5, r6⟩ := D10.out.res.seven
      have z0 := D10.out.res.free 0
      have z1 := D10.out.res.free 1
      have z2 := D10.out.res.free 2
      have z3 := D10.out.res.free 3
      have z4 := D10.out.res.free 4
      have z5 := D10.out.res.free 5
      have z6 := D10.out.res.free 6
      have ll := D10.out.res.lt
      have HR7 := Lib.hid (((((((D10.out.res.set 0 (.int .u64 (U64 ep))).set 1 (.int .i64 (s : Int))).set 2 (.int .i64 (l : Int))).set 3 (.int .i64 (n : Int))).set 4 (.int .i64 (sp : Int))).set 5 (.int .i64 (wd : Int))).set 6 (.int .u64 (U64 lg)))
      have HB7 := Lib.hid (((((((D10.out.bel.setCell (p := ⟨w.heap.size + 1, 0, none⟩) (by simp) (.int .u64 (U64 ep))).setCell (p := ⟨w.heap.size + 1, 1, none⟩) (by simp) (.int .i64 (s : Int))).setCell (p := ⟨w.heap.size + 1, 2, none⟩) (by simp) (.int .i64 (l : Int))).setCell (p := ⟨w.heap.size + 1, 3, none⟩) (by simp) (.int .i64 (n : Int))).setCell (p := ⟨w.heap.size + 1, 4, none⟩) (by simp) (.int .i64 (sp : Int))).setCell (p := ⟨w.heap.size + 1, 5, none⟩) (by simp) (.int .i64 (wd : Int))).setCell (p := ⟨w.heap.size + 1, 6, none⟩) (by simp) (.int .u64 (U64 lg)))
      clear g10
      go_wp2_with fail
      obtain ⟨t0, t1, t2, t3, t4, t5, t6⟩ := HR7.out.seven
      refine bodyPost_ret (v := .tuple #[blkV ep s l n sp wd lg, .int .i64 0]) (by unfold blkV; simp [results, Try.results14, go_sem, t0, t1, t2, t3, t4, t5, t6]) rfl ?_
      exact ⟨rfl, HB7.out⟩
end Go.Proofs.Ytjdifejnnkplaaa
