/- What sup.Decode answers of a block's sector. No conditions but on the numbers. -/
import Derived.Test.YtjdifejnnkplaaaSupE
import Derived.Test.YtjdifejnnkplaaaKnown2
import Derived.Test.YtjdifejnnkplaaaCrcB
import Derived.Test.YtjdifejnnkplaaaEqlB
import Derived.Laws.EntriesVeiled
namespace Go.Proofs.Ytjdifejnnkplaaa
set_option linter.unusedVariables false
set_option linter.unusedSimpArgs false
open Go.RowKit
set_option maxRecDepth 100000
set_option maxHeartbeats 800000
def zero7 : Array Value := #[.int .u64 0, .int .i64 0, .int .i64 0, .int .i64 0, .int .i64 0, .int .i64 0, .int .u64 0]
/-- The blocks of a walk through Decode. -/
structure DecS (w W : World) (ps z r pa pf : Nat) (A : Option Addr) (c : Nat) (bs : List (BitVec 8)) (at_ : Int) (cs : Array Value) : Prop where
  s : Bk W ps 29 #[.slice A bs.length c]
  rd : Rd b8 W w.heap.size A bs
  res : Bk W z 26 zero7
  bk : Bk W r 26 cs
  pos : Bk W pa 3 #[.int .i64 at_]
  fn : Bk W pf 59 #[.func (.func 24) #[] #[.pointer (some ⟨ps, 0, none⟩), .pointer (some ⟨pa, 0, none⟩)]]
  bel : Below w.heap.size w W
  o : w.heap.size ≤ ps ∧ ps < z ∧ z < r ∧ r < pa ∧ pa < pf
theorem DecS.only {w W W' : World} {ps z r pa pf : Nat} {A : Option Addr} {c : Nat} {bs : List (BitVec 8)} {at_ x : Int} {cs : Array Value} (h : DecS w W ps z r pa pf A c bs at_ cs) (hp : Bk W' pa 3 #[.int .i64 x]) (ho : Only W W' pa) : DecS w W' ps z r pa pf A c bs x cs := by
  obtain ⟨o1, o2, o3, o4, o5⟩ := h.o
  have hb := ho.below (B := w.heap.size) (by omega) h.pos.lt
  exact ⟨h.s.onl ho (by omega), h.rd.below hb, h.res.onl ho (by omega), h.bk.onl ho (by omega), hp, h.fn.onl ho (by omega), h.bel.trans hb, h.o⟩
theorem DecS.set {w W : World} {ps z r pa pf : Nat} {A : Option Addr} {c : Nat} {bs : List (BitVec 8)} {at_ : Int} {cs : Array Value} (h : DecS w W ps z r pa pf A c bs at_ cs) (i : Nat) (u : Value) : DecS w (W.setCell ⟨r, i, none⟩ u) ps z r pa pf A c bs at_ (cs.setIfInBounds i u) := by
  obtain ⟨o1, o2, o3, o4, o5⟩ := h.o
  exact ⟨h.s.far (p := ⟨r, i, none⟩) (by simp; omega) u, h.rd.setCell (p := ⟨r, i, none⟩) (by simp; omega) u, h.res.far (p := ⟨r, i, none⟩) (by simp; omega) u, h.bk.set i u, h.pos.far (p := ⟨r, i, none⟩) (by simp; omega) u, h.fn.far (p := ⟨r, i, none⟩) (by simp; omega) u, h.bel.setCell (p := ⟨r, i, none⟩) (by simp; omega) u, h.o⟩
theorem DecS.below {w W W' : World} {ps z r pa pf : Nat} {A : Option Addr} {c : Nat} {bs : List (BitVec 8)} {at_ : Int} {cs : Array Value} (h : DecS w W ps z r pa pf A c bs at_ cs) (hb : Below W.heap.size W W') : DecS w W' ps z r pa pf A c bs at_ cs :=
  ⟨h.s.below hb h.s.lt, h.rd.below (hb.mono h.bel.size), h.res.below hb h.res.lt, h.bk.below hb h.bk.lt, h.pos.below hb h.pos.lt, h.fn.below hb h.fn.lt, h.bel.trans (hb.mono h.bel.size), h.o⟩
theorem DecS.next {w W : World} {ps z r pa pf : Nat} {A : Option Addr} {c : Nat} {bs : List (BitVec 8)} {at_ : Int} {cs : Array Value} (h : DecS w W ps z r pa pf A c bs at_ cs) (k y : Int) (v : BitVec 64) (hv : getB bs at_ k = v) (hy : y = at_ + k) (hl : bs.length ≤ 2147483648) (h1 : 0 ≤ at_) (h2 : at_ ≤ 100000) (h3 : 0 ≤ k) (h4 : k ≤ 8) :
    Calls Try.prog 24 #[.int .i64 k, .pointer (some ⟨ps, 0, none⟩), .pointer (some ⟨pa, 0, none⟩)] W fun e W' => e = .returned (.int .u64 (U64 v)) ∧ DecS w W' ps z r pa pf A c bs y cs := by
  subst hv hy
  exact (next_c bs A c ps pa at_ k W h.s h.pos (h.rd.more h.bel.size) hl h1 h2 h3 h4).mono fun _ _ ⟨e1, e2, e3⟩ => ⟨e1, h.only e2 e3⟩
theorem DecS.small {w W : World} {ps z r pa pf : Nat} {A : Option Addr} {c : Nat} {bs : List (BitVec 8)} {at_ : Int} {cs : Array Value} (h : DecS w W ps z r pa pf A c bs at_ cs) (x : Nat) (y : Int) (hx : U64 (getB bs at_ 4) = (x : Int)) (hy : y = at_ + 4) (hl : bs.length ≤ 2147483648) (h1 : 0 ≤ at_) (h2 : at_ ≤ 100000) (hxl : x ≤ 4294967296) :
    Calls Try.prog 26 #[.pointer (some ⟨pf, 0, none⟩)] W fun e W' => e = .returned (.int .i64 (x : Int)) ∧ DecS w W' ps z r pa pf A c bs y cs := by
  subst hy
  exact (small6_c bs A c ps pa pf at_ x W h.s h.pos h.fn (h.rd.more h.bel.size) hl h1 h2 hx hxl).mono fun _ _ ⟨e1, e2, e3⟩ => ⟨e1, h.only e2 e3⟩
theorem get4 (ep : BitVec 64) (s l n sp wd : Nat) (lg : BitVec 64) (k x o : Nat) (h : (numsL ep s l n sp wd lg)[k]? = some (BitVec.ofNat 64 x, 4)) (ho : (headB ep s l n sp wd lg k).length = o) (hx : x < 4294967296) : U64 (getB (encSB ep s l n sp wd lg) (o : Int) 4) = (x : Int) := by
  have h2 := get_num ep s l n sp wd lg k (BitVec.ofNat 64 x) 4 o h ho (by decide) (by decide) (by rw [BitVec.toNat_ofNat]; omega)
  rw [show ((4 : Nat) : Int) = 4 from rfl] at h2
  rw [h2, u64nat x (by omega)]
theorem dec6_ok (ep : BitVec 64) (s l n sp wd : Nat) (lg : BitVec 64) (A : Option Addr) (c : Nat) (w : World) (h : goodS s l n sp wd) (hc : (encSB ep s l n sp wd lg).length ≤ c) (hr : Rd b8 w w.heap.size A (encSB ep s l n sp wd lg)) :
    Calls Try.prog 14 #[.slice A (encSB ep s l n sp wd lg).length c] w (RetP (.tuple #[blkV ep s l n sp wd lg, .int .i64 0]) w) := by
  obtain ⟨hg, hsp, hwd⟩ := h
  have og := okG_out hg
  have b2 := og.s2
  have b3 := og.l2
  have b4 := og.n2
  have hln := secB_len ep s l n sp wd lg (by have := og.s1; omega)
  obtain ⟨E, hE⟩ : ∃ E, E = encSB ep s l n sp wd lg := ⟨_, rfl⟩
  have hEl : E.length = (secB ep s l n sp wd lg).length + 4 := by rw [hE]; unfold encSB sealC; rw [List.length_append]; rfl
  have HEnc := Lib.hid (fun W => enc6_ok ep s l n sp wd lg W ⟨hg, hsp, hwd⟩)
  have HG := Lib.hid (show getB E 8 8 = ep ∧ U64 (getB E 16 4) = (s : Int) ∧ U64 (getB E 20 4) = (l : Int) ∧ U64 (getB E 24 4) = (n : Int) ∧ U64 (getB E 28 4) = (sp : Int) ∧ U64 (getB E 32 4) = (wd : Int) ∧ getB E 36 8 = lg from by
    rw [hE]
    refine ⟨get_num ep s l n sp wd lg 2 ep 8 8 rfl (by simp [headB, numsL, lowN]) (by decide) (by decide) ep.isLt, get4 ep s l n sp wd lg 3 s 16 rfl (by simp [headB, numsL, lowN]) (by omega), get4 ep s l n sp wd lg 4 l 20 rfl (by simp [headB, numsL, lowN]) (by omega), get4 ep s l n sp wd lg 5 n 24 rfl (by simp [headB, numsL, lowN]) (by omega), get4 ep s l n sp wd lg 6 sp 28 rfl (by simp [headB, numsL, lowN]) (by omega), get4 ep s l n sp wd lg 7 wd 32 rfl (by simp [headB, numsL, lowN]) (by omega), get_num ep s l n sp wd lg 8 lg 8 36 rfl (by simp [headB, numsL, lowN]) (by decide) (by decide) lg.isLt⟩)
  rw [← hE] at hc hr ⊢
  have HRt := Lib.hid (fun W (q : Rd b8 W W.heap.size A E) => right_seal (secB ep s l n sp wd lg) A c E.length W (by rw [hE] at q; exact q) hEl hc (by rw [hln]; omega))
  have HL := Lib.hid (show E.length ≤ 2000 from by rw [hEl, hln]; omega)
  obtain ⟨N, hN⟩ : ∃ N, N = E.length := ⟨_, rfl⟩
  rw [← hN] at HRt ⊢
  have HN := Lib.hid hN
  have HE := Lib.hid hE
  have HR := Lib.hid hr
  have HX := Lib.hid (show s ≤ 1024 ∧ l ≤ 1024 ∧ n ≤ 8192 ∧ sp ≤ 1 ∧ wd ≤ 8192 from by omega)
  have HW1 := Lib.hid (show Bk ((w.alloc (.cells #[.slice A N c] 29)).alloc (.cells zero7 26)) w.heap.size 29 #[.slice A N c] ∧ Bk ((w.alloc (.cells #[.slice A N c] 29)).alloc (.cells zero7 26)) (w.heap.size + 1) 26 zero7 ∧ Below w.heap.size w ((w.alloc (.cells #[.slice A N c] 29)).alloc (.cells zero7 26)) from by
    refine ⟨(Bk.new w _ _).alloc _, ?_, (Gw.alloc w _).trans ((Gw.alloc _ _).mono (by simp))⟩
    have q := Bk.new (w.alloc (.cells #[.slice A N c] 29)) 26 zero7
    simpa using q)
  unfold zero7 at HW1
  clear hg hsp hwd og b2 b3 b4 hln hE hEl hc hr hN
  go_enter Try.func14, Try.ntmps14
  go_wp2_with fail
  refine Calls.mono (HRt.out _ ((HR.out.below HW1.out.2.2).more HW1.out.2.2.size)) ?_
  rintro e w1 ⟨rfl, b1⟩
  have HW2 := Lib.hid (And.intro (HW1.out.1.below b1 HW1.out.1.lt) (And.intro (HW1.out.2.1.below b1 HW1.out.2.1.lt) (HW1.out.2.2.trans (b1.mono HW1.out.2.2.size))))
  clear b1 HRt HW1
  have D0 := Lib.hid (show DecS w (((w1.alloc (.cells zero7 26)).alloc (.cells #[.int .i64 0] 3)).alloc (.cells #[.func (.func 24) #[] #[.pointer (some ⟨w.heap.size, 0, none⟩), .pointer (some ⟨w1.heap.size + 1, 0, none⟩)]] 59)) w.heap.size (w.heap.size + 1) w1.heap.size (w1.heap.size + 1) (w1.heap.size + 1 + 1) A c E 0 zero7 from by
    have q0 := HW2.out.2.1.lt
    refine ⟨by rw [← HN.out]; exact ((HW2.out.1.alloc _).alloc _).alloc _, ?_, ((HW2.out.2.1.alloc _).alloc _).alloc _, ((Bk.new w1 _ _).alloc _).alloc _, ?_, ?_, ?_, ⟨Nat.le_refl _, by omega, by omega, by omega, by omega⟩⟩
    · exact (((HR.out.below HW2.out.2.2).alloc HW2.out.2.2.size _).alloc (by simp; omega) _).alloc (by simp; omega) _
    · have q := (Bk.new (w1.alloc (.cells zero7 26)) 3 #[.int .i64 0]).alloc (.cells #[.func (.func 24) #[] #[.pointer (some ⟨w.heap.size, 0, none⟩), .pointer (some ⟨w1.heap.size + 1, 0, none⟩)]] 59)
      simpa using q
    · have q := Bk.new ((w1.alloc (.cells zero7 26)).alloc (.cells #[.int .i64 0] 3)) 59 #[.func (.func 24) #[] #[.pointer (some ⟨w.heap.size, 0, none⟩), .pointer (some ⟨w1.heap.size + 1, 0, none⟩)]]
      simpa using q
    · exact ((HW2.out.2.2.trans ((Gw.alloc w1 _).mono HW2.out.2.2.size)).trans ((Gw.alloc _ _).mono (by simp; omega))).trans ((Gw.alloc _ _).mono (by simp; omega)))
  have HLb := Lib.hid (show E.length ≤ 2147483648 from by have := HL.out; omega)
  clear HW2
  unfold zero7 at D0
  go_wp2_with fail
  refine Calls.mono (D0.out.next 8 8 _ rfl (by decide) HLb.out (by decide) (by decide) (by decide) (by decide)) ?_
  rintro e w2 ⟨rfl, d2⟩
  have D2 := Lib.hid d2
  have f2 := d2.fn.cell 0
  clear d2 D0
  go_wp2_with fail
  refine Calls.mono (D2.out.next 8 16 ep HG.out.1 (by decide) HLb.out (by decide) (by decide) (by decide) (by decide)) ?_
  rintro e w3 ⟨rfl, d3⟩
  have D3 := Lib.hid (d3.set 0 (.int .u64 (U64 ep)))
  have f3 := d3.bk.cell 0
  have z3 := d3.bk.free 0
  have l3 := d3.bk.lt
  clear d3 D2 f2
  go_wp2_with fail
  refine Calls.mono (D3.out.small s 20 HG.out.2.1 (by decide) HLb.out (by decide) (by decide) (by have := HX.out; omega)) ?_
  rintro e w4 ⟨rfl, d4⟩
  have D4 := Lib.hid d4
  clear d4 D3 f3 z3 l3
  go_wp2_with fail
  refine Calls.mono (D4.out.small l 24 HG.out.2.2.1 (by decide) HLb.out (by decide) (by decide) (by have := HX.out; omega)) ?_
  rintro e w5 ⟨rfl, d5⟩
  have D5 := Lib.hid d5
  clear d5 D4
  go_wp2_with fail
  refine Calls.mono (D5.out.small n 28 HG.out.2.2.2.1 (by decide) HLb.out (by decide) (by decide) (by have := HX.out; omega)) ?_
  rintro e w6 ⟨rfl, d6⟩
  have D6 := Lib.hid (((d6.set 1 (.int .i64 (s : Int))).set 2 (.int .i64 (l : Int))).set 3 (.int .i64 (n : Int)))
  have f1 := d6.bk.cell 1
  have f2 := d6.bk.cell 2
  have f3 := d6.bk.cell 3
  have z1 := d6.bk.free 1
  have z2 := d6.bk.free 2
  have z3 := d6.bk.free 3
  have l6 := d6.bk.lt
  clear d6 D5
  go_wp2_with fail
  refine Calls.mono (D6.out.small sp 32 HG.out.2.2.2.2.1 (by decide) HLb.out (by decide) (by decide) (by have := HX.out; omega)) ?_
  rintro e w7 ⟨rfl, d7⟩
  have D7 := Lib.hid d7
  clear d7 D6 f1 f2 f3 z1 z2 z3 l6
  go_wp2_with fail
  refine Calls.mono (D7.out.small wd 36 HG.out.2.2.2.2.2.1 (by decide) HLb.out (by decide) (by decide) (by have := HX.out; omega)) ?_
  rintro e w8 ⟨rfl, d8⟩
  have D8 := Lib.hid ((d8.set 4 (.int .i64 (sp : Int))).set 5 (.int .i64 (wd : Int)))
  have f4 := d8.bk.cell 4
  have f5 := d8.bk.cell 5
  have z4 := d8.bk.free 4
  have z5 := d8.bk.free 5
  have l8 := d8.bk.lt
  have g8 := D8.out.fn.cell 0
  clear d8 D7
  go_wp2_with fail
  refine Calls.mono (D8.out.next 8 44 lg HG.out.2.2.2.2.2.2 (by decide) HLb.out (by decide) (by decide) (by decide) (by decide)) ?_
  rintro e w9 ⟨rfl, d9⟩
  have D9 := Lib.hid (d9.set 6 (.int .u64 (U64 lg)))
  have f6 := d9.bk.cell 6
  have z6 := d9.bk.free 6
  have l9 := d9.bk.lt
  obtain ⟨e0, e1, e2, e3, e4, e5, e6⟩ := D9.out.bk.seven
  clear d9 D8 f4 f5 z4 z5 l8 g8
  go_wp2_with fail
  have HEn := Lib.hid (HEnc.out (w9.setCell ⟨w1.heap.size, 6, none⟩ (.int .u64 (U64 lg))))
  rw [← HE.out] at HEn
  unfold blkV at HEn
  refine Calls.mono HEn.out ?_
  rintro e w10 ⟨A9, c9, rfl, hc9, hr9, b10, ha9⟩
  have D10 := Lib.hid (D9.out.below b10)
  have HQ := Lib.hid (equal_c A9 A c9 c E E w10 hr9 (D10.out.rd.more D10.out.bel.size))
  have hdd : decide (E = E) = true := by simp
  rw [hdd, ← HN.out] at HQ
  rw [← HN.out]
  have g10 := D10.out.s.cell 0
  rw [← HN.out] at g10
  clear hdd hc9 hr9 b10 ha9 HEn HEnc D9 f6 z6 l9 e0 e1 e2 e3 e4 e5 e6
  go_wp2_with fail
  refine Calls.mono HQ.out ?_
  rintro e w11 ⟨rfl, rfl⟩
  obtain ⟨e0, e1, e2, e3, e4, e5, e6⟩ := D10.out.bk.seven
  obtain ⟨r0, r1, r2, r3, r4, r5, r6⟩ := D10.out.res.seven
  have z0 := D10.out.res.free 0
  have z1 := D10.out.res.free 1
  have z2 := D10.out.res.free 2
  have z3 := D10.out.res.free 3
  have z4 := D10.out.res.free 4
  have z5 := D10.out.res.free 5
  have z6 := D10.out.res.free 6
  have ll := D10.out.res.lt
  have HR7 := Lib.hid (((((((D10.out.res.set 0 (.int .u64 (U64 ep))).set 1 (.int .i64 (s : Int))).set 2 (.int .i64 (l : Int))).set 3 (.int .i64 (n : Int))).set 4 (.int .i64 (sp : Int))).set 5 (.int .i64 (wd : Int))).set 6 (.int .u64 (U64 lg)))
  have HB7 := Lib.hid (((((((D10.out.bel.setCell (p := ⟨w.heap.size + 1, 0, none⟩) (by simp) (.int .u64 (U64 ep))).setCell (p := ⟨w.heap.size + 1, 1, none⟩) (by simp) (.int .i64 (s : Int))).setCell (p := ⟨w.heap.size + 1, 2, none⟩) (by simp) (.int .i64 (l : Int))).setCell (p := ⟨w.heap.size + 1, 3, none⟩) (by simp) (.int .i64 (n : Int))).setCell (p := ⟨w.heap.size + 1, 4, none⟩) (by simp) (.int .i64 (sp : Int))).setCell (p := ⟨w.heap.size + 1, 5, none⟩) (by simp) (.int .i64 (wd : Int))).setCell (p := ⟨w.heap.size + 1, 6, none⟩) (by simp) (.int .u64 (U64 lg)))
  clear HQ g10
  go_wp2_with fail
  obtain ⟨t0, t1, t2, t3, t4, t5, t6⟩ := HR7.out.seven
  refine bodyPost_ret (v := .tuple #[blkV ep s l n sp wd lg, .int .i64 0]) (by unfold blkV; simp [results, Try.results14, go_sem, t0, t1, t2, t3, t4, t5, t6]) rfl ?_
  exact ⟨rfl, HB7.out⟩
end Go.Proofs.Ytjdifejnnkplaaa
