/- What loamlaw3.known answers: true. No conditions. -/
import Derived.Test.YtfcbmdmkdjaoaaaDkN
namespace Go.Proofs.Ytfcbmdmkdjaoaaa
set_option linter.unusedVariables false
set_option linter.unusedSimpArgs false
open Go.RowKit Go.Maps
def k3x : List (BitVec 8) := (List.replicate 64 0#8).set 0 7#8
def k3d0 : DK := dk0 4 64 (List.replicate 256 0#8)
def k3d1 : DK := ({ k3d0 with armed := k3d0.armed - 1 } : DK).push 1 k3x
def k3d2 : DK := ({ k3d1 with armed := k3d1.armed - 1 } : DK).push 2 k3x
def k3d3 : DK := k3d2.cut [true]
def k3d4 : DK := k3d3.on
theorem k3x_len : k3x.length = 64 := by decide
theorem k3_a : curL k3d4 1 = k3x := by decide +kernel
theorem k3_b : curL k3d4 2 = List.replicate 64 0#8 := by decide +kernel
set_option maxHeartbeats 400000
set_option maxRecDepth 100000
theorem k3_new (w : World) : Calls Try.prog 8 #[.int .i64 4, .int .i64 64] w fun e w' => ∃ g, e = .returned (.tuple #[.pointer (some ⟨g, 0, none⟩), .int .i64 0]) ∧ DiskX w.heap.size (fun _ => False) w' g k3d0 ∧ Below w.heap.size w w' := dnew_ok w 4 64 (by decide) (by decide)
section
variable {B q : Nat} {w : World} {g : Nat}
theorem k3_w1 (h : DiskX B (fun k => k = q) w g k3d0) (hq : q < w.heap.size) (hB : B ≤ w.heap.size) (hr : Rd b8 w w.heap.size (some ⟨q, 0, none⟩) k3x) : Calls Try.prog 10 #[.pointer (some ⟨g, 0, none⟩), .int .i64 1, .slice (some ⟨q, 0, none⟩) 64 64] w (DkP B (fun k => k = q) w g k3d1 (.int .i64 0)) :=
  xwrite_ok h (fun k e => by omega) hB 1 (some ⟨q, 0, none⟩) k3x 64 rfl (by decide) (by decide) (by decide) hr (fun a e => by injection e with e; subst e; exact .inr rfl) (by decide) (by decide)
theorem k3_w2 (h : DiskX B (fun k => k = q) w g k3d1) (hq : q < w.heap.size) (hB : B ≤ w.heap.size) (hr : Rd b8 w w.heap.size (some ⟨q, 0, none⟩) k3x) : Calls Try.prog 10 #[.pointer (some ⟨g, 0, none⟩), .int .i64 2, .slice (some ⟨q, 0, none⟩) 64 64] w (DkP B (fun k => k = q) w g k3d2 (.int .i64 0)) :=
  xwrite_ok h (fun k e => by omega) hB 2 (some ⟨q, 0, none⟩) k3x 64 rfl (by decide) (by decide) (by decide) hr (fun a e => by injection e with e; subst e; exact .inr rfl) (by decide) (by decide)
theorem k3_cut (h : DiskX B (fun k => k = q) w g k3d2) (hq : q < w.heap.size) (hB : B ≤ w.heap.size) (hr : Rd boV w w.heap.size (some ⟨q, 0, none⟩) [true]) : Calls Try.prog 17 #[.pointer (some ⟨g, 0, none⟩), .slice (some ⟨q, 0, none⟩) 1 1] w (DkP B (fun k => k = q) w g k3d3 (.tuple #[])) :=
  xcut_c h (fun k e => by omega) hB (some ⟨q, 0, none⟩) [true] 1 hr (fun a e => by injection e with e; subst e; exact .inr rfl) (by decide)
theorem k3_ra (h : DiskX B (fun _ => False) w g k3d4) : Calls Try.prog 12 #[.pointer (some ⟨g, 0, none⟩), .int .i64 1] w (NewQ k3x w) := by
  have := xread_ok h 1 rfl (by decide)
  rw [k3_a] at this; exact this
theorem k3_rb (h : DiskX B (fun _ => False) w g k3d4) : Calls Try.prog 12 #[.pointer (some ⟨g, 0, none⟩), .int .i64 2] w (NewQ (List.replicate 64 0#8) w) := by
  have := xread_ok h 2 rfl (by decide)
  rw [k3_b] at this; exact this
end
theorem at0 {w : World} {base c : Nat} {A : Option Addr} {xs : List (BitVec 8)} (h : Ow b8 5 w base (.slice A 64 c) xs) (hl : xs.length = 64) (y : BitVec 8) (hy : xs[0]? = some y) : ∃ q, A = some ⟨q, 0, none⟩ ∧ w.cell? ⟨q, 0, none⟩ = some (b8 y) ∧ q < w.heap.size := by
  rcases h.2 with ⟨e, hn⟩ | ⟨q, cap, cur, e, _, hh, _⟩
  · omega
  · injection e with e1 e2 e3
    subst e1 e3
    have hj : 0 < xs.length := by omega
    refine ⟨q, rfl, ?_, (Array.getElem?_eq_some_iff.1 hh).1⟩
    have := h.cell (j := 0) hj
    rw [List.getElem?_eq_getElem hj] at hy
    injection hy with hy
    rw [hy] at this; exact this
theorem known3_c (w : World) : Calls Try.prog 7 #[] w (RetP (.bool true) w) := by
  go_enter Try.func7, Try.ntmps7
  go_wp2_with fail
  refine Calls.mono (k3_new w) ?_
  rintro e w1 ⟨g, rfl, h1, b1⟩
  have H1 := Lib.hid h1
  have HB1 := Lib.hid b1
  clear h1 b1
  go_wp2_with (at_make; refine wp_make (f := b8) one8 rfl _ _ rfl (0#8) rfl w1.heap.size 64 .i64 .i64 64 64 rfl rfl rfl rfl (by decide) (by decide) (Nat.le_refl _) ?_; intro q w2 hq ho hb hg; have HQ := Lib.hid hq; have HO := Lib.hid ho; have HB2 := Lib.hid hb; clear hq ho hb hg; have f0 := HO.out.free 0; have hc0 : w2.cell? ⟨q, 0, none⟩ = some (.int .u8 0) := HO.out.cell (j := 0) (by decide))
  have H2 := Lib.hid (show DiskX w.heap.size (fun k => k = q) (w2.setCell ⟨q, 0, none⟩ (.int .u8 7)) g k3d0 from ((H1.out.besides (X' := fun k => k = q) (fun k e => .inr (by have := HQ.out; omega))).below HB2.out).kept (Kept.set w2 q 0 _))
  have HX2 := Lib.hid (show Ow b8 5 (w2.setCell ⟨q, 0, none⟩ (.int .u8 7)) w1.heap.size (.slice (some ⟨q, 0, none⟩) 64 64) k3x from HO.out.set (j := 0) (by decide) 7#8)
  have HB3 := Lib.hid (show Below w.heap.size w (w2.setCell ⟨q, 0, none⟩ (.int .u8 7)) from (HB1.out.trans (HB2.out.mono HB1.out.size)).setCell (p := ⟨q, 0, none⟩) (by have := HQ.out; have := HB1.out.size; show w.heap.size ≤ q; omega) _)
  have HQ2 := Lib.hid (show q < (w2.setCell ⟨q, 0, none⟩ (.int .u8 7)).heap.size from (HX2.out.lt q rfl).2)
  clear f0 hc0
  go_wp2_with fail
  refine Calls.mono (k3_w1 H2.out HQ2.out HB3.out.size HX2.out.rd2) ?_
  rintro e w4 ⟨rfl, h4, k4⟩
  have H4 := Lib.hid h4
  have HX4 := Lib.hid (k4.ow HX2.out (fun k e f => f.2 (by injection e with e; exact e.symm)))
  have HB4 := Lib.hid (HB3.out.trans (k4.below HB3.out.size (fun _ e => e.1)))
  have HQ4 := Lib.hid (show q < w4.heap.size from (HX4.out.lt q rfl).2)
  clear h4 k4
  go_wp2_with fail
  refine Calls.mono (k3_w2 H4.out HQ4.out HB4.out.size HX4.out.rd2) ?_
  rintro e w5 ⟨rfl, h5, k5⟩
  have H5 := Lib.hid h5
  have HB5 := Lib.hid (HB4.out.trans (k5.below HB4.out.size (fun _ e => e.1)))
  clear h5 k5
  go_wp2_with fail
  refine Calls.mono (xpending_c H5.out) ?_
  rintro e w6 ⟨rfl, rfl⟩
  have hbA := Gw.alloc w6 (.cells #[.bool true] 4)
  have H6 := Lib.hid ((H5.out.besides (X' := fun k => k = w6.heap.size) (fun k e => .inr (by omega))).below hbA)
  have HB6 := Lib.hid (HB5.out.trans (hbA.mono HB5.out.size))
  have HC := Lib.hid (k3_cut H6.out (by simp) HB6.out.size ((Bk.new w6 4 #[.bool true]).rd (f := boV) rfl (by simp)))
  rw [show k3d2.pend.length = 2 from rfl]
  clear hbA
  go_wp2_with fail
  refine Calls.mono HC.out ?_
  rintro e w7 ⟨rfl, h7, k7⟩
  have H7 := Lib.hid (h7.besides (X' := fun _ => False) (fun k e => e.elim))
  have HB7 := Lib.hid (HB6.out.trans (k7.below HB6.out.size (fun _ e => e.1)))
  clear h7 k7 HC
  go_wp2_with fail
  refine Calls.mono (xoff_c H7.out) ?_
  rintro e w8 ⟨rfl, rfl⟩
  rw [show k3d3.off = true from rfl]
  go_wp2_with fail
  refine Calls.mono (xread_off H7.out 1 rfl) ?_
  rintro e w9 ⟨rfl, rfl⟩
  go_wp2_with fail
  refine Calls.mono (xon_c H7.out (fun k e => e.elim) HB7.out.size) ?_
  rintro e w10 ⟨rfl, h10, k10⟩
  have H10 := Lib.hid (show DiskX w.heap.size (fun _ => False) w10 g k3d4 from h10)
  have HB10 := Lib.hid (HB7.out.trans (k10.below HB7.out.size (fun _ e => e.1)))
  clear h10 k10
  go_wp2_with fail
  refine Calls.mono (k3_ra H10.out) ?_
  rintro e w11 ⟨A, c, rfl, hc, ho, hb⟩
  rw [k3x_len] at ho ⊢
  obtain ⟨qa, rfl, hca, hqa⟩ := at0 ho k3x_len 7#8 rfl
  have HA := Lib.hid (And.intro hca (And.intro hqa hc))
  rw [k3x_len] at hc
  have H11 := Lib.hid (H10.out.below hb)
  have HB11 := Lib.hid (HB10.out.trans (hb.mono HB10.out.size))
  clear hc ho hb hca hqa
  go_wp2_with fail
  refine Calls.mono (k3_rb H11.out) ?_
  rintro e w12 ⟨A2, c2, rfl, hc2, ho2, hb2⟩
  rw [List.length_replicate] at ho2 hc2 ⊢
  obtain ⟨qb, rfl, hcb, hqb⟩ := at0 ho2 (by rw [List.length_replicate]) 0#8 rfl
  have hca2 := (hb2.cell (p := ⟨qa, 0, none⟩) HA.out.2.1).trans HA.out.1
  have H12 := Lib.hid (H11.out.below hb2)
  have HB12 := Lib.hid (HB11.out.trans (hb2.mono HB11.out.size))
  have e7 : b8 7#8 = .int .u8 7 := rfl
  have e0 : b8 0#8 = .int .u8 0 := rfl
  rw [e7] at hca2
  rw [e0] at hcb
  clear ho2 hb2 e7 e0 hc2
  go_wp2_with fail
  refine Calls.mono (xwrites_c H12.out) ?_
  rintro e w13 ⟨rfl, rfl⟩
  rw [show k3d4.writes = 2 from rfl]
  go_wp2_with fail
  go_ret
  exact ⟨rfl, HB12.out⟩
end Go.Proofs.Ytfcbmdmkdjaoaaa
