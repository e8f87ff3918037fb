/- What the functions of package geom answer of a geometry that may be. Conditions: it may be. -/
import Derived.Test.YtgdgajieekkmdaaGeomA
namespace Go.Proofs.Ytgdgajieekkmdaa
set_option linter.unusedVariables false
set_option linter.unusedSimpArgs false
open Go.RowKit
structure OkG (s l n : Int) : Prop where
  s1 : 64 ≤ s
  s2 : s ≤ 1024
  s8 : s % 8 = 0
  l1 : 8 ≤ l
  l2 : l ≤ 1024
  n1 : 64 ≤ n
  n2 : n ≤ 8192
  tot : totG s l n ≤ 16384
theorem okG_out {s l n : Int} (h : okG s l n = true) : OkG s l n := by
  unfold okG at h
  rw [decide_eq_true_eq] at h
  obtain ⟨⟨⟨a, b, c⟩, d, e, f, g⟩, k⟩ := h
  exact ⟨a, b, c, d, e, f, g, k⟩
theorem okG_in {s l n : Int} (h : OkG s l n) : okG s l n = true := by
  unfold okG
  rw [decide_eq_true_eq]
  exact ⟨⟨⟨h.s1, h.s2, h.s8⟩, h.l1, h.l2, h.n1, h.n2⟩, h.tot⟩
theorem chkG_ok {s l n : Int} (h : OkG s l n) : chkG s l n = 0 := by unfold chkG; rw [okG_in h]; rfl
theorem boxedAA {w w1 : World} {E F : TypeId} {a b : Array Value} (hb : Below ((w.alloc (.cells a E)).alloc (.cells b F)).heap.size ((w.alloc (.cells a E)).alloc (.cells b F)) w1) :
    Bk w1 w.heap.size E a ∧ Bk w1 (w.heap.size + 1) F b ∧ Below w.heap.size w w1 := by
  have h2 := Bk.new (w.alloc (.cells a E)) F b
  simp only [World.size_alloc] at h2
  refine ⟨((Bk.new w E a).alloc _).below hb (by simp; omega), h2.below hb (by simp), ?_⟩
  exact (((Gw.alloc w _).alloc (by simp) _)).trans (hb.mono (by simp; omega))
set_option maxHeartbeats 400000
theorem right_c (s l n : Int) (w : World) (h : OkG s l n) : Calls Try.prog 59 #[gV s l n] w (RetP (.bool true) w) := by
  have hc := check_c s l n (w.alloc (.cells #[.int .i64 s, .int .i64 l, .int .i64 n] 36))
  rw [chkG_ok h] at hc
  have HC := Lib.hid hc
  unfold gV at *
  clear hc h
  go_enter Try.func59, Try.ntmps59
  go_wp2_with fail
  refine Calls.mono HC.out ?_
  rintro e w1 ⟨rfl, hb1⟩
  go_wp2_with fail
  go_ret
  exact ret_b rfl ((Gw.alloc w _).trans (hb1.mono (by simp)))
theorem sectors_c (s l n : Int) (w : World) (h : OkG s l n) : Calls Try.prog 30 #[gV s l n] w (RetP (.int .i64 (totG s l n)) w) := by
  have HR := Lib.hid (fun w => right_c s l n w h)
  have HT := Lib.hid (fun w => total_c s l n w h.s1 h.s2 h.n1 h.n2 (by have := h.l1; omega) (by have := h.l2; omega))
  unfold gV at *
  clear h
  go_enter Try.func30, Try.ntmps30
  go_wp2_with fail
  refine Calls.mono (HR.out _) ?_
  rintro e w1 ⟨rfl, hb1⟩
  obtain ⟨hk, hB1⟩ := boxed hb1
  obtain ⟨k1, k2, k3⟩ := hk.three
  clear hb1
  go_wp2_with fail
  refine Calls.mono (HT.out _) ?_
  rintro e w2 ⟨rfl, hb2⟩
  go_wp2_with fail
  go_ret
  exact ret_i rfl (hB1.trans (hb2.mono hB1.size))
theorem log_c (s l n : Int) (w : World) (h : OkG s l n) : Calls Try.prog 33 #[gV s l n] w (RetP (.agg #[.int .i64 2, .int .i64 l]) w) := by
  have HR := Lib.hid (fun w => right_c s l n w h)
  unfold gV at *
  clear h
  go_enter Try.func33, Try.ntmps33
  go_wp2_with fail
  refine Calls.mono (HR.out _) ?_
  rintro e w1 ⟨rfl, hb1⟩
  obtain ⟨hk, hk2, hB1⟩ := boxedAA hb1
  obtain ⟨k1, k2, k3⟩ := hk.three
  obtain ⟨j1, j2⟩ := hk2.two
  have f1 := hk2.free 0
  have f2 := hk2.free 1
  have hz : w.heap.size + 1 < w1.heap.size := by have := hb1.size; simp at this; omega
  clear hb1
  go_wp2_with fail
  exact bodyPost_ret (v := .agg #[.int .i64 2, .int .i64 l]) (by simp [results, Try.results33, go_sem, j1, j2, hz]) rfl ⟨rfl, (hB1.setCell (p := ⟨w.heap.size + 1, 0, none⟩) (by simp) _).setCell (p := ⟨w.heap.size + 1, 1, none⟩) (by simp) _⟩
theorem slots_c (s l n : Int) (w : World) (h : OkG s l n) : Calls Try.prog 29 #[gV s l n] w (RetP (.agg #[.int .i64 0, .int .i64 1, .int .i64 1, .int .i64 1]) w) := by
  have HR := Lib.hid (fun w => right_c s l n w h)
  unfold gV at *
  clear h
  go_enter Try.func29, Try.ntmps29
  go_wp2_with fail
  refine Calls.mono (HR.out _) ?_
  rintro e w1 ⟨rfl, hb1⟩
  obtain ⟨hk, hk2, hB1⟩ := boxedAA hb1
  obtain ⟨k1, k2, k3⟩ := hk.three
  obtain ⟨j1, j2, j3, j4⟩ := hk2.four
  have f1 := hk2.free 0
  have f2 := hk2.free 1
  have f3 := hk2.free 2
  have f4 := hk2.free 3
  have hz : w.heap.size + 1 < w1.heap.size := by have := hb1.size; simp at this; omega
  clear hb1
  go_wp2_with fail
  exact bodyPost_ret (v := .agg #[.int .i64 0, .int .i64 1, .int .i64 1, .int .i64 1]) (by simp [results, Try.results29, go_sem, j1, j2, j3, j4, hz]) rfl ⟨rfl, (((hB1.setCell (p := ⟨w.heap.size + 1, 0, none⟩) (by simp) _).setCell (p := ⟨w.heap.size + 1, 1, none⟩) (by simp) _).setCell (p := ⟨w.heap.size + 1, 2, none⟩) (by simp) _).setCell (p := ⟨w.heap.size + 1, 3, none⟩) (by simp) _⟩
def spcG (s l n i : Int) : Int × Int := if i = 0 then (2 + l, oneG s n) else if i = 1 then (2 + l + oneG s n, oneG s n) else (0, 0)
def plV (p : Int × Int) : Value := .agg #[.int .i64 p.1, .int .i64 p.2]
theorem space_c (s l n i : Int) (w : World) (h : OkG s l n) : Calls Try.prog 35 #[gV s l n, .int .i64 i] w (RetP (plV (spcG s l n i)) w) := by
  have HR := Lib.hid (fun w => right_c s l n w h)
  have HT := Lib.hid (fun w => inSpace_c s l n w h.s1 h.s2 h.n1 h.n2)
  obtain ⟨q1, q2⟩ := oneG_bd s n h.s1 h.s2 h.n1 h.n2
  have q3 := h.l1
  have q4 := h.l2
  unfold gV at *
  clear h
  rcases (show i = 0 ∨ i = 1 ∨ (i < 0 ∨ 1 < i) by omega) with rfl | rfl | hi
  · have e : spcG s l n 0 = (2 + l, oneG s n) := rfl
    rw [e]
    unfold plV
    go_enter Try.func35, Try.ntmps35
    go_wp2_with fail
    refine Calls.mono (HR.out _) ?_
    rintro e w1 ⟨rfl, hb1⟩
    obtain ⟨hk, hk2, hB1⟩ := boxedAA hb1
    obtain ⟨k1, k2, k3⟩ := hk.three
    clear hb1
    go_wp2_with fail
    refine Calls.mono (HT.out _) ?_
    rintro e w2 ⟨rfl, hb2⟩
    have hk' := hk.below hb2 hk.lt
    obtain ⟨k1, k2, k3⟩ := hk'.three
    have hk2' := hk2.below hb2 hk2.lt
    obtain ⟨j1, j2⟩ := hk2'.two
    have f1 := hk2'.free 0
    have f2 := hk2'.free 1
    have hz : w.heap.size + 1 < w2.heap.size := hk2'.lt
    have hB2 := hB1.trans (hb2.mono hB1.size)
    clear hb2 hB1 hk hk2 hk' hk2'
    go_wp2_with fail
    exact bodyPost_ret (v := .agg #[.int .i64 (2 + l), .int .i64 (oneG s n)]) (by simp [results, Try.results35, go_sem, j1, j2, hz]) rfl ⟨rfl, (hB2.setCell (p := ⟨w.heap.size + 1, 0, none⟩) (by simp) _).setCell (p := ⟨w.heap.size + 1, 1, none⟩) (by simp) _⟩
  · have e : spcG s l n 1 = (2 + l + oneG s n, oneG s n) := rfl
    rw [e]
    unfold plV
    go_enter Try.func35, Try.ntmps35
    go_wp2_with fail
    refine Calls.mono (HR.out _) ?_
    rintro e w1 ⟨rfl, hb1⟩
    obtain ⟨hk, hk2, hB1⟩ := boxedAA hb1
    obtain ⟨k1, k2, k3⟩ := hk.three
    clear hb1
    go_wp2_with fail
    refine Calls.mono (HT.out _) ?_
    rintro e w2 ⟨rfl, hb2⟩
    have hk' := hk.below hb2 hk.lt
    obtain ⟨k1, k2, k3⟩ := hk'.three
    have hk2' := hk2.below hb2 hk2.lt
    obtain ⟨j1, j2⟩ := hk2'.two
    have f1 := hk2'.free 0
    have f2 := hk2'.free 1
    have hz : w.heap.size + 1 < w2.heap.size := hk2'.lt
    have hB2 := hB1.trans (hb2.mono hB1.size)
    clear hb2 hB1 hk hk2 hk' hk2'
    go_wp2_with fail
    exact bodyPost_ret (v := .agg #[.int .i64 (2 + l + oneG s n), .int .i64 (oneG s n)]) (by simp [results, Try.results35, go_sem, j1, j2, hz]) rfl ⟨rfl, (hB2.setCell (p := ⟨w.heap.size + 1, 0, none⟩) (by simp) _).setCell (p := ⟨w.heap.size + 1, 1, none⟩) (by simp) _⟩
  · have e : spcG s l n i = (0, 0) := by unfold spcG; rw [if_neg (by omega), if_neg (by omega)]
    rw [e]
    unfold plV
    go_enter Try.func35, Try.ntmps35
    go_wp2_with fail
    refine Calls.mono (HR.out _) ?_
    rintro e w1 ⟨rfl, hb1⟩
    obtain ⟨hk, hk2, hB1⟩ := boxedAA hb1
    obtain ⟨k1, k2, k3⟩ := hk.three
    obtain ⟨j1, j2⟩ := hk2.two
    have f1 := hk2.free 0
    have f2 := hk2.free 1
    have hz : w.heap.size + 1 < w1.heap.size := hk2.lt
    clear hb1 hk hk2
    go_wp2_with fail
    all_goals first
      | (exfalso; omega)
      | exact bodyPost_ret (v := .agg #[.int .i64 0, .int .i64 0]) (by simp [results, Try.results35, go_sem, j1, j2, hz]) rfl ⟨rfl, (hB1.setCell (p := ⟨w.heap.size + 1, 0, none⟩) (by simp) _).setCell (p := ⟨w.heap.size + 1, 1, none⟩) (by simp) _⟩
end Go.Proofs.Ytgdgajieekkmdaa
