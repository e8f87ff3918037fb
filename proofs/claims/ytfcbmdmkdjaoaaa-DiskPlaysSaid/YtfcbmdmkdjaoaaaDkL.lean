/- disk.Disk's Write. Conditions: lengths. -/
import Derived.Test.YtfcbmdmkdjaoaaaDkK
import Derived.Test.YtfcbmdmkdjaoaaaAppS
namespace Go.Proofs.Ytfcbmdmkdjaoaaa
set_option linter.unusedVariables false
set_option linter.unusedSimpArgs false
open Go.RowKit Go.Maps
set_option maxHeartbeats 400000
set_option maxRecDepth 100000
section
variable {w w' : World} {g : Nat} {x : DX} {d : DK}
theorem dwrite_off (h : DiskAt w g x d) (s : Int) (A : Option Addr) (n c : Nat) (ho : d.off = true) : Calls Try.prog 10 #[.pointer (some ⟨g, 0, none⟩), .int .i64 s, .slice A n c] w fun e w' => e = .returned (.int .i64 7) ∧ w' = w := by
  have c4 := h.blk.eight.2.2.2.2.1
  rw [ho] at c4
  clear h ho
  go_enter Try.func10, Try.ntmps10
  go_wp2
  go_ret
  exact ⟨rfl, rfl⟩
theorem dwrite_bad (h : DiskAt w g x d) (s : Int) (A : Option Addr) (n c : Nat) (hn : n ≤ maxLen) (ho : d.off = false) (hs : ((decide (0 ≤ s) && decide (s < (d.secs : Int))) && decide (n = d.size)) = false) : Calls Try.prog 10 #[.pointer (some ⟨g, 0, none⟩), .int .i64 s, .slice A n c] w fun e w' => e = .returned (.int .i64 1) ∧ Below w.heap.size w w' := by
  have c4 := h.blk.eight.2.2.2.2.1
  rw [ho] at c4
  have HH := Lib.hid (dhas_c h s)
  obtain ⟨r, hr⟩ : ∃ r, (decide (0 ≤ s) && decide (s < (d.secs : Int))) = r := ⟨_, rfl⟩
  rw [hr] at HH hs
  have HB0 := Lib.hid (fun W (hb : Below w.heap.size w W) => (h.below hb).blk.eight.1)
  obtain ⟨S, hS⟩ : ∃ S, S = d.size := ⟨_, rfl⟩
  rw [← hS] at HB0 hs
  cases r with
  | false =>
    clear h ho hr hs
    go_enter Try.func10, Try.ntmps10
    go_wp2_with fail
    refine Calls.mono HH.out ?_
    rintro e w1 ⟨rfl, b1⟩
    have HB := Lib.hid b1
    clear b1
    go_wp2_with fail
    go_ret
    exact ⟨rfl, HB.out⟩
  | true =>
    have hne : ¬ n = S := by simpa using hs
    have t1 : ((n : Int) != (S : Int)) = true := by simp; omega
    have t2 : ((n : Int) == (S : Int)) = false := by simp; omega
    clear h ho hr hs
    go_enter Try.func10, Try.ntmps10
    go_wp2_with fail
    refine Calls.mono HH.out ?_
    rintro e w1 ⟨rfl, b1⟩
    have HB := Lib.hid b1
    have c0 := HB0.out w1 b1
    clear b1
    go_wp2_with fail
    go_ret
    exact ⟨rfl, HB.out⟩
theorem dwrite_cut (h : DiskAt w g x d) (s : Nat) (A : Option Addr) (n c : Nat) (ho : d.off = false) (hs : s < d.secs) (hn : n = d.size) (ha : d.armed = 1) : Calls Try.prog 10 #[.pointer (some ⟨g, 0, none⟩), .int .i64 s, .slice A n c] w fun e w' => e = .returned (.int .i64 7) ∧ DiskAt w' g x.cut (d.cut d.keep) ∧ Kept (Md g x) w w' := by
  subst hn
  have HH := Lib.hid (dhas_c h s)
  rw [show (decide ((0 : Int) ≤ (s : Int)) && decide ((s : Int) < (d.secs : Int))) = true from by simp; omega] at HH
  have c4 := h.blk.eight.2.2.2.2.1
  rw [ho] at c4
  have HB0 := Lib.hid (fun W (hb : Below w.heap.size w W) => (h.below hb).blk.eight)
  rw [ha] at HB0
  have HC := Lib.hid (fun W (hb : Below w.heap.size w W) => dcut_c (h.below hb) x.eA d.keep x.ec (h.below hb).keep (fun a e f => by
    have := h.n5 _ (h.keepD a e)
    rcases f with f | f | f | ⟨b, f1, f2⟩
    · exact this.1 f
    · exact this.2.1 f
    · exact this.2.2.1 f
    · exact this.2.2.2 b f1 f2) h.lim.2.2.2.1)
  obtain ⟨S, hS⟩ : ∃ S, S = d.size := ⟨_, rfl⟩
  rw [← hS] at HB0 ⊢
  obtain ⟨m, hm⟩ : ∃ m, m = d.keep.length := ⟨_, rfl⟩
  rw [← hm] at HB0 HC
  clear h ho hs ha hS hm
  go_enter Try.func10, Try.ntmps10
  go_wp2_with fail
  refine Calls.mono HH.out ?_
  rintro e w1 ⟨rfl, b1⟩
  have HB := Lib.hid b1
  obtain ⟨c0, _, _, _, _, c5, c6, _⟩ := HB0.out w1 b1
  clear b1
  go_wp2_with fail
  refine Calls.mono (HC.out w1 HB.out) ?_
  rintro e w2 ⟨rfl, h2, k2⟩
  have H2 := Lib.hid (And.intro h2 k2)
  clear h2 k2 c0 c5 c6
  go_wp2_with fail
  go_ret
  exact ⟨rfl, H2.out.1, (Kept.of_below HB.out _).trans H2.out.2⟩
end
end Go.Proofs.Ytfcbmdmkdjaoaaa
