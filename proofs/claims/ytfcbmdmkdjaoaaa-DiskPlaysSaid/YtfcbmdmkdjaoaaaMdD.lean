/- The write of the document's disk (loamlaw3.model): where it is off, where it refuses, where the power goes. Conditions: the sectors are there. -/
import Derived.Test.YtfcbmdmkdjaoaaaMdC
namespace Go.Proofs.Ytfcbmdmkdjaoaaa
set_option linter.unusedVariables false
set_option linter.unusedSimpArgs false
open Go.RowKit Go.Maps
set_option maxRecDepth 100000
set_option maxHeartbeats 8000000
theorem mwrite_off {w : World} {g : Nat} {x : ModX} {m : Mod} (h : MdAt w g x m) (ho : m.off = true) (s : Int) (b : ByteArray) : Calls Try.prog 11 #[.pointer (some ⟨g, 0, none⟩), .int .i64 s, .string b] w fun e w' => e = .returned (.int .i64 7) ∧ w' = w := by
  obtain ⟨c0, c1, c2, c3, c4, c5, c6, c7⟩ := h.blk.eight
  rw [ho] at c3
  clear h ho
  go_enter Try.func11, Try.ntmps11
  go_wp2_with fail
  go_ret
  exact ⟨rfl, rfl⟩
theorem mwrite_bad {w : World} {g : Nat} {x : ModX} {m : Mod} (h : MdAt w g x m) (ho : m.off = false) (s : Int) (b : List (BitVec 8)) (hb : s < 0 ∨ (m.kept.length : Int) ≤ s ∨ b.length ≠ m.size) : Calls Try.prog 11 #[.pointer (some ⟨g, 0, none⟩), .int .i64 s, .string (strB b)] w fun e w' => e = .returned (.int .i64 1) ∧ w' = w := by
  obtain ⟨c0, c1, c2, c3, c4, c5, c6, c7⟩ := h.blk.eight
  rw [ho] at c3
  have hsz : (strB b).size = b.length := by simp [strB, strL, ByteArray.size]
  obtain ⟨B, hB⟩ : ∃ q, q = strB b := ⟨_, rfl⟩
  rw [← hB] at hsz ⊢
  obtain ⟨nb, hnb⟩ : ∃ q, q = b.length := ⟨_, rfl⟩
  rw [← hnb] at hsz hb
  obtain ⟨n, hn⟩ : ∃ n, n = m.kept.length := ⟨_, rfl⟩
  rw [← hn] at c1 hb
  obtain ⟨S, hS⟩ : ∃ q, q = m.size := ⟨_, rfl⟩
  rw [← hS] at c0 hb
  clear h ho hn hB hnb hS
  have hc : s < 0 ∨ (0 ≤ s ∧ (n : Int) ≤ s) ∨ (0 ≤ s ∧ s < (n : Int) ∧ nb ≠ S) := by omega
  clear hb
  rcases hc with h1 | ⟨h1, h2⟩ | ⟨h1, h2, h3⟩
  · go_enter Try.func11, Try.ntmps11
    go_wp2_with fail
    go_ret
    exact ⟨rfl, rfl⟩
  · go_enter Try.func11, Try.ntmps11
    go_wp2_with fail
    go_ret
    exact ⟨rfl, rfl⟩
  · have q : ((nb : Int) != (S : Int)) = true := by simp; omega
    clear h3
    go_enter Try.func11, Try.ntmps11
    go_wp2_with fail
    go_ret
    exact ⟨rfl, rfl⟩
theorem mwrite_cut {w : World} {g : Nat} {x : ModX} {m : Mod} (h : MdAt w g x m) (ho : m.off = false) (ha : m.armed = true) (hl : m.left = 1) (hn : m.kept.length ≤ 16384) (hw : m.wait.length ≤ 1000000) (hsec : ∀ k (hk : k < m.wait.length), m.wait[k].1 < m.kept.length) (hkn : m.keep.length ≤ 100000) (s : Nat) (b : List (BitVec 8)) (hs : s < m.kept.length) (hb : b.length = m.size) :
    Calls Try.prog 11 #[.pointer (some ⟨g, 0, none⟩), .int .i64 s, .string (strB b)] w fun e w' => e = .returned (.int .i64 7) ∧ (∃ q c, w.heap.size ≤ q ∧ MdAt w' g { x with kA := some ⟨q, 0, none⟩, kc := c, wA := none, wc := 0 } (({ m with left := 0 } : Mod).cut m.keep)) ∧ Kept (fun k => k = g) w w' := by
  have f5 := h.blk.free 5
  have HC := Lib.hid (show ∀ W, W = w.setCell ⟨g, 5, none⟩ (.int .i64 0) → Calls Try.prog 15 #[.pointer (some ⟨g, 0, none⟩), .slice x.eA m.keep.length x.ec] W fun e w' => e = .returned (.tuple #[]) ∧ (∃ q c, w.heap.size ≤ q ∧ MdAt w' g { x with kA := some ⟨q, 0, none⟩, kc := c, wA := none, wc := 0 } (({ m with left := 0 } : Mod).cut m.keep)) ∧ Kept (fun k => k = g) W w' from by
    intro W hW
    have hk : Kept (fun k => k = g) w W := by rw [hW]; exact Kept.set _ g 5 _
    have h' : MdAt W g x { m with left := 0 } := ⟨by rw [hW]; exact h.blk.set 5 _, hk.rd h.kept (fun a e => h.apart.1 a e), fun k hk2 => (by
      obtain ⟨ad, e, e1, e2, e3⟩ := h.wait k hk2
      have hne : ¬ ad.block = g := h.apart.2.1 ad e
      refine ⟨ad, e, Nat.lt_of_lt_of_le e1 hk.size, (hk.cell (by rw [add_block]; exact e1) (by rw [add_block]; exact hne)).trans e2, (hk.cell (p := ⟨(ad.add (k * 2)).block, (ad.add (k * 2)).off + 1, none⟩) (by show (ad.add (k * 2)).block < _; rw [add_block]; exact e1) (by show ¬ (ad.add (k * 2)).block = g; rw [add_block]; exact hne)).trans e3⟩), hk.rde h.keep (fun a e e1 => h.apart.2.2 a e e1), h.apart⟩
    refine (mcut_c h' (by show 0 < m.kept.length; omega) hn hw hsec x.eA m.keep x.ec (hk.rde h.keep (fun a e e1 => h.apart.2.2 a e e1)) hkn).mono ?_
    rintro e w' ⟨h1, ⟨q, c, h2, h3⟩, h4⟩
    exact ⟨h1, ⟨q, c, Nat.le_trans hk.size h2, h3⟩, h4⟩)
  obtain ⟨c0, c1, c2, c3, c4, c5, c6, c7⟩ := h.blk.eight
  rw [ho] at c3
  rw [ha] at c4
  rw [hl] at c5
  have hsz : (strB b).size = m.size := by rw [← hb]; simp [strB, strL, ByteArray.size]
  obtain ⟨B, hB⟩ : ∃ q, q = strB b := ⟨_, rfl⟩
  rw [← hB] at hsz ⊢
  obtain ⟨n, hnn⟩ : ∃ n, n = m.kept.length := ⟨_, rfl⟩
  rw [← hnn] at c1 hs
  obtain ⟨S, hS⟩ : ∃ q, q = m.size := ⟨_, rfl⟩
  rw [← hS] at c0 hsz
  have p0 : (0 : Int) ≤ (s : Int) := by omega
  have p1 : (s : Int) < (n : Int) := by omega
  clear h ho ha hl hn hw hsec hkn hb hB hnn hS hs
  go_enter Try.func11, Try.ntmps11
  go_wp2_with fail
  refine Calls.mono (HC.out _ rfl) ?_
  rintro e w2 ⟨rfl, h2, k2⟩
  have HR := Lib.hid (And.intro h2 ((Kept.set w g 5 (.int .i64 0)).trans k2))
  clear h2 k2 HC c0 c1 c2 c3 c4 c5 c6 c7 f5
  go_wp2_with fail
  go_ret
  exact ⟨rfl, HR.out⟩
end Go.Proofs.Ytfcbmdmkdjaoaaa
