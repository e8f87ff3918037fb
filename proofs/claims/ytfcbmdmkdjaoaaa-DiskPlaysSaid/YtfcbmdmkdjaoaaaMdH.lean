/- The write of the document's disk (loamlaw3.model) that waits, armed: the walk. Conditions: lengths. -/
import Derived.Test.YtfcbmdmkdjaoaaaMdG
namespace Go.Proofs.Ytfcbmdmkdjaoaaa
set_option linter.unusedVariables false
set_option linter.unusedSimpArgs false
open Go.RowKit Go.Maps
set_option maxRecDepth 100000
set_option maxHeartbeats 8000000
theorem mwrite_left {w : World} {g : Nat} {x : ModX} {m : Mod} (h : MdAt w g x m) (ho : m.off = false) (ha : m.armed = true) (lf : Nat) (hlf : m.left = lf) (hl2 : 2 ≤ lf) (hl3 : lf ≤ 9223372036854775807) (hn : m.kept.length ≤ 16384) (hw : m.wait.length ≤ 1000000) (hwr : m.writes ≤ 1000000) (s : Nat) (b : List (BitVec 8)) (hs : s < m.kept.length) (hb : b.length = m.size) :
    Calls Try.prog 11 #[.pointer (some ⟨g, 0, none⟩), .int .i64 s, .string (strB b)] w fun e w' => e = .returned (.int .i64 0) ∧ (∃ A5 c5, (∀ a, A5 = some a → w.heap.size ≤ a.block) ∧ MdAt w' g { x with wA := A5, wc := c5 } (({ m with left := (lf : Int) - 1 } : Mod).push s b)) ∧ Kept (fun k => k = g) w w' := by
  have hk0 : Kept (fun k => k = g) w (w.setCell ⟨g, 5, none⟩ (.int .i64 ((lf : Int) - 1))) := Kept.set _ g 5 _
  have h0 : MdAt (w.setCell ⟨g, 5, none⟩ (.int .i64 ((lf : Int) - 1))) g x { m with left := (lf : Int) - 1 } := ⟨h.blk.set 5 _, hk0.rd h.kept (fun a e => h.apart.1 a e), fun k hk2 => (by
    obtain ⟨ad, e, e1, e2, e3⟩ := h.wait k hk2
    have hne : ¬ ad.block = g := h.apart.2.1 ad e
    refine ⟨ad, e, Nat.lt_of_lt_of_le e1 hk0.size, (hk0.cell (by rw [add_block]; exact e1) (by rw [add_block]; exact hne)).trans e2, (hk0.cell (p := ⟨(ad.add (k * 2)).block, (ad.add (k * 2)).off + 1, none⟩) (by show (ad.add (k * 2)).block < _; rw [add_block]; exact e1) (by show ¬ (ad.add (k * 2)).block = g; rw [add_block]; exact hne)).trans e3⟩), hk0.rde h.keep (fun a e e1 => h.apart.2.2 a e e1), h.apart⟩
  have H := Lib.hid h0
  have HK0 := Lib.hid hk0
  have HZ := Lib.hid (show (w.setCell ⟨g, 5, none⟩ (.int .i64 ((lf : Int) - 1))).heap.size = w.heap.size from by simp [World.setCell])
  have f5 := h.blk.free 5
  have hsz : (strB b).size = m.size := by rw [← hb]; simp [strB, strL, ByteArray.size]
  obtain ⟨BB, hBB⟩ : ∃ q, q = strB b := ⟨_, rfl⟩
  rw [← hBB] at hsz ⊢
  obtain ⟨n, hnn⟩ : ∃ n, n = m.kept.length := ⟨_, rfl⟩
  obtain ⟨NW, hNW⟩ : ∃ n, n = m.wait.length := ⟨_, rfl⟩
  obtain ⟨wn, hwn⟩ : ∃ n, n = m.writes := ⟨_, rfl⟩
  obtain ⟨S, hS⟩ : ∃ q, q = m.size := ⟨_, rfl⟩
  obtain ⟨c0, c1, c2, c3, c4, c5, c6, c7⟩ := h.blk.eight
  rw [ho] at c3
  rw [ha] at c4
  rw [hlf] at c5
  have l0 : (2 : Int) ≤ (lf : Int) := by omega
  have l1 : (lf : Int) ≤ 9223372036854775807 := by omega
  rw [← hnn] at c1 hs
  rw [← hNW] at c2
  rw [← hS] at c0 hsz
  have HM := Lib.hid (show NW = m.wait.length ∧ NW ≤ 1000000 ∧ wn = m.writes ∧ wn ≤ 1000000 from ⟨hNW, by omega, hwn, by omega⟩)
  have HBB := Lib.hid hBB
  have hlg : g < w.heap.size := h.blk.lt
  have p0 : (0 : Int) ≤ (s : Int) := by omega
  have p1 : (s : Int) < (n : Int) := by omega
  have e2 : ((w.setCell ⟨g, 5, none⟩ (.int .i64 ((lf : Int) - 1))).alloc (.cells #[] 72)).cell? ⟨g, 2, none⟩ = some (.slice x.wA NW x.wc) := by rw [hNW]; exact (h0.blk.alloc _).cell 2
  have HE := Lib.hid (show ((w.setCell ⟨g, 5, none⟩ (.int .i64 ((lf : Int) - 1))).alloc (.cells #[] 72)).ownsRow w.heap.size 72 2 (.slice (some ⟨w.heap.size, 0, none⟩) 0 0) 0 [] from by have := owns_empty2 (w.setCell ⟨g, 5, none⟩ (.int .i64 ((lf : Int) - 1))) 72 w.heap.size (Nat.le_of_eq HZ.out.symm); rw [HZ.out] at this; exact this)
  have HB := Lib.hid ((Below.refl w.heap.size (w.setCell ⟨g, 5, none⟩ (.int .i64 ((lf : Int) - 1)))).alloc (Nat.le_of_eq HZ.out.symm) (.cells #[] 72))
  clear h0 hk0 h ho ha hlf hl2 hl3 hn hw hwr hs hb hBB hnn hNW hwn hS
  go_enter Try.func11, Try.ntmps11
  go_wp2_with (first
    | (at_builtin; refine wp_appW rfl (.tmp 54) (.tmp 58) rfl w.heap.size _ [] rfl HE.out x.wA NW x.wc m.wait rfl HM.out.1 w.heap.size (WRow.below (by have := H.out.wait; rw [HZ.out] at this; exact this) HB.out) (by have := HM.out.1; have := HM.out.2.1; simp; omega) (Nat.le_trans (Nat.le_of_eq HZ.out.symm) HB.out.size) ?_; intro v1 w1 ho1 hb1 _ _; have HO1 := Lib.hid (And.intro ho1 (HB.out.trans hb1)); clear ho1 hb1 c0 c1 c2 c3 c4 c5 c6 c7 e2)
    | (at_builtin; refine wp_appW rfl (.tmp 59) (.tmp 63) rfl w.heap.size v1 m.wait rfl (World.ownsRow.alloc HO1.out.1 _) (some ⟨w1.heap.size, 0, none⟩) 1 1 [(s, b)] rfl rfl (w1.heap.size + 1) (WRow.one w1 72 s b BB HBB.out) (by have := HM.out.1; have := HM.out.2.1; simp; omega) (by have := HO1.out.2.size; have := HZ.out; simp; omega) ?_; intro v3 w3 ho3 hb3 _ _; obtain ⟨A5, n5, c5, rfl, hn5⟩ : ∃ A5 n5 c5, v3 = .slice A5 n5 c5 ∧ n5 = (m.wait ++ [(s, b)]).length := (by rcases ho3.2 with ⟨e, hn⟩ | ⟨q, cap, cur, e, _⟩; exact ⟨_, _, _, e, hn.symm⟩; exact ⟨_, _, _, e, rfl⟩); have hB3 : Below w.heap.size (w.setCell ⟨g, 5, none⟩ (.int .i64 ((lf : Int) - 1))) w3 := (HO1.out.2.alloc (by have := HO1.out.2.size; have := HZ.out; omega) _).trans hb3; have k3 := H.out.blk.below hB3 hlg; have d2 : w3.cell? ⟨g, 2, none⟩ = some (.slice x.wA m.wait.length x.wc) := k3.cell 2; have d7 : w3.cell? ⟨g, 7, none⟩ = some (.int .i64 wn) := (by rw [HM.out.2.2.1]; exact k3.cell 7); have f2 := k3.free 2; have f7 := k3.free 7; have p9 : (wn : Int) ≤ 1000000 := (by have := HM.out.2.2.2; omega); have p8 : (0 : Int) ≤ (wn : Int) := (by omega); have HF := Lib.hid (show ∀ W, W = (w3.setCell ⟨g, 2, none⟩ (.slice A5 n5 c5)).setCell ⟨g, 7, none⟩ (.int .i64 (wn + 1 : Nat)) → ((∀ a, A5 = some a → w.heap.size ≤ a.block) ∧ MdAt W g { x with wA := A5, wc := c5 } (({ m with left := (lf : Int) - 1 } : Mod).push s b)) ∧ Kept (fun k => k = g) (w.setCell ⟨g, 5, none⟩ (.int .i64 ((lf : Int) - 1))) W from fun W hW => (by have q := mpush_end (w0 := w) (m := { m with left := (lf : Int) - 1 }) H.out (by rw [HZ.out]; exact hB3) s b A5 n5 c5 hn5 (by rw [HZ.out]; exact ho3) (show W = _ from by rw [hW, HM.out.2.2.1]); rw [HZ.out] at q; exact q)); clear k3 hB3 ho3 hb3 hn5))
  go_ret
  have q := HF.out _ rfl
  exact ⟨rfl, ⟨A5, c5, q.1⟩, HK0.out.trans q.2⟩
end Go.Proofs.Ytfcbmdmkdjaoaaa
