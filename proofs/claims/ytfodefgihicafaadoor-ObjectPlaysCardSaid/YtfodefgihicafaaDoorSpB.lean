/- space: Head. Conditions: lengths. -/
import Derived.Test.YtfodefgihicafaaDoorSpA
namespace Go.Proofs.YtfodefgihicafaaDoor
set_option linter.unusedVariables false
set_option linter.unusedSimpArgs false
open Go.RowKit
set_option maxHeartbeats 400000
set_option maxRecDepth 100000
theorem sphead_in (w : World) (B s g : Nat) (v : Value) (ws : List (BitVec 64)) (b t e : Nat) (p : SpAt w B s g v ws b t e) (i : Nat) (hi1 : b ≤ i) (hi2 : i < t) (hl : ws.length ≤ 100000) (hiw : i < ws.length) :
    Calls Tryd.prog 69 #[.pointer (some ⟨s, 0, none⟩), .int .i64 i] w (RetP (unV ws[i]) w) := by
  have hb := Gw.alloc w (.cells #[.int .i64 0, .int .i64 0, .bool false, .int .i64 0] 60)
  have hp := p.below hb
  obtain ⟨c0, c1, c2, c3⟩ := hp.four
  have HG := Lib.hid (get_in _ B g v ws i hiw hl hp.mem)
  obtain ⟨x, hx⟩ : ∃ x, x = ws[i] := ⟨_, rfl⟩
  rw [← hx] at HG ⊢
  have HU := Lib.hid (unpack_c x (w.alloc (.cells #[.int .i64 0, .int .i64 0, .bool false, .int .i64 0] 60)))
  have u1 : ¬ i < b := by omega
  have u2 : ¬ t ≤ i := by omega
  have hk := Bk.new w 60 #[.int .i64 0, .int .i64 0, .bool false, .int .i64 0]
  have HK := Lib.hid hk
  have HB := Lib.hid hb
  clear p hp hb hk hi1 hi2 hiw hx hl
  go_enter Tryd.func69, Tryd.ntmps69
  go_wp2_with fail
  refine Calls.mono HG.out ?_
  rintro r w1 ⟨rfl, rfl⟩
  go_wp2_with fail
  refine Calls.mono HU.out ?_
  rintro r w2 ⟨rfl, b2⟩
  have hk2 := HK.out.below b2 HK.out.lt
  have f0 := hk2.free 0
  have f1 := hk2.free 1
  have f2 := hk2.free 2
  have f3 := hk2.free 3
  obtain ⟨d0, d1, d2, d3⟩ := hk2.four
  have hkl := hk2.lt
  have HB2 := Lib.hid (HB.out.trans (b2.mono HB.out.size))
  unfold unV
  clear HG HU b2 hk2 HK c0 c1 c2 c3
  go_wp2_with fail
  refine bodyPost_ret (v := .tuple #[.agg #[.int .i64 (unP x), .int .i64 (unB x), .bool (unM' x), .int .i64 (unT x)], .int .i64 (unE x)]) (by simp [results, Tryd.results69, go_sem, d0, d1, d2, d3]) rfl ⟨rfl, ?_⟩
  exact (((HB2.out.setCell (p := ⟨w.heap.size, 0, none⟩) (Nat.le_refl _) _).setCell (p := ⟨w.heap.size, 1, none⟩) (Nat.le_refl _) _).setCell (p := ⟨w.heap.size, 2, none⟩) (Nat.le_refl _) _).setCell (p := ⟨w.heap.size, 3, none⟩) (Nat.le_refl _) _
theorem sphead_out (w : World) (B s g : Nat) (v : Value) (ws : List (BitVec 64)) (b t e : Nat) (p : SpAt w B s g v ws b t e) (i : Int) (hi : i < (b : Int) ∨ (¬ i < (b : Int) ∧ (t : Int) ≤ i)) :
    Calls Tryd.prog 69 #[.pointer (some ⟨s, 0, none⟩), .int .i64 i] w (RetP (.tuple #[.agg #[.int .i64 0, .int .i64 0, .bool false, .int .i64 0], .int .i64 1]) w) := by
  have hb := Gw.alloc w (.cells #[.int .i64 0, .int .i64 0, .bool false, .int .i64 0] 60)
  have hp := p.below hb
  obtain ⟨c0, c1, c2, c3⟩ := hp.four
  have hk := Bk.new w 60 #[.int .i64 0, .int .i64 0, .bool false, .int .i64 0]
  have f0 := hk.free 0
  have f1 := hk.free 1
  have f2 := hk.free 2
  have f3 := hk.free 3
  clear p hp hk
  rcases hi with h1 | ⟨h1, h2⟩
  all_goals
    go_enter Tryd.func69, Tryd.ntmps69
    go_wp2_with fail
    refine bodyPost_ret (v := .tuple #[.agg #[.int .i64 0, .int .i64 0, .bool false, .int .i64 0], .int .i64 1]) (by simp [results, Tryd.results69, go_sem]) rfl ⟨rfl, Gw.alloc w _⟩
end Go.Proofs.YtfodefgihicafaaDoor
