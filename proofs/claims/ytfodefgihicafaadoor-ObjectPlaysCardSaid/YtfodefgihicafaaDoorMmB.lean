/- mem.Set. Conditions: lengths. -/
import Derived.Test.YtfodefgihicafaaDoorMmA
namespace Go.Proofs.YtfodefgihicafaaDoor
set_option linter.unusedVariables false
set_option linter.unusedSimpArgs false
open Go.RowKit
set_option maxHeartbeats 400000
/-- Set at a place of theirs. -/
theorem set_in (w : World) (B g : Nat) (v : Value) (ws : List (BitVec 64)) (i : Nat) (x : BitVec 64) (hi : i < ws.length) (hl : ws.length ≤ 100000) (h : MemAt w B g v ws) :
    Calls Tryd.prog 33 #[.pointer (some ⟨g, 0, none⟩), .int .i64 i, .int .u64 (U64 x)] w fun e w' => e = .returned (.int .i64 0) ∧ MemAt w' B g v (ws.set i x) ∧ w.grownBy w' v.ownBlock := by
  have HL := Lib.hid (len_c w B g v ws h)
  have HI := Lib.hid (insideM_c w (ws.length : Int) (i : Int) 1 (by omega) (by omega) (by omega) (by omega) (by decide) (by decide))
  rw [show inM (ws.length : Int) (i : Int) 1 = true from by unfold inM; simp; omega] at HI
  obtain ⟨A, c, e, hc⟩ := h.row.form
  subst e
  have c0 := h.blk.cell 0
  obtain ⟨q, rfl⟩ : ∃ q, A = some ⟨q, 0, none⟩ := by
    rcases h.row.2 with ⟨e, hn⟩ | ⟨q, _, _, e, _⟩
    · have hn' : ws.length = 0 := hn
      omega
    · injection e with e
      exact ⟨q, e⟩
  have hset := h.row.set hi x
  have hge := h.row.ge
  have hcell := h.row.cell hi
  have hfz := h.row.free i
  have hne : q ≠ g := fun e => h.ne (by rw [e]; rfl)
  have hfar := h.blk.far (p := ⟨q, i, none⟩) hne.symm (.int .u64 (U64 x))
  have hbel : w.grownBy (w.setCell ⟨q, i, none⟩ (.int .u64 (U64 x))) (some q) := grown_set w ⟨q, i, none⟩ _
  obtain ⟨y, hy⟩ : ∃ y, y = ws[i] := ⟨_, rfl⟩
  rw [← hy] at hcell
  unfold u64v at hcell
  have HR := Lib.hid (show MemAt (w.setCell ⟨q, i, none⟩ (.int .u64 (U64 x))) B g (.slice (some ⟨q, 0, none⟩) ws.length c) (ws.set i x) from ⟨hfar, h.ge, hset, h.ne⟩)
  have HC := Lib.hid hcell
  have HZ := Lib.hid hfz
  obtain ⟨N, hN⟩ : ∃ N, N = ws.length := ⟨_, rfl⟩
  rw [← hN] at c0 hi HL HI HR
  have p1 : (0 : Int) ≤ (i : Int) := by omega
  have p2 : (i : Int) < (N : Int) := by omega
  have HB := Lib.hid hbel
  have HN := Lib.hid hN
  clear hc hy hset hfar hbel hge hne h hcell hfz hN hi hl
  go_enter Tryd.func33, Tryd.ntmps33
  go_wp2_with fail
  refine Calls.mono HL.out ?_
  rintro e w1 ⟨rfl, rfl⟩
  go_wp2_with fail
  refine Calls.mono HI.out ?_
  rintro e w2 ⟨rfl, rfl⟩
  have hcell := HC.out
  have hfz := HZ.out
  have hN := HN.out
  have HF := Lib.hid (show ∀ w', w' = w2.setCell ⟨q, i, none⟩ (.int .u64 (U64 x)) → MemAt w' B g (.slice (some ⟨q, 0, none⟩) ws.length c) (ws.set i x) ∧ w2.grownBy w' (some q) from fun w' e => by rw [e, ← hN]; exact ⟨HR.out, HB.out⟩)
  clear HR HB HL HI hN HN HC HZ
  go_wp2_with fail
  go_ret
  exact ⟨rfl, HF.out _ rfl⟩
end Go.Proofs.YtfodefgihicafaaDoor
