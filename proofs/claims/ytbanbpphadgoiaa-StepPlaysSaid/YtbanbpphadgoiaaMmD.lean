/- mem: Set out of place, Of refused, Twin. Conditions: lengths. -/
import Derived.Test.YtbanbpphadgoiaaMmC
namespace Go.Proofs.Ytbanbpphadgoiaa
set_option linter.unusedVariables false
set_option linter.unusedSimpArgs false
open Go.RowKit
set_option maxHeartbeats 400000
theorem set_out (w : World) (B g : Nat) (v : Value) (ws : List (BitVec 64)) (i x : Int) (hi : inM (ws.length : Int) i 1 = false) (hl : ws.length ≤ 100000) (ha : -9223372036854775808 ≤ i) (ha2 : i ≤ 9223372036854775807) (h : MemAt w B g v ws) :
    Calls Try.prog 59 #[.pointer (some ⟨g, 0, none⟩), .int .i64 i, .int .u64 x] w fun e w' => e = .returned (.int .i64 1) ∧ w' = w := by
  have HL := Lib.hid (len_c w B g v ws h)
  have HI := Lib.hid (insideM_c w (ws.length : Int) i 1 (by omega) (by omega) ha ha2 (by decide) (by decide))
  rw [hi] at HI
  clear hi h
  go_enter Try.func59, Try.ntmps59
  go_wp2_with fail
  refine Calls.mono HL.out ?_
  rintro e w1 ⟨rfl, rfl⟩
  go_wp2_with fail
  refine Calls.mono HI.out ?_
  rintro e w2 ⟨rfl, rfl⟩
  go_wp2_with fail
  go_ret
  exact ⟨rfl, rfl⟩
theorem of_out (w : World) (A : Option Addr) (c n : Nat) (hl : 8192 < n) :
    Calls Try.prog 61 #[.slice A n c] w fun e w' => e = .returned (.tuple #[.pointer none, .int .i64 1]) ∧ w' = w := by
  have t2 : decide ((8192 : Int) < (n : Int)) = true := by simp; omega
  go_enter Try.func61, Try.ntmps61
  go_wp2_with fail
  go_ret2
  exact ⟨rfl, rfl⟩
theorem twin_c (w : World) (B g : Nat) (v : Value) (ws : List (BitVec 64)) (h : MemAt w B g v ws) (hl : ws.length ≤ 1000000) :
    Calls Try.prog 80 #[.pointer (some ⟨g, 0, none⟩)] w fun e w' => ∃ g2 v2, e = .returned (.pointer (some ⟨g2, 0, none⟩)) ∧ MemAt w' w.heap.size g2 v2 ws ∧ Below w.heap.size w w' := by
  obtain ⟨A, c, e, hc⟩ := h.row.form
  subst e
  have c0 := h.blk.cell 0
  have HC := Lib.hid (clone64_c ws A c w h.row.rd hl)
  obtain ⟨N, hN⟩ : ∃ N, N = ws.length := ⟨_, rfl⟩
  rw [← hN] at c0 HC
  clear h hc hN hl
  go_enter Try.func80, Try.ntmps80
  go_wp2_with fail
  refine Calls.mono HC.out ?_
  rintro e w1 ⟨A2, c2, rfl, h2, r2, b2⟩
  have HR := Lib.hid r2
  have HB := Lib.hid b2
  clear h2 r2 b2
  go_wp2_with fail
  go_ret
  have hsz := HB.out.size
  refine ⟨w1.heap.size, _, rfl, ⟨Bk.new w1 _ _, hsz, HR.out.alloc _, fun e => ?_⟩, HB.out.alloc hsz _⟩
  have := (HR.out.lt _ e).2
  omega
end Go.Proofs.Ytbanbpphadgoiaa
