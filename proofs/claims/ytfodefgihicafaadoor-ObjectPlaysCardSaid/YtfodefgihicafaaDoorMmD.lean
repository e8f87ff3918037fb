/- mem: Set out of place, Of refused, Twin. Conditions: lengths. -/
import Derived.Test.YtfodefgihicafaaDoorMmC
namespace Go.Proofs.YtfodefgihicafaaDoor
set_option linter.unusedVariables false
set_option linter.unusedSimpArgs false
open Go.RowKit
set_option maxHeartbeats 400000
theorem set_out (w : World) (B g : Nat) (v : Value) (ws : List (BitVec 64)) (i x : Int) (hi : inM (ws.length : Int) i 1 = false) (hl : ws.length ≤ 100000) (ha : -9223372036854775808 ≤ i) (ha2 : i ≤ 9223372036854775807) (h : MemAt w B g v ws) :
    Calls Tryd.prog 33 #[.pointer (some ⟨g, 0, none⟩), .int .i64 i, .int .u64 x] w fun e w' => e = .returned (.int .i64 1) ∧ w' = w := by
  have HL := Lib.hid (len_c w B g v ws h)
  have HI := Lib.hid (insideM_c w (ws.length : Int) i 1 (by omega) (by omega) ha ha2 (by decide) (by decide))
  rw [hi] at HI
  clear hi h
  go_enter Tryd.func33, Tryd.ntmps33
  go_wp2_with fail
  refine Calls.mono HL.out ?_
  rintro e w1 ⟨rfl, rfl⟩
  go_wp2_with fail
  refine Calls.mono HI.out ?_
  rintro e w2 ⟨rfl, rfl⟩
  go_wp2_with fail
  go_ret
  exact ⟨rfl, rfl⟩
theorem of_out (w : World) (A : Option Addr) (c n : Nat) (hl : 8192 < n) :
    Calls Tryd.prog 62 #[.slice A n c] w fun e w' => e = .returned (.tuple #[.pointer none, .int .i64 1]) ∧ w' = w := by
  have t2 : decide ((8192 : Int) < (n : Int)) = true := by simp; omega
  go_enter Tryd.func62, Tryd.ntmps62
  go_wp2_with fail
  go_ret2
  exact ⟨rfl, rfl⟩
end Go.Proofs.YtfodefgihicafaaDoor
