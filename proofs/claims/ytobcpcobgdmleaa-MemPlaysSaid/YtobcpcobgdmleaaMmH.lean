/- mem: Bytes, SetBytes and Move refused; Move. Conditions: lengths. -/
import Derived.Test.YtobcpcobgdmleaaMmG
namespace Go.Proofs.Ytobcpcobgdmleaa
set_option linter.unusedVariables false
set_option linter.unusedSimpArgs false
open Go.RowKit
set_option maxHeartbeats 400000
set_option maxRecDepth 100000
theorem bytes_out (w : World) (B g : Nat) (v : Value) (ws : List (BitVec 64)) (a n : Int) (hi : inM ((8 * ws.length : Nat) : Int) a n = false) (hl : ws.length ≤ 100000) (ha : -9223372036854775808 ≤ a) (ha2 : a ≤ 9223372036854775807) (hn : -9223372036854775808 ≤ n) (hn2 : n ≤ 9223372036854775807) (h : MemAt w B g v ws) :
    Calls Try.prog 15 #[.pointer (some ⟨g, 0, none⟩), .int .i64 a, .int .i64 n] w fun e w' => e = .returned (.tuple #[.slice none 0 0, .int .i64 1]) ∧ w' = w := by
  have HL := Lib.hid (len_c w B g v ws h)
  have HI := Lib.hid (insideM_c w ((8 * ws.length : Nat) : Int) a n (by omega) (by omega) ha ha2 hn hn2)
  rw [hi] at HI
  obtain ⟨N, hN⟩ : ∃ N, N = ws.length := ⟨_, rfl⟩
  obtain ⟨M, hM⟩ : ∃ M, M = 8 * ws.length := ⟨_, rfl⟩
  rw [← hM] at HI
  rw [← hN] at HL
  have q1 : (N : Int) * 8 = (M : Int) := by omega
  have q2 : (M : Int) ≤ 800000 := by omega
  clear hi h hM hN ha ha2 hn hn2
  go_enter Try.func15, Try.ntmps15
  go_wp2_with fail
  refine Calls.mono HL.out ?_
  rintro e w1 ⟨rfl, rfl⟩
  go_wp2_with fail
  refine Calls.mono HI.out ?_
  rintro e w2 ⟨rfl, rfl⟩
  go_wp2_with fail
  go_ret2
  exact ⟨rfl, rfl⟩
theorem setBytes_out (w : World) (B g : Nat) (v : Value) (ws : List (BitVec 64)) (a : Int) (A : Option Addr) (n c : Nat) (hi : inM ((8 * ws.length : Nat) : Int) a (n : Int) = false) (hl : ws.length ≤ 100000) (ha : -9223372036854775808 ≤ a) (ha2 : a ≤ 9223372036854775807) (hn2 : n ≤ 9223372036854775807) (h : MemAt w B g v ws) :
    Calls Try.prog 11 #[.pointer (some ⟨g, 0, none⟩), .int .i64 a, .slice A n c] w fun e w' => e = .returned (.int .i64 1) ∧ w' = w := by
  have HL := Lib.hid (len_c w B g v ws h)
  have HI := Lib.hid (insideM_c w ((8 * ws.length : Nat) : Int) a n (by omega) (by omega) ha ha2 (by omega) (by omega))
  rw [hi] at HI
  obtain ⟨N, hN⟩ : ∃ N, N = ws.length := ⟨_, rfl⟩
  obtain ⟨M, hM⟩ : ∃ M, M = 8 * ws.length := ⟨_, rfl⟩
  rw [← hM] at HI
  rw [← hN] at HL
  have q1 : (N : Int) * 8 = (M : Int) := by omega
  have q2 : (M : Int) ≤ 800000 := by omega
  clear hi h hM hN ha ha2 hn2
  go_enter Try.func11, Try.ntmps11
  go_wp2_with fail
  refine Calls.mono HL.out ?_
  rintro e w1 ⟨rfl, rfl⟩
  go_wp2_with fail
  refine Calls.mono HI.out ?_
  rintro e w2 ⟨rfl, rfl⟩
  go_wp2_with fail
  go_ret
  exact ⟨rfl, rfl⟩
theorem move_out1 (w : World) (B g : Nat) (v : Value) (ws : List (BitVec 64)) (to fr n : Int) (hi : inM (ws.length : Int) to n = false) (hl : ws.length ≤ 100000) (ha : -9223372036854775808 ≤ to) (ha2 : to ≤ 9223372036854775807) (hn : -9223372036854775808 ≤ n) (hn2 : n ≤ 9223372036854775807) (h : MemAt w B g v ws) :
    Calls Try.prog 14 #[.pointer (some ⟨g, 0, none⟩), .int .i64 to, .int .i64 fr, .int .i64 n] w fun e w' => e = .returned (.int .i64 1) ∧ w' = w := by
  have HL := Lib.hid (len_c w B g v ws h)
  have HI := Lib.hid (insideM_c w (ws.length : Int) to n (by omega) (by omega) ha ha2 hn hn2)
  rw [hi] at HI
  clear hi h ha ha2 hn hn2 hl
  go_enter Try.func14, Try.ntmps14
  go_wp2_with fail
  refine Calls.mono HL.out ?_
  rintro e w1 ⟨rfl, rfl⟩
  go_wp2_with fail
  refine Calls.mono HI.out ?_
  rintro e w2 ⟨rfl, rfl⟩
  go_wp2_with fail
  go_ret
  exact ⟨rfl, rfl⟩
theorem move_out2 (w : World) (B g : Nat) (v : Value) (ws : List (BitVec 64)) (to fr n : Int) (hi1 : inM (ws.length : Int) to n = true) (hi : inM (ws.length : Int) fr n = false) (hl : ws.length ≤ 100000) (ha : -9223372036854775808 ≤ to) (ha2 : to ≤ 9223372036854775807) (hb : -9223372036854775808 ≤ fr) (hb2 : fr ≤ 9223372036854775807) (hn : -9223372036854775808 ≤ n) (hn2 : n ≤ 9223372036854775807) (h : MemAt w B g v ws) :
    Calls Try.prog 14 #[.pointer (some ⟨g, 0, none⟩), .int .i64 to, .int .i64 fr, .int .i64 n] w fun e w' => e = .returned (.int .i64 1) ∧ w' = w := by
  have HL := Lib.hid (len_c w B g v ws h)
  have HI1 := Lib.hid (insideM_c w (ws.length : Int) to n (by omega) (by omega) ha ha2 hn hn2)
  have HI := Lib.hid (insideM_c w (ws.length : Int) fr n (by omega) (by omega) hb hb2 hn hn2)
  rw [hi1] at HI1
  rw [hi] at HI
  clear hi h ha ha2 hn hn2 hb hb2 hl hi1
  go_enter Try.func14, Try.ntmps14
  go_wp2_with fail
  refine Calls.mono HL.out ?_
  rintro e w1 ⟨rfl, rfl⟩
  go_wp2_with fail
  refine Calls.mono HI1.out ?_
  rintro e w2 ⟨rfl, rfl⟩
  go_wp2_with fail
  refine Calls.mono HL.out ?_
  rintro e w3 ⟨rfl, rfl⟩
  go_wp2_with fail
  refine Calls.mono HI.out ?_
  rintro e w4 ⟨rfl, rfl⟩
  go_wp2_with fail
  go_ret
  exact ⟨rfl, rfl⟩
end Go.Proofs.Ytobcpcobgdmleaa
