/- What loamlaw15.known answers: true. No conditions. -/
import Derived.Test.YtaminpfgkegibaaSpD
namespace Go.Proofs.Ytaminpfgkegibaa
set_option linter.unusedVariables false
set_option linter.unusedSimpArgs false
open Go.RowKit
def kW0 : List (BitVec 64) := List.replicate 20 0#64
def kW1 : List (BitVec 64) := allocW kW0 2 3 (packH 2 0 false 0)
def kW2 : List (BitVec 64) := allocW kW1 5 3 (packH 0 9 false 0)
theorem kW0_len : kW0.length = 20 := rfl
theorem kW1_len : kW1.length = 20 := by unfold kW1; rw [allocW_len, kW0_len]
theorem kW2_len : kW2.length = 20 := by unfold kW2; rw [allocW_len, kW1_len]
set_option maxRecDepth 100000
theorem k15_new (w : World) : Calls Try.prog 59 #[.int .i64 20] w fun e w' => ∃ g v, e = .returned (.tuple #[.pointer (some ⟨g, 0, none⟩), .int .i64 0]) ∧ MemAt w' w.heap.size g v kW0 ∧ Below w.heap.size w w' := new_in w 20 (by decide)
theorem k15_sp (w : World) (B g : Nat) (v : Value) (h : MemAt w B g v kW0) : Calls Try.prog 60 #[.pointer (some ⟨g, 0, none⟩), .int .i64 2, .int .i64 12] w fun r w' => ∃ s, r = .returned (.tuple #[.pointer (some ⟨s, 0, none⟩), .int .i64 0]) ∧ SpAt w' B s g v kW0 2 2 12 ∧ Below w.heap.size w w' :=
  snew_in w B g v kW0 2 12 h (by decide) (by rw [kW0_len]; decide) (by rw [kW0_len]; decide)
theorem k15_a (w : World) (B s g : Nat) (v : Value) (h : SpAt w B s g v kW0 2 2 12) : Calls Try.prog 90 #[.pointer (some ⟨s, 0, none⟩), .agg #[.int .i64 2, .int .i64 0, .bool false, .int .i64 0]] w fun r w' => r = .returned (.tuple #[.int .i64 2, .int .i64 0]) ∧ SpAt w' B s g v kW1 2 5 12 ∧ Below B w w' :=
  alloc_ok w B s g v kW0 2 2 12 h (by rw [kW0_len]; decide) 2 0 0 3 (by decide) (by decide) (by decide) (by decide)
theorem k15_b (w : World) (B s g : Nat) (v : Value) (h : SpAt w B s g v kW1 2 5 12) : Calls Try.prog 90 #[.pointer (some ⟨s, 0, none⟩), .agg #[.int .i64 0, .int .i64 9, .bool false, .int .i64 0]] w fun r w' => r = .returned (.tuple #[.int .i64 5, .int .i64 0]) ∧ SpAt w' B s g v kW2 2 8 12 ∧ Below B w w' :=
  alloc_ok w B s g v kW1 2 5 12 h (by rw [kW1_len]; decide) 0 9 0 3 (by decide) (by decide) (by decide) (by decide)
theorem k15_c (w : World) (B s g : Nat) (v : Value) (h : SpAt w B s g v kW2 2 8 12) : Calls Try.prog 90 #[.pointer (some ⟨s, 0, none⟩), .agg #[.int .i64 9, .int .i64 0, .bool false, .int .i64 0]] w (RetP (.tuple #[.int .i64 0, .int .i64 6]) w) :=
  alloc_full w B s g v kW2 2 8 12 h (by rw [kW2_len]; decide) 9 0 0 10 (by decide) (by decide) (by decide)
theorem kW2_obj : objF kW2 8 9 2 = some [2, 5] := by decide +kernel
theorem k15_o (w : World) (B s g : Nat) (v : Value) (h : SpAt w B s g v kW2 2 8 12) : Calls Try.prog 70 #[.pointer (some ⟨s, 0, none⟩)] w fun e w' => ∃ q c, e = .returned (.tuple #[.slice (some ⟨q, 0, none⟩) 2 c, .int .i64 0]) ∧ w'.cell? ⟨q, 1, none⟩ = some (.int .i64 5) ∧ q < w'.heap.size ∧ Below w.heap.size w w' := by
  have k := objects_c w B s g v kW2 2 8 12 h (by rw [kW2_len]; decide)
  rw [show objF kW2 8 (8 + 1) 2 = some [2, 5] from kW2_obj] at k
  refine k.mono ?_
  rintro e w' ⟨A, c, rfl, hc, ho, hb⟩
  obtain ⟨q, rfl⟩ : ∃ q, A = some ⟨q, 0, none⟩ := by
    rcases ho.2 with ⟨e, hn⟩ | ⟨q, _, _, e, _⟩
    · cases hn
    · injection e with e
      exact ⟨q, e⟩
  exact ⟨q, c, rfl, ho.cell (j := 1) (by decide), ho.ge.2, hb⟩
theorem k15_h (w : World) (B s g : Nat) (v : Value) (h : SpAt w B s g v kW2 2 8 12) : Calls Try.prog 47 #[.pointer (some ⟨s, 0, none⟩), .int .i64 5] w (RetP (.tuple #[.agg #[.int .i64 0, .int .i64 9, .bool false, .int .i64 0], .int .i64 0]) w) := by
  have k := sphead_in w B s g v kW2 2 8 12 h 5 (by decide) (by decide) (by rw [kW2_len]; decide) (by rw [kW2_len]; decide)
  rw [show unV (kW2[5]'(by rw [kW2_len]; decide)) = .tuple #[.agg #[.int .i64 0, .int .i64 9, .bool false, .int .i64 0], .int .i64 0] from by kernel_rfl] at k
  exact k
theorem k15_g (w : World) (B g : Nat) (v : Value) (h : MemAt w B g v kW2) : Calls Try.prog 52 #[.pointer (some ⟨g, 0, none⟩), .int .i64 2] w fun e w' => e = .returned (.tuple #[.int .u64 9223372036854775812, .int .i64 0]) ∧ w' = w := by
  have k := get_in w B g v kW2 2 (by rw [kW2_len]; decide) (by rw [kW2_len]; decide) h
  rw [show U64 (kW2[2]'(by rw [kW2_len]; decide)) = 9223372036854775812 from by decide +kernel] at k
  exact k
theorem k15_f (w : World) (B s g : Nat) (v : Value) (h : SpAt w B s g v kW2 2 8 12) : Calls Try.prog 101 #[.pointer (some ⟨s, 0, none⟩)] w fun r w' => r = .returned (.int .i64 4) ∧ Below w.heap.size w w' := free_c w B s g v kW2 2 8 12 h (by rw [kW2_len]; decide)
set_option maxHeartbeats 400000
end Go.Proofs.Ytaminpfgkegibaa
