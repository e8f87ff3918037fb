/- What loamlaw15.known answers: true. No conditions. -/
import Derived.Test.YtgjnencpdafkoaaSpD
namespace Go.Proofs.Ytgjnencpdafkoaa
set_option linter.unusedVariables false
set_option linter.unusedSimpArgs false
open Go.RowKit
def kW0 : List (BitVec 64) := List.replicate 20 0#64
def kW1 : List (BitVec 64) := allocW kW0 2 3 (packH 2 0 false 0)
def kW2 : List (BitVec 64) := allocW kW1 5 3 (packH 0 9 false 0)
theorem kW0_len : kW0.length = 20 := rfl
theorem kW1_len : kW1.length = 20 := by unfold kW1; rw [allocW_len, kW0_len]
theorem kW2_len : kW2.length = 20 := by unfold kW2; rw [allocW_len, kW1_len]
set_option maxRecDepth 100000
theorem k15_new (w : World) : Calls Try.prog 23 #[.int .i64 20] w fun e w' => ∃ g v, e = .returned (.tuple #[.pointer (some ⟨g, 0, none⟩), .int .i64 0]) ∧ MemAt w' w.heap.size g v kW0 ∧ Below w.heap.size w w' := new_in w 20 (by decide)
theorem k15_sp (w : World) (B g : Nat) (v : Value) (h : MemAt w B g v kW0) : Calls Try.prog 8 #[.pointer (some ⟨g, 0, none⟩), .int .i64 2, .int .i64 12] w fun r w' => ∃ s, r = .returned (.tuple #[.pointer (some ⟨s, 0, none⟩), .int .i64 0]) ∧ SpAt w' B s g v kW0 2 2 12 ∧ Below w.heap.size w w' :=
  snew_in w B g v kW0 2 12 h (by decide) (by rw [kW0_len]; decide) (by rw [kW0_len]; decide)
theorem k15_a (w : World) (B s g : Nat) (v : Value) (h : SpAt w B s g v kW0 2 2 12) : Calls Try.prog 10 #[.pointer (some ⟨s, 0, none⟩), .agg #[.int .i64 2, .int .i64 0, .bool false, .int .i64 0]] w fun r w' => r = .returned (.tuple #[.int .i64 2, .int .i64 0]) ∧ SpAt w' B s g v kW1 2 5 12 ∧ Below B w w' :=
  alloc_ok w B s g v kW0 2 2 12 h (by rw [kW0_len]; decide) 2 0 0 3 (by decide) (by decide) (by decide) (by decide)
theorem k15_b (w : World) (B s g : Nat) (v : Value) (h : SpAt w B s g v kW1 2 5 12) : Calls Try.prog 10 #[.pointer (some ⟨s, 0, none⟩), .agg #[.int .i64 0, .int .i64 9, .bool false, .int .i64 0]] w fun r w' => r = .returned (.tuple #[.int .i64 5, .int .i64 0]) ∧ SpAt w' B s g v kW2 2 8 12 ∧ Below B w w' :=
  alloc_ok w B s g v kW1 2 5 12 h (by rw [kW1_len]; decide) 0 9 0 3 (by decide) (by decide) (by decide) (by decide)
theorem k15_c (w : World) (B s g : Nat) (v : Value) (h : SpAt w B s g v kW2 2 8 12) : Calls Try.prog 10 #[.pointer (some ⟨s, 0, none⟩), .agg #[.int .i64 9, .int .i64 0, .bool false, .int .i64 0]] w (RetP (.tuple #[.int .i64 0, .int .i64 6]) w) :=
  alloc_full w B s g v kW2 2 8 12 h (by rw [kW2_len]; decide) 9 0 0 10 (by decide) (by decide) (by decide)
theorem kW2_obj : objF kW2 8 9 2 = some [2, 5] := by decide +kernel
theorem k15_o (w : World) (B s g : Nat) (v : Value) (h : SpAt w B s g v kW2 2 8 12) : Calls Try.prog 14 #[.pointer (some ⟨s, 0, none⟩)] w fun e w' => ∃ q c, e = .returned (.tuple #[.slice (some ⟨q, 0, none⟩) 2 c, .int .i64 0]) ∧ w'.cell? ⟨q, 1, none⟩ = some (.int .i64 5) ∧ q < w'.heap.size ∧ Below w.heap.size w w' := by
  have k := objects_c w B s g v kW2 2 8 12 h (by rw [kW2_len]; decide)
  rw [show objF kW2 8 (8 + 1) 2 = some [2, 5] from kW2_obj] at k
  refine k.mono ?_
  rintro e w' ⟨A, c, rfl, hc, ho, hb⟩
  obtain ⟨q, rfl⟩ : ∃ q, A = some ⟨q, 0, none⟩ := by
    rcases ho.2 with ⟨e, hn⟩ | ⟨q, _, _, e, _⟩
    · cases hn
    · injection e with e
      exact ⟨q, e⟩
  exact ⟨q, c, rfl, ho.cell (j := 1) (by decide), ho.ge.2, hb⟩
theorem k15_h (w : World) (B s g : Nat) (v : Value) (h : SpAt w B s g v kW2 2 8 12) : Calls Try.prog 17 #[.pointer (some ⟨s, 0, none⟩), .int .i64 5] w (RetP (.tuple #[.agg #[.int .i64 0, .int .i64 9, .bool false, .int .i64 0], .int .i64 0]) w) := by
  have k := sphead_in w B s g v kW2 2 8 12 h 5 (by decide) (by decide) (by rw [kW2_len]; decide) (by rw [kW2_len]; decide)
  rw [show unV (kW2[5]'(by rw [kW2_len]; decide)) = .tuple #[.agg #[.int .i64 0, .int .i64 9, .bool false, .int .i64 0], .int .i64 0] from by kernel_rfl] at k
  exact k
theorem k15_g (w : World) (B g : Nat) (v : Value) (h : MemAt w B g v kW2) : Calls Try.prog 21 #[.pointer (some ⟨g, 0, none⟩), .int .i64 2] w fun e w' => e = .returned (.tuple #[.int .u64 9223372036854775812, .int .i64 0]) ∧ w' = w := by
  have k := get_in w B g v kW2 2 (by rw [kW2_len]; decide) (by rw [kW2_len]; decide) h
  rw [show U64 (kW2[2]'(by rw [kW2_len]; decide)) = 9223372036854775812 from by decide +kernel] at k
  exact k
theorem k15_u (w : World) (B s g : Nat) (v : Value) (h : SpAt w B s g v kW2 2 8 12) : Calls Try.prog 25 #[.pointer (some ⟨s, 0, none⟩)] w fun r w' => r = .returned (.int .i64 6) ∧ Below w.heap.size w w' := used_c w B s g v kW2 2 8 12 h (by rw [kW2_len]; decide)
theorem k15_f (w : World) (B s g : Nat) (v : Value) (h : SpAt w B s g v kW2 2 8 12) : Calls Try.prog 24 #[.pointer (some ⟨s, 0, none⟩)] w fun r w' => r = .returned (.int .i64 4) ∧ Below w.heap.size w w' := free_c w B s g v kW2 2 8 12 h (by rw [kW2_len]; decide)
set_option maxHeartbeats 400000
theorem known15_c (w : World) : Calls Try.prog 7 #[] w (RetP (.bool true) w) := by
  go_enter Try.func7, Try.ntmps7
  go_wp2_with fail
  refine Calls.mono (k15_new w) ?_
  rintro r w1 ⟨g, v, rfl, h1, b1⟩
  have HB1 := Lib.hid b1
  clear b1
  go_wp2_with fail
  refine Calls.mono (k15_sp _ _ _ _ h1) ?_
  rintro r w2 ⟨s, rfl, h2, b2⟩
  have HB2 := Lib.hid (HB1.out.trans (b2.mono HB1.out.size))
  obtain ⟨c0, c1, c2, c3⟩ := h2.four
  have H2 := Lib.hid h2
  clear b2 h1 h2
  go_wp2_with fail
  refine Calls.mono (k15_a _ _ _ _ _ H2.out) ?_
  rintro r w3 ⟨rfl, h3, b3⟩
  have HB3 := Lib.hid (HB2.out.trans b3)
  clear b3 c0 c1 c2 c3
  go_wp2_with fail
  refine Calls.mono (k15_b _ _ _ _ _ h3) ?_
  rintro r w4 ⟨rfl, h4, b4⟩
  have HB4 := Lib.hid (HB3.out.trans b4)
  have H4 := Lib.hid h4
  clear b4 h3 h4
  go_wp2_with fail
  refine Calls.mono (k15_c _ _ _ _ _ H4.out) ?_
  rintro r w5 ⟨rfl, b5⟩
  have HB5 := Lib.hid (HB4.out.trans (b5.mono HB4.out.size))
  have H5 := Lib.hid (H4.out.below b5)
  clear b5
  go_wp2_with fail
  refine Calls.mono (k15_o _ _ _ _ _ H5.out) ?_
  rintro r w6 ⟨q, c6, rfl, hq6, hql6, b6⟩
  have HB6 := Lib.hid (HB5.out.trans (b6.mono HB5.out.size))
  have H6 := Lib.hid (H5.out.below b6)
  have HQ6 := Lib.hid (And.intro hq6 hql6)
  clear b6 hq6 hql6
  go_wp2_with fail
  refine Calls.mono (k15_h _ _ _ _ _ H6.out) ?_
  rintro r w7 ⟨rfl, b7⟩
  have HB7 := Lib.hid (HB6.out.trans (b7.mono HB6.out.size))
  have hb8 := Gw.alloc w7 (.cells #[.int .i64 0, .int .i64 9, .bool false, .int .i64 0] 37)
  have H8 := Lib.hid ((H6.out.below b7).below hb8)
  have HB8 := Lib.hid (HB7.out.trans (hb8.mono HB7.out.size))
  have hq8 := ((b7.cell (p := ⟨q, 1, none⟩) HQ6.out.2).trans HQ6.out.1)
  have hqe : (w7.alloc (.cells #[.int .i64 0, .int .i64 9, .bool false, .int .i64 0] 37)).cell? ⟨q, 1, none⟩ = some (.int .i64 5) := (hb8.cell (p := ⟨q, 1, none⟩) (Nat.lt_of_lt_of_le HQ6.out.2 b7.size)).trans hq8
  have HQ8 := Lib.hid (And.intro hqe (show q < (w7.alloc (.cells #[.int .i64 0, .int .i64 9, .bool false, .int .i64 0] 37)).heap.size from Nat.lt_of_lt_of_le (Nat.lt_of_lt_of_le HQ6.out.2 b7.size) hb8.size))
  have HK8 := Lib.hid (Bk.new w7 37 #[.int .i64 0, .int .i64 9, .bool false, .int .i64 0])
  obtain ⟨c0, c1, c2, c3⟩ := H8.out.four
  clear b7 hb8 hq8 hqe
  go_wp2_with fail
  refine Calls.mono (k15_g _ _ _ _ H8.out.mem) ?_
  rintro r w9 ⟨rfl, rfl⟩
  have hqe := HQ8.out.1
  obtain ⟨k0, k1, k2, k3⟩ := HK8.out.four
  go_wp2_with fail
  refine Calls.mono (k15_u _ _ _ _ _ H8.out) ?_
  rintro r w10 ⟨rfl, b10⟩
  have H10 := Lib.hid (H8.out.below b10)
  have HB10 := Lib.hid (HB8.out.trans (b10.mono HB8.out.size))
  clear b10
  go_wp2_with fail
  refine Calls.mono (k15_f _ _ _ _ _ H10.out) ?_
  rintro r w11 ⟨rfl, b11⟩
  have H11 := Lib.hid (H10.out.below b11)
  have HB11 := Lib.hid (HB10.out.trans (b11.mono HB10.out.size))
  obtain ⟨c0, c1, c2, c3⟩ := H11.out.four
  clear b11
  go_wp2_with fail
  go_ret
  exact ⟨rfl, HB11.out⟩
end Go.Proofs.Ytgjnencpdafkoaa
