/- Texts joined: SlN OpenZ SlO. -/
import Derived.Test.YtjcpbhjmmnpjnaaZc1
import Derived.Deep.Grids
import Derived.Laws.CopyRow
import Derived.Deep.CutRange
/- The regions of the law SlotsCuts. No conditions. -/
namespace Go.Proofs.Ytjcpbhjmmnpjnaa
set_option linter.unusedVariables false
set_option linter.unusedSimpArgs false
open Go.RowKit Go.Maps
set_option maxRecDepth 100000
set_option maxHeartbeats 4000000
theorem eqR_any (a b : Sb) : ∃ r, ∀ W : World, (Op.equalIn 10000 41 (.agg #[.int .u64 (U64 a.ep), .int .i64 a.s, .int .i64 a.l, .int .i64 a.n, .int .i64 a.sp, .int .i64 a.wd, .int .u64 (U64 a.lg)]) (.agg #[.int .u64 (U64 b.ep), .int .i64 b.s, .int .i64 b.l, .int .i64 b.n, .int .i64 b.sp, .int .i64 b.wd, .int .u64 (U64 b.lg)])).run Try.prog W = .ok r W := by
  by_cases h0 : U64 a.ep = U64 b.ep
  · by_cases h1 : (a.s : Int) = b.s
    · by_cases h2 : (a.l : Int) = b.l
      · by_cases h3 : (a.n : Int) = b.n
        · by_cases h4 : (a.sp : Int) = b.sp
          · by_cases h5 : (a.wd : Int) = b.wd
            · by_cases h6 : U64 a.lg = U64 b.lg
              · rw [h0, h1, h2, h3, h4, h5, h6]
                exact ⟨true, fun W => eqR7 b.ep b.lg b.s b.l b.n b.sp b.wd W⟩
              · have q : (U64 a.lg == U64 b.lg) = false := by simpa using h6
                exact ⟨false, fun W => by rw [h0, h1, h2, h3, h4, h5]; clear h0 h1 h2 h3 h4 h5 h6; go_simp⟩
            · have q : ((a.wd : Int) == b.wd) = false := by simpa using h5
              exact ⟨false, fun W => by rw [h0, h1, h2, h3, h4]; clear h0 h1 h2 h3 h4 h5; go_simp⟩
          · have q : ((a.sp : Int) == b.sp) = false := by simpa using h4
            exact ⟨false, fun W => by rw [h0, h1, h2, h3]; clear h0 h1 h2 h3 h4; go_simp⟩
        · have q : ((a.n : Int) == b.n) = false := by simpa using h3
          exact ⟨false, fun W => by rw [h0, h1, h2]; clear h0 h1 h2 h3; go_simp⟩
      · have q : ((a.l : Int) == b.l) = false := by simpa using h2
        exact ⟨false, fun W => by rw [h0, h1]; clear h0 h1 h2; go_simp⟩
    · have q : ((a.s : Int) == b.s) = false := by simpa using h1
      exact ⟨false, fun W => by rw [h0]; clear h0 h1; go_simp⟩
  · have q : (U64 a.ep == U64 b.ep) = false := by simpa using h0
    exact ⟨false, fun W => by clear h0; go_simp⟩
theorem sc27_0 (Q : Exit → Act → World → Prop) (a0 : Act) (w : World) (G9 G14 : Nat) (b : Sb) (hat : Hid (U64 b.ep % 2 = 0)) (H14 : Hid (Bk w G14 32 b.cells)) (HL : Hid (G9 < w.heap.size)) (hsz : a0.tmps.size = 164) (sl9 : a0.tmps.getD 9 undef = .pointer (some ⟨G9, 0, none⟩)) (sl14 : a0.tmps.getD 14 undef = .pointer (some ⟨G14, 0, none⟩))
    (fin : ∀ (vals : Nat → Value) (w1 : World), Below w.heap.size w w1 → (IsV (.agg #[.int .u64 (U64 b.ep), .int .i64 b.s, .int .i64 b.l, .int .i64 b.n, .int .i64 b.sp, .int .i64 b.wd, .int .u64 (U64 b.lg)])) (vals 4) w1 → (IsV (.pointer (some ⟨G9, 0, none⟩))) (vals 5) w1 → wpList Try.prog #[{ dst := none, op := Go.Op.store 41 (Go.Operand.tmp 90) (Go.Operand.tmp 89), type := 0, pos := "", after := #[], guard := none }] Q [{ dst := none, op := Go.Op.store 41 (Go.Operand.tmp 90) (Go.Operand.tmp 89), type := 0, pos := "", after := #[], guard := none }] (putD vals [85, 86, 87, 88, 89, 90] 0 a0) w1) :
    (Code.region 27 (regIn Try.f4 27) true).wp Try.prog Q a0 w := by
  refine region_by_tail (m := 6) (G := fun w w1 => Below w.heap.size w w1) [IsV (.pointer (some ⟨G14, 0, none⟩)),
    IsV (.int .u64 (U64 b.ep)),
    IsV (.int .u64 0),
    IsV (.agg #[.int .u64 (U64 b.ep), .int .i64 b.s, .int .i64 b.l, .int .i64 b.n, .int .i64 b.sp, .int .i64 b.wd, .int .u64 (U64 b.lg)]),
    IsV (.agg #[.int .u64 (U64 b.ep), .int .i64 b.s, .int .i64 b.l, .int .i64 b.n, .int .i64 b.sp, .int .i64 b.wd, .int .u64 (U64 b.lg)]),
    IsV (.pointer (some ⟨G9, 0, none⟩))]
    [85, 86, 87, 88, 89, 90] (by kernel_rfl) (Gw.drew _) Gw.trans (by rw [hsz]; kernel_rfl) (by kernel_rfl) ?_ ?_ ?_
  · intro f hf
    simp only [List.mem_cons, List.not_mem_nil, or_false] at hf
    rcases hf with rfl | rfl | rfl | rfl | rfl | rfl <;> intro v a b h g <;> first | exact IsV.mono h
  · refine ⟨?_, ?_, ?_, ?_, ?_, ?_, trivial⟩
    · refine owes_v (Go.Op.fieldAddr 32 (Go.Operand.tmp 14) 0) 0 [] (by kernel_rfl) (by kernel_rfl) (by kernel_rfl) rfl fun vals w1 ρ hG hF hρ hcst hfun => ?_
      have e14 : ρ (.tmp 14) = .pointer (some ⟨G14, 0, none⟩) := ((hρ 14).trans (slotO [] (by kernel_rfl))).trans sl14
      clear hρ hF hcst hfun sl9 sl14 fin
      exact opv_val (by go_simp <;> rfl) ⟨gw_self _, rfl⟩
    · refine owes_v (Go.Op.load 28 (Go.Operand.tmp 85)) 28 [0] (by kernel_rfl) (by kernel_rfl) (by kernel_rfl) rfl fun vals w1 ρ hG hF hρ hcst hfun => ?_
      have e85 : ρ (.tmp 85) = .pointer (some ⟨G14, 0, none⟩) := ((hρ 85).trans (slotJ [0] (by rw [hsz]; decide) (by kernel_rfl))).trans (hF 0 (by decide))
      have k0 : w1.cell? ⟨G14, 0, none⟩ = some (.int .u64 (U64 b.ep)) := (H14.out.below hG H14.out.lt).cell 0
      clear hρ hF hcst hfun sl9 sl14 fin
      exact opv_val (by go_simp <;> rfl) ⟨gw_self _, rfl⟩
    · refine owes_v (Go.Op.binOp Go.BinOp.rem 28 (Go.Operand.tmp 86) (Go.Operand.const (Go.Value.int Go.IntKind.u64 2)) 28) 28 [1] (by kernel_rfl) (by kernel_rfl) (by kernel_rfl) rfl fun vals w1 ρ hG hF hρ hcst hfun => ?_
      have e86 : ρ (.tmp 86) = .int .u64 (U64 b.ep) := ((hρ 86).trans (slotJ [1] (by rw [hsz]; decide) (by kernel_rfl))).trans (hF 1 (by decide))
      have q := (Int.tmod_eq_emod_of_nonneg (b := 2) (U64_lo b.ep)).trans hat.out
      clear hρ hF hfun sl9 sl14 fin
      exact opv_val (by go_simp <;> rfl) ⟨gw_self _, rfl⟩
    · refine owes_v (Go.Op.load 32 (Go.Operand.tmp 14)) 32 [] (by kernel_rfl) (by kernel_rfl) (by kernel_rfl) rfl fun vals w1 ρ hG hF hρ hcst hfun => ?_
      have e14 : ρ (.tmp 14) = .pointer (some ⟨G14, 0, none⟩) := ((hρ 14).trans (slotO [] (by kernel_rfl))).trans sl14
      have k9 := H14.out.below hG H14.out.lt
      unfold Sb.cells at k9
      obtain ⟨x0, x1, x2, x3, x4, x5, x6⟩ := k9.seven
      clear hρ hF hcst hfun sl9 sl14 fin
      exact opv_val (by go_simp <;> rfl) ⟨gw_self _, rfl⟩
    · refine owes_v (Go.Op.call { callee := Go.Callee.value (Go.Operand.func 12), args := #[Go.Operand.tmp 88], argTypes := #[32] }) 41 [3] (by kernel_rfl) (by kernel_rfl) (by kernel_rfl) rfl fun vals w1 ρ hG hF hρ hcst hfun => ?_
      have e88 : ρ (.tmp 88) = .agg #[.int .u64 (U64 b.ep), .int .i64 b.s, .int .i64 b.l, .int .i64 b.n, .int .i64 b.sp, .int .i64 b.wd, .int .u64 (U64 b.lg)] := ((hρ 88).trans (slotJ [3] (by rw [hsz]; decide) (by kernel_rfl))).trans (hF 3 (by decide))
      clear hρ hF hcst sl9 sl14 fin
      exact opv_enter (by go_simp <;> rfl) (of_ret7 (of7_c b w1))
    · refine owes_v (Go.Op.indexAddr 50 (Go.Operand.tmp 9) (Go.Operand.tmp 87)) 0 [2] (by kernel_rfl) (by kernel_rfl) (by kernel_rfl) rfl fun vals w1 ρ hG hF hρ hcst hfun => ?_
      have e9 : ρ (.tmp 9) = .pointer (some ⟨G9, 0, none⟩) := ((hρ 9).trans (slotO [2] (by kernel_rfl))).trans sl9
      have e87 : ρ (.tmp 87) = .int .u64 0 := ((hρ 87).trans (slotJ [2] (by rw [hsz]; decide) (by kernel_rfl))).trans (hF 2 (by decide))
      clear hρ hF hcst hfun sl9 sl14 fin
      exact opv_val (by go_simp <;> rfl) ⟨gw_self _, rfl⟩
  · intro vals w1 hG hF
    exact last_list (by kernel_rfl) (by kernel_rfl) (by kernel_rfl) (fin vals w1 hG (hF 4 (by decide +kernel)) (hF 5 (by decide +kernel)))
theorem sc27_1 (Q : Exit → Act → World → Prop) (a0 : Act) (w : World) (G9 G14 : Nat) (b : Sb) (hat : Hid (U64 b.ep % 2 = 1)) (H14 : Hid (Bk w G14 32 b.cells)) (HL : Hid (G9 < w.heap.size)) (hsz : a0.tmps.size = 164) (sl9 : a0.tmps.getD 9 undef = .pointer (some ⟨G9, 0, none⟩)) (sl14 : a0.tmps.getD 14 undef = .pointer (some ⟨G14, 0, none⟩))
    (fin : ∀ (vals : Nat → Value) (w1 : World), Below w.heap.size w w1 → (IsV (.agg #[.int .u64 (U64 b.ep), .int .i64 b.s, .int .i64 b.l, .int .i64 b.n, .int .i64 b.sp, .int .i64 b.wd, .int .u64 (U64 b.lg)])) (vals 4) w1 → (IsV (.pointer (some ⟨G9, 7, none⟩))) (vals 5) w1 → wpList Try.prog #[{ dst := none, op := Go.Op.store 41 (Go.Operand.tmp 90) (Go.Operand.tmp 89), type := 0, pos := "", after := #[], guard := none }] Q [{ dst := none, op := Go.Op.store 41 (Go.Operand.tmp 90) (Go.Operand.tmp 89), type := 0, pos := "", after := #[], guard := none }] (putD vals [85, 86, 87, 88, 89, 90] 0 a0) w1) :
    (Code.region 27 (regIn Try.f4 27) true).wp Try.prog Q a0 w := by
  refine region_by_tail (m := 6) (G := fun w w1 => Below w.heap.size w w1) [IsV (.pointer (some ⟨G14, 0, none⟩)),
    IsV (.int .u64 (U64 b.ep)),
    IsV (.int .u64 1),
    IsV (.agg #[.int .u64 (U64 b.ep), .int .i64 b.s, .int .i64 b.l, .int .i64 b.n, .int .i64 b.sp, .int .i64 b.wd, .int .u64 (U64 b.lg)]),
    IsV (.agg #[.int .u64 (U64 b.ep), .int .i64 b.s, .int .i64 b.l, .int .i64 b.n, .int .i64 b.sp, .int .i64 b.wd, .int .u64 (U64 b.lg)]),
    IsV (.pointer (some ⟨G9, 7, none⟩))]
    [85, 86, 87, 88, 89, 90] (by kernel_rfl) (Gw.drew _) Gw.trans (by rw [hsz]; kernel_rfl) (by kernel_rfl) ?_ ?_ ?_
  · intro f hf
    simp only [List.mem_cons, List.not_mem_nil, or_false] at hf
    rcases hf with rfl | rfl | rfl | rfl | rfl | rfl <;> intro v a b h g <;> first | exact IsV.mono h
  · refine ⟨?_, ?_, ?_, ?_, ?_, ?_, trivial⟩
    · refine owes_v (Go.Op.fieldAddr 32 (Go.Operand.tmp 14) 0) 0 [] (by kernel_rfl) (by kernel_rfl) (by kernel_rfl) rfl fun vals w1 ρ hG hF hρ hcst hfun => ?_
      have e14 : ρ (.tmp 14) = .pointer (some ⟨G14, 0, none⟩) := ((hρ 14).trans (slotO [] (by kernel_rfl))).trans sl14
      clear hρ hF hcst hfun sl9 sl14 fin
      exact opv_val (by go_simp <;> rfl) ⟨gw_self _, rfl⟩
    · refine owes_v (Go.Op.load 28 (Go.Operand.tmp 85)) 28 [0] (by kernel_rfl) (by kernel_rfl) (by kernel_rfl) rfl fun vals w1 ρ hG hF hρ hcst hfun => ?_
      have e85 : ρ (.tmp 85) = .pointer (some ⟨G14, 0, none⟩) := ((hρ 85).trans (slotJ [0] (by rw [hsz]; decide) (by kernel_rfl))).trans (hF 0 (by decide))
      have k0 : w1.cell? ⟨G14, 0, none⟩ = some (.int .u64 (U64 b.ep)) := (H14.out.below hG H14.out.lt).cell 0
      clear hρ hF hcst hfun sl9 sl14 fin
      exact opv_val (by go_simp <;> rfl) ⟨gw_self _, rfl⟩
    · refine owes_v (Go.Op.binOp Go.BinOp.rem 28 (Go.Operand.tmp 86) (Go.Operand.const (Go.Value.int Go.IntKind.u64 2)) 28) 28 [1] (by kernel_rfl) (by kernel_rfl) (by kernel_rfl) rfl fun vals w1 ρ hG hF hρ hcst hfun => ?_
      have e86 : ρ (.tmp 86) = .int .u64 (U64 b.ep) := ((hρ 86).trans (slotJ [1] (by rw [hsz]; decide) (by kernel_rfl))).trans (hF 1 (by decide))
      have q := (Int.tmod_eq_emod_of_nonneg (b := 2) (U64_lo b.ep)).trans hat.out
      clear hρ hF hfun sl9 sl14 fin
      exact opv_val (by go_simp <;> rfl) ⟨gw_self _, rfl⟩
    · refine owes_v (Go.Op.load 32 (Go.Operand.tmp 14)) 32 [] (by kernel_rfl) (by kernel_rfl) (by kernel_rfl) rfl fun vals w1 ρ hG hF hρ hcst hfun => ?_
      have e14 : ρ (.tmp 14) = .pointer (some ⟨G14, 0, none⟩) := ((hρ 14).trans (slotO [] (by kernel_rfl))).trans sl14
      have k9 := H14.out.below hG H14.out.lt
      unfold Sb.cells at k9
      obtain ⟨x0, x1, x2, x3, x4, x5, x6⟩ := k9.seven
      clear hρ hF hcst hfun sl9 sl14 fin
      exact opv_val (by go_simp <;> rfl) ⟨gw_self _, rfl⟩
    · refine owes_v (Go.Op.call { callee := Go.Callee.value (Go.Operand.func 12), args := #[Go.Operand.tmp 88], argTypes := #[32] }) 41 [3] (by kernel_rfl) (by kernel_rfl) (by kernel_rfl) rfl fun vals w1 ρ hG hF hρ hcst hfun => ?_
      have e88 : ρ (.tmp 88) = .agg #[.int .u64 (U64 b.ep), .int .i64 b.s, .int .i64 b.l, .int .i64 b.n, .int .i64 b.sp, .int .i64 b.wd, .int .u64 (U64 b.lg)] := ((hρ 88).trans (slotJ [3] (by rw [hsz]; decide) (by kernel_rfl))).trans (hF 3 (by decide))
      clear hρ hF hcst sl9 sl14 fin
      exact opv_enter (by go_simp <;> rfl) (of_ret7 (of7_c b w1))
    · refine owes_v (Go.Op.indexAddr 50 (Go.Operand.tmp 9) (Go.Operand.tmp 87)) 0 [2] (by kernel_rfl) (by kernel_rfl) (by kernel_rfl) rfl fun vals w1 ρ hG hF hρ hcst hfun => ?_
      have e9 : ρ (.tmp 9) = .pointer (some ⟨G9, 0, none⟩) := ((hρ 9).trans (slotO [2] (by kernel_rfl))).trans sl9
      have e87 : ρ (.tmp 87) = .int .u64 1 := ((hρ 87).trans (slotJ [2] (by rw [hsz]; decide) (by kernel_rfl))).trans (hF 2 (by decide))
      clear hρ hF hcst hfun sl9 sl14 fin
      exact opv_val (by go_simp <;> rfl) ⟨gw_self _, rfl⟩
  · intro vals w1 hG hF
    exact last_list (by kernel_rfl) (by kernel_rfl) (by kernel_rfl) (fin vals w1 hG (hF 4 (by decide +kernel)) (hF 5 (by decide +kernel)))
theorem sc39_0y (Q : Exit → Act → World → Prop) (a0 : Act) (w : World) (G9 G10 G17 G18 : Nat) (a b : Sb) (f0 f1 : Bool) (H9 : Hid (Bk w G9 50 (c14 a b))) (H10 : Hid (Bk w G10 34 #[.bool true, .bool f1])) (H17 : Hid (Bk w G17 33 (c14 a b))) (H18 : Hid (Bk w G18 34 #[.bool true, .bool f1])) (hsz : a0.tmps.size = 164) (sl9 : a0.tmps.getD 9 undef = .pointer (some ⟨G9, 0, none⟩)) (sl10 : a0.tmps.getD 10 undef = .pointer (some ⟨G10, 0, none⟩)) (sl17 : a0.tmps.getD 17 undef = .pointer (some ⟨G17, 0, none⟩)) (sl18 : a0.tmps.getD 18 undef = .pointer (some ⟨G18, 0, none⟩)) (sl20 : a0.tmps.getD 20 undef = .int .i64 0)
    (fin : ∀ (vals : Nat → Value) (w1 : World), Below w.heap.size w w1 → (IsV (.bool true)) (vals 23) w1 → Q .normal (putD vals [113, 114, 115, 116, 117, 118, 119, 120, 121, 122, 123, 124, 125, 126, 127, 128, 129, 130, 131, 132, 133, 134, 135, 21] 0 a0) w1) :
    (Code.region 39 (regIn Try.f4 39) true).wp Try.prog Q a0 w := by
  refine region_by (G := fun w w1 => Below w.heap.size w w1) [IsV (.int .i64 0),
    IsV (.pointer (some ⟨G18, 0, none⟩)),
    IsV (.bool true),
    IsV (.int .i64 0),
    IsV (.pointer (some ⟨G10, 0, none⟩)),
    IsV (.bool true),
    IsV (.bool true),
    IsV (.bool true),
    IsV (.int .i64 0),
    IsV (.pointer (some ⟨G18, 0, none⟩)),
    IsV (.bool true),
    IsV (.bool false),
    IsV (.bool false),
    IsV (.int .i64 0),
    IsV (.pointer (some ⟨G17, 0, none⟩)),
    IsV (.agg #[.int .u64 (U64 a.ep), .int .i64 a.s, .int .i64 a.l, .int .i64 a.n, .int .i64 a.sp, .int .i64 a.wd, .int .u64 (U64 a.lg)]),
    IsV (.agg #[.int .u64 (U64 a.ep), .int .i64 a.s, .int .i64 a.l, .int .i64 a.n, .int .i64 a.sp, .int .i64 a.wd, .int .u64 (U64 a.lg)]),
    IsV (.int .i64 0),
    IsV (.pointer (some ⟨G9, 0, none⟩)),
    IsV (.agg #[.int .u64 (U64 a.ep), .int .i64 a.s, .int .i64 a.l, .int .i64 a.n, .int .i64 a.sp, .int .i64 a.wd, .int .u64 (U64 a.lg)]),
    IsV (.bool true),
    IsV (.bool true),
    IsV (.bool true),
    IsV (.bool true)]
    [113, 114, 115, 116, 117, 118, 119, 120, 121, 122, 123, 124, 125, 126, 127, 128, 129, 130, 131, 132, 133, 134, 135, 21] (by kernel_rfl) (Gw.drew _) Gw.trans (by rw [hsz]; kernel_rfl) (by kernel_rfl) ?_ ?_ ?_
  · intro f hf
    simp only [List.mem_cons, List.not_mem_nil, or_false] at hf
    rcases hf with rfl | rfl | rfl | rfl | rfl | rfl | rfl | rfl | rfl | rfl | rfl | rfl | rfl | rfl | rfl | rfl | rfl | rfl | rfl | rfl | rfl | rfl | rfl | rfl <;> intro v a b h g <;> first | exact IsV.mono h
  · refine ⟨?_, ?_, ?_, ?_, ?_, ?_, ?_, ?_, ?_, ?_, ?_, ?_, ?_, ?_, ?_, ?_, ?_, ?_, ?_, ?_, ?_, ?_, ?_, ?_, trivial⟩
    · exact owes_mv 20 (by kernel_rfl) (by kernel_rfl) (by kernel_rfl) sl20 (fun _ => rfl)
    · refine owes_v (Go.Op.indexAddr 34 (Go.Operand.tmp 18) (Go.Operand.tmp 113)) 0 [0] (by kernel_rfl) (by kernel_rfl) (by kernel_rfl) rfl fun vals w1 ρ hG hF hρ hcst hfun => ?_
      have e18 : ρ (.tmp 18) = .pointer (some ⟨G18, 0, none⟩) := ((hρ 18).trans (slotO [0] (by kernel_rfl))).trans sl18
      have e113 : ρ (.tmp 113) = .int .i64 0 := ((hρ 113).trans (slotJ [0] (by rw [hsz]; decide) (by kernel_rfl))).trans (hF 0 (by decide))
      clear hρ hF hcst hfun sl9 sl10 sl17 sl18 sl20 fin
      exact opv_val (by go_simp <;> rfl) ⟨gw_self _, rfl⟩
    · refine owes_v (Go.Op.load 4 (Go.Operand.tmp 114)) 4 [1] (by kernel_rfl) (by kernel_rfl) (by kernel_rfl) rfl fun vals w1 ρ hG hF hρ hcst hfun => ?_
      have e114 : ρ (.tmp 114) = .pointer (some ⟨G18, 0, none⟩) := ((hρ 114).trans (slotJ [1] (by rw [hsz]; decide) (by kernel_rfl))).trans (hF 1 (by decide))
      have k0 : w1.cell? ⟨G18, 0, none⟩ = some (.bool true) := (H18.out.below hG H18.out.lt).cell 0
      clear hρ hF hcst hfun sl9 sl10 sl17 sl18 sl20 fin
      exact opv_val (by go_simp <;> rfl) ⟨gw_self _, rfl⟩
    · exact owes_mv 20 (by kernel_rfl) (by kernel_rfl) (by kernel_rfl) sl20 (fun _ => rfl)
    · refine owes_v (Go.Op.indexAddr 34 (Go.Operand.tmp 10) (Go.Operand.tmp 116)) 0 [3] (by kernel_rfl) (by kernel_rfl) (by kernel_rfl) rfl fun vals w1 ρ hG hF hρ hcst hfun => ?_
      have e10 : ρ (.tmp 10) = .pointer (some ⟨G10, 0, none⟩) := ((hρ 10).trans (slotO [3] (by kernel_rfl))).trans sl10
      have e116 : ρ (.tmp 116) = .int .i64 0 := ((hρ 116).trans (slotJ [3] (by rw [hsz]; decide) (by kernel_rfl))).trans (hF 3 (by decide))
      clear hρ hF hcst hfun sl9 sl10 sl17 sl18 sl20 fin
      exact opv_val (by go_simp <;> rfl) ⟨gw_self _, rfl⟩
    · refine owes_v (Go.Op.load 4 (Go.Operand.tmp 117)) 4 [4] (by kernel_rfl) (by kernel_rfl) (by kernel_rfl) rfl fun vals w1 ρ hG hF hρ hcst hfun => ?_
      have e117 : ρ (.tmp 117) = .pointer (some ⟨G10, 0, none⟩) := ((hρ 117).trans (slotJ [4] (by rw [hsz]; decide) (by kernel_rfl))).trans (hF 4 (by decide))
      have k0 : w1.cell? ⟨G10, 0, none⟩ = some (.bool true) := (H10.out.below hG H10.out.lt).cell 0
      clear hρ hF hcst hfun sl9 sl10 sl17 sl18 sl20 fin
      exact opv_val (by go_simp <;> rfl) ⟨gw_self _, rfl⟩
    · refine owes_v (Go.Op.binOp Go.BinOp.eql 4 (Go.Operand.tmp 115) (Go.Operand.tmp 118) 4) 4 [2, 5] (by kernel_rfl) (by kernel_rfl) (by kernel_rfl) rfl fun vals w1 ρ hG hF hρ hcst hfun => ?_
      have e115 : ρ (.tmp 115) = .bool true := ((hρ 115).trans (slotJ [2, 5] (by rw [hsz]; decide) (by kernel_rfl))).trans (hF 2 (by decide))
      have e118 : ρ (.tmp 118) = .bool true := ((hρ 118).trans (slotJ [2, 5] (by rw [hsz]; decide) (by kernel_rfl))).trans (hF 5 (by decide))
      clear hρ hF hcst hfun sl9 sl10 sl17 sl18 sl20 fin
      exact opv_val (by go_simp <;> rfl) ⟨gw_self _, rfl⟩
    · exact owes_mvj 6 119 (by kernel_rfl) (by kernel_rfl) (by kernel_rfl) (by kernel_rfl) (by rw [hsz]; decide) (fun v w h => h)
    · refine owes_vt 7 true (Go.Op.move (Go.Operand.tmp 20)) 3 [] (by kernel_rfl) (by kernel_rfl) (by kernel_rfl) (fun _ _ h => h) (by rw [hsz]; kernel_rfl) (by kernel_rfl) rfl fun vals w1 ρ hG hF hρ hcst hfun => ?_
      have e20 : ρ (.tmp 20) = .int .i64 0 := ((hρ 20).trans (slotO [] (by kernel_rfl))).trans sl20
      clear hρ hF hcst hfun sl9 sl10 sl17 sl18 sl20 fin
      exact opv_val (by go_simp <;> rfl) ⟨gw_self _, rfl⟩
    · refine owes_vt 7 true (Go.Op.indexAddr 34 (Go.Operand.tmp 18) (Go.Operand.tmp 121)) 0 [8] (by kernel_rfl) (by kernel_rfl) (by kernel_rfl) (fun _ _ h => h) (by rw [hsz]; kernel_rfl) (by kernel_rfl) rfl fun vals w1 ρ hG hF hρ hcst hfun => ?_
      have e18 : ρ (.tmp 18) = .pointer (some ⟨G18, 0, none⟩) := ((hρ 18).trans (slotO [8] (by kernel_rfl))).trans sl18
      have e121 : ρ (.tmp 121) = .int .i64 0 := ((hρ 121).trans (slotJ [8] (by rw [hsz]; decide) (by kernel_rfl))).trans (hF 8 (by decide))
      clear hρ hF hcst hfun sl9 sl10 sl17 sl18 sl20 fin
      exact opv_val (by go_simp <;> rfl) ⟨gw_self _, rfl⟩
    · refine owes_vt 7 true (Go.Op.load 4 (Go.Operand.tmp 122)) 4 [9] (by kernel_rfl) (by kernel_rfl) (by kernel_rfl) (fun _ _ h => h) (by rw [hsz]; kernel_rfl) (by kernel_rfl) rfl fun vals w1 ρ hG hF hρ hcst hfun => ?_
      have e122 : ρ (.tmp 122) = .pointer (some ⟨G18, 0, none⟩) := ((hρ 122).trans (slotJ [9] (by rw [hsz]; decide) (by kernel_rfl))).trans (hF 9 (by decide))
      have k0 : w1.cell? ⟨G18, 0, none⟩ = some (.bool true) := (H18.out.below hG H18.out.lt).cell 0
      clear hρ hF hcst hfun sl9 sl10 sl17 sl18 sl20 fin
      exact opv_val (by go_simp <;> rfl) ⟨gw_self _, rfl⟩
    · refine owes_vt 7 true (Go.Op.unOp Go.UnOp.not 4 (Go.Operand.tmp 123)) 4 [10] (by kernel_rfl) (by kernel_rfl) (by kernel_rfl) (fun _ _ h => h) (by rw [hsz]; kernel_rfl) (by kernel_rfl) rfl fun vals w1 ρ hG hF hρ hcst hfun => ?_
      have e123 : ρ (.tmp 123) = .bool true := ((hρ 123).trans (slotJ [10] (by rw [hsz]; decide) (by kernel_rfl))).trans (hF 10 (by decide))
      clear hρ hF hcst hfun sl9 sl10 sl17 sl18 sl20 fin
      exact opv_val (by go_simp <;> rfl) ⟨gw_self _, rfl⟩
    · refine owes_vt 7 true (Go.Op.move (Go.Operand.tmp 124)) 4 [11] (by kernel_rfl) (by kernel_rfl) (by kernel_rfl) (fun _ _ h => h) (by rw [hsz]; kernel_rfl) (by kernel_rfl) rfl fun vals w1 ρ hG hF hρ hcst hfun => ?_
      have e124 : ρ (.tmp 124) = .bool false := ((hρ 124).trans (slotJ [11] (by rw [hsz]; decide) (by kernel_rfl))).trans (hF 11 (by decide))
      clear hρ hF hcst hfun sl9 sl10 sl17 sl18 sl20 fin
      exact opv_val (by go_simp <;> rfl) ⟨gw_self _, rfl⟩
    · refine owes_vt 12 false (Go.Op.move (Go.Operand.tmp 20)) 3 [] (by kernel_rfl) (by kernel_rfl) (by kernel_rfl) (fun _ _ h => h) (by rw [hsz]; kernel_rfl) (by kernel_rfl) rfl fun vals w1 ρ hG hF hρ hcst hfun => ?_
      have e20 : ρ (.tmp 20) = .int .i64 0 := ((hρ 20).trans (slotO [] (by kernel_rfl))).trans sl20
      clear hρ hF hcst hfun sl9 sl10 sl17 sl18 sl20 fin
      exact opv_val (by go_simp <;> rfl) ⟨gw_self _, rfl⟩
    · refine owes_vt 12 false (Go.Op.indexAddr 33 (Go.Operand.tmp 17) (Go.Operand.tmp 126)) 0 [13] (by kernel_rfl) (by kernel_rfl) (by kernel_rfl) (fun _ _ h => h) (by rw [hsz]; kernel_rfl) (by kernel_rfl) rfl fun vals w1 ρ hG hF hρ hcst hfun => ?_
      have e17 : ρ (.tmp 17) = .pointer (some ⟨G17, 0, none⟩) := ((hρ 17).trans (slotO [13] (by kernel_rfl))).trans sl17
      have e126 : ρ (.tmp 126) = .int .i64 0 := ((hρ 126).trans (slotJ [13] (by rw [hsz]; decide) (by kernel_rfl))).trans (hF 13 (by decide))
      clear hρ hF hcst hfun sl9 sl10 sl17 sl18 sl20 fin
      exact opv_val (by go_simp <;> rfl) ⟨gw_self _, rfl⟩
    · refine owes_vt 12 false (Go.Op.load 32 (Go.Operand.tmp 127)) 32 [14] (by kernel_rfl) (by kernel_rfl) (by kernel_rfl) (fun _ _ h => h) (by rw [hsz]; kernel_rfl) (by kernel_rfl) rfl fun vals w1 ρ hG hF hρ hcst hfun => ?_
      have e127 : ρ (.tmp 127) = .pointer (some ⟨G17, 0, none⟩) := ((hρ 127).trans (slotJ [14] (by rw [hsz]; decide) (by kernel_rfl))).trans (hF 14 (by decide))
      obtain ⟨⟨x0, x1, x2, x3, x4, x5, x6⟩, x7, x8, x9, x10, x11, x12, x13⟩ := (H17.out.below hG H17.out.lt).cut7
      clear hρ hF hcst hfun sl9 sl10 sl17 sl18 sl20 fin
      exact opv_val (by go_simp <;> rfl) ⟨gw_self _, rfl⟩
    · refine owes_vt 12 false (Go.Op.call { callee := Go.Callee.value (Go.Operand.func 12), args := #[Go.Operand.tmp 128], argTypes := #[32] }) 41 [15] (by kernel_rfl) (by kernel_rfl) (by kernel_rfl) (fun _ _ h => h) (by rw [hsz]; kernel_rfl) (by kernel_rfl) rfl fun vals w1 ρ hG hF hρ hcst hfun => ?_
      have e128 : ρ (.tmp 128) = .agg #[.int .u64 (U64 a.ep), .int .i64 a.s, .int .i64 a.l, .int .i64 a.n, .int .i64 a.sp, .int .i64 a.wd, .int .u64 (U64 a.lg)] := ((hρ 128).trans (slotJ [15] (by rw [hsz]; decide) (by kernel_rfl))).trans (hF 15 (by decide))
      clear hρ hF hcst sl9 sl10 sl17 sl18 sl20 fin
      exact opv_enter (by go_simp <;> rfl) (of_ret7 (of7_c a w1))
    · refine owes_vt 12 false (Go.Op.move (Go.Operand.tmp 20)) 3 [] (by kernel_rfl) (by kernel_rfl) (by kernel_rfl) (fun _ _ h => h) (by rw [hsz]; kernel_rfl) (by kernel_rfl) rfl fun vals w1 ρ hG hF hρ hcst hfun => ?_
      have e20 : ρ (.tmp 20) = .int .i64 0 := ((hρ 20).trans (slotO [] (by kernel_rfl))).trans sl20
      clear hρ hF hcst hfun sl9 sl10 sl17 sl18 sl20 fin
      exact opv_val (by go_simp <;> rfl) ⟨gw_self _, rfl⟩
    · refine owes_vt 12 false (Go.Op.indexAddr 50 (Go.Operand.tmp 9) (Go.Operand.tmp 130)) 0 [17] (by kernel_rfl) (by kernel_rfl) (by kernel_rfl) (fun _ _ h => h) (by rw [hsz]; kernel_rfl) (by kernel_rfl) rfl fun vals w1 ρ hG hF hρ hcst hfun => ?_
      have e9 : ρ (.tmp 9) = .pointer (some ⟨G9, 0, none⟩) := ((hρ 9).trans (slotO [17] (by kernel_rfl))).trans sl9
      have e130 : ρ (.tmp 130) = .int .i64 0 := ((hρ 130).trans (slotJ [17] (by rw [hsz]; decide) (by kernel_rfl))).trans (hF 17 (by decide))
      clear hρ hF hcst hfun sl9 sl10 sl17 sl18 sl20 fin
      exact opv_val (by go_simp <;> rfl) ⟨gw_self _, rfl⟩
    · refine owes_vt 12 false (Go.Op.load 41 (Go.Operand.tmp 131)) 41 [18] (by kernel_rfl) (by kernel_rfl) (by kernel_rfl) (fun _ _ h => h) (by rw [hsz]; kernel_rfl) (by kernel_rfl) rfl fun vals w1 ρ hG hF hρ hcst hfun => ?_
      have e131 : ρ (.tmp 131) = .pointer (some ⟨G9, 0, none⟩) := ((hρ 131).trans (slotJ [18] (by rw [hsz]; decide) (by kernel_rfl))).trans (hF 18 (by decide))
      obtain ⟨⟨x0, x1, x2, x3, x4, x5, x6⟩, x7, x8, x9, x10, x11, x12, x13⟩ := (H9.out.below hG H9.out.lt).cut7
      clear hρ hF hcst hfun sl9 sl10 sl17 sl18 sl20 fin
      exact opv_val (by go_simp <;> rfl) ⟨gw_self _, rfl⟩
    · refine owes_vt 12 false (Go.Op.binOp Go.BinOp.eql 41 (Go.Operand.tmp 129) (Go.Operand.tmp 132) 41) 4 [16, 19] (by kernel_rfl) (by kernel_rfl) (by kernel_rfl) (fun _ _ h => h) (by rw [hsz]; kernel_rfl) (by kernel_rfl) rfl fun vals w1 ρ hG hF hρ hcst hfun => ?_
      have e129 : ρ (.tmp 129) = .agg #[.int .u64 (U64 a.ep), .int .i64 a.s, .int .i64 a.l, .int .i64 a.n, .int .i64 a.sp, .int .i64 a.wd, .int .u64 (U64 a.lg)] := ((hρ 129).trans (slotJ [16, 19] (by rw [hsz]; decide) (by kernel_rfl))).trans (hF 16 (by decide))
      have e132 : ρ (.tmp 132) = .agg #[.int .u64 (U64 a.ep), .int .i64 a.s, .int .i64 a.l, .int .i64 a.n, .int .i64 a.sp, .int .i64 a.wd, .int .u64 (U64 a.lg)] := ((hρ 132).trans (slotJ [16, 19] (by rw [hsz]; decide) (by kernel_rfl))).trans (hF 19 (by decide))
      have q := eqR7 a.ep a.lg a.s a.l a.n a.sp a.wd
      clear hρ hF hcst hfun sl9 sl10 sl17 sl18 sl20 fin
      exact opv_val (by go_simp <;> rfl) ⟨gw_self _, rfl⟩
    · refine owes_vt 7 true (Go.Op.pick (Go.Operand.tmp 125) (Go.Operand.const (Go.Value.bool true)) (Go.Operand.tmp 133)) 4 [12, 20] (by kernel_rfl) (by kernel_rfl) (by kernel_rfl) (fun _ _ h => h) (by rw [hsz]; kernel_rfl) (by kernel_rfl) rfl fun vals w1 ρ hG hF hρ hcst hfun => ?_
      have e125 : ρ (.tmp 125) = .bool false := ((hρ 125).trans (slotJ [12, 20] (by rw [hsz]; decide) (by kernel_rfl))).trans (hF 12 (by decide))
      have e133 : ρ (.tmp 133) = .bool true := ((hρ 133).trans (slotJ [12, 20] (by rw [hsz]; decide) (by kernel_rfl))).trans (hF 20 (by decide))
      clear hρ hF hfun sl9 sl10 sl17 sl18 sl20 fin
      exact opv_val (by go_simp <;> rfl) ⟨gw_self _, rfl⟩
    · refine owes_v (Go.Op.pick (Go.Operand.tmp 120) (Go.Operand.tmp 134) (Go.Operand.const (Go.Value.bool false))) 4 [7, 21] (by kernel_rfl) (by kernel_rfl) (by kernel_rfl) rfl fun vals w1 ρ hG hF hρ hcst hfun => ?_
      have e120 : ρ (.tmp 120) = .bool true := ((hρ 120).trans (slotJ [7, 21] (by rw [hsz]; decide) (by kernel_rfl))).trans (hF 7 (by decide))
      have e134 : ρ (.tmp 134) = .bool true := ((hρ 134).trans (slotJ [7, 21] (by rw [hsz]; decide) (by kernel_rfl))).trans (hF 21 (by decide))
      clear hρ hF hfun sl9 sl10 sl17 sl18 sl20 fin
      exact opv_val (by go_simp <;> rfl) ⟨gw_self _, rfl⟩
    · exact owes_mvj 22 135 (by kernel_rfl) (by kernel_rfl) (by kernel_rfl) (by kernel_rfl) (by rw [hsz]; decide) (fun v w h => h)
  · intro vals w1 hG hF
    exact fin vals w1 hG (hF 23 (by decide +kernel))
theorem sc39_0n (Q : Exit → Act → World → Prop) (a0 : Act) (w : World) (G9 G10 G17 G18 : Nat) (a b : Sb) (f0 f1 : Bool) (H9 : Hid (Bk w G9 50 (c14 a b))) (H10 : Hid (Bk w G10 34 #[.bool false, .bool f1])) (H17 : Hid (Bk w G17 33 (c14 a b))) (H18 : Hid (Bk w G18 34 #[.bool false, .bool f1])) (hsz : a0.tmps.size = 164) (sl10 : a0.tmps.getD 10 undef = .pointer (some ⟨G10, 0, none⟩)) (sl18 : a0.tmps.getD 18 undef = .pointer (some ⟨G18, 0, none⟩)) (sl20 : a0.tmps.getD 20 undef = .int .i64 0)
    (fin : ∀ (vals : Nat → Value) (w1 : World), Below w.heap.size w w1 → (IsV (.bool true)) (vals 23) w1 → Q .normal (putD vals [113, 114, 115, 116, 117, 118, 119, 120, 121, 122, 123, 124, 125, 126, 127, 128, 129, 130, 131, 132, 133, 134, 135, 21] 0 a0) w1) :
    (Code.region 39 (regIn Try.f4 39) true).wp Try.prog Q a0 w := by
  refine region_by (G := fun w w1 => Below w.heap.size w w1) [IsV (.int .i64 0),
    IsV (.pointer (some ⟨G18, 0, none⟩)),
    IsV (.bool false),
    IsV (.int .i64 0),
    IsV (.pointer (some ⟨G10, 0, none⟩)),
    IsV (.bool false),
    IsV (.bool true),
    IsV (.bool true),
    IsV (.int .i64 0),
    IsV (.pointer (some ⟨G18, 0, none⟩)),
    IsV (.bool false),
    IsV (.bool true),
    IsV (.bool true),
    IsV undef,
    IsV undef,
    IsV undef,
    IsV undef,
    IsV undef,
    IsV undef,
    IsV undef,
    IsV undef,
    IsV (.bool true),
    IsV (.bool true),
    IsV (.bool true)]
    [113, 114, 115, 116, 117, 118, 119, 120, 121, 122, 123, 124, 125, 126, 127, 128, 129, 130, 131, 132, 133, 134, 135, 21] (by kernel_rfl) (Gw.drew _) Gw.trans (by rw [hsz]; kernel_rfl) (by kernel_rfl) ?_ ?_ ?_
  · intro f hf
    simp only [List.mem_cons, List.not_mem_nil, or_false] at hf
    rcases hf with rfl | rfl | rfl | rfl | rfl | rfl | rfl | rfl | rfl | rfl | rfl | rfl | rfl | rfl | rfl | rfl | rfl | rfl | rfl | rfl | rfl | rfl | rfl | rfl <;> intro v a b h g <;> first | exact IsV.mono h
  · refine ⟨?_, ?_, ?_, ?_, ?_, ?_, ?_, ?_, ?_, ?_, ?_, ?_, ?_, ?_, ?_, ?_, ?_, ?_, ?_, ?_, ?_, ?_, ?_, ?_, trivial⟩
    · exact owes_mv 20 (by kernel_rfl) (by kernel_rfl) (by kernel_rfl) sl20 (fun _ => rfl)
    · refine owes_v (Go.Op.indexAddr 34 (Go.Operand.tmp 18) (Go.Operand.tmp 113)) 0 [0] (by kernel_rfl) (by kernel_rfl) (by kernel_rfl) rfl fun vals w1 ρ hG hF hρ hcst hfun => ?_
      have e18 : ρ (.tmp 18) = .pointer (some ⟨G18, 0, none⟩) := ((hρ 18).trans (slotO [0] (by kernel_rfl))).trans sl18
      have e113 : ρ (.tmp 113) = .int .i64 0 := ((hρ 113).trans (slotJ [0] (by rw [hsz]; decide) (by kernel_rfl))).trans (hF 0 (by decide))
      clear hρ hF hcst hfun sl10 sl18 sl20 fin
      exact opv_val (by go_simp <;> rfl) ⟨gw_self _, rfl⟩
    · refine owes_v (Go.Op.load 4 (Go.Operand.tmp 114)) 4 [1] (by kernel_rfl) (by kernel_rfl) (by kernel_rfl) rfl fun vals w1 ρ hG hF hρ hcst hfun => ?_
      have e114 : ρ (.tmp 114) = .pointer (some ⟨G18, 0, none⟩) := ((hρ 114).trans (slotJ [1] (by rw [hsz]; decide) (by kernel_rfl))).trans (hF 1 (by decide))
      have k0 : w1.cell? ⟨G18, 0, none⟩ = some (.bool false) := (H18.out.below hG H18.out.lt).cell 0
      clear hρ hF hcst hfun sl10 sl18 sl20 fin
      exact opv_val (by go_simp <;> rfl) ⟨gw_self _, rfl⟩
    · exact owes_mv 20 (by kernel_rfl) (by kernel_rfl) (by kernel_rfl) sl20 (fun _ => rfl)
    · refine owes_v (Go.Op.indexAddr 34 (Go.Operand.tmp 10) (Go.Operand.tmp 116)) 0 [3] (by kernel_rfl) (by kernel_rfl) (by kernel_rfl) rfl fun vals w1 ρ hG hF hρ hcst hfun => ?_
      have e10 : ρ (.tmp 10) = .pointer (some ⟨G10, 0, none⟩) := ((hρ 10).trans (slotO [3] (by kernel_rfl))).trans sl10
      have e116 : ρ (.tmp 116) = .int .i64 0 := ((hρ 116).trans (slotJ [3] (by rw [hsz]; decide) (by kernel_rfl))).trans (hF 3 (by decide))
      clear hρ hF hcst hfun sl10 sl18 sl20 fin
      exact opv_val (by go_simp <;> rfl) ⟨gw_self _, rfl⟩
    · refine owes_v (Go.Op.load 4 (Go.Operand.tmp 117)) 4 [4] (by kernel_rfl) (by kernel_rfl) (by kernel_rfl) rfl fun vals w1 ρ hG hF hρ hcst hfun => ?_
      have e117 : ρ (.tmp 117) = .pointer (some ⟨G10, 0, none⟩) := ((hρ 117).trans (slotJ [4] (by rw [hsz]; decide) (by kernel_rfl))).trans (hF 4 (by decide))
      have k0 : w1.cell? ⟨G10, 0, none⟩ = some (.bool false) := (H10.out.below hG H10.out.lt).cell 0
      clear hρ hF hcst hfun sl10 sl18 sl20 fin
      exact opv_val (by go_simp <;> rfl) ⟨gw_self _, rfl⟩
    · refine owes_v (Go.Op.binOp Go.BinOp.eql 4 (Go.Operand.tmp 115) (Go.Operand.tmp 118) 4) 4 [2, 5] (by kernel_rfl) (by kernel_rfl) (by kernel_rfl) rfl fun vals w1 ρ hG hF hρ hcst hfun => ?_
      have e115 : ρ (.tmp 115) = .bool false := ((hρ 115).trans (slotJ [2, 5] (by rw [hsz]; decide) (by kernel_rfl))).trans (hF 2 (by decide))
      have e118 : ρ (.tmp 118) = .bool false := ((hρ 118).trans (slotJ [2, 5] (by rw [hsz]; decide) (by kernel_rfl))).trans (hF 5 (by decide))
      clear hρ hF hcst hfun sl10 sl18 sl20 fin
      exact opv_val (by go_simp <;> rfl) ⟨gw_self _, rfl⟩
    · exact owes_mvj 6 119 (by kernel_rfl) (by kernel_rfl) (by kernel_rfl) (by kernel_rfl) (by rw [hsz]; decide) (fun v w h => h)
    · refine owes_vt 7 true (Go.Op.move (Go.Operand.tmp 20)) 3 [] (by kernel_rfl) (by kernel_rfl) (by kernel_rfl) (fun _ _ h => h) (by rw [hsz]; kernel_rfl) (by kernel_rfl) rfl fun vals w1 ρ hG hF hρ hcst hfun => ?_
      have e20 : ρ (.tmp 20) = .int .i64 0 := ((hρ 20).trans (slotO [] (by kernel_rfl))).trans sl20
      clear hρ hF hcst hfun sl10 sl18 sl20 fin
      exact opv_val (by go_simp <;> rfl) ⟨gw_self _, rfl⟩
    · refine owes_vt 7 true (Go.Op.indexAddr 34 (Go.Operand.tmp 18) (Go.Operand.tmp 121)) 0 [8] (by kernel_rfl) (by kernel_rfl) (by kernel_rfl) (fun _ _ h => h) (by rw [hsz]; kernel_rfl) (by kernel_rfl) rfl fun vals w1 ρ hG hF hρ hcst hfun => ?_
      have e18 : ρ (.tmp 18) = .pointer (some ⟨G18, 0, none⟩) := ((hρ 18).trans (slotO [8] (by kernel_rfl))).trans sl18
      have e121 : ρ (.tmp 121) = .int .i64 0 := ((hρ 121).trans (slotJ [8] (by rw [hsz]; decide) (by kernel_rfl))).trans (hF 8 (by decide))
      clear hρ hF hcst hfun sl10 sl18 sl20 fin
      exact opv_val (by go_simp <;> rfl) ⟨gw_self _, rfl⟩
    · refine owes_vt 7 true (Go.Op.load 4 (Go.Operand.tmp 122)) 4 [9] (by kernel_rfl) (by kernel_rfl) (by kernel_rfl) (fun _ _ h => h) (by rw [hsz]; kernel_rfl) (by kernel_rfl) rfl fun vals w1 ρ hG hF hρ hcst hfun => ?_
      have e122 : ρ (.tmp 122) = .pointer (some ⟨G18, 0, none⟩) := ((hρ 122).trans (slotJ [9] (by rw [hsz]; decide) (by kernel_rfl))).trans (hF 9 (by decide))
      have k0 : w1.cell? ⟨G18, 0, none⟩ = some (.bool false) := (H18.out.below hG H18.out.lt).cell 0
      clear hρ hF hcst hfun sl10 sl18 sl20 fin
      exact opv_val (by go_simp <;> rfl) ⟨gw_self _, rfl⟩
    · refine owes_vt 7 true (Go.Op.unOp Go.UnOp.not 4 (Go.Operand.tmp 123)) 4 [10] (by kernel_rfl) (by kernel_rfl) (by kernel_rfl) (fun _ _ h => h) (by rw [hsz]; kernel_rfl) (by kernel_rfl) rfl fun vals w1 ρ hG hF hρ hcst hfun => ?_
      have e123 : ρ (.tmp 123) = .bool false := ((hρ 123).trans (slotJ [10] (by rw [hsz]; decide) (by kernel_rfl))).trans (hF 10 (by decide))
      clear hρ hF hcst hfun sl10 sl18 sl20 fin
      exact opv_val (by go_simp <;> rfl) ⟨gw_self _, rfl⟩
    · refine owes_vt 7 true (Go.Op.move (Go.Operand.tmp 124)) 4 [11] (by kernel_rfl) (by kernel_rfl) (by kernel_rfl) (fun _ _ h => h) (by rw [hsz]; kernel_rfl) (by kernel_rfl) rfl fun vals w1 ρ hG hF hρ hcst hfun => ?_
      have e124 : ρ (.tmp 124) = .bool true := ((hρ 124).trans (slotJ [11] (by rw [hsz]; decide) (by kernel_rfl))).trans (hF 11 (by decide))
      clear hρ hF hcst hfun sl10 sl18 sl20 fin
      exact opv_val (by go_simp <;> rfl) ⟨gw_self _, rfl⟩
    · exact owes_no 12 true false (by decide) (by kernel_rfl) (by kernel_rfl) (fun _ _ h => h) (by rw [hsz]; kernel_rfl) (fun _ => rfl)
    · exact owes_no 12 true false (by decide) (by kernel_rfl) (by kernel_rfl) (fun _ _ h => h) (by rw [hsz]; kernel_rfl) (fun _ => rfl)
    · exact owes_no 12 true false (by decide) (by kernel_rfl) (by kernel_rfl) (fun _ _ h => h) (by rw [hsz]; kernel_rfl) (fun _ => rfl)
    · exact owes_no 12 true false (by decide) (by kernel_rfl) (by kernel_rfl) (fun _ _ h => h) (by rw [hsz]; kernel_rfl) (fun _ => rfl)
    · exact owes_no 12 true false (by decide) (by kernel_rfl) (by kernel_rfl) (fun _ _ h => h) (by rw [hsz]; kernel_rfl) (fun _ => rfl)
    · exact owes_no 12 true false (by decide) (by kernel_rfl) (by kernel_rfl) (fun _ _ h => h) (by rw [hsz]; kernel_rfl) (fun _ => rfl)
    · exact owes_no 12 true false (by decide) (by kernel_rfl) (by kernel_rfl) (fun _ _ h => h) (by rw [hsz]; kernel_rfl) (fun _ => rfl)
    · exact owes_no 12 true false (by decide) (by kernel_rfl) (by kernel_rfl) (fun _ _ h => h) (by rw [hsz]; kernel_rfl) (fun _ => rfl)
    · refine owes_vt 7 true (Go.Op.pick (Go.Operand.tmp 125) (Go.Operand.const (Go.Value.bool true)) (Go.Operand.tmp 133)) 4 [12, 20] (by kernel_rfl) (by kernel_rfl) (by kernel_rfl) (fun _ _ h => h) (by rw [hsz]; kernel_rfl) (by kernel_rfl) rfl fun vals w1 ρ hG hF hρ hcst hfun => ?_
      have e125 : ρ (.tmp 125) = .bool true := ((hρ 125).trans (slotJ [12, 20] (by rw [hsz]; decide) (by kernel_rfl))).trans (hF 12 (by decide))
      have e133 : ρ (.tmp 133) = undef := ((hρ 133).trans (slotJ [12, 20] (by rw [hsz]; decide) (by kernel_rfl))).trans (hF 20 (by decide))
      clear hρ hF hfun sl10 sl18 sl20 fin
      exact opv_val (by go_simp <;> rfl) ⟨gw_self _, rfl⟩
    · refine owes_v (Go.Op.pick (Go.Operand.tmp 120) (Go.Operand.tmp 134) (Go.Operand.const (Go.Value.bool false))) 4 [7, 21] (by kernel_rfl) (by kernel_rfl) (by kernel_rfl) rfl fun vals w1 ρ hG hF hρ hcst hfun => ?_
      have e120 : ρ (.tmp 120) = .bool true := ((hρ 120).trans (slotJ [7, 21] (by rw [hsz]; decide) (by kernel_rfl))).trans (hF 7 (by decide))
      have e134 : ρ (.tmp 134) = .bool true := ((hρ 134).trans (slotJ [7, 21] (by rw [hsz]; decide) (by kernel_rfl))).trans (hF 21 (by decide))
      clear hρ hF hfun sl10 sl18 sl20 fin
      exact opv_val (by go_simp <;> rfl) ⟨gw_self _, rfl⟩
    · exact owes_mvj 22 135 (by kernel_rfl) (by kernel_rfl) (by kernel_rfl) (by kernel_rfl) (by rw [hsz]; decide) (fun v w h => h)
  · intro vals w1 hG hF
    exact fin vals w1 hG (hF 23 (by decide +kernel))
theorem sc39_1y (Q : Exit → Act → World → Prop) (a0 : Act) (w : World) (G9 G10 G17 G18 : Nat) (a b : Sb) (f0 f1 : Bool) (H9 : Hid (Bk w G9 50 (c14 a b))) (H10 : Hid (Bk w G10 34 #[.bool f0, .bool true])) (H17 : Hid (Bk w G17 33 (c14 a b))) (H18 : Hid (Bk w G18 34 #[.bool f0, .bool true])) (hsz : a0.tmps.size = 164) (sl9 : a0.tmps.getD 9 undef = .pointer (some ⟨G9, 0, none⟩)) (sl10 : a0.tmps.getD 10 undef = .pointer (some ⟨G10, 0, none⟩)) (sl17 : a0.tmps.getD 17 undef = .pointer (some ⟨G17, 0, none⟩)) (sl18 : a0.tmps.getD 18 undef = .pointer (some ⟨G18, 0, none⟩)) (sl20 : a0.tmps.getD 20 undef = .int .i64 1)
    (fin : ∀ (vals : Nat → Value) (w1 : World), Below w.heap.size w w1 → (IsV (.bool true)) (vals 23) w1 → Q .normal (putD vals [113, 114, 115, 116, 117, 118, 119, 120, 121, 122, 123, 124, 125, 126, 127, 128, 129, 130, 131, 132, 133, 134, 135, 21] 0 a0) w1) :
    (Code.region 39 (regIn Try.f4 39) true).wp Try.prog Q a0 w := by
  refine region_by (G := fun w w1 => Below w.heap.size w w1) [IsV (.int .i64 1),
    IsV (.pointer (some ⟨G18, 1, none⟩)),
    IsV (.bool true),
    IsV (.int .i64 1),
    IsV (.pointer (some ⟨G10, 1, none⟩)),
    IsV (.bool true),
    IsV (.bool true),
    IsV (.bool true),
    IsV (.int .i64 1),
    IsV (.pointer (some ⟨G18, 1, none⟩)),
    IsV (.bool true),
    IsV (.bool false),
    IsV (.bool false),
    IsV (.int .i64 1),
    IsV (.pointer (some ⟨G17, 7, none⟩)),
    IsV (.agg #[.int .u64 (U64 b.ep), .int .i64 b.s, .int .i64 b.l, .int .i64 b.n, .int .i64 b.sp, .int .i64 b.wd, .int .u64 (U64 b.lg)]),
    IsV (.agg #[.int .u64 (U64 b.ep), .int .i64 b.s, .int .i64 b.l, .int .i64 b.n, .int .i64 b.sp, .int .i64 b.wd, .int .u64 (U64 b.lg)]),
    IsV (.int .i64 1),
    IsV (.pointer (some ⟨G9, 7, none⟩)),
    IsV (.agg #[.int .u64 (U64 b.ep), .int .i64 b.s, .int .i64 b.l, .int .i64 b.n, .int .i64 b.sp, .int .i64 b.wd, .int .u64 (U64 b.lg)]),
    IsV (.bool true),
    IsV (.bool true),
    IsV (.bool true),
    IsV (.bool true)]
    [113, 114, 115, 116, 117, 118, 119, 120, 121, 122, 123, 124, 125, 126, 127, 128, 129, 130, 131, 132, 133, 134, 135, 21] (by kernel_rfl) (Gw.drew _) Gw.trans (by rw [hsz]; kernel_rfl) (by kernel_rfl) ?_ ?_ ?_
  · intro f hf
    simp only [List.mem_cons, List.not_mem_nil, or_false] at hf
    rcases hf with rfl | rfl | rfl | rfl | rfl | rfl | rfl | rfl | rfl | rfl | rfl | rfl | rfl | rfl | rfl | rfl | rfl | rfl | rfl | rfl | rfl | rfl | rfl | rfl <;> intro v a b h g <;> first | exact IsV.mono h
  · refine ⟨?_, ?_, ?_, ?_, ?_, ?_, ?_, ?_, ?_, ?_, ?_, ?_, ?_, ?_, ?_, ?_, ?_, ?_, ?_, ?_, ?_, ?_, ?_, ?_, trivial⟩
    · exact owes_mv 20 (by kernel_rfl) (by kernel_rfl) (by kernel_rfl) sl20 (fun _ => rfl)
    · refine owes_v (Go.Op.indexAddr 34 (Go.Operand.tmp 18) (Go.Operand.tmp 113)) 0 [0] (by kernel_rfl) (by kernel_rfl) (by kernel_rfl) rfl fun vals w1 ρ hG hF hρ hcst hfun => ?_
      have e18 : ρ (.tmp 18) = .pointer (some ⟨G18, 0, none⟩) := ((hρ 18).trans (slotO [0] (by kernel_rfl))).trans sl18
      have e113 : ρ (.tmp 113) = .int .i64 1 := ((hρ 113).trans (slotJ [0] (by rw [hsz]; decide) (by kernel_rfl))).trans (hF 0 (by decide))
      clear hρ hF hcst hfun sl9 sl10 sl17 sl18 sl20 fin
      exact opv_val (by go_simp <;> rfl) ⟨gw_self _, rfl⟩
    · refine owes_v (Go.Op.load 4 (Go.Operand.tmp 114)) 4 [1] (by kernel_rfl) (by kernel_rfl) (by kernel_rfl) rfl fun vals w1 ρ hG hF hρ hcst hfun => ?_
      have e114 : ρ (.tmp 114) = .pointer (some ⟨G18, 1, none⟩) := ((hρ 114).trans (slotJ [1] (by rw [hsz]; decide) (by kernel_rfl))).trans (hF 1 (by decide))
      have k0 : w1.cell? ⟨G18, 1, none⟩ = some (.bool true) := (H18.out.below hG H18.out.lt).cell 1
      clear hρ hF hcst hfun sl9 sl10 sl17 sl18 sl20 fin
      exact opv_val (by go_simp <;> rfl) ⟨gw_self _, rfl⟩
    · exact owes_mv 20 (by kernel_rfl) (by kernel_rfl) (by kernel_rfl) sl20 (fun _ => rfl)
    · refine owes_v (Go.Op.indexAddr 34 (Go.Operand.tmp 10) (Go.Operand.tmp 116)) 0 [3] (by kernel_rfl) (by kernel_rfl) (by kernel_rfl) rfl fun vals w1 ρ hG hF hρ hcst hfun => ?_
      have e10 : ρ (.tmp 10) = .pointer (some ⟨G10, 0, none⟩) := ((hρ 10).trans (slotO [3] (by kernel_rfl))).trans sl10
      have e116 : ρ (.tmp 116) = .int .i64 1 := ((hρ 116).trans (slotJ [3] (by rw [hsz]; decide) (by kernel_rfl))).trans (hF 3 (by decide))
      clear hρ hF hcst hfun sl9 sl10 sl17 sl18 sl20 fin
      exact opv_val (by go_simp <;> rfl) ⟨gw_self _, rfl⟩
    · refine owes_v (Go.Op.load 4 (Go.Operand.tmp 117)) 4 [4] (by kernel_rfl) (by kernel_rfl) (by kernel_rfl) rfl fun vals w1 ρ hG hF hρ hcst hfun => ?_
      have e117 : ρ (.tmp 117) = .pointer (some ⟨G10, 1, none⟩) := ((hρ 117).trans (slotJ [4] (by rw [hsz]; decide) (by kernel_rfl))).trans (hF 4 (by decide))
      have k0 : w1.cell? ⟨G10, 1, none⟩ = some (.bool true) := (H10.out.below hG H10.out.lt).cell 1
      clear hρ hF hcst hfun sl9 sl10 sl17 sl18 sl20 fin
      exact opv_val (by go_simp <;> rfl) ⟨gw_self _, rfl⟩
    · refine owes_v (Go.Op.binOp Go.BinOp.eql 4 (Go.Operand.tmp 115) (Go.Operand.tmp 118) 4) 4 [2, 5] (by kernel_rfl) (by kernel_rfl) (by kernel_rfl) rfl fun vals w1 ρ hG hF hρ hcst hfun => ?_
      have e115 : ρ (.tmp 115) = .bool true := ((hρ 115).trans (slotJ [2, 5] (by rw [hsz]; decide) (by kernel_rfl))).trans (hF 2 (by decide))
      have e118 : ρ (.tmp 118) = .bool true := ((hρ 118).trans (slotJ [2, 5] (by rw [hsz]; decide) (by kernel_rfl))).trans (hF 5 (by decide))
      clear hρ hF hcst hfun sl9 sl10 sl17 sl18 sl20 fin
      exact opv_val (by go_simp <;> rfl) ⟨gw_self _, rfl⟩
    · exact owes_mvj 6 119 (by kernel_rfl) (by kernel_rfl) (by kernel_rfl) (by kernel_rfl) (by rw [hsz]; decide) (fun v w h => h)
    · refine owes_vt 7 true (Go.Op.move (Go.Operand.tmp 20)) 3 [] (by kernel_rfl) (by kernel_rfl) (by kernel_rfl) (fun _ _ h => h) (by rw [hsz]; kernel_rfl) (by kernel_rfl) rfl fun vals w1 ρ hG hF hρ hcst hfun => ?_
      have e20 : ρ (.tmp 20) = .int .i64 1 := ((hρ 20).trans (slotO [] (by kernel_rfl))).trans sl20
      clear hρ hF hcst hfun sl9 sl10 sl17 sl18 sl20 fin
      exact opv_val (by go_simp <;> rfl) ⟨gw_self _, rfl⟩
    · refine owes_vt 7 true (Go.Op.indexAddr 34 (Go.Operand.tmp 18) (Go.Operand.tmp 121)) 0 [8] (by kernel_rfl) (by kernel_rfl) (by kernel_rfl) (fun _ _ h => h) (by rw [hsz]; kernel_rfl) (by kernel_rfl) rfl fun vals w1 ρ hG hF hρ hcst hfun => ?_
      have e18 : ρ (.tmp 18) = .pointer (some ⟨G18, 0, none⟩) := ((hρ 18).trans (slotO [8] (by kernel_rfl))).trans sl18
      have e121 : ρ (.tmp 121) = .int .i64 1 := ((hρ 121).trans (slotJ [8] (by rw [hsz]; decide) (by kernel_rfl))).trans (hF 8 (by decide))
      clear hρ hF hcst hfun sl9 sl10 sl17 sl18 sl20 fin
      exact opv_val (by go_simp <;> rfl) ⟨gw_self _, rfl⟩
    · refine owes_vt 7 true (Go.Op.load 4 (Go.Operand.tmp 122)) 4 [9] (by kernel_rfl) (by kernel_rfl) (by kernel_rfl) (fun _ _ h => h) (by rw [hsz]; kernel_rfl) (by kernel_rfl) rfl fun vals w1 ρ hG hF hρ hcst hfun => ?_
      have e122 : ρ (.tmp 122) = .pointer (some ⟨G18, 1, none⟩) := ((hρ 122).trans (slotJ [9] (by rw [hsz]; decide) (by kernel_rfl))).trans (hF 9 (by decide))
      have k0 : w1.cell? ⟨G18, 1, none⟩ = some (.bool true) := (H18.out.below hG H18.out.lt).cell 1
      clear hρ hF hcst hfun sl9 sl10 sl17 sl18 sl20 fin
      exact opv_val (by go_simp <;> rfl) ⟨gw_self _, rfl⟩
    · refine owes_vt 7 true (Go.Op.unOp Go.UnOp.not 4 (Go.Operand.tmp 123)) 4 [10] (by kernel_rfl) (by kernel_rfl) (by kernel_rfl) (fun _ _ h => h) (by rw [hsz]; kernel_rfl) (by kernel_rfl) rfl fun vals w1 ρ hG hF hρ hcst hfun => ?_
      have e123 : ρ (.tmp 123) = .bool true := ((hρ 123).trans (slotJ [10] (by rw [hsz]; decide) (by kernel_rfl))).trans (hF 10 (by decide))
      clear hρ hF hcst hfun sl9 sl10 sl17 sl18 sl20 fin
      exact opv_val (by go_simp <;> rfl) ⟨gw_self _, rfl⟩
    · refine owes_vt 7 true (Go.Op.move (Go.Operand.tmp 124)) 4 [11] (by kernel_rfl) (by kernel_rfl) (by kernel_rfl) (fun _ _ h => h) (by rw [hsz]; kernel_rfl) (by kernel_rfl) rfl fun vals w1 ρ hG hF hρ hcst hfun => ?_
      have e124 : ρ (.tmp 124) = .bool false := ((hρ 124).trans (slotJ [11] (by rw [hsz]; decide) (by kernel_rfl))).trans (hF 11 (by decide))
      clear hρ hF hcst hfun sl9 sl10 sl17 sl18 sl20 fin
      exact opv_val (by go_simp <;> rfl) ⟨gw_self _, rfl⟩
    · refine owes_vt 12 false (Go.Op.move (Go.Operand.tmp 20)) 3 [] (by kernel_rfl) (by kernel_rfl) (by kernel_rfl) (fun _ _ h => h) (by rw [hsz]; kernel_rfl) (by kernel_rfl) rfl fun vals w1 ρ hG hF hρ hcst hfun => ?_
      have e20 : ρ (.tmp 20) = .int .i64 1 := ((hρ 20).trans (slotO [] (by kernel_rfl))).trans sl20
      clear hρ hF hcst hfun sl9 sl10 sl17 sl18 sl20 fin
      exact opv_val (by go_simp <;> rfl) ⟨gw_self _, rfl⟩
    · refine owes_vt 12 false (Go.Op.indexAddr 33 (Go.Operand.tmp 17) (Go.Operand.tmp 126)) 0 [13] (by kernel_rfl) (by kernel_rfl) (by kernel_rfl) (fun _ _ h => h) (by rw [hsz]; kernel_rfl) (by kernel_rfl) rfl fun vals w1 ρ hG hF hρ hcst hfun => ?_
      have e17 : ρ (.tmp 17) = .pointer (some ⟨G17, 0, none⟩) := ((hρ 17).trans (slotO [13] (by kernel_rfl))).trans sl17
      have e126 : ρ (.tmp 126) = .int .i64 1 := ((hρ 126).trans (slotJ [13] (by rw [hsz]; decide) (by kernel_rfl))).trans (hF 13 (by decide))
      clear hρ hF hcst hfun sl9 sl10 sl17 sl18 sl20 fin
      exact opv_val (by go_simp <;> rfl) ⟨gw_self _, rfl⟩
    · refine owes_vt 12 false (Go.Op.load 32 (Go.Operand.tmp 127)) 32 [14] (by kernel_rfl) (by kernel_rfl) (by kernel_rfl) (fun _ _ h => h) (by rw [hsz]; kernel_rfl) (by kernel_rfl) rfl fun vals w1 ρ hG hF hρ hcst hfun => ?_
      have e127 : ρ (.tmp 127) = .pointer (some ⟨G17, 7, none⟩) := ((hρ 127).trans (slotJ [14] (by rw [hsz]; decide) (by kernel_rfl))).trans (hF 14 (by decide))
      obtain ⟨⟨x0, x1, x2, x3, x4, x5, x6⟩, x7, x8, x9, x10, x11, x12, x13⟩ := (H17.out.below hG H17.out.lt).cut7
      clear hρ hF hcst hfun sl9 sl10 sl17 sl18 sl20 fin
      exact opv_val (by go_simp <;> rfl) ⟨gw_self _, rfl⟩
    · refine owes_vt 12 false (Go.Op.call { callee := Go.Callee.value (Go.Operand.func 12), args := #[Go.Operand.tmp 128], argTypes := #[32] }) 41 [15] (by kernel_rfl) (by kernel_rfl) (by kernel_rfl) (fun _ _ h => h) (by rw [hsz]; kernel_rfl) (by kernel_rfl) rfl fun vals w1 ρ hG hF hρ hcst hfun => ?_
      have e128 : ρ (.tmp 128) = .agg #[.int .u64 (U64 b.ep), .int .i64 b.s, .int .i64 b.l, .int .i64 b.n, .int .i64 b.sp, .int .i64 b.wd, .int .u64 (U64 b.lg)] := ((hρ 128).trans (slotJ [15] (by rw [hsz]; decide) (by kernel_rfl))).trans (hF 15 (by decide))
      clear hρ hF hcst sl9 sl10 sl17 sl18 sl20 fin
      exact opv_enter (by go_simp <;> rfl) (of_ret7 (of7_c b w1))
    · refine owes_vt 12 false (Go.Op.move (Go.Operand.tmp 20)) 3 [] (by kernel_rfl) (by kernel_rfl) (by kernel_rfl) (fun _ _ h => h) (by rw [hsz]; kernel_rfl) (by kernel_rfl) rfl fun vals w1 ρ hG hF hρ hcst hfun => ?_
      have e20 : ρ (.tmp 20) = .int .i64 1 := ((hρ 20).trans (slotO [] (by kernel_rfl))).trans sl20
      clear hρ hF hcst hfun sl9 sl10 sl17 sl18 sl20 fin
      exact opv_val (by go_simp <;> rfl) ⟨gw_self _, rfl⟩
    · refine owes_vt 12 false (Go.Op.indexAddr 50 (Go.Operand.tmp 9) (Go.Operand.tmp 130)) 0 [17] (by kernel_rfl) (by kernel_rfl) (by kernel_rfl) (fun _ _ h => h) (by rw [hsz]; kernel_rfl) (by kernel_rfl) rfl fun vals w1 ρ hG hF hρ hcst hfun => ?_
      have e9 : ρ (.tmp 9) = .pointer (some ⟨G9, 0, none⟩) := ((hρ 9).trans (slotO [17] (by kernel_rfl))).trans sl9
      have e130 : ρ (.tmp 130) = .int .i64 1 := ((hρ 130).trans (slotJ [17] (by rw [hsz]; decide) (by kernel_rfl))).trans (hF 17 (by decide))
      clear hρ hF hcst hfun sl9 sl10 sl17 sl18 sl20 fin
      exact opv_val (by go_simp <;> rfl) ⟨gw_self _, rfl⟩
    · refine owes_vt 12 false (Go.Op.load 41 (Go.Operand.tmp 131)) 41 [18] (by kernel_rfl) (by kernel_rfl) (by kernel_rfl) (fun _ _ h => h) (by rw [hsz]; kernel_rfl) (by kernel_rfl) rfl fun vals w1 ρ hG hF hρ hcst hfun => ?_
      have e131 : ρ (.tmp 131) = .pointer (some ⟨G9, 7, none⟩) := ((hρ 131).trans (slotJ [18] (by rw [hsz]; decide) (by kernel_rfl))).trans (hF 18 (by decide))
      obtain ⟨⟨x0, x1, x2, x3, x4, x5, x6⟩, x7, x8, x9, x10, x11, x12, x13⟩ := (H9.out.below hG H9.out.lt).cut7
      clear hρ hF hcst hfun sl9 sl10 sl17 sl18 sl20 fin
      exact opv_val (by go_simp <;> rfl) ⟨gw_self _, rfl⟩
    · refine owes_vt 12 false (Go.Op.binOp Go.BinOp.eql 41 (Go.Operand.tmp 129) (Go.Operand.tmp 132) 41) 4 [16, 19] (by kernel_rfl) (by kernel_rfl) (by kernel_rfl) (fun _ _ h => h) (by rw [hsz]; kernel_rfl) (by kernel_rfl) rfl fun vals w1 ρ hG hF hρ hcst hfun => ?_
      have e129 : ρ (.tmp 129) = .agg #[.int .u64 (U64 b.ep), .int .i64 b.s, .int .i64 b.l, .int .i64 b.n, .int .i64 b.sp, .int .i64 b.wd, .int .u64 (U64 b.lg)] := ((hρ 129).trans (slotJ [16, 19] (by rw [hsz]; decide) (by kernel_rfl))).trans (hF 16 (by decide))
      have e132 : ρ (.tmp 132) = .agg #[.int .u64 (U64 b.ep), .int .i64 b.s, .int .i64 b.l, .int .i64 b.n, .int .i64 b.sp, .int .i64 b.wd, .int .u64 (U64 b.lg)] := ((hρ 132).trans (slotJ [16, 19] (by rw [hsz]; decide) (by kernel_rfl))).trans (hF 19 (by decide))
      have q := eqR7 b.ep b.lg b.s b.l b.n b.sp b.wd
      clear hρ hF hcst hfun sl9 sl10 sl17 sl18 sl20 fin
      exact opv_val (by go_simp <;> rfl) ⟨gw_self _, rfl⟩
    · refine owes_vt 7 true (Go.Op.pick (Go.Operand.tmp 125) (Go.Operand.const (Go.Value.bool true)) (Go.Operand.tmp 133)) 4 [12, 20] (by kernel_rfl) (by kernel_rfl) (by kernel_rfl) (fun _ _ h => h) (by rw [hsz]; kernel_rfl) (by kernel_rfl) rfl fun vals w1 ρ hG hF hρ hcst hfun => ?_
      have e125 : ρ (.tmp 125) = .bool false := ((hρ 125).trans (slotJ [12, 20] (by rw [hsz]; decide) (by kernel_rfl))).trans (hF 12 (by decide))
      have e133 : ρ (.tmp 133) = .bool true := ((hρ 133).trans (slotJ [12, 20] (by rw [hsz]; decide) (by kernel_rfl))).trans (hF 20 (by decide))
      clear hρ hF hfun sl9 sl10 sl17 sl18 sl20 fin
      exact opv_val (by go_simp <;> rfl) ⟨gw_self _, rfl⟩
    · refine owes_v (Go.Op.pick (Go.Operand.tmp 120) (Go.Operand.tmp 134) (Go.Operand.const (Go.Value.bool false))) 4 [7, 21] (by kernel_rfl) (by kernel_rfl) (by kernel_rfl) rfl fun vals w1 ρ hG hF hρ hcst hfun => ?_
      have e120 : ρ (.tmp 120) = .bool true := ((hρ 120).trans (slotJ [7, 21] (by rw [hsz]; decide) (by kernel_rfl))).trans (hF 7 (by decide))
      have e134 : ρ (.tmp 134) = .bool true := ((hρ 134).trans (slotJ [7, 21] (by rw [hsz]; decide) (by kernel_rfl))).trans (hF 21 (by decide))
      clear hρ hF hfun sl9 sl10 sl17 sl18 sl20 fin
      exact opv_val (by go_simp <;> rfl) ⟨gw_self _, rfl⟩
    · exact owes_mvj 22 135 (by kernel_rfl) (by kernel_rfl) (by kernel_rfl) (by kernel_rfl) (by rw [hsz]; decide) (fun v w h => h)
  · intro vals w1 hG hF
    exact fin vals w1 hG (hF 23 (by decide +kernel))
theorem sc39_1n (Q : Exit → Act → World → Prop) (a0 : Act) (w : World) (G9 G10 G17 G18 : Nat) (a b : Sb) (f0 f1 : Bool) (H9 : Hid (Bk w G9 50 (c14 a b))) (H10 : Hid (Bk w G10 34 #[.bool f0, .bool false])) (H17 : Hid (Bk w G17 33 (c14 a b))) (H18 : Hid (Bk w G18 34 #[.bool f0, .bool false])) (hsz : a0.tmps.size = 164) (sl10 : a0.tmps.getD 10 undef = .pointer (some ⟨G10, 0, none⟩)) (sl18 : a0.tmps.getD 18 undef = .pointer (some ⟨G18, 0, none⟩)) (sl20 : a0.tmps.getD 20 undef = .int .i64 1)
    (fin : ∀ (vals : Nat → Value) (w1 : World), Below w.heap.size w w1 → (IsV (.bool true)) (vals 23) w1 → Q .normal (putD vals [113, 114, 115, 116, 117, 118, 119, 120, 121, 122, 123, 124, 125, 126, 127, 128, 129, 130, 131, 132, 133, 134, 135, 21] 0 a0) w1) :
    (Code.region 39 (regIn Try.f4 39) true).wp Try.prog Q a0 w := by
  refine region_by (G := fun w w1 => Below w.heap.size w w1) [IsV (.int .i64 1),
    IsV (.pointer (some ⟨G18, 1, none⟩)),
    IsV (.bool false),
    IsV (.int .i64 1),
    IsV (.pointer (some ⟨G10, 1, none⟩)),
    IsV (.bool false),
    IsV (.bool true),
    IsV (.bool true),
    IsV (.int .i64 1),
    IsV (.pointer (some ⟨G18, 1, none⟩)),
    IsV (.bool false),
    IsV (.bool true),
    IsV (.bool true),
    IsV undef,
    IsV undef,
    IsV undef,
    IsV undef,
    IsV undef,
    IsV undef,
    IsV undef,
    IsV undef,
    IsV (.bool true),
    IsV (.bool true),
    IsV (.bool true)]
    [113, 114, 115, 116, 117, 118, 119, 120, 121, 122, 123, 124, 125, 126, 127, 128, 129, 130, 131, 132, 133, 134, 135, 21] (by kernel_rfl) (Gw.drew _) Gw.trans (by rw [hsz]; kernel_rfl) (by kernel_rfl) ?_ ?_ ?_
  · intro f hf
    simp only [List.mem_cons, List.not_mem_nil, or_false] at hf
    rcases hf with rfl | rfl | rfl | rfl | rfl | rfl | rfl | rfl | rfl | rfl | rfl | rfl | rfl | rfl | rfl | rfl | rfl | rfl | rfl | rfl | rfl | rfl | rfl | rfl <;> intro v a b h g <;> first | exact IsV.mono h
  · refine ⟨?_, ?_, ?_, ?_, ?_, ?_, ?_, ?_, ?_, ?_, ?_, ?_, ?_, ?_, ?_, ?_, ?_, ?_, ?_, ?_, ?_, ?_, ?_, ?_, trivial⟩
    · exact owes_mv 20 (by kernel_rfl) (by kernel_rfl) (by kernel_rfl) sl20 (fun _ => rfl)
    · refine owes_v (Go.Op.indexAddr 34 (Go.Operand.tmp 18) (Go.Operand.tmp 113)) 0 [0] (by kernel_rfl) (by kernel_rfl) (by kernel_rfl) rfl fun vals w1 ρ hG hF hρ hcst hfun => ?_
      have e18 : ρ (.tmp 18) = .pointer (some ⟨G18, 0, none⟩) := ((hρ 18).trans (slotO [0] (by kernel_rfl))).trans sl18
      have e113 : ρ (.tmp 113) = .int .i64 1 := ((hρ 113).trans (slotJ [0] (by rw [hsz]; decide) (by kernel_rfl))).trans (hF 0 (by decide))
      clear hρ hF hcst hfun sl10 sl18 sl20 fin
      exact opv_val (by go_simp <;> rfl) ⟨gw_self _, rfl⟩
    · refine owes_v (Go.Op.load 4 (Go.Operand.tmp 114)) 4 [1] (by kernel_rfl) (by kernel_rfl) (by kernel_rfl) rfl fun vals w1 ρ hG hF hρ hcst hfun => ?_
      have e114 : ρ (.tmp 114) = .pointer (some ⟨G18, 1, none⟩) := ((hρ 114).trans (slotJ [1] (by rw [hsz]; decide) (by kernel_rfl))).trans (hF 1 (by decide))
      have k0 : w1.cell? ⟨G18, 1, none⟩ = some (.bool false) := (H18.out.below hG H18.out.lt).cell 1
      clear hρ hF hcst hfun sl10 sl18 sl20 fin
      exact opv_val (by go_simp <;> rfl) ⟨gw_self _, rfl⟩
    · exact owes_mv 20 (by kernel_rfl) (by kernel_rfl) (by kernel_rfl) sl20 (fun _ => rfl)
    · refine owes_v (Go.Op.indexAddr 34 (Go.Operand.tmp 10) (Go.Operand.tmp 116)) 0 [3] (by kernel_rfl) (by kernel_rfl) (by kernel_rfl) rfl fun vals w1 ρ hG hF hρ hcst hfun => ?_
      have e10 : ρ (.tmp 10) = .pointer (some ⟨G10, 0, none⟩) := ((hρ 10).trans (slotO [3] (by kernel_rfl))).trans sl10
      have e116 : ρ (.tmp 116) = .int .i64 1 := ((hρ 116).trans (slotJ [3] (by rw [hsz]; decide) (by kernel_rfl))).trans (hF 3 (by decide))
      clear hρ hF hcst hfun sl10 sl18 sl20 fin
      exact opv_val (by go_simp <;> rfl) ⟨gw_self _, rfl⟩
    · refine owes_v (Go.Op.load 4 (Go.Operand.tmp 117)) 4 [4] (by kernel_rfl) (by kernel_rfl) (by kernel_rfl) rfl fun vals w1 ρ hG hF hρ hcst hfun => ?_
      have e117 : ρ (.tmp 117) = .pointer (some ⟨G10, 1, none⟩) := ((hρ 117).trans (slotJ [4] (by rw [hsz]; decide) (by kernel_rfl))).trans (hF 4 (by decide))
      have k0 : w1.cell? ⟨G10, 1, none⟩ = some (.bool false) := (H10.out.below hG H10.out.lt).cell 1
      clear hρ hF hcst hfun sl10 sl18 sl20 fin
      exact opv_val (by go_simp <;> rfl) ⟨gw_self _, rfl⟩
    · refine owes_v (Go.Op.binOp Go.BinOp.eql 4 (Go.Operand.tmp 115) (Go.Operand.tmp 118) 4) 4 [2, 5] (by kernel_rfl) (by kernel_rfl) (by kernel_rfl) rfl fun vals w1 ρ hG hF hρ hcst hfun => ?_
      have e115 : ρ (.tmp 115) = .bool false := ((hρ 115).trans (slotJ [2, 5] (by rw [hsz]; decide) (by kernel_rfl))).trans (hF 2 (by decide))
      have e118 : ρ (.tmp 118) = .bool false := ((hρ 118).trans (slotJ [2, 5] (by rw [hsz]; decide) (by kernel_rfl))).trans (hF 5 (by decide))
      clear hρ hF hcst hfun sl10 sl18 sl20 fin
      exact opv_val (by go_simp <;> rfl) ⟨gw_self _, rfl⟩
    · exact owes_mvj 6 119 (by kernel_rfl) (by kernel_rfl) (by kernel_rfl) (by kernel_rfl) (by rw [hsz]; decide) (fun v w h => h)
    · refine owes_vt 7 true (Go.Op.move (Go.Operand.tmp 20)) 3 [] (by kernel_rfl) (by kernel_rfl) (by kernel_rfl) (fun _ _ h => h) (by rw [hsz]; kernel_rfl) (by kernel_rfl) rfl fun vals w1 ρ hG hF hρ hcst hfun => ?_
      have e20 : ρ (.tmp 20) = .int .i64 1 := ((hρ 20).trans (slotO [] (by kernel_rfl))).trans sl20
      clear hρ hF hcst hfun sl10 sl18 sl20 fin
      exact opv_val (by go_simp <;> rfl) ⟨gw_self _, rfl⟩
    · refine owes_vt 7 true (Go.Op.indexAddr 34 (Go.Operand.tmp 18) (Go.Operand.tmp 121)) 0 [8] (by kernel_rfl) (by kernel_rfl) (by kernel_rfl) (fun _ _ h => h) (by rw [hsz]; kernel_rfl) (by kernel_rfl) rfl fun vals w1 ρ hG hF hρ hcst hfun => ?_
      have e18 : ρ (.tmp 18) = .pointer (some ⟨G18, 0, none⟩) := ((hρ 18).trans (slotO [8] (by kernel_rfl))).trans sl18
      have e121 : ρ (.tmp 121) = .int .i64 1 := ((hρ 121).trans (slotJ [8] (by rw [hsz]; decide) (by kernel_rfl))).trans (hF 8 (by decide))
      clear hρ hF hcst hfun sl10 sl18 sl20 fin
      exact opv_val (by go_simp <;> rfl) ⟨gw_self _, rfl⟩
    · refine owes_vt 7 true (Go.Op.load 4 (Go.Operand.tmp 122)) 4 [9] (by kernel_rfl) (by kernel_rfl) (by kernel_rfl) (fun _ _ h => h) (by rw [hsz]; kernel_rfl) (by kernel_rfl) rfl fun vals w1 ρ hG hF hρ hcst hfun => ?_
      have e122 : ρ (.tmp 122) = .pointer (some ⟨G18, 1, none⟩) := ((hρ 122).trans (slotJ [9] (by rw [hsz]; decide) (by kernel_rfl))).trans (hF 9 (by decide))
      have k0 : w1.cell? ⟨G18, 1, none⟩ = some (.bool false) := (H18.out.below hG H18.out.lt).cell 1
      clear hρ hF hcst hfun sl10 sl18 sl20 fin
      exact opv_val (by go_simp <;> rfl) ⟨gw_self _, rfl⟩
    · refine owes_vt 7 true (Go.Op.unOp Go.UnOp.not 4 (Go.Operand.tmp 123)) 4 [10] (by kernel_rfl) (by kernel_rfl) (by kernel_rfl) (fun _ _ h => h) (by rw [hsz]; kernel_rfl) (by kernel_rfl) rfl fun vals w1 ρ hG hF hρ hcst hfun => ?_
      have e123 : ρ (.tmp 123) = .bool false := ((hρ 123).trans (slotJ [10] (by rw [hsz]; decide) (by kernel_rfl))).trans (hF 10 (by decide))
      clear hρ hF hcst hfun sl10 sl18 sl20 fin
      exact opv_val (by go_simp <;> rfl) ⟨gw_self _, rfl⟩
    · refine owes_vt 7 true (Go.Op.move (Go.Operand.tmp 124)) 4 [11] (by kernel_rfl) (by kernel_rfl) (by kernel_rfl) (fun _ _ h => h) (by rw [hsz]; kernel_rfl) (by kernel_rfl) rfl fun vals w1 ρ hG hF hρ hcst hfun => ?_
      have e124 : ρ (.tmp 124) = .bool true := ((hρ 124).trans (slotJ [11] (by rw [hsz]; decide) (by kernel_rfl))).trans (hF 11 (by decide))
      clear hρ hF hcst hfun sl10 sl18 sl20 fin
      exact opv_val (by go_simp <;> rfl) ⟨gw_self _, rfl⟩
    · exact owes_no 12 true false (by decide) (by kernel_rfl) (by kernel_rfl) (fun _ _ h => h) (by rw [hsz]; kernel_rfl) (fun _ => rfl)
    · exact owes_no 12 true false (by decide) (by kernel_rfl) (by kernel_rfl) (fun _ _ h => h) (by rw [hsz]; kernel_rfl) (fun _ => rfl)
    · exact owes_no 12 true false (by decide) (by kernel_rfl) (by kernel_rfl) (fun _ _ h => h) (by rw [hsz]; kernel_rfl) (fun _ => rfl)
    · exact owes_no 12 true false (by decide) (by kernel_rfl) (by kernel_rfl) (fun _ _ h => h) (by rw [hsz]; kernel_rfl) (fun _ => rfl)
    · exact owes_no 12 true false (by decide) (by kernel_rfl) (by kernel_rfl) (fun _ _ h => h) (by rw [hsz]; kernel_rfl) (fun _ => rfl)
    · exact owes_no 12 true false (by decide) (by kernel_rfl) (by kernel_rfl) (fun _ _ h => h) (by rw [hsz]; kernel_rfl) (fun _ => rfl)
    · exact owes_no 12 true false (by decide) (by kernel_rfl) (by kernel_rfl) (fun _ _ h => h) (by rw [hsz]; kernel_rfl) (fun _ => rfl)
    · exact owes_no 12 true false (by decide) (by kernel_rfl) (by kernel_rfl) (fun _ _ h => h) (by rw [hsz]; kernel_rfl) (fun _ => rfl)
    · refine owes_vt 7 true (Go.Op.pick (Go.Operand.tmp 125) (Go.Operand.const (Go.Value.bool true)) (Go.Operand.tmp 133)) 4 [12, 20] (by kernel_rfl) (by kernel_rfl) (by kernel_rfl) (fun _ _ h => h) (by rw [hsz]; kernel_rfl) (by kernel_rfl) rfl fun vals w1 ρ hG hF hρ hcst hfun => ?_
      have e125 : ρ (.tmp 125) = .bool true := ((hρ 125).trans (slotJ [12, 20] (by rw [hsz]; decide) (by kernel_rfl))).trans (hF 12 (by decide))
      have e133 : ρ (.tmp 133) = undef := ((hρ 133).trans (slotJ [12, 20] (by rw [hsz]; decide) (by kernel_rfl))).trans (hF 20 (by decide))
      clear hρ hF hfun sl10 sl18 sl20 fin
      exact opv_val (by go_simp <;> rfl) ⟨gw_self _, rfl⟩
    · refine owes_v (Go.Op.pick (Go.Operand.tmp 120) (Go.Operand.tmp 134) (Go.Operand.const (Go.Value.bool false))) 4 [7, 21] (by kernel_rfl) (by kernel_rfl) (by kernel_rfl) rfl fun vals w1 ρ hG hF hρ hcst hfun => ?_
      have e120 : ρ (.tmp 120) = .bool true := ((hρ 120).trans (slotJ [7, 21] (by rw [hsz]; decide) (by kernel_rfl))).trans (hF 7 (by decide))
      have e134 : ρ (.tmp 134) = .bool true := ((hρ 134).trans (slotJ [7, 21] (by rw [hsz]; decide) (by kernel_rfl))).trans (hF 21 (by decide))
      clear hρ hF hfun sl10 sl18 sl20 fin
      exact opv_val (by go_simp <;> rfl) ⟨gw_self _, rfl⟩
    · exact owes_mvj 22 135 (by kernel_rfl) (by kernel_rfl) (by kernel_rfl) (by kernel_rfl) (by rw [hsz]; decide) (fun v w h => h)
  · intro vals w1 hG hF
    exact fin vals w1 hG (hF 23 (by decide +kernel))
theorem sc40_0c (Q : Exit → Act → World → Prop) (a0 : Act) (w : World) (G12 G17 G18 : Nat) (a b t : Sb) (f0 f1 : Bool) (H12 : Hid (Bk w G12 41 t.cells)) (H17 : Hid (Bk w G17 33 (c14 a b))) (H18 : Hid (Bk w G18 34 #[.bool f0, .bool f1])) (hsz : a0.tmps.size = 164) (sl11 : a0.tmps.getD 11 undef = .bool false)
    (fin : ∀ (vals : Nat → Value) (w1 : World), Below w.heap.size w w1 → (IsV (.bool false)) (vals 22) w1 → Q .normal (putD vals [136, 137, 138, 139, 140, 141, 142, 143, 144, 145, 146, 147, 148, 149, 150, 151, 152, 153, 154, 155, 156, 157, 22] 0 a0) w1) :
    (Code.region 40 (regIn Try.f4 40) true).wp Try.prog Q a0 w := by
  refine region_by (G := fun w w1 => Below w.heap.size w w1) [IsV (.bool false),
    IsV (.bool false),
    IsV undef,
    IsV undef,
    IsV undef,
    IsV undef,
    IsV undef,
    IsV undef,
    IsV (.bool false),
    IsV (.bool false),
    IsV undef,
    IsV undef,
    IsV undef,
    IsV (.bool false),
    IsV (.bool false),
    IsV undef,
    IsV undef,
    IsV undef,
    IsV undef,
    IsV undef,
    IsV undef,
    IsV (.bool false),
    IsV (.bool false)]
    [136, 137, 138, 139, 140, 141, 142, 143, 144, 145, 146, 147, 148, 149, 150, 151, 152, 153, 154, 155, 156, 157, 22] (by kernel_rfl) (Gw.drew _) Gw.trans (by rw [hsz]; kernel_rfl) (by kernel_rfl) ?_ ?_ ?_
  · intro f hf
    simp only [List.mem_cons, List.not_mem_nil, or_false] at hf
    rcases hf with rfl | rfl | rfl | rfl | rfl | rfl | rfl | rfl | rfl | rfl | rfl | rfl | rfl | rfl | rfl | rfl | rfl | rfl | rfl | rfl | rfl | rfl | rfl <;> intro v a b h g <;> first | exact IsV.mono h
  · refine ⟨?_, ?_, ?_, ?_, ?_, ?_, ?_, ?_, ?_, ?_, ?_, ?_, ?_, ?_, ?_, ?_, ?_, ?_, ?_, ?_, ?_, ?_, ?_, trivial⟩
    · exact owes_mv 11 (by kernel_rfl) (by kernel_rfl) (by kernel_rfl) sl11 (fun _ => rfl)
    · exact owes_mvj 0 136 (by kernel_rfl) (by kernel_rfl) (by kernel_rfl) (by kernel_rfl) (by rw [hsz]; decide) (fun v w h => h)
    · exact owes_no 1 false true (by decide) (by kernel_rfl) (by kernel_rfl) (fun _ _ h => h) (by rw [hsz]; kernel_rfl) (fun _ => rfl)
    · exact owes_no 1 false true (by decide) (by kernel_rfl) (by kernel_rfl) (fun _ _ h => h) (by rw [hsz]; kernel_rfl) (fun _ => rfl)
    · exact owes_no 1 false true (by decide) (by kernel_rfl) (by kernel_rfl) (fun _ _ h => h) (by rw [hsz]; kernel_rfl) (fun _ => rfl)
    · exact owes_no 1 false true (by decide) (by kernel_rfl) (by kernel_rfl) (fun _ _ h => h) (by rw [hsz]; kernel_rfl) (fun _ => rfl)
    · exact owes_no 1 false true (by decide) (by kernel_rfl) (by kernel_rfl) (fun _ _ h => h) (by rw [hsz]; kernel_rfl) (fun _ => rfl)
    · exact owes_no 1 false true (by decide) (by kernel_rfl) (by kernel_rfl) (fun _ _ h => h) (by rw [hsz]; kernel_rfl) (fun _ => rfl)
    · refine owes_v (Go.Op.pick (Go.Operand.tmp 137) (Go.Operand.tmp 143) (Go.Operand.const (Go.Value.bool false))) 4 [1, 7] (by kernel_rfl) (by kernel_rfl) (by kernel_rfl) rfl fun vals w1 ρ hG hF hρ hcst hfun => ?_
      have e137 : ρ (.tmp 137) = .bool false := ((hρ 137).trans (slotJ [1, 7] (by rw [hsz]; decide) (by kernel_rfl))).trans (hF 1 (by decide))
      have e143 : ρ (.tmp 143) = undef := ((hρ 143).trans (slotJ [1, 7] (by rw [hsz]; decide) (by kernel_rfl))).trans (hF 7 (by decide))
      clear hρ hF hfun sl11 fin
      exact opv_val (by go_simp <;> rfl) ⟨gw_self _, rfl⟩
    · exact owes_mvj 8 144 (by kernel_rfl) (by kernel_rfl) (by kernel_rfl) (by kernel_rfl) (by rw [hsz]; decide) (fun v w h => h)
    · exact owes_no 9 false true (by decide) (by kernel_rfl) (by kernel_rfl) (fun _ _ h => h) (by rw [hsz]; kernel_rfl) (fun _ => rfl)
    · exact owes_no 9 false true (by decide) (by kernel_rfl) (by kernel_rfl) (fun _ _ h => h) (by rw [hsz]; kernel_rfl) (fun _ => rfl)
    · exact owes_no 9 false true (by decide) (by kernel_rfl) (by kernel_rfl) (fun _ _ h => h) (by rw [hsz]; kernel_rfl) (fun _ => rfl)
    · refine owes_v (Go.Op.pick (Go.Operand.tmp 145) (Go.Operand.tmp 148) (Go.Operand.const (Go.Value.bool false))) 4 [9, 12] (by kernel_rfl) (by kernel_rfl) (by kernel_rfl) rfl fun vals w1 ρ hG hF hρ hcst hfun => ?_
      have e145 : ρ (.tmp 145) = .bool false := ((hρ 145).trans (slotJ [9, 12] (by rw [hsz]; decide) (by kernel_rfl))).trans (hF 9 (by decide))
      have e148 : ρ (.tmp 148) = undef := ((hρ 148).trans (slotJ [9, 12] (by rw [hsz]; decide) (by kernel_rfl))).trans (hF 12 (by decide))
      clear hρ hF hfun sl11 fin
      exact opv_val (by go_simp <;> rfl) ⟨gw_self _, rfl⟩
    · exact owes_mvj 13 149 (by kernel_rfl) (by kernel_rfl) (by kernel_rfl) (by kernel_rfl) (by rw [hsz]; decide) (fun v w h => h)
    · exact owes_no 14 false true (by decide) (by kernel_rfl) (by kernel_rfl) (fun _ _ h => h) (by rw [hsz]; kernel_rfl) (fun _ => rfl)
    · exact owes_no 14 false true (by decide) (by kernel_rfl) (by kernel_rfl) (fun _ _ h => h) (by rw [hsz]; kernel_rfl) (fun _ => rfl)
    · exact owes_no 14 false true (by decide) (by kernel_rfl) (by kernel_rfl) (fun _ _ h => h) (by rw [hsz]; kernel_rfl) (fun _ => rfl)
    · exact owes_no 14 false true (by decide) (by kernel_rfl) (by kernel_rfl) (fun _ _ h => h) (by rw [hsz]; kernel_rfl) (fun _ => rfl)
    · exact owes_no 14 false true (by decide) (by kernel_rfl) (by kernel_rfl) (fun _ _ h => h) (by rw [hsz]; kernel_rfl) (fun _ => rfl)
    · exact owes_no 14 false true (by decide) (by kernel_rfl) (by kernel_rfl) (fun _ _ h => h) (by rw [hsz]; kernel_rfl) (fun _ => rfl)
    · refine owes_v (Go.Op.pick (Go.Operand.tmp 150) (Go.Operand.tmp 156) (Go.Operand.const (Go.Value.bool false))) 4 [14, 20] (by kernel_rfl) (by kernel_rfl) (by kernel_rfl) rfl fun vals w1 ρ hG hF hρ hcst hfun => ?_
      have e150 : ρ (.tmp 150) = .bool false := ((hρ 150).trans (slotJ [14, 20] (by rw [hsz]; decide) (by kernel_rfl))).trans (hF 14 (by decide))
      have e156 : ρ (.tmp 156) = undef := ((hρ 156).trans (slotJ [14, 20] (by rw [hsz]; decide) (by kernel_rfl))).trans (hF 20 (by decide))
      clear hρ hF hfun sl11 fin
      exact opv_val (by go_simp <;> rfl) ⟨gw_self _, rfl⟩
    · exact owes_mvj 21 157 (by kernel_rfl) (by kernel_rfl) (by kernel_rfl) (by kernel_rfl) (by rw [hsz]; decide) (fun v w h => h)
  · intro vals w1 hG hF
    exact fin vals w1 hG (hF 22 (by decide +kernel))
theorem sc40_0o (Q : Exit → Act → World → Prop) (a0 : Act) (w : World) (G12 G17 G18 : Nat) (a b t : Sb) (f0 f1 : Bool) (m : Int) (hm : Hid (U64 t.ep % 2 = m)) (hi : (m == 0) = false) (H12 : Hid (Bk w G12 41 t.cells)) (H17 : Hid (Bk w G17 33 (c14 a b))) (H18 : Hid (Bk w G18 34 #[.bool f0, .bool f1])) (hsz : a0.tmps.size = 164) (sl11 : a0.tmps.getD 11 undef = .bool true) (sl12 : a0.tmps.getD 12 undef = .pointer (some ⟨G12, 0, none⟩)) (sl20 : a0.tmps.getD 20 undef = .int .i64 0)
    (fin : ∀ (vals : Nat → Value) (w1 : World), Below w.heap.size w w1 → (IsV (.bool false)) (vals 22) w1 → Q .normal (putD vals [136, 137, 138, 139, 140, 141, 142, 143, 144, 145, 146, 147, 148, 149, 150, 151, 152, 153, 154, 155, 156, 157, 22] 0 a0) w1) :
    (Code.region 40 (regIn Try.f4 40) true).wp Try.prog Q a0 w := by
  refine region_by (G := fun w w1 => Below w.heap.size w w1) [IsV (.bool true),
    IsV (.bool true),
    IsV (.pointer (some ⟨G12, 0, none⟩)),
    IsV (.int .u64 (U64 t.ep)),
    IsV (.int .u64 m),
    IsV (.int .i64 m),
    IsV (.int .i64 0),
    IsV (.bool false),
    IsV (.bool false),
    IsV (.bool false),
    IsV undef,
    IsV undef,
    IsV undef,
    IsV (.bool false),
    IsV (.bool false),
    IsV undef,
    IsV undef,
    IsV undef,
    IsV undef,
    IsV undef,
    IsV undef,
    IsV (.bool false),
    IsV (.bool false)]
    [136, 137, 138, 139, 140, 141, 142, 143, 144, 145, 146, 147, 148, 149, 150, 151, 152, 153, 154, 155, 156, 157, 22] (by kernel_rfl) (Gw.drew _) Gw.trans (by rw [hsz]; kernel_rfl) (by kernel_rfl) ?_ ?_ ?_
  · intro f hf
    simp only [List.mem_cons, List.not_mem_nil, or_false] at hf
    rcases hf with rfl | rfl | rfl | rfl | rfl | rfl | rfl | rfl | rfl | rfl | rfl | rfl | rfl | rfl | rfl | rfl | rfl | rfl | rfl | rfl | rfl | rfl | rfl <;> intro v a b h g <;> first | exact IsV.mono h
  · refine ⟨?_, ?_, ?_, ?_, ?_, ?_, ?_, ?_, ?_, ?_, ?_, ?_, ?_, ?_, ?_, ?_, ?_, ?_, ?_, ?_, ?_, ?_, ?_, trivial⟩
    · exact owes_mv 11 (by kernel_rfl) (by kernel_rfl) (by kernel_rfl) sl11 (fun _ => rfl)
    · exact owes_mvj 0 136 (by kernel_rfl) (by kernel_rfl) (by kernel_rfl) (by kernel_rfl) (by rw [hsz]; decide) (fun v w h => h)
    · refine owes_vt 1 true (Go.Op.fieldAddr 41 (Go.Operand.tmp 12) 0) 0 [] (by kernel_rfl) (by kernel_rfl) (by kernel_rfl) (fun _ _ h => h) (by rw [hsz]; kernel_rfl) (by kernel_rfl) rfl fun vals w1 ρ hG hF hρ hcst hfun => ?_
      have e12 : ρ (.tmp 12) = .pointer (some ⟨G12, 0, none⟩) := ((hρ 12).trans (slotO [] (by kernel_rfl))).trans sl12
      clear hρ hF hcst hfun sl11 sl12 sl20 fin
      exact opv_val (by go_simp <;> rfl) ⟨gw_self _, rfl⟩
    · refine owes_vt 1 true (Go.Op.load 28 (Go.Operand.tmp 138)) 28 [2] (by kernel_rfl) (by kernel_rfl) (by kernel_rfl) (fun _ _ h => h) (by rw [hsz]; kernel_rfl) (by kernel_rfl) rfl fun vals w1 ρ hG hF hρ hcst hfun => ?_
      have e138 : ρ (.tmp 138) = .pointer (some ⟨G12, 0, none⟩) := ((hρ 138).trans (slotJ [2] (by rw [hsz]; decide) (by kernel_rfl))).trans (hF 2 (by decide))
      have k0 : w1.cell? ⟨G12, 0, none⟩ = some (.int .u64 (U64 t.ep)) := (H12.out.below hG H12.out.lt).cell 0
      clear hρ hF hcst hfun sl11 sl12 sl20 fin
      exact opv_val (by go_simp <;> rfl) ⟨gw_self _, rfl⟩
    · refine owes_vt 1 true (Go.Op.binOp Go.BinOp.rem 28 (Go.Operand.tmp 139) (Go.Operand.const (Go.Value.int Go.IntKind.u64 2)) 28) 28 [3] (by kernel_rfl) (by kernel_rfl) (by kernel_rfl) (fun _ _ h => h) (by rw [hsz]; kernel_rfl) (by kernel_rfl) rfl fun vals w1 ρ hG hF hρ hcst hfun => ?_
      have e139 : ρ (.tmp 139) = .int .u64 (U64 t.ep) := ((hρ 139).trans (slotJ [3] (by rw [hsz]; decide) (by kernel_rfl))).trans (hF 3 (by decide))
      have q := (Int.tmod_eq_emod_of_nonneg (b := 2) (U64_lo t.ep)).trans hm.out
      clear hρ hF hfun sl11 sl12 sl20 fin
      exact opv_val (by go_simp <;> rfl) ⟨gw_self _, rfl⟩
    · refine owes_vt 1 true (Go.Op.convert 28 3 (Go.Operand.tmp 140)) 3 [4] (by kernel_rfl) (by kernel_rfl) (by kernel_rfl) (fun _ _ h => h) (by rw [hsz]; kernel_rfl) (by kernel_rfl) rfl fun vals w1 ρ hG hF hρ hcst hfun => ?_
      have e140 : ρ (.tmp 140) = .int .u64 m := ((hρ 140).trans (slotJ [4] (by rw [hsz]; decide) (by kernel_rfl))).trans (hF 4 (by decide))
      have q := hm.out
      have q1 : 0 ≤ m := by omega
      have q2 : m ≤ 1 := by omega
      clear q
      have kw4 : IntKind.i64.wrap (m) = m := wrapIn (by omega) (by omega)
      clear hρ hF hcst hfun sl11 sl12 sl20 fin
      exact opv_val (by go_simp <;> rfl) ⟨gw_self _, rfl⟩
    · refine owes_vt 1 true (Go.Op.move (Go.Operand.tmp 20)) 3 [] (by kernel_rfl) (by kernel_rfl) (by kernel_rfl) (fun _ _ h => h) (by rw [hsz]; kernel_rfl) (by kernel_rfl) rfl fun vals w1 ρ hG hF hρ hcst hfun => ?_
      have e20 : ρ (.tmp 20) = .int .i64 0 := ((hρ 20).trans (slotO [] (by kernel_rfl))).trans sl20
      clear hρ hF hcst hfun sl11 sl12 sl20 fin
      exact opv_val (by go_simp <;> rfl) ⟨gw_self _, rfl⟩
    · refine owes_vt 1 true (Go.Op.binOp Go.BinOp.eql 3 (Go.Operand.tmp 141) (Go.Operand.tmp 142) 3) 4 [5, 6] (by kernel_rfl) (by kernel_rfl) (by kernel_rfl) (fun _ _ h => h) (by rw [hsz]; kernel_rfl) (by kernel_rfl) rfl fun vals w1 ρ hG hF hρ hcst hfun => ?_
      have e141 : ρ (.tmp 141) = .int .i64 m := ((hρ 141).trans (slotJ [5, 6] (by rw [hsz]; decide) (by kernel_rfl))).trans (hF 5 (by decide))
      have e142 : ρ (.tmp 142) = .int .i64 0 := ((hρ 142).trans (slotJ [5, 6] (by rw [hsz]; decide) (by kernel_rfl))).trans (hF 6 (by decide))
      have q := hi
      clear hρ hF hcst hfun sl11 sl12 sl20 fin
      exact opv_val (by go_simp <;> rfl) ⟨gw_self _, rfl⟩
    · refine owes_v (Go.Op.pick (Go.Operand.tmp 137) (Go.Operand.tmp 143) (Go.Operand.const (Go.Value.bool false))) 4 [1, 7] (by kernel_rfl) (by kernel_rfl) (by kernel_rfl) rfl fun vals w1 ρ hG hF hρ hcst hfun => ?_
      have e137 : ρ (.tmp 137) = .bool true := ((hρ 137).trans (slotJ [1, 7] (by rw [hsz]; decide) (by kernel_rfl))).trans (hF 1 (by decide))
      have e143 : ρ (.tmp 143) = .bool false := ((hρ 143).trans (slotJ [1, 7] (by rw [hsz]; decide) (by kernel_rfl))).trans (hF 7 (by decide))
      clear hρ hF hfun sl11 sl12 sl20 fin
      exact opv_val (by go_simp <;> rfl) ⟨gw_self _, rfl⟩
    · exact owes_mvj 8 144 (by kernel_rfl) (by kernel_rfl) (by kernel_rfl) (by kernel_rfl) (by rw [hsz]; decide) (fun v w h => h)
    · exact owes_no 9 false true (by decide) (by kernel_rfl) (by kernel_rfl) (fun _ _ h => h) (by rw [hsz]; kernel_rfl) (fun _ => rfl)
    · exact owes_no 9 false true (by decide) (by kernel_rfl) (by kernel_rfl) (fun _ _ h => h) (by rw [hsz]; kernel_rfl) (fun _ => rfl)
    · exact owes_no 9 false true (by decide) (by kernel_rfl) (by kernel_rfl) (fun _ _ h => h) (by rw [hsz]; kernel_rfl) (fun _ => rfl)
    · refine owes_v (Go.Op.pick (Go.Operand.tmp 145) (Go.Operand.tmp 148) (Go.Operand.const (Go.Value.bool false))) 4 [9, 12] (by kernel_rfl) (by kernel_rfl) (by kernel_rfl) rfl fun vals w1 ρ hG hF hρ hcst hfun => ?_
      have e145 : ρ (.tmp 145) = .bool false := ((hρ 145).trans (slotJ [9, 12] (by rw [hsz]; decide) (by kernel_rfl))).trans (hF 9 (by decide))
      have e148 : ρ (.tmp 148) = undef := ((hρ 148).trans (slotJ [9, 12] (by rw [hsz]; decide) (by kernel_rfl))).trans (hF 12 (by decide))
      clear hρ hF hfun sl11 sl12 sl20 fin
      exact opv_val (by go_simp <;> rfl) ⟨gw_self _, rfl⟩
    · exact owes_mvj 13 149 (by kernel_rfl) (by kernel_rfl) (by kernel_rfl) (by kernel_rfl) (by rw [hsz]; decide) (fun v w h => h)
    · exact owes_no 14 false true (by decide) (by kernel_rfl) (by kernel_rfl) (fun _ _ h => h) (by rw [hsz]; kernel_rfl) (fun _ => rfl)
    · exact owes_no 14 false true (by decide) (by kernel_rfl) (by kernel_rfl) (fun _ _ h => h) (by rw [hsz]; kernel_rfl) (fun _ => rfl)
    · exact owes_no 14 false true (by decide) (by kernel_rfl) (by kernel_rfl) (fun _ _ h => h) (by rw [hsz]; kernel_rfl) (fun _ => rfl)
    · exact owes_no 14 false true (by decide) (by kernel_rfl) (by kernel_rfl) (fun _ _ h => h) (by rw [hsz]; kernel_rfl) (fun _ => rfl)
    · exact owes_no 14 false true (by decide) (by kernel_rfl) (by kernel_rfl) (fun _ _ h => h) (by rw [hsz]; kernel_rfl) (fun _ => rfl)
    · exact owes_no 14 false true (by decide) (by kernel_rfl) (by kernel_rfl) (fun _ _ h => h) (by rw [hsz]; kernel_rfl) (fun _ => rfl)
    · refine owes_v (Go.Op.pick (Go.Operand.tmp 150) (Go.Operand.tmp 156) (Go.Operand.const (Go.Value.bool false))) 4 [14, 20] (by kernel_rfl) (by kernel_rfl) (by kernel_rfl) rfl fun vals w1 ρ hG hF hρ hcst hfun => ?_
      have e150 : ρ (.tmp 150) = .bool false := ((hρ 150).trans (slotJ [14, 20] (by rw [hsz]; decide) (by kernel_rfl))).trans (hF 14 (by decide))
      have e156 : ρ (.tmp 156) = undef := ((hρ 156).trans (slotJ [14, 20] (by rw [hsz]; decide) (by kernel_rfl))).trans (hF 20 (by decide))
      clear hρ hF hfun sl11 sl12 sl20 fin
      exact opv_val (by go_simp <;> rfl) ⟨gw_self _, rfl⟩
    · exact owes_mvj 21 157 (by kernel_rfl) (by kernel_rfl) (by kernel_rfl) (by kernel_rfl) (by rw [hsz]; decide) (fun v w h => h)
  · intro vals w1 hG hF
    exact fin vals w1 hG (hF 22 (by decide +kernel))
theorem sc40_0n (Q : Exit → Act → World → Prop) (a0 : Act) (w : World) (G12 G17 G18 : Nat) (a b t : Sb) (f0 f1 : Bool) (m : Int) (hm : Hid (U64 t.ep % 2 = m)) (hi : (m == 0) = true) (H12 : Hid (Bk w G12 41 t.cells)) (H17 : Hid (Bk w G17 33 (c14 a b))) (H18 : Hid (Bk w G18 34 #[.bool false, .bool f1])) (hsz : a0.tmps.size = 164) (sl11 : a0.tmps.getD 11 undef = .bool true) (sl12 : a0.tmps.getD 12 undef = .pointer (some ⟨G12, 0, none⟩)) (sl18 : a0.tmps.getD 18 undef = .pointer (some ⟨G18, 0, none⟩)) (sl20 : a0.tmps.getD 20 undef = .int .i64 0)
    (fin : ∀ (vals : Nat → Value) (w1 : World), Below w.heap.size w w1 → (IsV (.bool false)) (vals 22) w1 → Q .normal (putD vals [136, 137, 138, 139, 140, 141, 142, 143, 144, 145, 146, 147, 148, 149, 150, 151, 152, 153, 154, 155, 156, 157, 22] 0 a0) w1) :
    (Code.region 40 (regIn Try.f4 40) true).wp Try.prog Q a0 w := by
  refine region_by (G := fun w w1 => Below w.heap.size w w1) [IsV (.bool true),
    IsV (.bool true),
    IsV (.pointer (some ⟨G12, 0, none⟩)),
    IsV (.int .u64 (U64 t.ep)),
    IsV (.int .u64 m),
    IsV (.int .i64 m),
    IsV (.int .i64 0),
    IsV (.bool true),
    IsV (.bool true),
    IsV (.bool true),
    IsV (.int .i64 0),
    IsV (.pointer (some ⟨G18, 0, none⟩)),
    IsV (.bool false),
    IsV (.bool false),
    IsV (.bool false),
    IsV undef,
    IsV undef,
    IsV undef,
    IsV undef,
    IsV undef,
    IsV undef,
    IsV (.bool false),
    IsV (.bool false)]
    [136, 137, 138, 139, 140, 141, 142, 143, 144, 145, 146, 147, 148, 149, 150, 151, 152, 153, 154, 155, 156, 157, 22] (by kernel_rfl) (Gw.drew _) Gw.trans (by rw [hsz]; kernel_rfl) (by kernel_rfl) ?_ ?_ ?_
  · intro f hf
    simp only [List.mem_cons, List.not_mem_nil, or_false] at hf
    rcases hf with rfl | rfl | rfl | rfl | rfl | rfl | rfl | rfl | rfl | rfl | rfl | rfl | rfl | rfl | rfl | rfl | rfl | rfl | rfl | rfl | rfl | rfl | rfl <;> intro v a b h g <;> first | exact IsV.mono h
  · refine ⟨?_, ?_, ?_, ?_, ?_, ?_, ?_, ?_, ?_, ?_, ?_, ?_, ?_, ?_, ?_, ?_, ?_, ?_, ?_, ?_, ?_, ?_, ?_, trivial⟩
    · exact owes_mv 11 (by kernel_rfl) (by kernel_rfl) (by kernel_rfl) sl11 (fun _ => rfl)
    · exact owes_mvj 0 136 (by kernel_rfl) (by kernel_rfl) (by kernel_rfl) (by kernel_rfl) (by rw [hsz]; decide) (fun v w h => h)
    · refine owes_vt 1 true (Go.Op.fieldAddr 41 (Go.Operand.tmp 12) 0) 0 [] (by kernel_rfl) (by kernel_rfl) (by kernel_rfl) (fun _ _ h => h) (by rw [hsz]; kernel_rfl) (by kernel_rfl) rfl fun vals w1 ρ hG hF hρ hcst hfun => ?_
      have e12 : ρ (.tmp 12) = .pointer (some ⟨G12, 0, none⟩) := ((hρ 12).trans (slotO [] (by kernel_rfl))).trans sl12
      clear hρ hF hcst hfun sl11 sl12 sl18 sl20 fin
      exact opv_val (by go_simp <;> rfl) ⟨gw_self _, rfl⟩
    · refine owes_vt 1 true (Go.Op.load 28 (Go.Operand.tmp 138)) 28 [2] (by kernel_rfl) (by kernel_rfl) (by kernel_rfl) (fun _ _ h => h) (by rw [hsz]; kernel_rfl) (by kernel_rfl) rfl fun vals w1 ρ hG hF hρ hcst hfun => ?_
      have e138 : ρ (.tmp 138) = .pointer (some ⟨G12, 0, none⟩) := ((hρ 138).trans (slotJ [2] (by rw [hsz]; decide) (by kernel_rfl))).trans (hF 2 (by decide))
      have k0 : w1.cell? ⟨G12, 0, none⟩ = some (.int .u64 (U64 t.ep)) := (H12.out.below hG H12.out.lt).cell 0
      clear hρ hF hcst hfun sl11 sl12 sl18 sl20 fin
      exact opv_val (by go_simp <;> rfl) ⟨gw_self _, rfl⟩
    · refine owes_vt 1 true (Go.Op.binOp Go.BinOp.rem 28 (Go.Operand.tmp 139) (Go.Operand.const (Go.Value.int Go.IntKind.u64 2)) 28) 28 [3] (by kernel_rfl) (by kernel_rfl) (by kernel_rfl) (fun _ _ h => h) (by rw [hsz]; kernel_rfl) (by kernel_rfl) rfl fun vals w1 ρ hG hF hρ hcst hfun => ?_
      have e139 : ρ (.tmp 139) = .int .u64 (U64 t.ep) := ((hρ 139).trans (slotJ [3] (by rw [hsz]; decide) (by kernel_rfl))).trans (hF 3 (by decide))
      have q := (Int.tmod_eq_emod_of_nonneg (b := 2) (U64_lo t.ep)).trans hm.out
      clear hρ hF hfun sl11 sl12 sl18 sl20 fin
      exact opv_val (by go_simp <;> rfl) ⟨gw_self _, rfl⟩
    · refine owes_vt 1 true (Go.Op.convert 28 3 (Go.Operand.tmp 140)) 3 [4] (by kernel_rfl) (by kernel_rfl) (by kernel_rfl) (fun _ _ h => h) (by rw [hsz]; kernel_rfl) (by kernel_rfl) rfl fun vals w1 ρ hG hF hρ hcst hfun => ?_
      have e140 : ρ (.tmp 140) = .int .u64 m := ((hρ 140).trans (slotJ [4] (by rw [hsz]; decide) (by kernel_rfl))).trans (hF 4 (by decide))
      have q := hm.out
      have q1 : 0 ≤ m := by omega
      have q2 : m ≤ 1 := by omega
      clear q
      have kw4 : IntKind.i64.wrap (m) = m := wrapIn (by omega) (by omega)
      clear hρ hF hcst hfun sl11 sl12 sl18 sl20 fin
      exact opv_val (by go_simp <;> rfl) ⟨gw_self _, rfl⟩
    · refine owes_vt 1 true (Go.Op.move (Go.Operand.tmp 20)) 3 [] (by kernel_rfl) (by kernel_rfl) (by kernel_rfl) (fun _ _ h => h) (by rw [hsz]; kernel_rfl) (by kernel_rfl) rfl fun vals w1 ρ hG hF hρ hcst hfun => ?_
      have e20 : ρ (.tmp 20) = .int .i64 0 := ((hρ 20).trans (slotO [] (by kernel_rfl))).trans sl20
      clear hρ hF hcst hfun sl11 sl12 sl18 sl20 fin
      exact opv_val (by go_simp <;> rfl) ⟨gw_self _, rfl⟩
    · refine owes_vt 1 true (Go.Op.binOp Go.BinOp.eql 3 (Go.Operand.tmp 141) (Go.Operand.tmp 142) 3) 4 [5, 6] (by kernel_rfl) (by kernel_rfl) (by kernel_rfl) (fun _ _ h => h) (by rw [hsz]; kernel_rfl) (by kernel_rfl) rfl fun vals w1 ρ hG hF hρ hcst hfun => ?_
      have e141 : ρ (.tmp 141) = .int .i64 m := ((hρ 141).trans (slotJ [5, 6] (by rw [hsz]; decide) (by kernel_rfl))).trans (hF 5 (by decide))
      have e142 : ρ (.tmp 142) = .int .i64 0 := ((hρ 142).trans (slotJ [5, 6] (by rw [hsz]; decide) (by kernel_rfl))).trans (hF 6 (by decide))
      have q := hi
      clear hρ hF hcst hfun sl11 sl12 sl18 sl20 fin
      exact opv_val (by go_simp <;> rfl) ⟨gw_self _, rfl⟩
    · refine owes_v (Go.Op.pick (Go.Operand.tmp 137) (Go.Operand.tmp 143) (Go.Operand.const (Go.Value.bool false))) 4 [1, 7] (by kernel_rfl) (by kernel_rfl) (by kernel_rfl) rfl fun vals w1 ρ hG hF hρ hcst hfun => ?_
      have e137 : ρ (.tmp 137) = .bool true := ((hρ 137).trans (slotJ [1, 7] (by rw [hsz]; decide) (by kernel_rfl))).trans (hF 1 (by decide))
      have e143 : ρ (.tmp 143) = .bool true := ((hρ 143).trans (slotJ [1, 7] (by rw [hsz]; decide) (by kernel_rfl))).trans (hF 7 (by decide))
      clear hρ hF hfun sl11 sl12 sl18 sl20 fin
      exact opv_val (by go_simp <;> rfl) ⟨gw_self _, rfl⟩
    · exact owes_mvj 8 144 (by kernel_rfl) (by kernel_rfl) (by kernel_rfl) (by kernel_rfl) (by rw [hsz]; decide) (fun v w h => h)
    · refine owes_vt 9 true (Go.Op.move (Go.Operand.tmp 20)) 3 [] (by kernel_rfl) (by kernel_rfl) (by kernel_rfl) (fun _ _ h => h) (by rw [hsz]; kernel_rfl) (by kernel_rfl) rfl fun vals w1 ρ hG hF hρ hcst hfun => ?_
      have e20 : ρ (.tmp 20) = .int .i64 0 := ((hρ 20).trans (slotO [] (by kernel_rfl))).trans sl20
      clear hρ hF hcst hfun sl11 sl12 sl18 sl20 fin
      exact opv_val (by go_simp <;> rfl) ⟨gw_self _, rfl⟩
    · refine owes_vt 9 true (Go.Op.indexAddr 34 (Go.Operand.tmp 18) (Go.Operand.tmp 146)) 0 [10] (by kernel_rfl) (by kernel_rfl) (by kernel_rfl) (fun _ _ h => h) (by rw [hsz]; kernel_rfl) (by kernel_rfl) rfl fun vals w1 ρ hG hF hρ hcst hfun => ?_
      have e18 : ρ (.tmp 18) = .pointer (some ⟨G18, 0, none⟩) := ((hρ 18).trans (slotO [10] (by kernel_rfl))).trans sl18
      have e146 : ρ (.tmp 146) = .int .i64 0 := ((hρ 146).trans (slotJ [10] (by rw [hsz]; decide) (by kernel_rfl))).trans (hF 10 (by decide))
      clear hρ hF hcst hfun sl11 sl12 sl18 sl20 fin
      exact opv_val (by go_simp <;> rfl) ⟨gw_self _, rfl⟩
    · refine owes_vt 9 true (Go.Op.load 4 (Go.Operand.tmp 147)) 4 [11] (by kernel_rfl) (by kernel_rfl) (by kernel_rfl) (fun _ _ h => h) (by rw [hsz]; kernel_rfl) (by kernel_rfl) rfl fun vals w1 ρ hG hF hρ hcst hfun => ?_
      have e147 : ρ (.tmp 147) = .pointer (some ⟨G18, 0, none⟩) := ((hρ 147).trans (slotJ [11] (by rw [hsz]; decide) (by kernel_rfl))).trans (hF 11 (by decide))
      have k0 : w1.cell? ⟨G18, 0, none⟩ = some (.bool false) := (H18.out.below hG H18.out.lt).cell 0
      clear hρ hF hcst hfun sl11 sl12 sl18 sl20 fin
      exact opv_val (by go_simp <;> rfl) ⟨gw_self _, rfl⟩
    · refine owes_v (Go.Op.pick (Go.Operand.tmp 145) (Go.Operand.tmp 148) (Go.Operand.const (Go.Value.bool false))) 4 [9, 12] (by kernel_rfl) (by kernel_rfl) (by kernel_rfl) rfl fun vals w1 ρ hG hF hρ hcst hfun => ?_
      have e145 : ρ (.tmp 145) = .bool true := ((hρ 145).trans (slotJ [9, 12] (by rw [hsz]; decide) (by kernel_rfl))).trans (hF 9 (by decide))
      have e148 : ρ (.tmp 148) = .bool false := ((hρ 148).trans (slotJ [9, 12] (by rw [hsz]; decide) (by kernel_rfl))).trans (hF 12 (by decide))
      clear hρ hF hfun sl11 sl12 sl18 sl20 fin
      exact opv_val (by go_simp <;> rfl) ⟨gw_self _, rfl⟩
    · exact owes_mvj 13 149 (by kernel_rfl) (by kernel_rfl) (by kernel_rfl) (by kernel_rfl) (by rw [hsz]; decide) (fun v w h => h)
    · exact owes_no 14 false true (by decide) (by kernel_rfl) (by kernel_rfl) (fun _ _ h => h) (by rw [hsz]; kernel_rfl) (fun _ => rfl)
    · exact owes_no 14 false true (by decide) (by kernel_rfl) (by kernel_rfl) (fun _ _ h => h) (by rw [hsz]; kernel_rfl) (fun _ => rfl)
    · exact owes_no 14 false true (by decide) (by kernel_rfl) (by kernel_rfl) (fun _ _ h => h) (by rw [hsz]; kernel_rfl) (fun _ => rfl)
    · exact owes_no 14 false true (by decide) (by kernel_rfl) (by kernel_rfl) (fun _ _ h => h) (by rw [hsz]; kernel_rfl) (fun _ => rfl)
    · exact owes_no 14 false true (by decide) (by kernel_rfl) (by kernel_rfl) (fun _ _ h => h) (by rw [hsz]; kernel_rfl) (fun _ => rfl)
    · exact owes_no 14 false true (by decide) (by kernel_rfl) (by kernel_rfl) (fun _ _ h => h) (by rw [hsz]; kernel_rfl) (fun _ => rfl)
    · refine owes_v (Go.Op.pick (Go.Operand.tmp 150) (Go.Operand.tmp 156) (Go.Operand.const (Go.Value.bool false))) 4 [14, 20] (by kernel_rfl) (by kernel_rfl) (by kernel_rfl) rfl fun vals w1 ρ hG hF hρ hcst hfun => ?_
      have e150 : ρ (.tmp 150) = .bool false := ((hρ 150).trans (slotJ [14, 20] (by rw [hsz]; decide) (by kernel_rfl))).trans (hF 14 (by decide))
      have e156 : ρ (.tmp 156) = undef := ((hρ 156).trans (slotJ [14, 20] (by rw [hsz]; decide) (by kernel_rfl))).trans (hF 20 (by decide))
      clear hρ hF hfun sl11 sl12 sl18 sl20 fin
      exact opv_val (by go_simp <;> rfl) ⟨gw_self _, rfl⟩
    · exact owes_mvj 21 157 (by kernel_rfl) (by kernel_rfl) (by kernel_rfl) (by kernel_rfl) (by rw [hsz]; decide) (fun v w h => h)
  · intro vals w1 hG hF
    exact fin vals w1 hG (hF 22 (by decide +kernel))
theorem sc40_0y (Q : Exit → Act → World → Prop) (a0 : Act) (w : World) (G12 G17 G18 : Nat) (a b t : Sb) (f0 f1 : Bool) (m : Int) (hm : Hid (U64 t.ep % 2 = m)) (hi : (m == 0) = true) (r : Bool) (HQ : Hid (∀ W : World, (Op.equalIn 10000 41 (.agg #[.int .u64 (U64 a.ep), .int .i64 a.s, .int .i64 a.l, .int .i64 a.n, .int .i64 a.sp, .int .i64 a.wd, .int .u64 (U64 a.lg)]) (.agg #[.int .u64 (U64 t.ep), .int .i64 t.s, .int .i64 t.l, .int .i64 t.n, .int .i64 t.sp, .int .i64 t.wd, .int .u64 (U64 t.lg)])).run Try.prog W = .ok r W)) (H12 : Hid (Bk w G12 41 t.cells)) (H17 : Hid (Bk w G17 33 (c14 a b))) (H18 : Hid (Bk w G18 34 #[.bool true, .bool f1])) (hsz : a0.tmps.size = 164) (sl11 : a0.tmps.getD 11 undef = .bool true) (sl12 : a0.tmps.getD 12 undef = .pointer (some ⟨G12, 0, none⟩)) (sl17 : a0.tmps.getD 17 undef = .pointer (some ⟨G17, 0, none⟩)) (sl18 : a0.tmps.getD 18 undef = .pointer (some ⟨G18, 0, none⟩)) (sl20 : a0.tmps.getD 20 undef = .int .i64 0)
    (fin : ∀ (vals : Nat → Value) (w1 : World), Below w.heap.size w w1 → (IsV (.bool r)) (vals 22) w1 → Q .normal (putD vals [136, 137, 138, 139, 140, 141, 142, 143, 144, 145, 146, 147, 148, 149, 150, 151, 152, 153, 154, 155, 156, 157, 22] 0 a0) w1) :
    (Code.region 40 (regIn Try.f4 40) true).wp Try.prog Q a0 w := by
  refine region_by (G := fun w w1 => Below w.heap.size w w1) [IsV (.bool true),
    IsV (.bool true),
    IsV (.pointer (some ⟨G12, 0, none⟩)),
    IsV (.int .u64 (U64 t.ep)),
    IsV (.int .u64 m),
    IsV (.int .i64 m),
    IsV (.int .i64 0),
    IsV (.bool true),
    IsV (.bool true),
    IsV (.bool true),
    IsV (.int .i64 0),
    IsV (.pointer (some ⟨G18, 0, none⟩)),
    IsV (.bool true),
    IsV (.bool true),
    IsV (.bool true),
    IsV (.int .i64 0),
    IsV (.pointer (some ⟨G17, 0, none⟩)),
    IsV (.agg #[.int .u64 (U64 a.ep), .int .i64 a.s, .int .i64 a.l, .int .i64 a.n, .int .i64 a.sp, .int .i64 a.wd, .int .u64 (U64 a.lg)]),
    IsV (.agg #[.int .u64 (U64 a.ep), .int .i64 a.s, .int .i64 a.l, .int .i64 a.n, .int .i64 a.sp, .int .i64 a.wd, .int .u64 (U64 a.lg)]),
    IsV (.agg #[.int .u64 (U64 t.ep), .int .i64 t.s, .int .i64 t.l, .int .i64 t.n, .int .i64 t.sp, .int .i64 t.wd, .int .u64 (U64 t.lg)]),
    IsV (.bool r),
    IsV (.bool r),
    IsV (.bool r)]
    [136, 137, 138, 139, 140, 141, 142, 143, 144, 145, 146, 147, 148, 149, 150, 151, 152, 153, 154, 155, 156, 157, 22] (by kernel_rfl) (Gw.drew _) Gw.trans (by rw [hsz]; kernel_rfl) (by kernel_rfl) ?_ ?_ ?_
  · intro f hf
    simp only [List.mem_cons, List.not_mem_nil, or_false] at hf
    rcases hf with rfl | rfl | rfl | rfl | rfl | rfl | rfl | rfl | rfl | rfl | rfl | rfl | rfl | rfl | rfl | rfl | rfl | rfl | rfl | rfl | rfl | rfl | rfl <;> intro v a b h g <;> first | exact IsV.mono h
  · refine ⟨?_, ?_, ?_, ?_, ?_, ?_, ?_, ?_, ?_, ?_, ?_, ?_, ?_, ?_, ?_, ?_, ?_, ?_, ?_, ?_, ?_, ?_, ?_, trivial⟩
    · exact owes_mv 11 (by kernel_rfl) (by kernel_rfl) (by kernel_rfl) sl11 (fun _ => rfl)
    · exact owes_mvj 0 136 (by kernel_rfl) (by kernel_rfl) (by kernel_rfl) (by kernel_rfl) (by rw [hsz]; decide) (fun v w h => h)
    · refine owes_vt 1 true (Go.Op.fieldAddr 41 (Go.Operand.tmp 12) 0) 0 [] (by kernel_rfl) (by kernel_rfl) (by kernel_rfl) (fun _ _ h => h) (by rw [hsz]; kernel_rfl) (by kernel_rfl) rfl fun vals w1 ρ hG hF hρ hcst hfun => ?_
      have e12 : ρ (.tmp 12) = .pointer (some ⟨G12, 0, none⟩) := ((hρ 12).trans (slotO [] (by kernel_rfl))).trans sl12
      clear hρ hF hcst hfun sl11 sl12 sl17 sl18 sl20 fin
      exact opv_val (by go_simp <;> rfl) ⟨gw_self _, rfl⟩
    · refine owes_vt 1 true (Go.Op.load 28 (Go.Operand.tmp 138)) 28 [2] (by kernel_rfl) (by kernel_rfl) (by kernel_rfl) (fun _ _ h => h) (by rw [hsz]; kernel_rfl) (by kernel_rfl) rfl fun vals w1 ρ hG hF hρ hcst hfun => ?_
      have e138 : ρ (.tmp 138) = .pointer (some ⟨G12, 0, none⟩) := ((hρ 138).trans (slotJ [2] (by rw [hsz]; decide) (by kernel_rfl))).trans (hF 2 (by decide))
      have k0 : w1.cell? ⟨G12, 0, none⟩ = some (.int .u64 (U64 t.ep)) := (H12.out.below hG H12.out.lt).cell 0
      clear hρ hF hcst hfun sl11 sl12 sl17 sl18 sl20 fin
      exact opv_val (by go_simp <;> rfl) ⟨gw_self _, rfl⟩
    · refine owes_vt 1 true (Go.Op.binOp Go.BinOp.rem 28 (Go.Operand.tmp 139) (Go.Operand.const (Go.Value.int Go.IntKind.u64 2)) 28) 28 [3] (by kernel_rfl) (by kernel_rfl) (by kernel_rfl) (fun _ _ h => h) (by rw [hsz]; kernel_rfl) (by kernel_rfl) rfl fun vals w1 ρ hG hF hρ hcst hfun => ?_
      have e139 : ρ (.tmp 139) = .int .u64 (U64 t.ep) := ((hρ 139).trans (slotJ [3] (by rw [hsz]; decide) (by kernel_rfl))).trans (hF 3 (by decide))
      have q := (Int.tmod_eq_emod_of_nonneg (b := 2) (U64_lo t.ep)).trans hm.out
      clear hρ hF hfun sl11 sl12 sl17 sl18 sl20 fin
      exact opv_val (by go_simp <;> rfl) ⟨gw_self _, rfl⟩
    · refine owes_vt 1 true (Go.Op.convert 28 3 (Go.Operand.tmp 140)) 3 [4] (by kernel_rfl) (by kernel_rfl) (by kernel_rfl) (fun _ _ h => h) (by rw [hsz]; kernel_rfl) (by kernel_rfl) rfl fun vals w1 ρ hG hF hρ hcst hfun => ?_
      have e140 : ρ (.tmp 140) = .int .u64 m := ((hρ 140).trans (slotJ [4] (by rw [hsz]; decide) (by kernel_rfl))).trans (hF 4 (by decide))
      have q := hm.out
      have q1 : 0 ≤ m := by omega
      have q2 : m ≤ 1 := by omega
      clear q
      have kw4 : IntKind.i64.wrap (m) = m := wrapIn (by omega) (by omega)
      clear hρ hF hcst hfun sl11 sl12 sl17 sl18 sl20 fin
      exact opv_val (by go_simp <;> rfl) ⟨gw_self _, rfl⟩
    · refine owes_vt 1 true (Go.Op.move (Go.Operand.tmp 20)) 3 [] (by kernel_rfl) (by kernel_rfl) (by kernel_rfl) (fun _ _ h => h) (by rw [hsz]; kernel_rfl) (by kernel_rfl) rfl fun vals w1 ρ hG hF hρ hcst hfun => ?_
      have e20 : ρ (.tmp 20) = .int .i64 0 := ((hρ 20).trans (slotO [] (by kernel_rfl))).trans sl20
      clear hρ hF hcst hfun sl11 sl12 sl17 sl18 sl20 fin
      exact opv_val (by go_simp <;> rfl) ⟨gw_self _, rfl⟩
    · refine owes_vt 1 true (Go.Op.binOp Go.BinOp.eql 3 (Go.Operand.tmp 141) (Go.Operand.tmp 142) 3) 4 [5, 6] (by kernel_rfl) (by kernel_rfl) (by kernel_rfl) (fun _ _ h => h) (by rw [hsz]; kernel_rfl) (by kernel_rfl) rfl fun vals w1 ρ hG hF hρ hcst hfun => ?_
      have e141 : ρ (.tmp 141) = .int .i64 m := ((hρ 141).trans (slotJ [5, 6] (by rw [hsz]; decide) (by kernel_rfl))).trans (hF 5 (by decide))
      have e142 : ρ (.tmp 142) = .int .i64 0 := ((hρ 142).trans (slotJ [5, 6] (by rw [hsz]; decide) (by kernel_rfl))).trans (hF 6 (by decide))
      have q := hi
      clear hρ hF hcst hfun sl11 sl12 sl17 sl18 sl20 fin
      exact opv_val (by go_simp <;> rfl) ⟨gw_self _, rfl⟩
    · refine owes_v (Go.Op.pick (Go.Operand.tmp 137) (Go.Operand.tmp 143) (Go.Operand.const (Go.Value.bool false))) 4 [1, 7] (by kernel_rfl) (by kernel_rfl) (by kernel_rfl) rfl fun vals w1 ρ hG hF hρ hcst hfun => ?_
      have e137 : ρ (.tmp 137) = .bool true := ((hρ 137).trans (slotJ [1, 7] (by rw [hsz]; decide) (by kernel_rfl))).trans (hF 1 (by decide))
      have e143 : ρ (.tmp 143) = .bool true := ((hρ 143).trans (slotJ [1, 7] (by rw [hsz]; decide) (by kernel_rfl))).trans (hF 7 (by decide))
      clear hρ hF hfun sl11 sl12 sl17 sl18 sl20 fin
      exact opv_val (by go_simp <;> rfl) ⟨gw_self _, rfl⟩
    · exact owes_mvj 8 144 (by kernel_rfl) (by kernel_rfl) (by kernel_rfl) (by kernel_rfl) (by rw [hsz]; decide) (fun v w h => h)
    · refine owes_vt 9 true (Go.Op.move (Go.Operand.tmp 20)) 3 [] (by kernel_rfl) (by kernel_rfl) (by kernel_rfl) (fun _ _ h => h) (by rw [hsz]; kernel_rfl) (by kernel_rfl) rfl fun vals w1 ρ hG hF hρ hcst hfun => ?_
      have e20 : ρ (.tmp 20) = .int .i64 0 := ((hρ 20).trans (slotO [] (by kernel_rfl))).trans sl20
      clear hρ hF hcst hfun sl11 sl12 sl17 sl18 sl20 fin
      exact opv_val (by go_simp <;> rfl) ⟨gw_self _, rfl⟩
    · refine owes_vt 9 true (Go.Op.indexAddr 34 (Go.Operand.tmp 18) (Go.Operand.tmp 146)) 0 [10] (by kernel_rfl) (by kernel_rfl) (by kernel_rfl) (fun _ _ h => h) (by rw [hsz]; kernel_rfl) (by kernel_rfl) rfl fun vals w1 ρ hG hF hρ hcst hfun => ?_
      have e18 : ρ (.tmp 18) = .pointer (some ⟨G18, 0, none⟩) := ((hρ 18).trans (slotO [10] (by kernel_rfl))).trans sl18
      have e146 : ρ (.tmp 146) = .int .i64 0 := ((hρ 146).trans (slotJ [10] (by rw [hsz]; decide) (by kernel_rfl))).trans (hF 10 (by decide))
      clear hρ hF hcst hfun sl11 sl12 sl17 sl18 sl20 fin
      exact opv_val (by go_simp <;> rfl) ⟨gw_self _, rfl⟩
    · refine owes_vt 9 true (Go.Op.load 4 (Go.Operand.tmp 147)) 4 [11] (by kernel_rfl) (by kernel_rfl) (by kernel_rfl) (fun _ _ h => h) (by rw [hsz]; kernel_rfl) (by kernel_rfl) rfl fun vals w1 ρ hG hF hρ hcst hfun => ?_
      have e147 : ρ (.tmp 147) = .pointer (some ⟨G18, 0, none⟩) := ((hρ 147).trans (slotJ [11] (by rw [hsz]; decide) (by kernel_rfl))).trans (hF 11 (by decide))
      have k0 : w1.cell? ⟨G18, 0, none⟩ = some (.bool true) := (H18.out.below hG H18.out.lt).cell 0
      clear hρ hF hcst hfun sl11 sl12 sl17 sl18 sl20 fin
      exact opv_val (by go_simp <;> rfl) ⟨gw_self _, rfl⟩
    · refine owes_v (Go.Op.pick (Go.Operand.tmp 145) (Go.Operand.tmp 148) (Go.Operand.const (Go.Value.bool false))) 4 [9, 12] (by kernel_rfl) (by kernel_rfl) (by kernel_rfl) rfl fun vals w1 ρ hG hF hρ hcst hfun => ?_
      have e145 : ρ (.tmp 145) = .bool true := ((hρ 145).trans (slotJ [9, 12] (by rw [hsz]; decide) (by kernel_rfl))).trans (hF 9 (by decide))
      have e148 : ρ (.tmp 148) = .bool true := ((hρ 148).trans (slotJ [9, 12] (by rw [hsz]; decide) (by kernel_rfl))).trans (hF 12 (by decide))
      clear hρ hF hfun sl11 sl12 sl17 sl18 sl20 fin
      exact opv_val (by go_simp <;> rfl) ⟨gw_self _, rfl⟩
    · exact owes_mvj 13 149 (by kernel_rfl) (by kernel_rfl) (by kernel_rfl) (by kernel_rfl) (by rw [hsz]; decide) (fun v w h => h)
    · refine owes_vt 14 true (Go.Op.move (Go.Operand.tmp 20)) 3 [] (by kernel_rfl) (by kernel_rfl) (by kernel_rfl) (fun _ _ h => h) (by rw [hsz]; kernel_rfl) (by kernel_rfl) rfl fun vals w1 ρ hG hF hρ hcst hfun => ?_
      have e20 : ρ (.tmp 20) = .int .i64 0 := ((hρ 20).trans (slotO [] (by kernel_rfl))).trans sl20
      clear hρ hF hcst hfun sl11 sl12 sl17 sl18 sl20 fin
      exact opv_val (by go_simp <;> rfl) ⟨gw_self _, rfl⟩
    · refine owes_vt 14 true (Go.Op.indexAddr 33 (Go.Operand.tmp 17) (Go.Operand.tmp 151)) 0 [15] (by kernel_rfl) (by kernel_rfl) (by kernel_rfl) (fun _ _ h => h) (by rw [hsz]; kernel_rfl) (by kernel_rfl) rfl fun vals w1 ρ hG hF hρ hcst hfun => ?_
      have e17 : ρ (.tmp 17) = .pointer (some ⟨G17, 0, none⟩) := ((hρ 17).trans (slotO [15] (by kernel_rfl))).trans sl17
      have e151 : ρ (.tmp 151) = .int .i64 0 := ((hρ 151).trans (slotJ [15] (by rw [hsz]; decide) (by kernel_rfl))).trans (hF 15 (by decide))
      clear hρ hF hcst hfun sl11 sl12 sl17 sl18 sl20 fin
      exact opv_val (by go_simp <;> rfl) ⟨gw_self _, rfl⟩
    · refine owes_vt 14 true (Go.Op.load 32 (Go.Operand.tmp 152)) 32 [16] (by kernel_rfl) (by kernel_rfl) (by kernel_rfl) (fun _ _ h => h) (by rw [hsz]; kernel_rfl) (by kernel_rfl) rfl fun vals w1 ρ hG hF hρ hcst hfun => ?_
      have e152 : ρ (.tmp 152) = .pointer (some ⟨G17, 0, none⟩) := ((hρ 152).trans (slotJ [16] (by rw [hsz]; decide) (by kernel_rfl))).trans (hF 16 (by decide))
      obtain ⟨⟨x0, x1, x2, x3, x4, x5, x6⟩, x7, x8, x9, x10, x11, x12, x13⟩ := (H17.out.below hG H17.out.lt).cut7
      clear hρ hF hcst hfun sl11 sl12 sl17 sl18 sl20 fin
      exact opv_val (by go_simp <;> rfl) ⟨gw_self _, rfl⟩
    · refine owes_vt 14 true (Go.Op.call { callee := Go.Callee.value (Go.Operand.func 12), args := #[Go.Operand.tmp 153], argTypes := #[32] }) 41 [17] (by kernel_rfl) (by kernel_rfl) (by kernel_rfl) (fun _ _ h => h) (by rw [hsz]; kernel_rfl) (by kernel_rfl) rfl fun vals w1 ρ hG hF hρ hcst hfun => ?_
      have e153 : ρ (.tmp 153) = .agg #[.int .u64 (U64 a.ep), .int .i64 a.s, .int .i64 a.l, .int .i64 a.n, .int .i64 a.sp, .int .i64 a.wd, .int .u64 (U64 a.lg)] := ((hρ 153).trans (slotJ [17] (by rw [hsz]; decide) (by kernel_rfl))).trans (hF 17 (by decide))
      clear hρ hF hcst sl11 sl12 sl17 sl18 sl20 fin
      exact opv_enter (by go_simp <;> rfl) (of_ret7 (of7_c a w1))
    · refine owes_vt 14 true (Go.Op.load 41 (Go.Operand.tmp 12)) 41 [] (by kernel_rfl) (by kernel_rfl) (by kernel_rfl) (fun _ _ h => h) (by rw [hsz]; kernel_rfl) (by kernel_rfl) rfl fun vals w1 ρ hG hF hρ hcst hfun => ?_
      have e12 : ρ (.tmp 12) = .pointer (some ⟨G12, 0, none⟩) := ((hρ 12).trans (slotO [] (by kernel_rfl))).trans sl12
      have k9 := H12.out.below hG H12.out.lt
      unfold Sb.cells at k9
      obtain ⟨x0, x1, x2, x3, x4, x5, x6⟩ := k9.seven
      clear hρ hF hcst hfun sl11 sl12 sl17 sl18 sl20 fin
      exact opv_val (by go_simp <;> rfl) ⟨gw_self _, rfl⟩
    · refine owes_vt 14 true (Go.Op.binOp Go.BinOp.eql 41 (Go.Operand.tmp 154) (Go.Operand.tmp 155) 41) 4 [18, 19] (by kernel_rfl) (by kernel_rfl) (by kernel_rfl) (fun _ _ h => h) (by rw [hsz]; kernel_rfl) (by kernel_rfl) rfl fun vals w1 ρ hG hF hρ hcst hfun => ?_
      have e154 : ρ (.tmp 154) = .agg #[.int .u64 (U64 a.ep), .int .i64 a.s, .int .i64 a.l, .int .i64 a.n, .int .i64 a.sp, .int .i64 a.wd, .int .u64 (U64 a.lg)] := ((hρ 154).trans (slotJ [18, 19] (by rw [hsz]; decide) (by kernel_rfl))).trans (hF 18 (by decide))
      have e155 : ρ (.tmp 155) = .agg #[.int .u64 (U64 t.ep), .int .i64 t.s, .int .i64 t.l, .int .i64 t.n, .int .i64 t.sp, .int .i64 t.wd, .int .u64 (U64 t.lg)] := ((hρ 155).trans (slotJ [18, 19] (by rw [hsz]; decide) (by kernel_rfl))).trans (hF 19 (by decide))
      have q := HQ.out
      clear hρ hF hcst hfun sl11 sl12 sl17 sl18 sl20 fin
      exact opv_val (by go_simp <;> rfl) ⟨gw_self _, rfl⟩
    · refine owes_v (Go.Op.pick (Go.Operand.tmp 150) (Go.Operand.tmp 156) (Go.Operand.const (Go.Value.bool false))) 4 [14, 20] (by kernel_rfl) (by kernel_rfl) (by kernel_rfl) rfl fun vals w1 ρ hG hF hρ hcst hfun => ?_
      have e150 : ρ (.tmp 150) = .bool true := ((hρ 150).trans (slotJ [14, 20] (by rw [hsz]; decide) (by kernel_rfl))).trans (hF 14 (by decide))
      have e156 : ρ (.tmp 156) = .bool r := ((hρ 156).trans (slotJ [14, 20] (by rw [hsz]; decide) (by kernel_rfl))).trans (hF 20 (by decide))
      clear hρ hF hfun sl11 sl12 sl17 sl18 sl20 fin
      exact opv_val (by go_simp <;> rfl) ⟨gw_self _, rfl⟩
    · exact owes_mvj 21 157 (by kernel_rfl) (by kernel_rfl) (by kernel_rfl) (by kernel_rfl) (by rw [hsz]; decide) (fun v w h => h)
  · intro vals w1 hG hF
    exact fin vals w1 hG (hF 22 (by decide +kernel))
theorem sc40_1c (Q : Exit → Act → World → Prop) (a0 : Act) (w : World) (G12 G17 G18 : Nat) (a b t : Sb) (f0 f1 : Bool) (H12 : Hid (Bk w G12 41 t.cells)) (H17 : Hid (Bk w G17 33 (c14 a b))) (H18 : Hid (Bk w G18 34 #[.bool f0, .bool f1])) (hsz : a0.tmps.size = 164) (sl11 : a0.tmps.getD 11 undef = .bool false)
    (fin : ∀ (vals : Nat → Value) (w1 : World), Below w.heap.size w w1 → (IsV (.bool false)) (vals 22) w1 → Q .normal (putD vals [136, 137, 138, 139, 140, 141, 142, 143, 144, 145, 146, 147, 148, 149, 150, 151, 152, 153, 154, 155, 156, 157, 22] 0 a0) w1) :
    (Code.region 40 (regIn Try.f4 40) true).wp Try.prog Q a0 w := by
  refine region_by (G := fun w w1 => Below w.heap.size w w1) [IsV (.bool false),
    IsV (.bool false),
    IsV undef,
    IsV undef,
    IsV undef,
    IsV undef,
    IsV undef,
    IsV undef,
    IsV (.bool false),
    IsV (.bool false),
    IsV undef,
    IsV undef,
    IsV undef,
    IsV (.bool false),
    IsV (.bool false),
    IsV undef,
    IsV undef,
    IsV undef,
    IsV undef,
    IsV undef,
    IsV undef,
    IsV (.bool false),
    IsV (.bool false)]
    [136, 137, 138, 139, 140, 141, 142, 143, 144, 145, 146, 147, 148, 149, 150, 151, 152, 153, 154, 155, 156, 157, 22] (by kernel_rfl) (Gw.drew _) Gw.trans (by rw [hsz]; kernel_rfl) (by kernel_rfl) ?_ ?_ ?_
  · intro f hf
    simp only [List.mem_cons, List.not_mem_nil, or_false] at hf
    rcases hf with rfl | rfl | rfl | rfl | rfl | rfl | rfl | rfl | rfl | rfl | rfl | rfl | rfl | rfl | rfl | rfl | rfl | rfl | rfl | rfl | rfl | rfl | rfl <;> intro v a b h g <;> first | exact IsV.mono h
  · refine ⟨?_, ?_, ?_, ?_, ?_, ?_, ?_, ?_, ?_, ?_, ?_, ?_, ?_, ?_, ?_, ?_, ?_, ?_, ?_, ?_, ?_, ?_, ?_, trivial⟩
    · exact owes_mv 11 (by kernel_rfl) (by kernel_rfl) (by kernel_rfl) sl11 (fun _ => rfl)
    · exact owes_mvj 0 136 (by kernel_rfl) (by kernel_rfl) (by kernel_rfl) (by kernel_rfl) (by rw [hsz]; decide) (fun v w h => h)
    · exact owes_no 1 false true (by decide) (by kernel_rfl) (by kernel_rfl) (fun _ _ h => h) (by rw [hsz]; kernel_rfl) (fun _ => rfl)
    · exact owes_no 1 false true (by decide) (by kernel_rfl) (by kernel_rfl) (fun _ _ h => h) (by rw [hsz]; kernel_rfl) (fun _ => rfl)
    · exact owes_no 1 false true (by decide) (by kernel_rfl) (by kernel_rfl) (fun _ _ h => h) (by rw [hsz]; kernel_rfl) (fun _ => rfl)
    · exact owes_no 1 false true (by decide) (by kernel_rfl) (by kernel_rfl) (fun _ _ h => h) (by rw [hsz]; kernel_rfl) (fun _ => rfl)
    · exact owes_no 1 false true (by decide) (by kernel_rfl) (by kernel_rfl) (fun _ _ h => h) (by rw [hsz]; kernel_rfl) (fun _ => rfl)
    · exact owes_no 1 false true (by decide) (by kernel_rfl) (by kernel_rfl) (fun _ _ h => h) (by rw [hsz]; kernel_rfl) (fun _ => rfl)
    · refine owes_v (Go.Op.pick (Go.Operand.tmp 137) (Go.Operand.tmp 143) (Go.Operand.const (Go.Value.bool false))) 4 [1, 7] (by kernel_rfl) (by kernel_rfl) (by kernel_rfl) rfl fun vals w1 ρ hG hF hρ hcst hfun => ?_
      have e137 : ρ (.tmp 137) = .bool false := ((hρ 137).trans (slotJ [1, 7] (by rw [hsz]; decide) (by kernel_rfl))).trans (hF 1 (by decide))
      have e143 : ρ (.tmp 143) = undef := ((hρ 143).trans (slotJ [1, 7] (by rw [hsz]; decide) (by kernel_rfl))).trans (hF 7 (by decide))
      clear hρ hF hfun sl11 fin
      exact opv_val (by go_simp <;> rfl) ⟨gw_self _, rfl⟩
    · exact owes_mvj 8 144 (by kernel_rfl) (by kernel_rfl) (by kernel_rfl) (by kernel_rfl) (by rw [hsz]; decide) (fun v w h => h)
    · exact owes_no 9 false true (by decide) (by kernel_rfl) (by kernel_rfl) (fun _ _ h => h) (by rw [hsz]; kernel_rfl) (fun _ => rfl)
    · exact owes_no 9 false true (by decide) (by kernel_rfl) (by kernel_rfl) (fun _ _ h => h) (by rw [hsz]; kernel_rfl) (fun _ => rfl)
    · exact owes_no 9 false true (by decide) (by kernel_rfl) (by kernel_rfl) (fun _ _ h => h) (by rw [hsz]; kernel_rfl) (fun _ => rfl)
    · refine owes_v (Go.Op.pick (Go.Operand.tmp 145) (Go.Operand.tmp 148) (Go.Operand.const (Go.Value.bool false))) 4 [9, 12] (by kernel_rfl) (by kernel_rfl) (by kernel_rfl) rfl fun vals w1 ρ hG hF hρ hcst hfun => ?_
      have e145 : ρ (.tmp 145) = .bool false := ((hρ 145).trans (slotJ [9, 12] (by rw [hsz]; decide) (by kernel_rfl))).trans (hF 9 (by decide))
      have e148 : ρ (.tmp 148) = undef := ((hρ 148).trans (slotJ [9, 12] (by rw [hsz]; decide) (by kernel_rfl))).trans (hF 12 (by decide))
      clear hρ hF hfun sl11 fin
      exact opv_val (by go_simp <;> rfl) ⟨gw_self _, rfl⟩
    · exact owes_mvj 13 149 (by kernel_rfl) (by kernel_rfl) (by kernel_rfl) (by kernel_rfl) (by rw [hsz]; decide) (fun v w h => h)
    · exact owes_no 14 false true (by decide) (by kernel_rfl) (by kernel_rfl) (fun _ _ h => h) (by rw [hsz]; kernel_rfl) (fun _ => rfl)
    · exact owes_no 14 false true (by decide) (by kernel_rfl) (by kernel_rfl) (fun _ _ h => h) (by rw [hsz]; kernel_rfl) (fun _ => rfl)
    · exact owes_no 14 false true (by decide) (by kernel_rfl) (by kernel_rfl) (fun _ _ h => h) (by rw [hsz]; kernel_rfl) (fun _ => rfl)
    · exact owes_no 14 false true (by decide) (by kernel_rfl) (by kernel_rfl) (fun _ _ h => h) (by rw [hsz]; kernel_rfl) (fun _ => rfl)
    · exact owes_no 14 false true (by decide) (by kernel_rfl) (by kernel_rfl) (fun _ _ h => h) (by rw [hsz]; kernel_rfl) (fun _ => rfl)
    · exact owes_no 14 false true (by decide) (by kernel_rfl) (by kernel_rfl) (fun _ _ h => h) (by rw [hsz]; kernel_rfl) (fun _ => rfl)
    · refine owes_v (Go.Op.pick (Go.Operand.tmp 150) (Go.Operand.tmp 156) (Go.Operand.const (Go.Value.bool false))) 4 [14, 20] (by kernel_rfl) (by kernel_rfl) (by kernel_rfl) rfl fun vals w1 ρ hG hF hρ hcst hfun => ?_
      have e150 : ρ (.tmp 150) = .bool false := ((hρ 150).trans (slotJ [14, 20] (by rw [hsz]; decide) (by kernel_rfl))).trans (hF 14 (by decide))
      have e156 : ρ (.tmp 156) = undef := ((hρ 156).trans (slotJ [14, 20] (by rw [hsz]; decide) (by kernel_rfl))).trans (hF 20 (by decide))
      clear hρ hF hfun sl11 fin
      exact opv_val (by go_simp <;> rfl) ⟨gw_self _, rfl⟩
    · exact owes_mvj 21 157 (by kernel_rfl) (by kernel_rfl) (by kernel_rfl) (by kernel_rfl) (by rw [hsz]; decide) (fun v w h => h)
  · intro vals w1 hG hF
    exact fin vals w1 hG (hF 22 (by decide +kernel))
theorem sc40_1o (Q : Exit → Act → World → Prop) (a0 : Act) (w : World) (G12 G17 G18 : Nat) (a b t : Sb) (f0 f1 : Bool) (m : Int) (hm : Hid (U64 t.ep % 2 = m)) (hi : (m == 1) = false) (H12 : Hid (Bk w G12 41 t.cells)) (H17 : Hid (Bk w G17 33 (c14 a b))) (H18 : Hid (Bk w G18 34 #[.bool f0, .bool f1])) (hsz : a0.tmps.size = 164) (sl11 : a0.tmps.getD 11 undef = .bool true) (sl12 : a0.tmps.getD 12 undef = .pointer (some ⟨G12, 0, none⟩)) (sl20 : a0.tmps.getD 20 undef = .int .i64 1)
    (fin : ∀ (vals : Nat → Value) (w1 : World), Below w.heap.size w w1 → (IsV (.bool false)) (vals 22) w1 → Q .normal (putD vals [136, 137, 138, 139, 140, 141, 142, 143, 144, 145, 146, 147, 148, 149, 150, 151, 152, 153, 154, 155, 156, 157, 22] 0 a0) w1) :
    (Code.region 40 (regIn Try.f4 40) true).wp Try.prog Q a0 w := by
  refine region_by (G := fun w w1 => Below w.heap.size w w1) [IsV (.bool true),
    IsV (.bool true),
    IsV (.pointer (some ⟨G12, 0, none⟩)),
    IsV (.int .u64 (U64 t.ep)),
    IsV (.int .u64 m),
    IsV (.int .i64 m),
    IsV (.int .i64 1),
    IsV (.bool false),
    IsV (.bool false),
    IsV (.bool false),
    IsV undef,
    IsV undef,
    IsV undef,
    IsV (.bool false),
    IsV (.bool false),
    IsV undef,
    IsV undef,
    IsV undef,
    IsV undef,
    IsV undef,
    IsV undef,
    IsV (.bool false),
    IsV (.bool false)]
    [136, 137, 138, 139, 140, 141, 142, 143, 144, 145, 146, 147, 148, 149, 150, 151, 152, 153, 154, 155, 156, 157, 22] (by kernel_rfl) (Gw.drew _) Gw.trans (by rw [hsz]; kernel_rfl) (by kernel_rfl) ?_ ?_ ?_
  · intro f hf
    simp only [List.mem_cons, List.not_mem_nil, or_false] at hf
    rcases hf with rfl | rfl | rfl | rfl | rfl | rfl | rfl | rfl | rfl | rfl | rfl | rfl | rfl | rfl | rfl | rfl | rfl | rfl | rfl | rfl | rfl | rfl | rfl <;> intro v a b h g <;> first | exact IsV.mono h
  · refine ⟨?_, ?_, ?_, ?_, ?_, ?_, ?_, ?_, ?_, ?_, ?_, ?_, ?_, ?_, ?_, ?_, ?_, ?_, ?_, ?_, ?_, ?_, ?_, trivial⟩
    · exact owes_mv 11 (by kernel_rfl) (by kernel_rfl) (by kernel_rfl) sl11 (fun _ => rfl)
    · exact owes_mvj 0 136 (by kernel_rfl) (by kernel_rfl) (by kernel_rfl) (by kernel_rfl) (by rw [hsz]; decide) (fun v w h => h)
    · refine owes_vt 1 true (Go.Op.fieldAddr 41 (Go.Operand.tmp 12) 0) 0 [] (by kernel_rfl) (by kernel_rfl) (by kernel_rfl) (fun _ _ h => h) (by rw [hsz]; kernel_rfl) (by kernel_rfl) rfl fun vals w1 ρ hG hF hρ hcst hfun => ?_
      have e12 : ρ (.tmp 12) = .pointer (some ⟨G12, 0, none⟩) := ((hρ 12).trans (slotO [] (by kernel_rfl))).trans sl12
      clear hρ hF hcst hfun sl11 sl12 sl20 fin
      exact opv_val (by go_simp <;> rfl) ⟨gw_self _, rfl⟩
    · refine owes_vt 1 true (Go.Op.load 28 (Go.Operand.tmp 138)) 28 [2] (by kernel_rfl) (by kernel_rfl) (by kernel_rfl) (fun _ _ h => h) (by rw [hsz]; kernel_rfl) (by kernel_rfl) rfl fun vals w1 ρ hG hF hρ hcst hfun => ?_
      have e138 : ρ (.tmp 138) = .pointer (some ⟨G12, 0, none⟩) := ((hρ 138).trans (slotJ [2] (by rw [hsz]; decide) (by kernel_rfl))).trans (hF 2 (by decide))
      have k0 : w1.cell? ⟨G12, 0, none⟩ = some (.int .u64 (U64 t.ep)) := (H12.out.below hG H12.out.lt).cell 0
      clear hρ hF hcst hfun sl11 sl12 sl20 fin
      exact opv_val (by go_simp <;> rfl) ⟨gw_self _, rfl⟩
    · refine owes_vt 1 true (Go.Op.binOp Go.BinOp.rem 28 (Go.Operand.tmp 139) (Go.Operand.const (Go.Value.int Go.IntKind.u64 2)) 28) 28 [3] (by kernel_rfl) (by kernel_rfl) (by kernel_rfl) (fun _ _ h => h) (by rw [hsz]; kernel_rfl) (by kernel_rfl) rfl fun vals w1 ρ hG hF hρ hcst hfun => ?_
      have e139 : ρ (.tmp 139) = .int .u64 (U64 t.ep) := ((hρ 139).trans (slotJ [3] (by rw [hsz]; decide) (by kernel_rfl))).trans (hF 3 (by decide))
      have q := (Int.tmod_eq_emod_of_nonneg (b := 2) (U64_lo t.ep)).trans hm.out
      clear hρ hF hfun sl11 sl12 sl20 fin
      exact opv_val (by go_simp <;> rfl) ⟨gw_self _, rfl⟩
    · refine owes_vt 1 true (Go.Op.convert 28 3 (Go.Operand.tmp 140)) 3 [4] (by kernel_rfl) (by kernel_rfl) (by kernel_rfl) (fun _ _ h => h) (by rw [hsz]; kernel_rfl) (by kernel_rfl) rfl fun vals w1 ρ hG hF hρ hcst hfun => ?_
      have e140 : ρ (.tmp 140) = .int .u64 m := ((hρ 140).trans (slotJ [4] (by rw [hsz]; decide) (by kernel_rfl))).trans (hF 4 (by decide))
      have q := hm.out
      have q1 : 0 ≤ m := by omega
      have q2 : m ≤ 1 := by omega
      clear q
      have kw4 : IntKind.i64.wrap (m) = m := wrapIn (by omega) (by omega)
      clear hρ hF hcst hfun sl11 sl12 sl20 fin
      exact opv_val (by go_simp <;> rfl) ⟨gw_self _, rfl⟩
    · refine owes_vt 1 true (Go.Op.move (Go.Operand.tmp 20)) 3 [] (by kernel_rfl) (by kernel_rfl) (by kernel_rfl) (fun _ _ h => h) (by rw [hsz]; kernel_rfl) (by kernel_rfl) rfl fun vals w1 ρ hG hF hρ hcst hfun => ?_
      have e20 : ρ (.tmp 20) = .int .i64 1 := ((hρ 20).trans (slotO [] (by kernel_rfl))).trans sl20
      clear hρ hF hcst hfun sl11 sl12 sl20 fin
      exact opv_val (by go_simp <;> rfl) ⟨gw_self _, rfl⟩
    · refine owes_vt 1 true (Go.Op.binOp Go.BinOp.eql 3 (Go.Operand.tmp 141) (Go.Operand.tmp 142) 3) 4 [5, 6] (by kernel_rfl) (by kernel_rfl) (by kernel_rfl) (fun _ _ h => h) (by rw [hsz]; kernel_rfl) (by kernel_rfl) rfl fun vals w1 ρ hG hF hρ hcst hfun => ?_
      have e141 : ρ (.tmp 141) = .int .i64 m := ((hρ 141).trans (slotJ [5, 6] (by rw [hsz]; decide) (by kernel_rfl))).trans (hF 5 (by decide))
      have e142 : ρ (.tmp 142) = .int .i64 1 := ((hρ 142).trans (slotJ [5, 6] (by rw [hsz]; decide) (by kernel_rfl))).trans (hF 6 (by decide))
      have q := hi
      clear hρ hF hcst hfun sl11 sl12 sl20 fin
      exact opv_val (by go_simp <;> rfl) ⟨gw_self _, rfl⟩
    · refine owes_v (Go.Op.pick (Go.Operand.tmp 137) (Go.Operand.tmp 143) (Go.Operand.const (Go.Value.bool false))) 4 [1, 7] (by kernel_rfl) (by kernel_rfl) (by kernel_rfl) rfl fun vals w1 ρ hG hF hρ hcst hfun => ?_
      have e137 : ρ (.tmp 137) = .bool true := ((hρ 137).trans (slotJ [1, 7] (by rw [hsz]; decide) (by kernel_rfl))).trans (hF 1 (by decide))
      have e143 : ρ (.tmp 143) = .bool false := ((hρ 143).trans (slotJ [1, 7] (by rw [hsz]; decide) (by kernel_rfl))).trans (hF 7 (by decide))
      clear hρ hF hfun sl11 sl12 sl20 fin
      exact opv_val (by go_simp <;> rfl) ⟨gw_self _, rfl⟩
    · exact owes_mvj 8 144 (by kernel_rfl) (by kernel_rfl) (by kernel_rfl) (by kernel_rfl) (by rw [hsz]; decide) (fun v w h => h)
    · exact owes_no 9 false true (by decide) (by kernel_rfl) (by kernel_rfl) (fun _ _ h => h) (by rw [hsz]; kernel_rfl) (fun _ => rfl)
    · exact owes_no 9 false true (by decide) (by kernel_rfl) (by kernel_rfl) (fun _ _ h => h) (by rw [hsz]; kernel_rfl) (fun _ => rfl)
    · exact owes_no 9 false true (by decide) (by kernel_rfl) (by kernel_rfl) (fun _ _ h => h) (by rw [hsz]; kernel_rfl) (fun _ => rfl)
    · refine owes_v (Go.Op.pick (Go.Operand.tmp 145) (Go.Operand.tmp 148) (Go.Operand.const (Go.Value.bool false))) 4 [9, 12] (by kernel_rfl) (by kernel_rfl) (by kernel_rfl) rfl fun vals w1 ρ hG hF hρ hcst hfun => ?_
      have e145 : ρ (.tmp 145) = .bool false := ((hρ 145).trans (slotJ [9, 12] (by rw [hsz]; decide) (by kernel_rfl))).trans (hF 9 (by decide))
      have e148 : ρ (.tmp 148) = undef := ((hρ 148).trans (slotJ [9, 12] (by rw [hsz]; decide) (by kernel_rfl))).trans (hF 12 (by decide))
      clear hρ hF hfun sl11 sl12 sl20 fin
      exact opv_val (by go_simp <;> rfl) ⟨gw_self _, rfl⟩
    · exact owes_mvj 13 149 (by kernel_rfl) (by kernel_rfl) (by kernel_rfl) (by kernel_rfl) (by rw [hsz]; decide) (fun v w h => h)
    · exact owes_no 14 false true (by decide) (by kernel_rfl) (by kernel_rfl) (fun _ _ h => h) (by rw [hsz]; kernel_rfl) (fun _ => rfl)
    · exact owes_no 14 false true (by decide) (by kernel_rfl) (by kernel_rfl) (fun _ _ h => h) (by rw [hsz]; kernel_rfl) (fun _ => rfl)
    · exact owes_no 14 false true (by decide) (by kernel_rfl) (by kernel_rfl) (fun _ _ h => h) (by rw [hsz]; kernel_rfl) (fun _ => rfl)
    · exact owes_no 14 false true (by decide) (by kernel_rfl) (by kernel_rfl) (fun _ _ h => h) (by rw [hsz]; kernel_rfl) (fun _ => rfl)
    · exact owes_no 14 false true (by decide) (by kernel_rfl) (by kernel_rfl) (fun _ _ h => h) (by rw [hsz]; kernel_rfl) (fun _ => rfl)
    · exact owes_no 14 false true (by decide) (by kernel_rfl) (by kernel_rfl) (fun _ _ h => h) (by rw [hsz]; kernel_rfl) (fun _ => rfl)
    · refine owes_v (Go.Op.pick (Go.Operand.tmp 150) (Go.Operand.tmp 156) (Go.Operand.const (Go.Value.bool false))) 4 [14, 20] (by kernel_rfl) (by kernel_rfl) (by kernel_rfl) rfl fun vals w1 ρ hG hF hρ hcst hfun => ?_
      have e150 : ρ (.tmp 150) = .bool false := ((hρ 150).trans (slotJ [14, 20] (by rw [hsz]; decide) (by kernel_rfl))).trans (hF 14 (by decide))
      have e156 : ρ (.tmp 156) = undef := ((hρ 156).trans (slotJ [14, 20] (by rw [hsz]; decide) (by kernel_rfl))).trans (hF 20 (by decide))
      clear hρ hF hfun sl11 sl12 sl20 fin
      exact opv_val (by go_simp <;> rfl) ⟨gw_self _, rfl⟩
    · exact owes_mvj 21 157 (by kernel_rfl) (by kernel_rfl) (by kernel_rfl) (by kernel_rfl) (by rw [hsz]; decide) (fun v w h => h)
  · intro vals w1 hG hF
    exact fin vals w1 hG (hF 22 (by decide +kernel))
theorem sc40_1n (Q : Exit → Act → World → Prop) (a0 : Act) (w : World) (G12 G17 G18 : Nat) (a b t : Sb) (f0 f1 : Bool) (m : Int) (hm : Hid (U64 t.ep % 2 = m)) (hi : (m == 1) = true) (H12 : Hid (Bk w G12 41 t.cells)) (H17 : Hid (Bk w G17 33 (c14 a b))) (H18 : Hid (Bk w G18 34 #[.bool f0, .bool false])) (hsz : a0.tmps.size = 164) (sl11 : a0.tmps.getD 11 undef = .bool true) (sl12 : a0.tmps.getD 12 undef = .pointer (some ⟨G12, 0, none⟩)) (sl18 : a0.tmps.getD 18 undef = .pointer (some ⟨G18, 0, none⟩)) (sl20 : a0.tmps.getD 20 undef = .int .i64 1)
    (fin : ∀ (vals : Nat → Value) (w1 : World), Below w.heap.size w w1 → (IsV (.bool false)) (vals 22) w1 → Q .normal (putD vals [136, 137, 138, 139, 140, 141, 142, 143, 144, 145, 146, 147, 148, 149, 150, 151, 152, 153, 154, 155, 156, 157, 22] 0 a0) w1) :
    (Code.region 40 (regIn Try.f4 40) true).wp Try.prog Q a0 w := by
  refine region_by (G := fun w w1 => Below w.heap.size w w1) [IsV (.bool true),
    IsV (.bool true),
    IsV (.pointer (some ⟨G12, 0, none⟩)),
    IsV (.int .u64 (U64 t.ep)),
    IsV (.int .u64 m),
    IsV (.int .i64 m),
    IsV (.int .i64 1),
    IsV (.bool true),
    IsV (.bool true),
    IsV (.bool true),
    IsV (.int .i64 1),
    IsV (.pointer (some ⟨G18, 1, none⟩)),
    IsV (.bool false),
    IsV (.bool false),
    IsV (.bool false),
    IsV undef,
    IsV undef,
    IsV undef,
    IsV undef,
    IsV undef,
    IsV undef,
    IsV (.bool false),
    IsV (.bool false)]
    [136, 137, 138, 139, 140, 141, 142, 143, 144, 145, 146, 147, 148, 149, 150, 151, 152, 153, 154, 155, 156, 157, 22] (by kernel_rfl) (Gw.drew _) Gw.trans (by rw [hsz]; kernel_rfl) (by kernel_rfl) ?_ ?_ ?_
  · intro f hf
    simp only [List.mem_cons, List.not_mem_nil, or_false] at hf
    rcases hf with rfl | rfl | rfl | rfl | rfl | rfl | rfl | rfl | rfl | rfl | rfl | rfl | rfl | rfl | rfl | rfl | rfl | rfl | rfl | rfl | rfl | rfl | rfl <;> intro v a b h g <;> first | exact IsV.mono h
  · refine ⟨?_, ?_, ?_, ?_, ?_, ?_, ?_, ?_, ?_, ?_, ?_, ?_, ?_, ?_, ?_, ?_, ?_, ?_, ?_, ?_, ?_, ?_, ?_, trivial⟩
    · exact owes_mv 11 (by kernel_rfl) (by kernel_rfl) (by kernel_rfl) sl11 (fun _ => rfl)
    · exact owes_mvj 0 136 (by kernel_rfl) (by kernel_rfl) (by kernel_rfl) (by kernel_rfl) (by rw [hsz]; decide) (fun v w h => h)
    · refine owes_vt 1 true (Go.Op.fieldAddr 41 (Go.Operand.tmp 12) 0) 0 [] (by kernel_rfl) (by kernel_rfl) (by kernel_rfl) (fun _ _ h => h) (by rw [hsz]; kernel_rfl) (by kernel_rfl) rfl fun vals w1 ρ hG hF hρ hcst hfun => ?_
      have e12 : ρ (.tmp 12) = .pointer (some ⟨G12, 0, none⟩) := ((hρ 12).trans (slotO [] (by kernel_rfl))).trans sl12
      clear hρ hF hcst hfun sl11 sl12 sl18 sl20 fin
      exact opv_val (by go_simp <;> rfl) ⟨gw_self _, rfl⟩
    · refine owes_vt 1 true (Go.Op.load 28 (Go.Operand.tmp 138)) 28 [2] (by kernel_rfl) (by kernel_rfl) (by kernel_rfl) (fun _ _ h => h) (by rw [hsz]; kernel_rfl) (by kernel_rfl) rfl fun vals w1 ρ hG hF hρ hcst hfun => ?_
      have e138 : ρ (.tmp 138) = .pointer (some ⟨G12, 0, none⟩) := ((hρ 138).trans (slotJ [2] (by rw [hsz]; decide) (by kernel_rfl))).trans (hF 2 (by decide))
      have k0 : w1.cell? ⟨G12, 0, none⟩ = some (.int .u64 (U64 t.ep)) := (H12.out.below hG H12.out.lt).cell 0
      clear hρ hF hcst hfun sl11 sl12 sl18 sl20 fin
      exact opv_val (by go_simp <;> rfl) ⟨gw_self _, rfl⟩
    · refine owes_vt 1 true (Go.Op.binOp Go.BinOp.rem 28 (Go.Operand.tmp 139) (Go.Operand.const (Go.Value.int Go.IntKind.u64 2)) 28) 28 [3] (by kernel_rfl) (by kernel_rfl) (by kernel_rfl) (fun _ _ h => h) (by rw [hsz]; kernel_rfl) (by kernel_rfl) rfl fun vals w1 ρ hG hF hρ hcst hfun => ?_
      have e139 : ρ (.tmp 139) = .int .u64 (U64 t.ep) := ((hρ 139).trans (slotJ [3] (by rw [hsz]; decide) (by kernel_rfl))).trans (hF 3 (by decide))
      have q := (Int.tmod_eq_emod_of_nonneg (b := 2) (U64_lo t.ep)).trans hm.out
      clear hρ hF hfun sl11 sl12 sl18 sl20 fin
      exact opv_val (by go_simp <;> rfl) ⟨gw_self _, rfl⟩
    · refine owes_vt 1 true (Go.Op.convert 28 3 (Go.Operand.tmp 140)) 3 [4] (by kernel_rfl) (by kernel_rfl) (by kernel_rfl) (fun _ _ h => h) (by rw [hsz]; kernel_rfl) (by kernel_rfl) rfl fun vals w1 ρ hG hF hρ hcst hfun => ?_
      have e140 : ρ (.tmp 140) = .int .u64 m := ((hρ 140).trans (slotJ [4] (by rw [hsz]; decide) (by kernel_rfl))).trans (hF 4 (by decide))
      have q := hm.out
      have q1 : 0 ≤ m := by omega
      have q2 : m ≤ 1 := by omega
      clear q
      have kw4 : IntKind.i64.wrap (m) = m := wrapIn (by omega) (by omega)
      clear hρ hF hcst hfun sl11 sl12 sl18 sl20 fin
      exact opv_val (by go_simp <;> rfl) ⟨gw_self _, rfl⟩
    · refine owes_vt 1 true (Go.Op.move (Go.Operand.tmp 20)) 3 [] (by kernel_rfl) (by kernel_rfl) (by kernel_rfl) (fun _ _ h => h) (by rw [hsz]; kernel_rfl) (by kernel_rfl) rfl fun vals w1 ρ hG hF hρ hcst hfun => ?_
      have e20 : ρ (.tmp 20) = .int .i64 1 := ((hρ 20).trans (slotO [] (by kernel_rfl))).trans sl20
      clear hρ hF hcst hfun sl11 sl12 sl18 sl20 fin
      exact opv_val (by go_simp <;> rfl) ⟨gw_self _, rfl⟩
    · refine owes_vt 1 true (Go.Op.binOp Go.BinOp.eql 3 (Go.Operand.tmp 141) (Go.Operand.tmp 142) 3) 4 [5, 6] (by kernel_rfl) (by kernel_rfl) (by kernel_rfl) (fun _ _ h => h) (by rw [hsz]; kernel_rfl) (by kernel_rfl) rfl fun vals w1 ρ hG hF hρ hcst hfun => ?_
      have e141 : ρ (.tmp 141) = .int .i64 m := ((hρ 141).trans (slotJ [5, 6] (by rw [hsz]; decide) (by kernel_rfl))).trans (hF 5 (by decide))
      have e142 : ρ (.tmp 142) = .int .i64 1 := ((hρ 142).trans (slotJ [5, 6] (by rw [hsz]; decide) (by kernel_rfl))).trans (hF 6 (by decide))
      have q := hi
      clear hρ hF hcst hfun sl11 sl12 sl18 sl20 fin
      exact opv_val (by go_simp <;> rfl) ⟨gw_self _, rfl⟩
    · refine owes_v (Go.Op.pick (Go.Operand.tmp 137) (Go.Operand.tmp 143) (Go.Operand.const (Go.Value.bool false))) 4 [1, 7] (by kernel_rfl) (by kernel_rfl) (by kernel_rfl) rfl fun vals w1 ρ hG hF hρ hcst hfun => ?_
      have e137 : ρ (.tmp 137) = .bool true := ((hρ 137).trans (slotJ [1, 7] (by rw [hsz]; decide) (by kernel_rfl))).trans (hF 1 (by decide))
      have e143 : ρ (.tmp 143) = .bool true := ((hρ 143).trans (slotJ [1, 7] (by rw [hsz]; decide) (by kernel_rfl))).trans (hF 7 (by decide))
      clear hρ hF hfun sl11 sl12 sl18 sl20 fin
      exact opv_val (by go_simp <;> rfl) ⟨gw_self _, rfl⟩
    · exact owes_mvj 8 144 (by kernel_rfl) (by kernel_rfl) (by kernel_rfl) (by kernel_rfl) (by rw [hsz]; decide) (fun v w h => h)
    · refine owes_vt 9 true (Go.Op.move (Go.Operand.tmp 20)) 3 [] (by kernel_rfl) (by kernel_rfl) (by kernel_rfl) (fun _ _ h => h) (by rw [hsz]; kernel_rfl) (by kernel_rfl) rfl fun vals w1 ρ hG hF hρ hcst hfun => ?_
      have e20 : ρ (.tmp 20) = .int .i64 1 := ((hρ 20).trans (slotO [] (by kernel_rfl))).trans sl20
      clear hρ hF hcst hfun sl11 sl12 sl18 sl20 fin
      exact opv_val (by go_simp <;> rfl) ⟨gw_self _, rfl⟩
    · refine owes_vt 9 true (Go.Op.indexAddr 34 (Go.Operand.tmp 18) (Go.Operand.tmp 146)) 0 [10] (by kernel_rfl) (by kernel_rfl) (by kernel_rfl) (fun _ _ h => h) (by rw [hsz]; kernel_rfl) (by kernel_rfl) rfl fun vals w1 ρ hG hF hρ hcst hfun => ?_
      have e18 : ρ (.tmp 18) = .pointer (some ⟨G18, 0, none⟩) := ((hρ 18).trans (slotO [10] (by kernel_rfl))).trans sl18
      have e146 : ρ (.tmp 146) = .int .i64 1 := ((hρ 146).trans (slotJ [10] (by rw [hsz]; decide) (by kernel_rfl))).trans (hF 10 (by decide))
      clear hρ hF hcst hfun sl11 sl12 sl18 sl20 fin
      exact opv_val (by go_simp <;> rfl) ⟨gw_self _, rfl⟩
    · refine owes_vt 9 true (Go.Op.load 4 (Go.Operand.tmp 147)) 4 [11] (by kernel_rfl) (by kernel_rfl) (by kernel_rfl) (fun _ _ h => h) (by rw [hsz]; kernel_rfl) (by kernel_rfl) rfl fun vals w1 ρ hG hF hρ hcst hfun => ?_
      have e147 : ρ (.tmp 147) = .pointer (some ⟨G18, 1, none⟩) := ((hρ 147).trans (slotJ [11] (by rw [hsz]; decide) (by kernel_rfl))).trans (hF 11 (by decide))
      have k0 : w1.cell? ⟨G18, 1, none⟩ = some (.bool false) := (H18.out.below hG H18.out.lt).cell 1
      clear hρ hF hcst hfun sl11 sl12 sl18 sl20 fin
      exact opv_val (by go_simp <;> rfl) ⟨gw_self _, rfl⟩
    · refine owes_v (Go.Op.pick (Go.Operand.tmp 145) (Go.Operand.tmp 148) (Go.Operand.const (Go.Value.bool false))) 4 [9, 12] (by kernel_rfl) (by kernel_rfl) (by kernel_rfl) rfl fun vals w1 ρ hG hF hρ hcst hfun => ?_
      have e145 : ρ (.tmp 145) = .bool true := ((hρ 145).trans (slotJ [9, 12] (by rw [hsz]; decide) (by kernel_rfl))).trans (hF 9 (by decide))
      have e148 : ρ (.tmp 148) = .bool false := ((hρ 148).trans (slotJ [9, 12] (by rw [hsz]; decide) (by kernel_rfl))).trans (hF 12 (by decide))
      clear hρ hF hfun sl11 sl12 sl18 sl20 fin
      exact opv_val (by go_simp <;> rfl) ⟨gw_self _, rfl⟩
    · exact owes_mvj 13 149 (by kernel_rfl) (by kernel_rfl) (by kernel_rfl) (by kernel_rfl) (by rw [hsz]; decide) (fun v w h => h)
    · exact owes_no 14 false true (by decide) (by kernel_rfl) (by kernel_rfl) (fun _ _ h => h) (by rw [hsz]; kernel_rfl) (fun _ => rfl)
    · exact owes_no 14 false true (by decide) (by kernel_rfl) (by kernel_rfl) (fun _ _ h => h) (by rw [hsz]; kernel_rfl) (fun _ => rfl)
    · exact owes_no 14 false true (by decide) (by kernel_rfl) (by kernel_rfl) (fun _ _ h => h) (by rw [hsz]; kernel_rfl) (fun _ => rfl)
    · exact owes_no 14 false true (by decide) (by kernel_rfl) (by kernel_rfl) (fun _ _ h => h) (by rw [hsz]; kernel_rfl) (fun _ => rfl)
    · exact owes_no 14 false true (by decide) (by kernel_rfl) (by kernel_rfl) (fun _ _ h => h) (by rw [hsz]; kernel_rfl) (fun _ => rfl)
    · exact owes_no 14 false true (by decide) (by kernel_rfl) (by kernel_rfl) (fun _ _ h => h) (by rw [hsz]; kernel_rfl) (fun _ => rfl)
    · refine owes_v (Go.Op.pick (Go.Operand.tmp 150) (Go.Operand.tmp 156) (Go.Operand.const (Go.Value.bool false))) 4 [14, 20] (by kernel_rfl) (by kernel_rfl) (by kernel_rfl) rfl fun vals w1 ρ hG hF hρ hcst hfun => ?_
      have e150 : ρ (.tmp 150) = .bool false := ((hρ 150).trans (slotJ [14, 20] (by rw [hsz]; decide) (by kernel_rfl))).trans (hF 14 (by decide))
      have e156 : ρ (.tmp 156) = undef := ((hρ 156).trans (slotJ [14, 20] (by rw [hsz]; decide) (by kernel_rfl))).trans (hF 20 (by decide))
      clear hρ hF hfun sl11 sl12 sl18 sl20 fin
      exact opv_val (by go_simp <;> rfl) ⟨gw_self _, rfl⟩
    · exact owes_mvj 21 157 (by kernel_rfl) (by kernel_rfl) (by kernel_rfl) (by kernel_rfl) (by rw [hsz]; decide) (fun v w h => h)
  · intro vals w1 hG hF
    exact fin vals w1 hG (hF 22 (by decide +kernel))
theorem sc40_1y (Q : Exit → Act → World → Prop) (a0 : Act) (w : World) (G12 G17 G18 : Nat) (a b t : Sb) (f0 f1 : Bool) (m : Int) (hm : Hid (U64 t.ep % 2 = m)) (hi : (m == 1) = true) (r : Bool) (HQ : Hid (∀ W : World, (Op.equalIn 10000 41 (.agg #[.int .u64 (U64 b.ep), .int .i64 b.s, .int .i64 b.l, .int .i64 b.n, .int .i64 b.sp, .int .i64 b.wd, .int .u64 (U64 b.lg)]) (.agg #[.int .u64 (U64 t.ep), .int .i64 t.s, .int .i64 t.l, .int .i64 t.n, .int .i64 t.sp, .int .i64 t.wd, .int .u64 (U64 t.lg)])).run Try.prog W = .ok r W)) (H12 : Hid (Bk w G12 41 t.cells)) (H17 : Hid (Bk w G17 33 (c14 a b))) (H18 : Hid (Bk w G18 34 #[.bool f0, .bool true])) (hsz : a0.tmps.size = 164) (sl11 : a0.tmps.getD 11 undef = .bool true) (sl12 : a0.tmps.getD 12 undef = .pointer (some ⟨G12, 0, none⟩)) (sl17 : a0.tmps.getD 17 undef = .pointer (some ⟨G17, 0, none⟩)) (sl18 : a0.tmps.getD 18 undef = .pointer (some ⟨G18, 0, none⟩)) (sl20 : a0.tmps.getD 20 undef = .int .i64 1)
    (fin : ∀ (vals : Nat → Value) (w1 : World), Below w.heap.size w w1 → (IsV (.bool r)) (vals 22) w1 → Q .normal (putD vals [136, 137, 138, 139, 140, 141, 142, 143, 144, 145, 146, 147, 148, 149, 150, 151, 152, 153, 154, 155, 156, 157, 22] 0 a0) w1) :
    (Code.region 40 (regIn Try.f4 40) true).wp Try.prog Q a0 w := by
  refine region_by (G := fun w w1 => Below w.heap.size w w1) [IsV (.bool true),
    IsV (.bool true),
    IsV (.pointer (some ⟨G12, 0, none⟩)),
    IsV (.int .u64 (U64 t.ep)),
    IsV (.int .u64 m),
    IsV (.int .i64 m),
    IsV (.int .i64 1),
    IsV (.bool true),
    IsV (.bool true),
    IsV (.bool true),
    IsV (.int .i64 1),
    IsV (.pointer (some ⟨G18, 1, none⟩)),
    IsV (.bool true),
    IsV (.bool true),
    IsV (.bool true),
    IsV (.int .i64 1),
    IsV (.pointer (some ⟨G17, 7, none⟩)),
    IsV (.agg #[.int .u64 (U64 b.ep), .int .i64 b.s, .int .i64 b.l, .int .i64 b.n, .int .i64 b.sp, .int .i64 b.wd, .int .u64 (U64 b.lg)]),
    IsV (.agg #[.int .u64 (U64 b.ep), .int .i64 b.s, .int .i64 b.l, .int .i64 b.n, .int .i64 b.sp, .int .i64 b.wd, .int .u64 (U64 b.lg)]),
    IsV (.agg #[.int .u64 (U64 t.ep), .int .i64 t.s, .int .i64 t.l, .int .i64 t.n, .int .i64 t.sp, .int .i64 t.wd, .int .u64 (U64 t.lg)]),
    IsV (.bool r),
    IsV (.bool r),
    IsV (.bool r)]
    [136, 137, 138, 139, 140, 141, 142, 143, 144, 145, 146, 147, 148, 149, 150, 151, 152, 153, 154, 155, 156, 157, 22] (by kernel_rfl) (Gw.drew _) Gw.trans (by rw [hsz]; kernel_rfl) (by kernel_rfl) ?_ ?_ ?_
  · intro f hf
    simp only [List.mem_cons, List.not_mem_nil, or_false] at hf
    rcases hf with rfl | rfl | rfl | rfl | rfl | rfl | rfl | rfl | rfl | rfl | rfl | rfl | rfl | rfl | rfl | rfl | rfl | rfl | rfl | rfl | rfl | rfl | rfl <;> intro v a b h g <;> first | exact IsV.mono h
  · refine ⟨?_, ?_, ?_, ?_, ?_, ?_, ?_, ?_, ?_, ?_, ?_, ?_, ?_, ?_, ?_, ?_, ?_, ?_, ?_, ?_, ?_, ?_, ?_, trivial⟩
    · exact owes_mv 11 (by kernel_rfl) (by kernel_rfl) (by kernel_rfl) sl11 (fun _ => rfl)
    · exact owes_mvj 0 136 (by kernel_rfl) (by kernel_rfl) (by kernel_rfl) (by kernel_rfl) (by rw [hsz]; decide) (fun v w h => h)
    · refine owes_vt 1 true (Go.Op.fieldAddr 41 (Go.Operand.tmp 12) 0) 0 [] (by kernel_rfl) (by kernel_rfl) (by kernel_rfl) (fun _ _ h => h) (by rw [hsz]; kernel_rfl) (by kernel_rfl) rfl fun vals w1 ρ hG hF hρ hcst hfun => ?_
      have e12 : ρ (.tmp 12) = .pointer (some ⟨G12, 0, none⟩) := ((hρ 12).trans (slotO [] (by kernel_rfl))).trans sl12
      clear hρ hF hcst hfun sl11 sl12 sl17 sl18 sl20 fin
      exact opv_val (by go_simp <;> rfl) ⟨gw_self _, rfl⟩
    · refine owes_vt 1 true (Go.Op.load 28 (Go.Operand.tmp 138)) 28 [2] (by kernel_rfl) (by kernel_rfl) (by kernel_rfl) (fun _ _ h => h) (by rw [hsz]; kernel_rfl) (by kernel_rfl) rfl fun vals w1 ρ hG hF hρ hcst hfun => ?_
      have e138 : ρ (.tmp 138) = .pointer (some ⟨G12, 0, none⟩) := ((hρ 138).trans (slotJ [2] (by rw [hsz]; decide) (by kernel_rfl))).trans (hF 2 (by decide))
      have k0 : w1.cell? ⟨G12, 0, none⟩ = some (.int .u64 (U64 t.ep)) := (H12.out.below hG H12.out.lt).cell 0
      clear hρ hF hcst hfun sl11 sl12 sl17 sl18 sl20 fin
      exact opv_val (by go_simp <;> rfl) ⟨gw_self _, rfl⟩
    · refine owes_vt 1 true (Go.Op.binOp Go.BinOp.rem 28 (Go.Operand.tmp 139) (Go.Operand.const (Go.Value.int Go.IntKind.u64 2)) 28) 28 [3] (by kernel_rfl) (by kernel_rfl) (by kernel_rfl) (fun _ _ h => h) (by rw [hsz]; kernel_rfl) (by kernel_rfl) rfl fun vals w1 ρ hG hF hρ hcst hfun => ?_
      have e139 : ρ (.tmp 139) = .int .u64 (U64 t.ep) := ((hρ 139).trans (slotJ [3] (by rw [hsz]; decide) (by kernel_rfl))).trans (hF 3 (by decide))
      have q := (Int.tmod_eq_emod_of_nonneg (b := 2) (U64_lo t.ep)).trans hm.out
      clear hρ hF hfun sl11 sl12 sl17 sl18 sl20 fin
      exact opv_val (by go_simp <;> rfl) ⟨gw_self _, rfl⟩
    · refine owes_vt 1 true (Go.Op.convert 28 3 (Go.Operand.tmp 140)) 3 [4] (by kernel_rfl) (by kernel_rfl) (by kernel_rfl) (fun _ _ h => h) (by rw [hsz]; kernel_rfl) (by kernel_rfl) rfl fun vals w1 ρ hG hF hρ hcst hfun => ?_
      have e140 : ρ (.tmp 140) = .int .u64 m := ((hρ 140).trans (slotJ [4] (by rw [hsz]; decide) (by kernel_rfl))).trans (hF 4 (by decide))
      have q := hm.out
      have q1 : 0 ≤ m := by omega
      have q2 : m ≤ 1 := by omega
      clear q
      have kw4 : IntKind.i64.wrap (m) = m := wrapIn (by omega) (by omega)
      clear hρ hF hcst hfun sl11 sl12 sl17 sl18 sl20 fin
      exact opv_val (by go_simp <;> rfl) ⟨gw_self _, rfl⟩
    · refine owes_vt 1 true (Go.Op.move (Go.Operand.tmp 20)) 3 [] (by kernel_rfl) (by kernel_rfl) (by kernel_rfl) (fun _ _ h => h) (by rw [hsz]; kernel_rfl) (by kernel_rfl) rfl fun vals w1 ρ hG hF hρ hcst hfun => ?_
      have e20 : ρ (.tmp 20) = .int .i64 1 := ((hρ 20).trans (slotO [] (by kernel_rfl))).trans sl20
      clear hρ hF hcst hfun sl11 sl12 sl17 sl18 sl20 fin
      exact opv_val (by go_simp <;> rfl) ⟨gw_self _, rfl⟩
    · refine owes_vt 1 true (Go.Op.binOp Go.BinOp.eql 3 (Go.Operand.tmp 141) (Go.Operand.tmp 142) 3) 4 [5, 6] (by kernel_rfl) (by kernel_rfl) (by kernel_rfl) (fun _ _ h => h) (by rw [hsz]; kernel_rfl) (by kernel_rfl) rfl fun vals w1 ρ hG hF hρ hcst hfun => ?_
      have e141 : ρ (.tmp 141) = .int .i64 m := ((hρ 141).trans (slotJ [5, 6] (by rw [hsz]; decide) (by kernel_rfl))).trans (hF 5 (by decide))
      have e142 : ρ (.tmp 142) = .int .i64 1 := ((hρ 142).trans (slotJ [5, 6] (by rw [hsz]; decide) (by kernel_rfl))).trans (hF 6 (by decide))
      have q := hi
      clear hρ hF hcst hfun sl11 sl12 sl17 sl18 sl20 fin
      exact opv_val (by go_simp <;> rfl) ⟨gw_self _, rfl⟩
    · refine owes_v (Go.Op.pick (Go.Operand.tmp 137) (Go.Operand.tmp 143) (Go.Operand.const (Go.Value.bool false))) 4 [1, 7] (by kernel_rfl) (by kernel_rfl) (by kernel_rfl) rfl fun vals w1 ρ hG hF hρ hcst hfun => ?_
      have e137 : ρ (.tmp 137) = .bool true := ((hρ 137).trans (slotJ [1, 7] (by rw [hsz]; decide) (by kernel_rfl))).trans (hF 1 (by decide))
      have e143 : ρ (.tmp 143) = .bool true := ((hρ 143).trans (slotJ [1, 7] (by rw [hsz]; decide) (by kernel_rfl))).trans (hF 7 (by decide))
      clear hρ hF hfun sl11 sl12 sl17 sl18 sl20 fin
      exact opv_val (by go_simp <;> rfl) ⟨gw_self _, rfl⟩
    · exact owes_mvj 8 144 (by kernel_rfl) (by kernel_rfl) (by kernel_rfl) (by kernel_rfl) (by rw [hsz]; decide) (fun v w h => h)
    · refine owes_vt 9 true (Go.Op.move (Go.Operand.tmp 20)) 3 [] (by kernel_rfl) (by kernel_rfl) (by kernel_rfl) (fun _ _ h => h) (by rw [hsz]; kernel_rfl) (by kernel_rfl) rfl fun vals w1 ρ hG hF hρ hcst hfun => ?_
      have e20 : ρ (.tmp 20) = .int .i64 1 := ((hρ 20).trans (slotO [] (by kernel_rfl))).trans sl20
      clear hρ hF hcst hfun sl11 sl12 sl17 sl18 sl20 fin
      exact opv_val (by go_simp <;> rfl) ⟨gw_self _, rfl⟩
    · refine owes_vt 9 true (Go.Op.indexAddr 34 (Go.Operand.tmp 18) (Go.Operand.tmp 146)) 0 [10] (by kernel_rfl) (by kernel_rfl) (by kernel_rfl) (fun _ _ h => h) (by rw [hsz]; kernel_rfl) (by kernel_rfl) rfl fun vals w1 ρ hG hF hρ hcst hfun => ?_
      have e18 : ρ (.tmp 18) = .pointer (some ⟨G18, 0, none⟩) := ((hρ 18).trans (slotO [10] (by kernel_rfl))).trans sl18
      have e146 : ρ (.tmp 146) = .int .i64 1 := ((hρ 146).trans (slotJ [10] (by rw [hsz]; decide) (by kernel_rfl))).trans (hF 10 (by decide))
      clear hρ hF hcst hfun sl11 sl12 sl17 sl18 sl20 fin
      exact opv_val (by go_simp <;> rfl) ⟨gw_self _, rfl⟩
    · refine owes_vt 9 true (Go.Op.load 4 (Go.Operand.tmp 147)) 4 [11] (by kernel_rfl) (by kernel_rfl) (by kernel_rfl) (fun _ _ h => h) (by rw [hsz]; kernel_rfl) (by kernel_rfl) rfl fun vals w1 ρ hG hF hρ hcst hfun => ?_
      have e147 : ρ (.tmp 147) = .pointer (some ⟨G18, 1, none⟩) := ((hρ 147).trans (slotJ [11] (by rw [hsz]; decide) (by kernel_rfl))).trans (hF 11 (by decide))
      have k0 : w1.cell? ⟨G18, 1, none⟩ = some (.bool true) := (H18.out.below hG H18.out.lt).cell 1
      clear hρ hF hcst hfun sl11 sl12 sl17 sl18 sl20 fin
      exact opv_val (by go_simp <;> rfl) ⟨gw_self _, rfl⟩
    · refine owes_v (Go.Op.pick (Go.Operand.tmp 145) (Go.Operand.tmp 148) (Go.Operand.const (Go.Value.bool false))) 4 [9, 12] (by kernel_rfl) (by kernel_rfl) (by kernel_rfl) rfl fun vals w1 ρ hG hF hρ hcst hfun => ?_
      have e145 : ρ (.tmp 145) = .bool true := ((hρ 145).trans (slotJ [9, 12] (by rw [hsz]; decide) (by kernel_rfl))).trans (hF 9 (by decide))
      have e148 : ρ (.tmp 148) = .bool true := ((hρ 148).trans (slotJ [9, 12] (by rw [hsz]; decide) (by kernel_rfl))).trans (hF 12 (by decide))
      clear hρ hF hfun sl11 sl12 sl17 sl18 sl20 fin
      exact opv_val (by go_simp <;> rfl) ⟨gw_self _, rfl⟩
    · exact owes_mvj 13 149 (by kernel_rfl) (by kernel_rfl) (by kernel_rfl) (by kernel_rfl) (by rw [hsz]; decide) (fun v w h => h)
    · refine owes_vt 14 true (Go.Op.move (Go.Operand.tmp 20)) 3 [] (by kernel_rfl) (by kernel_rfl) (by kernel_rfl) (fun _ _ h => h) (by rw [hsz]; kernel_rfl) (by kernel_rfl) rfl fun vals w1 ρ hG hF hρ hcst hfun => ?_
      have e20 : ρ (.tmp 20) = .int .i64 1 := ((hρ 20).trans (slotO [] (by kernel_rfl))).trans sl20
      clear hρ hF hcst hfun sl11 sl12 sl17 sl18 sl20 fin
      exact opv_val (by go_simp <;> rfl) ⟨gw_self _, rfl⟩
    · refine owes_vt 14 true (Go.Op.indexAddr 33 (Go.Operand.tmp 17) (Go.Operand.tmp 151)) 0 [15] (by kernel_rfl) (by kernel_rfl) (by kernel_rfl) (fun _ _ h => h) (by rw [hsz]; kernel_rfl) (by kernel_rfl) rfl fun vals w1 ρ hG hF hρ hcst hfun => ?_
      have e17 : ρ (.tmp 17) = .pointer (some ⟨G17, 0, none⟩) := ((hρ 17).trans (slotO [15] (by kernel_rfl))).trans sl17
      have e151 : ρ (.tmp 151) = .int .i64 1 := ((hρ 151).trans (slotJ [15] (by rw [hsz]; decide) (by kernel_rfl))).trans (hF 15 (by decide))
      clear hρ hF hcst hfun sl11 sl12 sl17 sl18 sl20 fin
      exact opv_val (by go_simp <;> rfl) ⟨gw_self _, rfl⟩
    · refine owes_vt 14 true (Go.Op.load 32 (Go.Operand.tmp 152)) 32 [16] (by kernel_rfl) (by kernel_rfl) (by kernel_rfl) (fun _ _ h => h) (by rw [hsz]; kernel_rfl) (by kernel_rfl) rfl fun vals w1 ρ hG hF hρ hcst hfun => ?_
      have e152 : ρ (.tmp 152) = .pointer (some ⟨G17, 7, none⟩) := ((hρ 152).trans (slotJ [16] (by rw [hsz]; decide) (by kernel_rfl))).trans (hF 16 (by decide))
      obtain ⟨⟨x0, x1, x2, x3, x4, x5, x6⟩, x7, x8, x9, x10, x11, x12, x13⟩ := (H17.out.below hG H17.out.lt).cut7
      clear hρ hF hcst hfun sl11 sl12 sl17 sl18 sl20 fin
      exact opv_val (by go_simp <;> rfl) ⟨gw_self _, rfl⟩
    · refine owes_vt 14 true (Go.Op.call { callee := Go.Callee.value (Go.Operand.func 12), args := #[Go.Operand.tmp 153], argTypes := #[32] }) 41 [17] (by kernel_rfl) (by kernel_rfl) (by kernel_rfl) (fun _ _ h => h) (by rw [hsz]; kernel_rfl) (by kernel_rfl) rfl fun vals w1 ρ hG hF hρ hcst hfun => ?_
      have e153 : ρ (.tmp 153) = .agg #[.int .u64 (U64 b.ep), .int .i64 b.s, .int .i64 b.l, .int .i64 b.n, .int .i64 b.sp, .int .i64 b.wd, .int .u64 (U64 b.lg)] := ((hρ 153).trans (slotJ [17] (by rw [hsz]; decide) (by kernel_rfl))).trans (hF 17 (by decide))
      clear hρ hF hcst sl11 sl12 sl17 sl18 sl20 fin
      exact opv_enter (by go_simp <;> rfl) (of_ret7 (of7_c b w1))
    · refine owes_vt 14 true (Go.Op.load 41 (Go.Operand.tmp 12)) 41 [] (by kernel_rfl) (by kernel_rfl) (by kernel_rfl) (fun _ _ h => h) (by rw [hsz]; kernel_rfl) (by kernel_rfl) rfl fun vals w1 ρ hG hF hρ hcst hfun => ?_
      have e12 : ρ (.tmp 12) = .pointer (some ⟨G12, 0, none⟩) := ((hρ 12).trans (slotO [] (by kernel_rfl))).trans sl12
      have k9 := H12.out.below hG H12.out.lt
      unfold Sb.cells at k9
      obtain ⟨x0, x1, x2, x3, x4, x5, x6⟩ := k9.seven
      clear hρ hF hcst hfun sl11 sl12 sl17 sl18 sl20 fin
      exact opv_val (by go_simp <;> rfl) ⟨gw_self _, rfl⟩
    · refine owes_vt 14 true (Go.Op.binOp Go.BinOp.eql 41 (Go.Operand.tmp 154) (Go.Operand.tmp 155) 41) 4 [18, 19] (by kernel_rfl) (by kernel_rfl) (by kernel_rfl) (fun _ _ h => h) (by rw [hsz]; kernel_rfl) (by kernel_rfl) rfl fun vals w1 ρ hG hF hρ hcst hfun => ?_
      have e154 : ρ (.tmp 154) = .agg #[.int .u64 (U64 b.ep), .int .i64 b.s, .int .i64 b.l, .int .i64 b.n, .int .i64 b.sp, .int .i64 b.wd, .int .u64 (U64 b.lg)] := ((hρ 154).trans (slotJ [18, 19] (by rw [hsz]; decide) (by kernel_rfl))).trans (hF 18 (by decide))
      have e155 : ρ (.tmp 155) = .agg #[.int .u64 (U64 t.ep), .int .i64 t.s, .int .i64 t.l, .int .i64 t.n, .int .i64 t.sp, .int .i64 t.wd, .int .u64 (U64 t.lg)] := ((hρ 155).trans (slotJ [18, 19] (by rw [hsz]; decide) (by kernel_rfl))).trans (hF 19 (by decide))
      have q := HQ.out
      clear hρ hF hcst hfun sl11 sl12 sl17 sl18 sl20 fin
      exact opv_val (by go_simp <;> rfl) ⟨gw_self _, rfl⟩
    · refine owes_v (Go.Op.pick (Go.Operand.tmp 150) (Go.Operand.tmp 156) (Go.Operand.const (Go.Value.bool false))) 4 [14, 20] (by kernel_rfl) (by kernel_rfl) (by kernel_rfl) rfl fun vals w1 ρ hG hF hρ hcst hfun => ?_
      have e150 : ρ (.tmp 150) = .bool true := ((hρ 150).trans (slotJ [14, 20] (by rw [hsz]; decide) (by kernel_rfl))).trans (hF 14 (by decide))
      have e156 : ρ (.tmp 156) = .bool r := ((hρ 156).trans (slotJ [14, 20] (by rw [hsz]; decide) (by kernel_rfl))).trans (hF 20 (by decide))
      clear hρ hF hfun sl11 sl12 sl17 sl18 sl20 fin
      exact opv_val (by go_simp <;> rfl) ⟨gw_self _, rfl⟩
    · exact owes_mvj 21 157 (by kernel_rfl) (by kernel_rfl) (by kernel_rfl) (by kernel_rfl) (by rw [hsz]; decide) (fun v w h => h)
  · intro vals w1 hG hF
    exact fin vals w1 hG (hF 22 (by decide +kernel))
end Go.Proofs.Ytjcpbhjmmnpjnaa
/- How arguments of types []bool and []int are opened. No conditions. -/
namespace Go.Proofs.Ytjcpbhjmmnpjnaa
set_option linter.unusedVariables false
set_option linter.unusedSimpArgs false
open Go.ChangeShapes Go.WideShapes Go.ChangeAt Go.RowKit
def boZ (b : Bool) : Value := .bool b
def inV (k : Int) : Value := .int .i64 k
theorem open_bools {H : Type} {enc : TypeId × Value → H} {P : Program} {W : World} {base : Nat} {hd : Bool} {r : Reach} {b0 : Nat} {t e : TypeId} {v : Value} {d : DataW H} {p : List MemPlace}
    (ht : P.underlying t = some (.slice e)) (he : P.underlying e = some .bool) (hc : P.cellsOf e = 1)
    (hv : Value.okWide P W r b0 t v) (h : DataW.Trod enc P W base (fun _ => true) hd t v d p) :
    ∃ (A : Option Addr) (bs : List Bool) (c : Nat), v = .slice A bs.length c ∧ bs.length ≤ c ∧ c ≤ maxLen ∧ (Rd boZ W W.heap.size A bs ∧ ∀ a, A = some a → a.block < W.heap.size) := by
  obtain ⟨a0, len, cap, rfl⟩ := okWide_slice ht hv
  obtain ⟨fuel, hf⟩ := h
  rcases Go.Deep.open_bools ht he hc hf with ⟨hcs, _⟩ | ⟨x, l, c, B, hcs, _, hl, hm, _, hcell⟩
  · simp [Value.cells] at hcs
    obtain ⟨rfl, rfl, rfl⟩ := hcs
    exact ⟨none, [], 0, rfl, Nat.le_refl _, by simp [maxLen], Rd.nil, fun a e => by cases e⟩
  · simp [Value.cells] at hcs
    obtain ⟨rfl, rfl, rfl⟩ := hcs
    have hx : x.block < W.heap.size := by
      have hx2 : Cell.okWide P W r b0 t (.slice (some x) len cap) := by unfold Value.okWide at hv; rw [ht] at hv; exact hv
      unfold Cell.okWide at hx2
      rw [ht] at hx2
      have hx3 : Cell.ok P W r b0 t (.slice (some x) len cap) := hx2
      unfold Cell.ok at hx3
      rw [ht] at hx3
      obtain ⟨_, _, _, _, row, cells, hs, _⟩ := hx3
      unfold World.shape? at hs
      by_cases hb : x.block < W.heap.size
      · exact hb
      · rw [Array.getElem?_eq_none (by omega)] at hs
        cases hs
    refine ⟨some x, (List.range len).map B, cap, by simp, by simp; omega, hm, fun j hj => ?_, fun a e => by cases e; exact hx⟩
    have hj' : j < len := by simp at hj; omega
    have hc1 := hcell j (by omega)
    have hb := cell_lt hc1
    rw [add_block] at hb
    exact ⟨x, rfl, hb, by rw [hc1]; simp [boZ]⟩
theorem open_intz {H : Type} {enc : TypeId × Value → H} {P : Program} {W : World} {base : Nat} {sp : Nat → Bool} {hd : Bool} {r : Reach} {b0 : Nat} {t e : TypeId} {v : Value} {d : DataW H} {p : List MemPlace}
    (ht : P.underlying t = some (.slice e)) (he : P.underlying e = some (.int .i64)) (hc : P.cellsOf e = 1)
    (hv : Value.okWide P W r b0 t v) (h : DataW.Trod enc P W base sp hd t v d p) :
    ∃ (A : Option Addr) (bs : List Int) (c : Nat), v = .slice A bs.length c ∧ bs.length ≤ c ∧ c ≤ maxLen ∧ (Rd inV W W.heap.size A bs ∧ ∀ x ∈ bs, (Lit.int .i64 x).wf = true) := by
  obtain ⟨a0, len, cap, rfl⟩ := okWide_slice ht hv
  obtain ⟨fuel, hf⟩ := h
  rcases open_ints ht he hc hf with ⟨hcs, _⟩ | ⟨x, l, c, zs, hcs, _, hl, hm, hz, _, hcell, hwz⟩
  · simp [Value.cells] at hcs
    obtain ⟨rfl, rfl, rfl⟩ := hcs
    exact ⟨none, [], 0, rfl, Nat.le_refl _, by simp [maxLen], Rd.nil, fun x hx => by cases hx⟩
  · simp [Value.cells] at hcs
    obtain ⟨rfl, rfl, rfl⟩ := hcs
    have hlen : len ≤ zs.length := by rw [hz]; split <;> omega
    refine ⟨some x, zs.take len, cap, by simp; omega, by simp; omega, hm, fun j hj => ?_, fun y hy => hwz y (List.mem_of_mem_take hy)⟩
    have hj' : j < len := by simp at hj; omega
    have hc1 := hcell j (by omega)
    have hb := cell_lt hc1
    rw [add_block] at hb
    refine ⟨x, rfl, hb, ?_⟩
    rw [hc1, List.getD_eq_getElem?_getD, List.getElem?_eq_getElem (by omega)]
    simp [inV]
end Go.Proofs.Ytjcpbhjmmnpjnaa
/- The law SlotsCuts of layer 7 returns true for every argument: the walk. No conditions. -/
namespace Go.Proofs.Ytjcpbhjmmnpjnaa
set_option linter.unusedVariables false
set_option linter.unusedSimpArgs false
open Go.RowKit Go.Maps
set_option maxRecDepth 100000
set_option maxHeartbeats 80000000
theorem sc_out (w : World) (A : Option Addr) (L c : Nat) (at_ : Int) (A2 : Option Addr) (K c2 : Nat) (h : L = 0 ∨ 10 < L ∨ at_ < 0 ∨ 30 < at_ ∨ 300 < K) : Calls Try.prog 4 #[.slice A L c, .int .i64 at_, .slice A2 K c2] w (TruP (.bool true) w) := by
  have hc : L = 0 ∨ (L ≠ 0 ∧ 10 < L) ∨ (L ≠ 0 ∧ L ≤ 10 ∧ at_ < 0) ∨ (L ≠ 0 ∧ L ≤ 10 ∧ ¬ at_ < 0 ∧ 30 < at_) ∨ (L ≠ 0 ∧ L ≤ 10 ∧ ¬ at_ < 0 ∧ ¬ 30 < at_ ∧ 300 < K) := by omega
  clear h
  have HK := Lib.hid (fun W => keeps_c A2 K c2 W)
  rcases hc with h1 | ⟨h1, h2⟩ | ⟨h1, h2, h3⟩ | ⟨h1, h2, h3, h4⟩ | ⟨h1, h2, h3, h4, h5⟩
  · subst h1
    go_enter Try.func4, Try.ntmps4
    go_wp2_with fail
    refine Calls.mono (known7_c _) ?_
    rintro e w1 ⟨rfl, b1⟩
    have HB1 := Lib.hid b1
    clear b1
    go_wp2_with fail
    go_ret
    exact ⟨rfl, HB1.out⟩
  · have q1 : ((L : Int) == 0) = false := by simp; omega
    have q2 : decide ((10 : Int) < (L : Int)) = true := by simp; omega
    clear h2
    go_enter Try.func4, Try.ntmps4
    go_wp2_with fail
    refine Calls.mono (known7_c _) ?_
    rintro e w1 ⟨rfl, b1⟩
    have HB1 := Lib.hid b1
    clear b1
    go_wp2_with fail
    go_ret
    exact ⟨rfl, HB1.out⟩
  · have q1 : ((L : Int) == 0) = false := by simp; omega
    have q2 : decide ((10 : Int) < (L : Int)) = false := by simp; omega
    clear h2
    go_enter Try.func4, Try.ntmps4
    go_wp2_with fail
    refine Calls.mono (known7_c _) ?_
    rintro e w1 ⟨rfl, b1⟩
    have HB1 := Lib.hid b1
    clear b1
    go_wp2_with fail
    go_ret
    exact ⟨rfl, HB1.out⟩
  · have q1 : ((L : Int) == 0) = false := by simp; omega
    have q2 : decide ((10 : Int) < (L : Int)) = false := by simp; omega
    clear h2
    go_enter Try.func4, Try.ntmps4
    go_wp2_with fail
    refine Calls.mono (known7_c _) ?_
    rintro e w1 ⟨rfl, b1⟩
    have HB1 := Lib.hid b1
    clear b1
    go_wp2_with fail
    go_ret
    exact ⟨rfl, HB1.out⟩
  · have q1 : ((L : Int) == 0) = false := by simp; omega
    have q2 : decide ((10 : Int) < (L : Int)) = false := by simp; omega
    rw [show decide ((K : Int) ≤ 300) = false from by simp; omega] at HK
    clear h2 h5
    go_enter Try.func4, Try.ntmps4
    go_wp2_with fail
    refine Calls.mono (known7_c _) ?_
    rintro e w1 ⟨rfl, b1⟩
    have HB1 := Lib.hid b1
    clear b1
    go_wp2_with fail
    refine Calls.mono (HK.out _) ?_
    rintro e w' ⟨rfl, rfl⟩
    go_wp2_with fail
    go_ret
    exact ⟨rfl, HB1.out⟩
/-- What is kept at each round's head. -/
structure ScI (w wr : World) (B G7 G9 G10 G12 g : Nat) (ad : Addr) (l : List Bl) (s lo n : Nat) (d : DK) (o0 o1 : Option Sb) (t : Sb) : Prop where
  disk : DiskX B (fun k => k = G9 ∨ k = G10 ∨ k = G12) wr g d
  b7 : Bk wr G7 30 #[.int .i64 s, .int .i64 lo, .int .i64 n]
  b9 : Bk wr G9 50 (c14 (o0.getD z0) (o1.getD z0))
  b10 : Bk wr G10 34 #[.bool o0.isSome, .bool o1.isSome]
  b12 : Bk wr G12 41 t.cells
  row : Bls wr w.heap.size (some ad) l
  bel : Below w.heap.size w wr
  ge : w.heap.size ≤ G7 ∧ G7 < B ∧ B ≤ G9 ∧ G9 < G10 ∧ G10 < G12 ∧ G12 < wr.heap.size
theorem ScI.below {w wr w' : World} {B G7 G9 G10 G12 g : Nat} {ad : Addr} {l : List Bl} {s lo n : Nat} {d : DK} {o0 o1 : Option Sb} {t : Sb} (h : ScI w wr B G7 G9 G10 G12 g ad l s lo n d o0 o1 t) (hb : Below wr.heap.size wr w') : ScI w w' B G7 G9 G10 G12 g ad l s lo n d o0 o1 t :=
  ⟨h.disk.below hb, h.b7.below hb h.b7.lt, h.b9.below hb h.b9.lt, h.b10.below hb h.b10.lt, h.b12.below hb h.b12.lt, h.row.below (hb.mono h.bel.size), h.bel.trans (hb.mono h.bel.size), by have := h.ge; have := hb.size; omega⟩
/-- Behind a call on the disk. -/
theorem ScI.turn {w wr w' : World} {B G7 G9 G10 G12 g : Nat} {ad : Addr} {l : List Bl} {s lo n : Nat} {d d' : DK} {o0 o1 : Option Sb} {t : Sb} {X : Nat → Prop} (h : ScI w wr B G7 G9 G10 G12 g ad l s lo n d o0 o1 t) (hX : ∀ k, (k = G9 ∨ k = G10 ∨ k = G12) → X k) (hd : DiskX B X w' g d') (hk : Kept (fun k => B ≤ k ∧ ¬ X k) wr w') : ScI w w' B G7 G9 G10 G12 g ad l s lo n d' o0 o1 t := by
  have hg := h.ge
  have hb : Below w.heap.size w w' := h.bel.trans (hk.below h.bel.size (fun k e => by have := e.1; omega))
  exact ⟨hd.besides (fun k e => .inl (hX k e)), hk.bk h.b7 (fun e => by have := e.1; omega), hk.bk h.b9 (fun e => e.2 (hX _ (.inl rfl))), hk.bk h.b10 (fun e => e.2 (hX _ (.inr (.inl rfl)))), hk.bk h.b12 (fun e => e.2 (hX _ (.inr (.inr rfl)))), h.row.below (hk.below h.bel.size (fun k e => by have := e.1; omega)), hb, by have := hk.size; omega⟩
theorem kset {S : Nat → Prop} {w w' : World} (h : Kept S w w') {q : Nat} (hq : S q) (i : Nat) (u : Value) : Kept S w (w'.setCell ⟨q, i, none⟩ u) := h.trans ((Kept.set w' q i u).more (fun k e => by rw [e]; exact hq))
theorem DiskX.other {B : Nat} {X S : Nat → Prop} {w w' : World} {g : Nat} {d : DK} (h : DiskX B X w g d) (hS : ∀ k, S k → X k) (hk : Kept S w w') : DiskX B X w' g d := h.kept (hk.more hS)
theorem wp_st7 {ops : Array Oper} {rest : List Oper} {o : Oper} {a : Act} {w : World} {Q : Exit → Act → World → Prop} (hg : o.guard = none) (x y : Operand) (ho : o.op = .store 41 x y) (g off : Nat) (b : Sb)
    (hx : a.eval x = .pointer (some ⟨g, off, none⟩)) (hy : a.eval y = .agg #[.int .u64 (U64 b.ep), .int .i64 b.s, .int .i64 b.l, .int .i64 b.n, .int .i64 b.sp, .int .i64 b.wd, .int .u64 (U64 b.lg)]) (E : TypeId) (cs new : Array Value) (hb : Bk w g E cs) (hl : off + 7 ≤ cs.size)
    (hn : (cs.toList.take off ++ b.cells.toList ++ cs.toList.drop (off + 7)).toArray = new)
    (h : ∀ w', Bk w' g E new → (∀ B, B ≤ g → Below B w w') → (∀ k, k ≠ g → w'.heap[k]? = w.heap[k]?) → wpList Try.prog ops Q rest (a.put o.dst undef) w') : wpList Try.prog ops Q (o :: rest) a w := by
  refine wpList_plain hg fun K' hK' => ?_
  have hs := run_storeCells_at (P := Try.prog) g off E b.cells.toList 0 cs w hb (by show off + 0 + 7 ≤ cs.size; omega) (fun v hv => (Array.all_eq_true_iff_forall_mem.1 (cells_one b)) v (by simpa using hv))
  have e : (cs.toList.take (off + 0) ++ b.cells.toList ++ cs.toList.drop (off + 0 + b.cells.toList.length)).toArray = new := hn
  rw [e] at hs
  have hst : (storeVar 41 ⟨g, off, none⟩ (.agg b.cells)).run Try.prog w = .ok () (w.setRow g new) := by
    have hi : (Try.prog.info? 41).map (·.size) = some 7 := by kernel_rfl
    have h7 : b.cells.size = 7 := rfl
    cases hq : Try.prog.info? 41 with
    | none => simp [hq] at hi
    | some i =>
      have hsz : i.size = 7 := by simpa [hq] using hi
      simp [storeVar, sizeOf, typeInfo, hq, Value.cells, hsz, h7, hs]
  unfold Oper.wp execOp
  have hy' : a.eval y = .agg b.cells := hy
  simp only [ho, hx, hy', Instr.storeAt, Instr.sureAddr, Sem.run_bind, Sem.run_pure, Result.andThen_ok, hst]
  exact hK' _ _ (h _ (srow_bk hb) (fun B hB => srow_below hB _) (fun k hk => setRow_other w g k _ hk))
theorem ScI.two0 {w wr w5 : World} {B G7 G9 G12 g : Nat} {ad : Addr} {l : List Bl} {s lo n : Nat} {d : DK} {o0 o1 : Option Sb} {t : Sb} (h : ScI w wr B G7 G9 (G9 + 1) G12 g ad l s lo n d o0 o1 t) (x : Sb) (k5 : Bk w5 G9 50 (c14 x (o1.getD z0))) (b5 : ∀ B, B ≤ G9 → Below B wr w5) (o5 : ∀ k, k ≠ G9 → w5.heap[k]? = wr.heap[k]?) : ScI w (w5.setCell ⟨G9 + 1, 0, none⟩ (.bool true)) B G7 G9 (G9 + 1) G12 g ad l s lo n d (some x) o1 t := by
  have hg := h.ge
  have b := b5 G9 (Nat.le_refl _)
  have hk : Kept (fun k => k = G9 ∨ k = G9 + 1) wr (w5.setCell ⟨G9 + 1, 0, none⟩ (.bool true)) := kset ⟨b.os, b.tape, b.output, b.size, fun k _ hn => o5 k (fun e => hn (.inl e))⟩ (.inr rfl) _ _
  have hb : Below w.heap.size wr (w5.setCell ⟨G9 + 1, 0, none⟩ (.bool true)) := hk.below h.bel.size (fun k e => by rcases e with e | e <;> omega)
  have h10 : Bk w5 (G9 + 1) 34 #[.bool o0.isSome, .bool o1.isSome] := (o5 _ (by omega)).trans h.b10
  refine ⟨h.disk.other (fun k e => by rcases e with e | e; exact .inl e; exact .inr (.inl e)) hk, hk.bk h.b7 (fun e => by rcases e with e | e <;> omega), ?_, ?_, hk.bk h.b12 (fun e => by rcases e with e | e <;> omega), h.row.below hb, h.bel.trans hb, by have := hk.size; omega⟩
  · exact k5.far (by simp) _
  · exact h10.set 0 _
theorem ScI.two1 {w wr w5 : World} {B G7 G9 G12 g : Nat} {ad : Addr} {l : List Bl} {s lo n : Nat} {d : DK} {o0 o1 : Option Sb} {t : Sb} (h : ScI w wr B G7 G9 (G9 + 1) G12 g ad l s lo n d o0 o1 t) (x : Sb) (k5 : Bk w5 G9 50 (c14 (o0.getD z0) x)) (b5 : ∀ B, B ≤ G9 → Below B wr w5) (o5 : ∀ k, k ≠ G9 → w5.heap[k]? = wr.heap[k]?) : ScI w (w5.setCell ⟨G9 + 1, 1, none⟩ (.bool true)) B G7 G9 (G9 + 1) G12 g ad l s lo n d o0 (some x) t := by
  have hg := h.ge
  have b := b5 G9 (Nat.le_refl _)
  have hk : Kept (fun k => k = G9 ∨ k = G9 + 1) wr (w5.setCell ⟨G9 + 1, 1, none⟩ (.bool true)) := kset ⟨b.os, b.tape, b.output, b.size, fun k _ hn => o5 k (fun e => hn (.inl e))⟩ (.inr rfl) _ _
  have hb : Below w.heap.size wr (w5.setCell ⟨G9 + 1, 1, none⟩ (.bool true)) := hk.below h.bel.size (fun k e => by rcases e with e | e <;> omega)
  have h10 : Bk w5 (G9 + 1) 34 #[.bool o0.isSome, .bool o1.isSome] := (o5 _ (by omega)).trans h.b10
  refine ⟨h.disk.other (fun k e => by rcases e with e | e; exact .inl e; exact .inr (.inl e)) hk, hk.bk h.b7 (fun e => by rcases e with e | e <;> omega), ?_, ?_, hk.bk h.b12 (fun e => by rcases e with e | e <;> omega), h.row.below hb, h.bel.trans hb, by have := hk.size; omega⟩
  · exact k5.far (by simp) _
  · exact h10.set 1 _
theorem ScI.torn {w wr w' : World} {B G7 G9 G10 G12 g : Nat} {ad : Addr} {l : List Bl} {s lo n : Nat} {d : DK} {o0 o1 : Option Sb} {t : Sb} (h : ScI w wr B G7 G9 G10 G12 g ad l s lo n d o0 o1 t) (x : Sb) (h1 : Bk w' G12 41 x.cells) (h2 : Below G12 wr w') (h3 : ∀ k, k ≠ G12 → w'.heap[k]? = wr.heap[k]?) : ScI w w' B G7 G9 G10 G12 g ad l s lo n d o0 o1 x := by
  have hg := h.ge
  have hb : Below w.heap.size wr w' := h2.mono (by omega)
  have hk : Kept (fun k => k = G12) wr w' := ⟨h2.os, h2.tape, h2.output, h2.size, fun k _ hn => h3 k hn⟩
  exact ⟨h.disk.other (fun k e => .inr (.inr e)) hk, hk.bk h.b7 (fun e => by omega), hk.bk h.b9 (fun e => by omega), hk.bk h.b10 (fun e => by omega), h1, h.row.below hb, h.bel.trans hb, by have := h2.size; omega⟩
theorem sc_nil (w : World) (ad : Addr) (l : List Bl) (L c : Nat) (at_ : Int) (A2 : Option Addr) (kp : List Bool) (K c2 : Nat) (h1 : 1 ≤ L) (h2 : L ≤ 10) (h3 : 0 ≤ at_) (h4 : at_ ≤ 30) (h5 : K ≤ 300) (hl : l.length = L) (hkl : kp.length = K) (hc : L ≤ c) (hr : Bls w w.heap.size (some ad) l) (x : Bl) (hx : l[0]? = some x) (hfr : frB x.s x.l x.n = false) :
    Calls Try.prog 4 #[.slice (some ad) L c, .int .i64 at_, .slice A2 K c2] w (TruP (.bool true) w) := by
  have HK := Lib.hid (fun W => keeps_c A2 K c2 W)
  rw [show decide ((K : Int) ≤ 300) = true from by simp; omega] at HK
  have HR := Lib.hid hr
  have HL := Lib.hid (And.intro hl (And.intro hkl (And.intro h2 (And.intro h4 h5))))
  have q1 : ((L : Int) == 0) = false := by simp; omega
  have q2 : decide ((10 : Int) < (L : Int)) = false := by simp; omega
  have q3 : decide (at_ < 0) = false := by simp; omega
  have q4 : decide ((30 : Int) < at_) = false := by simp; omega
  have p1 : (1 : Int) ≤ (L : Int) := by omega
  have p3 : (L : Int) ≤ 10 := by omega
  have HF := Lib.hid (show ∀ W, Calls Try.prog 14 #[.agg #[.int .i64 x.s, .int .i64 x.l, .int .i64 x.n]] W (RetP (.pointer none) W) from fun W => fresh_no x.s x.l x.n W hfr)
  have HX := Lib.hid hx
  clear hfr hx
  clear hr hl hkl h2 h5
  go_enter Try.func4, Try.ntmps4
  go_wp2_with fail
  refine Calls.mono (known7_c _) ?_
  rintro e w0 ⟨rfl, b1⟩
  have HB0 := Lib.hid b1
  have HR0 := Lib.hid (HR.out.below b1)
  clear b1
  go_wp2_with fail
  refine Calls.mono (HK.out _) ?_
  rintro e w1 ⟨rfl, hw1⟩
  have HB1 := Lib.hid (show Below w.heap.size w w1 from by rw [hw1]; exact HB0.out)
  have HR1 := Lib.hid (show Bls w1 w.heap.size (some ad) l from by rw [hw1]; exact HR0.out)
  clear hw1 HB0 HR0 HR
  obtain ⟨ad', e, m⟩ := HR1.out 0 (by have := HL.out.1; omega)
  injection e with e
  subst e
  have hx0 : l[0]'(by have := HL.out.1; omega) = x := by have := HX.out; rw [List.getElem?_eq_getElem (by have := HL.out.1; omega)] at this; injection this
  rw [hx0] at m
  have z : ad.add (0 * 7) = ad := by simp [Addr.add]
  have k1 := m.c1
  have k2 := m.c2
  have k3 := m.c3
  rw [z] at k1 k2 k3
  have k2' : w1.cell? ⟨ad.block, ad.off + 1 + 1, none⟩ = some (.int .i64 x.l) := k2
  have k3' : w1.cell? ⟨ad.block, ad.off + 1 + 2, none⟩ = some (.int .i64 x.n) := k3
  have hlt : ad.block < w1.heap.size := Nat.lt_of_lt_of_le m.blk HB1.out.size
  clear z hx0 m k2 k3
  go_wp2_with fail
  refine Calls.mono (HF.out _) ?_
  rintro e w3 ⟨rfl, b3⟩
  have HB3 := Lib.hid ((HB1.out.alloc HB1.out.size (.cells #[.int .i64 x.s, .int .i64 x.l, .int .i64 x.n] 30)).trans (b3.mono (by have := HB1.out.size; simp; omega)))
  clear b3
  go_wp2_with fail
  go_ret
  exact ⟨rfl, HB3.out⟩
theorem tot_two {s l n : Int} (h : OkG s l n) : 2 ≤ totG s l n := by
  have h1 := h.s1
  have h2 := h.n1
  have h3 := h.l1
  have : 0 ≤ (n * 8 + s - 1) / s := Int.ediv_nonneg (by omega) (by omega)
  have h4 : 0 ≤ oneG s n := by unfold oneG; omega
  unfold totG; omega
end Go.Proofs.Ytjcpbhjmmnpjnaa
