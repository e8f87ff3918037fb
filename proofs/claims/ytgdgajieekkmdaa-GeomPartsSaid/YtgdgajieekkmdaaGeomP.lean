/- A region of GeomParts. Conditions: the geometry may be. -/
import Derived.Test.YtgdgajieekkmdaaKnown4
import Derived.Test.YtgdgajieekkmdaaOpenS
import Derived.Test.YtgdgajieekkmdaaGeomM
namespace Go.Proofs.Ytgdgajieekkmdaa
set_option linter.unusedVariables false
set_option linter.unusedSimpArgs false
open Go.RowKit
set_option maxHeartbeats 400000
set_option maxRecDepth 100000
theorem parts_r (Q : Exit → Act → World → Prop) (a0 : Act) (w : World) (g gl gx gy : Nat) (s l n : Int) (hg : Bk w g 36 #[.int .i64 s, .int .i64 l, .int .i64 n]) (hl : Bk w gl 46 #[.int .i64 2, .int .i64 l]) (hx : Bk w gx 46 #[.int .i64 (2 + l), .int .i64 (oneG s n)]) (hy : Bk w gy 46 #[.int .i64 (2 + l + oneG s n), .int .i64 (oneG s n)])
    (og : OkG s l n) (q1 : 0 ≤ oneG s n) (q2 : oneG s n ≤ 1400) (q3 : 8 ≤ l) (q4 : l ≤ 1024) (hsz : a0.tmps.size = 178) (sl3 : a0.tmps.getD 3 undef = .pointer (some ⟨g, 0, none⟩)) (sl7 : a0.tmps.getD 7 undef = .pointer (some ⟨gl, 0, none⟩)) (sl8 : a0.tmps.getD 8 undef = .pointer (some ⟨gx, 0, none⟩)) (sl9 : a0.tmps.getD 9 undef = .pointer (some ⟨gy, 0, none⟩))
    (fin : ∀ (vals : Nat → Value) (w1 : World), Below w.heap.size w w1 → (IsV (.bool false)) (vals 39) w1 → Q .normal (putD vals [42, 43, 44, 45, 46, 47, 48, 49, 50, 51, 52, 53, 54, 55, 56, 57, 58, 59, 60, 61, 62, 63, 64, 65, 66, 67, 68, 69, 70, 71, 72, 73, 74, 75, 76, 77, 78, 79, 80, 81] 0 a0) w1) :
    (Code.region 8 (regIn Try.f7 8) true).wp Try.prog Q a0 w := by
  refine region_by (G := fun w w1 => Below w.heap.size w w1) [IsV (.pointer (some ⟨gl, 0, none⟩)),
    IsV (.int .i64 2),
    IsV (.bool false),
    IsV (.bool false),
    IsV (.pointer (some ⟨gx, 0, none⟩)),
    IsV (.int .i64 (2 + l)),
    IsV (.pointer (some ⟨gl, 0, none⟩)),
    IsV (.int .i64 2),
    IsV (.pointer (some ⟨gl, 1, none⟩)),
    IsV (.int .i64 l),
    IsV (.int .i64 (2 + l)),
    IsV (.bool false),
    IsV (.bool false),
    IsV (.bool false),
    IsV (.pointer (some ⟨gy, 0, none⟩)),
    IsV (.int .i64 (2 + l + oneG s n)),
    IsV (.pointer (some ⟨gx, 0, none⟩)),
    IsV (.int .i64 (2 + l)),
    IsV (.pointer (some ⟨gx, 1, none⟩)),
    IsV (.int .i64 (oneG s n)),
    IsV (.int .i64 (2 + l + oneG s n)),
    IsV (.bool false),
    IsV (.bool false),
    IsV (.bool false),
    IsV (.pointer (some ⟨gy, 0, none⟩)),
    IsV (.int .i64 (2 + l + oneG s n)),
    IsV (.pointer (some ⟨gy, 1, none⟩)),
    IsV (.int .i64 (oneG s n)),
    IsV (.int .i64 (2 + l + oneG s n + oneG s n)),
    IsV (gV s l n),
    IsV (.int .i64 (totG s l n)),
    IsV (.bool false),
    IsV (.bool false),
    IsV (.bool false),
    IsV (.pointer (some ⟨gx, 1, none⟩)),
    IsV (.int .i64 (oneG s n)),
    IsV (.pointer (some ⟨gy, 1, none⟩)),
    IsV (.int .i64 (oneG s n)),
    IsV (.bool false),
    IsV (.bool false)]
    [42, 43, 44, 45, 46, 47, 48, 49, 50, 51, 52, 53, 54, 55, 56, 57, 58, 59, 60, 61, 62, 63, 64, 65, 66, 67, 68, 69, 70, 71, 72, 73, 74, 75, 76, 77, 78, 79, 80, 81] (by kernel_rfl) (Gw.drew _) Gw.trans (by rw [hsz]; kernel_rfl) (by kernel_rfl) ?_ ?_ ?_
  · intro f hf
    simp only [List.mem_cons, List.not_mem_nil, or_false] at hf
    rcases hf with rfl | rfl | rfl | rfl | rfl | rfl | rfl | rfl | rfl | rfl | rfl | rfl | rfl | rfl | rfl | rfl | rfl | rfl | rfl | rfl | rfl | rfl | rfl | rfl | rfl | rfl | rfl | rfl | rfl | rfl | rfl | rfl | rfl | rfl | rfl | rfl | rfl | rfl | rfl | rfl <;> intro v a b h g <;> first | exact IsV.mono h
  · refine ⟨?_, ?_, ?_, ?_, ?_, ?_, ?_, ?_, ?_, ?_, ?_, ?_, ?_, ?_, ?_, ?_, ?_, ?_, ?_, ?_, ?_, ?_, ?_, ?_, ?_, ?_, ?_, ?_, ?_, ?_, ?_, ?_, ?_, ?_, ?_, ?_, ?_, ?_, ?_, ?_, trivial⟩
    · refine owes_v (Go.Op.fieldAddr 46 (Go.Operand.tmp 7) 0) 0 [] (by kernel_rfl) (by kernel_rfl) (by kernel_rfl) rfl fun vals w1 ρ hG hF hρ hcst hfun => ?_
      have e7 : ρ (.tmp 7) = .pointer (some ⟨gl, 0, none⟩) := ((hρ 7).trans (slotO [] (by kernel_rfl))).trans sl7
      clear hρ hF hcst hfun sl3 sl7 sl8 sl9 fin
      exact opv_val (by go_simp <;> rfl) ⟨gw_self _, rfl⟩
    · refine owes_v (Go.Op.load 3 (Go.Operand.tmp 42)) 3 [0] (by kernel_rfl) (by kernel_rfl) (by kernel_rfl) rfl fun vals w1 ρ hG hF hρ hcst hfun => ?_
      have e42 : ρ (.tmp 42) = .pointer (some ⟨gl, 0, none⟩) := ((hρ 42).trans (slotJ [0] (by rw [hsz]; decide) (by kernel_rfl))).trans (hF 0 (by decide))
      obtain ⟨k1, k2⟩ := (hl.below hG hl.lt).two
      clear hρ hF hcst hfun sl3 sl7 sl8 sl9 fin
      exact opv_val (by go_simp <;> rfl) ⟨gw_self _, rfl⟩
    · refine owes_v (Go.Op.binOp Go.BinOp.neq 3 (Go.Operand.tmp 43) (Go.Operand.const (Go.Value.int Go.IntKind.i64 2)) 3) 4 [1] (by kernel_rfl) (by kernel_rfl) (by kernel_rfl) rfl fun vals w1 ρ hG hF hρ hcst hfun => ?_
      have e43 : ρ (.tmp 43) = .int .i64 2 := ((hρ 43).trans (slotJ [1] (by rw [hsz]; decide) (by kernel_rfl))).trans (hF 1 (by decide))
      clear hρ hF hfun sl3 sl7 sl8 sl9 fin
      exact opv_val (by go_simp <;> rfl) ⟨gw_self _, rfl⟩
    · exact owes_mvj 2 44 (by kernel_rfl) (by kernel_rfl) (by kernel_rfl) (by kernel_rfl) (by rw [hsz]; decide) (fun v w h => h)
    · refine owes_vt 3 false (Go.Op.fieldAddr 46 (Go.Operand.tmp 8) 0) 0 [] (by kernel_rfl) (by kernel_rfl) (by kernel_rfl) (fun _ _ h => h) (by rw [hsz]; kernel_rfl) (by kernel_rfl) rfl fun vals w1 ρ hG hF hρ hcst hfun => ?_
      have e8 : ρ (.tmp 8) = .pointer (some ⟨gx, 0, none⟩) := ((hρ 8).trans (slotO [] (by kernel_rfl))).trans sl8
      clear hρ hF hcst hfun sl3 sl7 sl8 sl9 fin
      exact opv_val (by go_simp <;> rfl) ⟨gw_self _, rfl⟩
    · refine owes_vt 3 false (Go.Op.load 3 (Go.Operand.tmp 46)) 3 [4] (by kernel_rfl) (by kernel_rfl) (by kernel_rfl) (fun _ _ h => h) (by rw [hsz]; kernel_rfl) (by kernel_rfl) rfl fun vals w1 ρ hG hF hρ hcst hfun => ?_
      have e46 : ρ (.tmp 46) = .pointer (some ⟨gx, 0, none⟩) := ((hρ 46).trans (slotJ [4] (by rw [hsz]; decide) (by kernel_rfl))).trans (hF 4 (by decide))
      obtain ⟨k1, k2⟩ := (hx.below hG hx.lt).two
      clear hρ hF hcst hfun sl3 sl7 sl8 sl9 fin
      exact opv_val (by go_simp <;> rfl) ⟨gw_self _, rfl⟩
    · refine owes_vt 3 false (Go.Op.fieldAddr 46 (Go.Operand.tmp 7) 0) 0 [] (by kernel_rfl) (by kernel_rfl) (by kernel_rfl) (fun _ _ h => h) (by rw [hsz]; kernel_rfl) (by kernel_rfl) rfl fun vals w1 ρ hG hF hρ hcst hfun => ?_
      have e7 : ρ (.tmp 7) = .pointer (some ⟨gl, 0, none⟩) := ((hρ 7).trans (slotO [] (by kernel_rfl))).trans sl7
      clear hρ hF hcst hfun sl3 sl7 sl8 sl9 fin
      exact opv_val (by go_simp <;> rfl) ⟨gw_self _, rfl⟩
    · refine owes_vt 3 false (Go.Op.load 3 (Go.Operand.tmp 48)) 3 [6] (by kernel_rfl) (by kernel_rfl) (by kernel_rfl) (fun _ _ h => h) (by rw [hsz]; kernel_rfl) (by kernel_rfl) rfl fun vals w1 ρ hG hF hρ hcst hfun => ?_
      have e48 : ρ (.tmp 48) = .pointer (some ⟨gl, 0, none⟩) := ((hρ 48).trans (slotJ [6] (by rw [hsz]; decide) (by kernel_rfl))).trans (hF 6 (by decide))
      obtain ⟨k1, k2⟩ := (hl.below hG hl.lt).two
      clear hρ hF hcst hfun sl3 sl7 sl8 sl9 fin
      exact opv_val (by go_simp <;> rfl) ⟨gw_self _, rfl⟩
    · refine owes_vt 3 false (Go.Op.fieldAddr 46 (Go.Operand.tmp 7) 1) 0 [] (by kernel_rfl) (by kernel_rfl) (by kernel_rfl) (fun _ _ h => h) (by rw [hsz]; kernel_rfl) (by kernel_rfl) rfl fun vals w1 ρ hG hF hρ hcst hfun => ?_
      have e7 : ρ (.tmp 7) = .pointer (some ⟨gl, 0, none⟩) := ((hρ 7).trans (slotO [] (by kernel_rfl))).trans sl7
      clear hρ hF hcst hfun sl3 sl7 sl8 sl9 fin
      exact opv_val (by go_simp <;> rfl) ⟨gw_self _, rfl⟩
    · refine owes_vt 3 false (Go.Op.load 3 (Go.Operand.tmp 50)) 3 [8] (by kernel_rfl) (by kernel_rfl) (by kernel_rfl) (fun _ _ h => h) (by rw [hsz]; kernel_rfl) (by kernel_rfl) rfl fun vals w1 ρ hG hF hρ hcst hfun => ?_
      have e50 : ρ (.tmp 50) = .pointer (some ⟨gl, 1, none⟩) := ((hρ 50).trans (slotJ [8] (by rw [hsz]; decide) (by kernel_rfl))).trans (hF 8 (by decide))
      obtain ⟨k1, k2⟩ := (hl.below hG hl.lt).two
      clear hρ hF hcst hfun sl3 sl7 sl8 sl9 fin
      exact opv_val (by go_simp <;> rfl) ⟨gw_self _, rfl⟩
    · refine owes_vt 3 false (Go.Op.binOp Go.BinOp.add 3 (Go.Operand.tmp 49) (Go.Operand.tmp 51) 3) 3 [7, 9] (by kernel_rfl) (by kernel_rfl) (by kernel_rfl) (fun _ _ h => h) (by rw [hsz]; kernel_rfl) (by kernel_rfl) rfl fun vals w1 ρ hG hF hρ hcst hfun => ?_
      have e49 : ρ (.tmp 49) = .int .i64 2 := ((hρ 49).trans (slotJ [7, 9] (by rw [hsz]; decide) (by kernel_rfl))).trans (hF 7 (by decide))
      have e51 : ρ (.tmp 51) = .int .i64 l := ((hρ 51).trans (slotJ [7, 9] (by rw [hsz]; decide) (by kernel_rfl))).trans (hF 9 (by decide))
      have kw0 : IntKind.i64.wrap (2 + l) = 2 + l := wrapIn (by omega) (by omega)
      clear hρ hF hcst hfun sl3 sl7 sl8 sl9 fin
      exact opv_val (by go_simp <;> rfl) ⟨gw_self _, rfl⟩
    · refine owes_vt 3 false (Go.Op.binOp Go.BinOp.neq 3 (Go.Operand.tmp 47) (Go.Operand.tmp 52) 3) 4 [5, 10] (by kernel_rfl) (by kernel_rfl) (by kernel_rfl) (fun _ _ h => h) (by rw [hsz]; kernel_rfl) (by kernel_rfl) rfl fun vals w1 ρ hG hF hρ hcst hfun => ?_
      have e47 : ρ (.tmp 47) = .int .i64 (2 + l) := ((hρ 47).trans (slotJ [5, 10] (by rw [hsz]; decide) (by kernel_rfl))).trans (hF 5 (by decide))
      have e52 : ρ (.tmp 52) = .int .i64 (2 + l) := ((hρ 52).trans (slotJ [5, 10] (by rw [hsz]; decide) (by kernel_rfl))).trans (hF 10 (by decide))
      clear hρ hF hcst hfun sl3 sl7 sl8 sl9 fin
      exact opv_val (by go_simp <;> rfl) ⟨gw_self _, rfl⟩
    · refine owes_v (Go.Op.pick (Go.Operand.tmp 45) (Go.Operand.const (Go.Value.bool true)) (Go.Operand.tmp 53)) 4 [3, 11] (by kernel_rfl) (by kernel_rfl) (by kernel_rfl) rfl fun vals w1 ρ hG hF hρ hcst hfun => ?_
      have e45 : ρ (.tmp 45) = .bool false := ((hρ 45).trans (slotJ [3, 11] (by rw [hsz]; decide) (by kernel_rfl))).trans (hF 3 (by decide))
      have e53 : ρ (.tmp 53) = .bool false := ((hρ 53).trans (slotJ [3, 11] (by rw [hsz]; decide) (by kernel_rfl))).trans (hF 11 (by decide))
      clear hρ hF hfun sl3 sl7 sl8 sl9 fin
      exact opv_val (by go_simp <;> rfl) ⟨gw_self _, rfl⟩
    · exact owes_mvj 12 54 (by kernel_rfl) (by kernel_rfl) (by kernel_rfl) (by kernel_rfl) (by rw [hsz]; decide) (fun v w h => h)
    · refine owes_vt 13 false (Go.Op.fieldAddr 46 (Go.Operand.tmp 9) 0) 0 [] (by kernel_rfl) (by kernel_rfl) (by kernel_rfl) (fun _ _ h => h) (by rw [hsz]; kernel_rfl) (by kernel_rfl) rfl fun vals w1 ρ hG hF hρ hcst hfun => ?_
      have e9 : ρ (.tmp 9) = .pointer (some ⟨gy, 0, none⟩) := ((hρ 9).trans (slotO [] (by kernel_rfl))).trans sl9
      clear hρ hF hcst hfun sl3 sl7 sl8 sl9 fin
      exact opv_val (by go_simp <;> rfl) ⟨gw_self _, rfl⟩
    · refine owes_vt 13 false (Go.Op.load 3 (Go.Operand.tmp 56)) 3 [14] (by kernel_rfl) (by kernel_rfl) (by kernel_rfl) (fun _ _ h => h) (by rw [hsz]; kernel_rfl) (by kernel_rfl) rfl fun vals w1 ρ hG hF hρ hcst hfun => ?_
      have e56 : ρ (.tmp 56) = .pointer (some ⟨gy, 0, none⟩) := ((hρ 56).trans (slotJ [14] (by rw [hsz]; decide) (by kernel_rfl))).trans (hF 14 (by decide))
      obtain ⟨k1, k2⟩ := (hy.below hG hy.lt).two
      clear hρ hF hcst hfun sl3 sl7 sl8 sl9 fin
      exact opv_val (by go_simp <;> rfl) ⟨gw_self _, rfl⟩
    · refine owes_vt 13 false (Go.Op.fieldAddr 46 (Go.Operand.tmp 8) 0) 0 [] (by kernel_rfl) (by kernel_rfl) (by kernel_rfl) (fun _ _ h => h) (by rw [hsz]; kernel_rfl) (by kernel_rfl) rfl fun vals w1 ρ hG hF hρ hcst hfun => ?_
      have e8 : ρ (.tmp 8) = .pointer (some ⟨gx, 0, none⟩) := ((hρ 8).trans (slotO [] (by kernel_rfl))).trans sl8
      clear hρ hF hcst hfun sl3 sl7 sl8 sl9 fin
      exact opv_val (by go_simp <;> rfl) ⟨gw_self _, rfl⟩
    · refine owes_vt 13 false (Go.Op.load 3 (Go.Operand.tmp 58)) 3 [16] (by kernel_rfl) (by kernel_rfl) (by kernel_rfl) (fun _ _ h => h) (by rw [hsz]; kernel_rfl) (by kernel_rfl) rfl fun vals w1 ρ hG hF hρ hcst hfun => ?_
      have e58 : ρ (.tmp 58) = .pointer (some ⟨gx, 0, none⟩) := ((hρ 58).trans (slotJ [16] (by rw [hsz]; decide) (by kernel_rfl))).trans (hF 16 (by decide))
      obtain ⟨k1, k2⟩ := (hx.below hG hx.lt).two
      clear hρ hF hcst hfun sl3 sl7 sl8 sl9 fin
      exact opv_val (by go_simp <;> rfl) ⟨gw_self _, rfl⟩
    · refine owes_vt 13 false (Go.Op.fieldAddr 46 (Go.Operand.tmp 8) 1) 0 [] (by kernel_rfl) (by kernel_rfl) (by kernel_rfl) (fun _ _ h => h) (by rw [hsz]; kernel_rfl) (by kernel_rfl) rfl fun vals w1 ρ hG hF hρ hcst hfun => ?_
      have e8 : ρ (.tmp 8) = .pointer (some ⟨gx, 0, none⟩) := ((hρ 8).trans (slotO [] (by kernel_rfl))).trans sl8
      clear hρ hF hcst hfun sl3 sl7 sl8 sl9 fin
      exact opv_val (by go_simp <;> rfl) ⟨gw_self _, rfl⟩
    · refine owes_vt 13 false (Go.Op.load 3 (Go.Operand.tmp 60)) 3 [18] (by kernel_rfl) (by kernel_rfl) (by kernel_rfl) (fun _ _ h => h) (by rw [hsz]; kernel_rfl) (by kernel_rfl) rfl fun vals w1 ρ hG hF hρ hcst hfun => ?_
      have e60 : ρ (.tmp 60) = .pointer (some ⟨gx, 1, none⟩) := ((hρ 60).trans (slotJ [18] (by rw [hsz]; decide) (by kernel_rfl))).trans (hF 18 (by decide))
      obtain ⟨k1, k2⟩ := (hx.below hG hx.lt).two
      clear hρ hF hcst hfun sl3 sl7 sl8 sl9 fin
      exact opv_val (by go_simp <;> rfl) ⟨gw_self _, rfl⟩
    · refine owes_vt 13 false (Go.Op.binOp Go.BinOp.add 3 (Go.Operand.tmp 59) (Go.Operand.tmp 61) 3) 3 [17, 19] (by kernel_rfl) (by kernel_rfl) (by kernel_rfl) (fun _ _ h => h) (by rw [hsz]; kernel_rfl) (by kernel_rfl) rfl fun vals w1 ρ hG hF hρ hcst hfun => ?_
      have e59 : ρ (.tmp 59) = .int .i64 (2 + l) := ((hρ 59).trans (slotJ [17, 19] (by rw [hsz]; decide) (by kernel_rfl))).trans (hF 17 (by decide))
      have e61 : ρ (.tmp 61) = .int .i64 (oneG s n) := ((hρ 61).trans (slotJ [17, 19] (by rw [hsz]; decide) (by kernel_rfl))).trans (hF 19 (by decide))
      have kw0 : IntKind.i64.wrap (2 + l + oneG s n) = 2 + l + oneG s n := wrapIn (by omega) (by omega)
      clear hρ hF hcst hfun sl3 sl7 sl8 sl9 fin
      exact opv_val (by go_simp <;> rfl) ⟨gw_self _, rfl⟩
    · refine owes_vt 13 false (Go.Op.binOp Go.BinOp.neq 3 (Go.Operand.tmp 57) (Go.Operand.tmp 62) 3) 4 [15, 20] (by kernel_rfl) (by kernel_rfl) (by kernel_rfl) (fun _ _ h => h) (by rw [hsz]; kernel_rfl) (by kernel_rfl) rfl fun vals w1 ρ hG hF hρ hcst hfun => ?_
      have e57 : ρ (.tmp 57) = .int .i64 (2 + l + oneG s n) := ((hρ 57).trans (slotJ [15, 20] (by rw [hsz]; decide) (by kernel_rfl))).trans (hF 15 (by decide))
      have e62 : ρ (.tmp 62) = .int .i64 (2 + l + oneG s n) := ((hρ 62).trans (slotJ [15, 20] (by rw [hsz]; decide) (by kernel_rfl))).trans (hF 20 (by decide))
      clear hρ hF hcst hfun sl3 sl7 sl8 sl9 fin
      exact opv_val (by go_simp <;> rfl) ⟨gw_self _, rfl⟩
    · refine owes_v (Go.Op.pick (Go.Operand.tmp 55) (Go.Operand.const (Go.Value.bool true)) (Go.Operand.tmp 63)) 4 [13, 21] (by kernel_rfl) (by kernel_rfl) (by kernel_rfl) rfl fun vals w1 ρ hG hF hρ hcst hfun => ?_
      have e55 : ρ (.tmp 55) = .bool false := ((hρ 55).trans (slotJ [13, 21] (by rw [hsz]; decide) (by kernel_rfl))).trans (hF 13 (by decide))
      have e63 : ρ (.tmp 63) = .bool false := ((hρ 63).trans (slotJ [13, 21] (by rw [hsz]; decide) (by kernel_rfl))).trans (hF 21 (by decide))
      clear hρ hF hfun sl3 sl7 sl8 sl9 fin
      exact opv_val (by go_simp <;> rfl) ⟨gw_self _, rfl⟩
    · exact owes_mvj 22 64 (by kernel_rfl) (by kernel_rfl) (by kernel_rfl) (by kernel_rfl) (by rw [hsz]; decide) (fun v w h => h)
    · refine owes_vt 23 false (Go.Op.fieldAddr 46 (Go.Operand.tmp 9) 0) 0 [] (by kernel_rfl) (by kernel_rfl) (by kernel_rfl) (fun _ _ h => h) (by rw [hsz]; kernel_rfl) (by kernel_rfl) rfl fun vals w1 ρ hG hF hρ hcst hfun => ?_
      have e9 : ρ (.tmp 9) = .pointer (some ⟨gy, 0, none⟩) := ((hρ 9).trans (slotO [] (by kernel_rfl))).trans sl9
      clear hρ hF hcst hfun sl3 sl7 sl8 sl9 fin
      exact opv_val (by go_simp <;> rfl) ⟨gw_self _, rfl⟩
    · refine owes_vt 23 false (Go.Op.load 3 (Go.Operand.tmp 66)) 3 [24] (by kernel_rfl) (by kernel_rfl) (by kernel_rfl) (fun _ _ h => h) (by rw [hsz]; kernel_rfl) (by kernel_rfl) rfl fun vals w1 ρ hG hF hρ hcst hfun => ?_
      have e66 : ρ (.tmp 66) = .pointer (some ⟨gy, 0, none⟩) := ((hρ 66).trans (slotJ [24] (by rw [hsz]; decide) (by kernel_rfl))).trans (hF 24 (by decide))
      obtain ⟨k1, k2⟩ := (hy.below hG hy.lt).two
      clear hρ hF hcst hfun sl3 sl7 sl8 sl9 fin
      exact opv_val (by go_simp <;> rfl) ⟨gw_self _, rfl⟩
    · refine owes_vt 23 false (Go.Op.fieldAddr 46 (Go.Operand.tmp 9) 1) 0 [] (by kernel_rfl) (by kernel_rfl) (by kernel_rfl) (fun _ _ h => h) (by rw [hsz]; kernel_rfl) (by kernel_rfl) rfl fun vals w1 ρ hG hF hρ hcst hfun => ?_
      have e9 : ρ (.tmp 9) = .pointer (some ⟨gy, 0, none⟩) := ((hρ 9).trans (slotO [] (by kernel_rfl))).trans sl9
      clear hρ hF hcst hfun sl3 sl7 sl8 sl9 fin
      exact opv_val (by go_simp <;> rfl) ⟨gw_self _, rfl⟩
    · refine owes_vt 23 false (Go.Op.load 3 (Go.Operand.tmp 68)) 3 [26] (by kernel_rfl) (by kernel_rfl) (by kernel_rfl) (fun _ _ h => h) (by rw [hsz]; kernel_rfl) (by kernel_rfl) rfl fun vals w1 ρ hG hF hρ hcst hfun => ?_
      have e68 : ρ (.tmp 68) = .pointer (some ⟨gy, 1, none⟩) := ((hρ 68).trans (slotJ [26] (by rw [hsz]; decide) (by kernel_rfl))).trans (hF 26 (by decide))
      obtain ⟨k1, k2⟩ := (hy.below hG hy.lt).two
      clear hρ hF hcst hfun sl3 sl7 sl8 sl9 fin
      exact opv_val (by go_simp <;> rfl) ⟨gw_self _, rfl⟩
    · refine owes_vt 23 false (Go.Op.binOp Go.BinOp.add 3 (Go.Operand.tmp 67) (Go.Operand.tmp 69) 3) 3 [25, 27] (by kernel_rfl) (by kernel_rfl) (by kernel_rfl) (fun _ _ h => h) (by rw [hsz]; kernel_rfl) (by kernel_rfl) rfl fun vals w1 ρ hG hF hρ hcst hfun => ?_
      have e67 : ρ (.tmp 67) = .int .i64 (2 + l + oneG s n) := ((hρ 67).trans (slotJ [25, 27] (by rw [hsz]; decide) (by kernel_rfl))).trans (hF 25 (by decide))
      have e69 : ρ (.tmp 69) = .int .i64 (oneG s n) := ((hρ 69).trans (slotJ [25, 27] (by rw [hsz]; decide) (by kernel_rfl))).trans (hF 27 (by decide))
      have kw0 : IntKind.i64.wrap (2 + l + oneG s n + oneG s n) = 2 + l + oneG s n + oneG s n := wrapIn (by omega) (by omega)
      clear hρ hF hcst hfun sl3 sl7 sl8 sl9 fin
      exact opv_val (by go_simp <;> rfl) ⟨gw_self _, rfl⟩
    · refine owes_vt 23 false (Go.Op.load 36 (Go.Operand.tmp 3)) 36 [] (by kernel_rfl) (by kernel_rfl) (by kernel_rfl) (fun _ _ h => h) (by rw [hsz]; kernel_rfl) (by kernel_rfl) rfl fun vals w1 ρ hG hF hρ hcst hfun => ?_
      have e3 : ρ (.tmp 3) = .pointer (some ⟨g, 0, none⟩) := ((hρ 3).trans (slotO [] (by kernel_rfl))).trans sl3
      obtain ⟨k1, k2, k3⟩ := (hg.below hG hg.lt).three
      clear hρ hF hcst hfun sl3 sl7 sl8 sl9 fin
      exact opv_val (by go_simp <;> rfl) ⟨gw_self _, rfl⟩
    · refine owes_vt 23 false (Go.Op.call { callee := Go.Callee.value (Go.Operand.func 30), args := #[Go.Operand.tmp 71], argTypes := #[36] }) 3 [29] (by kernel_rfl) (by kernel_rfl) (by kernel_rfl) (fun _ _ h => h) (by rw [hsz]; kernel_rfl) (by kernel_rfl) rfl fun vals w1 ρ hG hF hρ hcst hfun => ?_
      have e71 : ρ (.tmp 71) = gV s l n := ((hρ 71).trans (slotJ [29] (by rw [hsz]; decide) (by kernel_rfl))).trans (hF 29 (by decide))
      clear hρ hF hcst sl3 sl7 sl8 sl9 fin
      exact opv_enter (by go_simp <;> rfl) (of_ret (sectors_c s l n w1 og))
    · refine owes_vt 23 false (Go.Op.binOp Go.BinOp.neq 3 (Go.Operand.tmp 70) (Go.Operand.tmp 72) 3) 4 [28, 30] (by kernel_rfl) (by kernel_rfl) (by kernel_rfl) (fun _ _ h => h) (by rw [hsz]; kernel_rfl) (by kernel_rfl) rfl fun vals w1 ρ hG hF hρ hcst hfun => ?_
      have e70 : ρ (.tmp 70) = .int .i64 (2 + l + oneG s n + oneG s n) := ((hρ 70).trans (slotJ [28, 30] (by rw [hsz]; decide) (by kernel_rfl))).trans (hF 28 (by decide))
      have e72 : ρ (.tmp 72) = .int .i64 (totG s l n) := ((hρ 72).trans (slotJ [28, 30] (by rw [hsz]; decide) (by kernel_rfl))).trans (hF 30 (by decide))
      have z : (2 + l + oneG s n + oneG s n != totG s l n) = false := by unfold totG; simp; omega
      clear hρ hF hcst hfun sl3 sl7 sl8 sl9 fin
      exact opv_val (by go_simp <;> rfl) ⟨gw_self _, rfl⟩
    · refine owes_v (Go.Op.pick (Go.Operand.tmp 65) (Go.Operand.const (Go.Value.bool true)) (Go.Operand.tmp 73)) 4 [23, 31] (by kernel_rfl) (by kernel_rfl) (by kernel_rfl) rfl fun vals w1 ρ hG hF hρ hcst hfun => ?_
      have e65 : ρ (.tmp 65) = .bool false := ((hρ 65).trans (slotJ [23, 31] (by rw [hsz]; decide) (by kernel_rfl))).trans (hF 23 (by decide))
      have e73 : ρ (.tmp 73) = .bool false := ((hρ 73).trans (slotJ [23, 31] (by rw [hsz]; decide) (by kernel_rfl))).trans (hF 31 (by decide))
      clear hρ hF hfun sl3 sl7 sl8 sl9 fin
      exact opv_val (by go_simp <;> rfl) ⟨gw_self _, rfl⟩
    · exact owes_mvj 32 74 (by kernel_rfl) (by kernel_rfl) (by kernel_rfl) (by kernel_rfl) (by rw [hsz]; decide) (fun v w h => h)
    · refine owes_vt 33 false (Go.Op.fieldAddr 46 (Go.Operand.tmp 8) 1) 0 [] (by kernel_rfl) (by kernel_rfl) (by kernel_rfl) (fun _ _ h => h) (by rw [hsz]; kernel_rfl) (by kernel_rfl) rfl fun vals w1 ρ hG hF hρ hcst hfun => ?_
      have e8 : ρ (.tmp 8) = .pointer (some ⟨gx, 0, none⟩) := ((hρ 8).trans (slotO [] (by kernel_rfl))).trans sl8
      clear hρ hF hcst hfun sl3 sl7 sl8 sl9 fin
      exact opv_val (by go_simp <;> rfl) ⟨gw_self _, rfl⟩
    · refine owes_vt 33 false (Go.Op.load 3 (Go.Operand.tmp 76)) 3 [34] (by kernel_rfl) (by kernel_rfl) (by kernel_rfl) (fun _ _ h => h) (by rw [hsz]; kernel_rfl) (by kernel_rfl) rfl fun vals w1 ρ hG hF hρ hcst hfun => ?_
      have e76 : ρ (.tmp 76) = .pointer (some ⟨gx, 1, none⟩) := ((hρ 76).trans (slotJ [34] (by rw [hsz]; decide) (by kernel_rfl))).trans (hF 34 (by decide))
      obtain ⟨k1, k2⟩ := (hx.below hG hx.lt).two
      clear hρ hF hcst hfun sl3 sl7 sl8 sl9 fin
      exact opv_val (by go_simp <;> rfl) ⟨gw_self _, rfl⟩
    · refine owes_vt 33 false (Go.Op.fieldAddr 46 (Go.Operand.tmp 9) 1) 0 [] (by kernel_rfl) (by kernel_rfl) (by kernel_rfl) (fun _ _ h => h) (by rw [hsz]; kernel_rfl) (by kernel_rfl) rfl fun vals w1 ρ hG hF hρ hcst hfun => ?_
      have e9 : ρ (.tmp 9) = .pointer (some ⟨gy, 0, none⟩) := ((hρ 9).trans (slotO [] (by kernel_rfl))).trans sl9
      clear hρ hF hcst hfun sl3 sl7 sl8 sl9 fin
      exact opv_val (by go_simp <;> rfl) ⟨gw_self _, rfl⟩
    · refine owes_vt 33 false (Go.Op.load 3 (Go.Operand.tmp 78)) 3 [36] (by kernel_rfl) (by kernel_rfl) (by kernel_rfl) (fun _ _ h => h) (by rw [hsz]; kernel_rfl) (by kernel_rfl) rfl fun vals w1 ρ hG hF hρ hcst hfun => ?_
      have e78 : ρ (.tmp 78) = .pointer (some ⟨gy, 1, none⟩) := ((hρ 78).trans (slotJ [36] (by rw [hsz]; decide) (by kernel_rfl))).trans (hF 36 (by decide))
      obtain ⟨k1, k2⟩ := (hy.below hG hy.lt).two
      clear hρ hF hcst hfun sl3 sl7 sl8 sl9 fin
      exact opv_val (by go_simp <;> rfl) ⟨gw_self _, rfl⟩
    · refine owes_vt 33 false (Go.Op.binOp Go.BinOp.neq 3 (Go.Operand.tmp 77) (Go.Operand.tmp 79) 3) 4 [35, 37] (by kernel_rfl) (by kernel_rfl) (by kernel_rfl) (fun _ _ h => h) (by rw [hsz]; kernel_rfl) (by kernel_rfl) rfl fun vals w1 ρ hG hF hρ hcst hfun => ?_
      have e77 : ρ (.tmp 77) = .int .i64 (oneG s n) := ((hρ 77).trans (slotJ [35, 37] (by rw [hsz]; decide) (by kernel_rfl))).trans (hF 35 (by decide))
      have e79 : ρ (.tmp 79) = .int .i64 (oneG s n) := ((hρ 79).trans (slotJ [35, 37] (by rw [hsz]; decide) (by kernel_rfl))).trans (hF 37 (by decide))
      clear hρ hF hcst hfun sl3 sl7 sl8 sl9 fin
      exact opv_val (by go_simp <;> rfl) ⟨gw_self _, rfl⟩
    · refine owes_v (Go.Op.pick (Go.Operand.tmp 75) (Go.Operand.const (Go.Value.bool true)) (Go.Operand.tmp 80)) 4 [33, 38] (by kernel_rfl) (by kernel_rfl) (by kernel_rfl) rfl fun vals w1 ρ hG hF hρ hcst hfun => ?_
      have e75 : ρ (.tmp 75) = .bool false := ((hρ 75).trans (slotJ [33, 38] (by rw [hsz]; decide) (by kernel_rfl))).trans (hF 33 (by decide))
      have e80 : ρ (.tmp 80) = .bool false := ((hρ 80).trans (slotJ [33, 38] (by rw [hsz]; decide) (by kernel_rfl))).trans (hF 38 (by decide))
      clear hρ hF hfun sl3 sl7 sl8 sl9 fin
      exact opv_val (by go_simp <;> rfl) ⟨gw_self _, rfl⟩
  · intro vals w1 hG hF
    exact fin vals w1 hG (hF 39 (by decide +kernel))
theorem own_space (s l n a : Int) (h : OkG s l n) (h1 : 0 ≤ a) (h2 : a < oneG s n) : ownS s l n (2 + l + a) = ⟨#[115, 112, 97, 99, 101]⟩ := by
  have q1 := h.l1
  unfold ownS totG
  rw [if_neg (by omega), if_neg (by omega), if_neg (by omega)]
end Go.Proofs.Ytgdgajieekkmdaa
