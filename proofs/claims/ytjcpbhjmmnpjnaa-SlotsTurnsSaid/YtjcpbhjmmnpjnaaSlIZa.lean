/- The law SlotsTurns of layer 7 returns true for every argument. No conditions. -/
import Derived.Test.YtjcpbhjmmnpjnaaZa10
namespace Go.Proofs.Ytjcpbhjmmnpjnaa
set_option linter.unusedVariables false
set_option linter.unusedSimpArgs false
open Go.RowKit Go.Maps
set_option maxRecDepth 100000
set_option maxHeartbeats 4000000
theorem wrapU {v : Int} (h1 : 0 ≤ v) (h2 : v ≤ 18446744073709551615) : IntKind.u64.wrap v = v := by
  simp [IntKind.wrap, IntKind.bits, IntKind.signed]; omega
theorem eqSB (a0 a6 : BitVec 64) (a1 a2 a3 a4 a5 : Int) (W : World) :
    (Op.equalIn 10000 32 (.agg #[.int .u64 (U64 a0), .int .i64 a1, .int .i64 a2, .int .i64 a3, .int .i64 a4, .int .i64 a5, .int .u64 (U64 a6)]) (.agg #[.int .u64 (U64 a0), .int .i64 a1, .int .i64 a2, .int .i64 a3, .int .i64 a4, .int .i64 a5, .int .u64 (U64 a6)])).run Try.prog W = .ok true W := by
  go_simp
theorem t15 (Q : Exit → Act → World → Prop) (a0 : Act) (w : World) (G9 f m : Nat) (a : Sb) (hb : Hid (a.wd = m - 1)) (he : Hid (U64 a.ep = ((f + (m - 1) : Nat) : Int))) (hm1 : 1 ≤ m) (hm2 : m ≤ 60) (hf : f ≤ 4294967295) (H9 : Hid (Bk w G9 32 a.cells)) (ops0 : Array Oper) (rest : List Oper) (hops : ops0 = regIn Try.f5 15) (hrest : rest = cutOps 0 (regIn Try.f5 15)) (hsz : a0.tmps.size = 108) (sl1 : a0.tmps.getD 1 undef = .int .u32 f) (sl7 : a0.tmps.getD 7 undef = .int .i64 m) (sl9 : a0.tmps.getD 9 undef = .pointer (some ⟨G9, 0, none⟩)) (sl10 : a0.tmps.getD 10 undef = .int .i64 0) (sl13 : a0.tmps.getD 13 undef = .int .i64 0)
    (fin : ∀ (vals : Nat → Value) (w1 : World), Below w.heap.size w w1 → (IsV (.bool false)) (vals 21) w1 → Q .normal (putD vals [53, 54, 55, 56, 57, 58, 59, 60, 61, 62, 63, 64, 65, 66, 67, 68, 69, 70, 71, 72, 73, 74] 0 a0) w1) :
    wpList Try.prog ops0 Q rest a0 w := by
  subst hops
  refine list_by0 (ops := fullOps 0 (regIn Try.f5 15)) (k := 0) (G := fun w w1 => Below w.heap.size w w1) [IsV (.int .i64 0),
    IsV (.int .i64 0),
    IsV (.int .i64 0),
    IsV (.bool false),
    IsV (.bool false),
    IsV (.pointer (some ⟨G9, 5, none⟩)),
    IsV (.int .i64 a.wd),
    IsV (.int .i64 m),
    IsV (.int .i64 ((m : Int) - 1)),
    IsV (.bool false),
    IsV (.bool false),
    IsV (.bool false),
    IsV (.pointer (some ⟨G9, 0, none⟩)),
    IsV (.int .u64 (U64 a.ep)),
    IsV (.int .u32 f),
    IsV (.int .u64 f),
    IsV (.int .i64 m),
    IsV (.int .i64 ((m : Int) - 1)),
    IsV (.int .u64 ((m : Int) - 1)),
    IsV (.int .u64 ((f : Int) + ((m : Int) - 1))),
    IsV (.bool false),
    IsV (.bool false)]
    [53, 54, 55, 56, 57, 58, 59, 60, 61, 62, 63, 64, 65, 66, 67, 68, 69, 70, 71, 72, 73, 74] rfl hrest (by kernel_rfl) (Gw.rfl_ _) Gw.trans (by rw [hsz]; kernel_rfl) (by kernel_rfl) ?_ ?_ ?_
  · intro f hf
    simp only [List.mem_cons, List.not_mem_nil, or_false] at hf
    rcases hf with rfl | rfl | rfl | rfl | rfl | rfl | rfl | rfl | rfl | rfl | rfl | rfl | rfl | rfl | rfl | rfl | rfl | rfl | rfl | rfl | rfl | rfl <;> intro v a b h g <;> first | exact IsV.mono h
  · refine ⟨?_, ?_, ?_, ?_, ?_, ?_, ?_, ?_, ?_, ?_, ?_, ?_, ?_, ?_, ?_, ?_, ?_, ?_, ?_, ?_, ?_, ?_, trivial⟩
    · exact owes_mv 10 (by kernel_rfl) (by kernel_rfl) (by kernel_rfl) sl10 (fun _ => rfl)
    · exact owes_mv 13 (by kernel_rfl) (by kernel_rfl) (by kernel_rfl) sl13 (fun _ => rfl)
    · refine owes_v (Go.Op.binOp Go.BinOp.add 3 (Go.Operand.tmp 53) (Go.Operand.tmp 54) 3) 3 [0, 1] (by kernel_rfl) (by kernel_rfl) (by kernel_rfl) rfl fun vals w1 ρ hG hF hρ hcst hfun => ?_
      have e53 : ρ (.tmp 53) = .int .i64 0 := ((hρ 53).trans (slotJ [0, 1] (by rw [hsz]; decide) (by kernel_rfl))).trans (hF 0 (by decide))
      have e54 : ρ (.tmp 54) = .int .i64 0 := ((hρ 54).trans (slotJ [0, 1] (by rw [hsz]; decide) (by kernel_rfl))).trans (hF 1 (by decide))
      clear hρ hF hcst hfun sl1 sl7 sl9 sl10 sl13 fin
      exact opv_val (by go_simp <;> rfl) ⟨gw_self _, rfl⟩
    · refine owes_v (Go.Op.binOp Go.BinOp.neq 3 (Go.Operand.tmp 55) (Go.Operand.const (Go.Value.int Go.IntKind.i64 0)) 3) 4 [2] (by kernel_rfl) (by kernel_rfl) (by kernel_rfl) rfl fun vals w1 ρ hG hF hρ hcst hfun => ?_
      have e55 : ρ (.tmp 55) = .int .i64 0 := ((hρ 55).trans (slotJ [2] (by rw [hsz]; decide) (by kernel_rfl))).trans (hF 2 (by decide))
      clear hρ hF hfun sl1 sl7 sl9 sl10 sl13 fin
      exact opv_val (by go_simp <;> rfl) ⟨gw_self _, rfl⟩
    · exact owes_mvj 3 56 (by kernel_rfl) (by kernel_rfl) (by kernel_rfl) (by kernel_rfl) (by rw [hsz]; decide) (fun v w h => h)
    · refine owes_vt 4 false (Go.Op.fieldAddr 32 (Go.Operand.tmp 9) 3) 0 [] (by kernel_rfl) (by kernel_rfl) (by kernel_rfl) (fun _ _ h => h) (by rw [hsz]; kernel_rfl) (by kernel_rfl) rfl fun vals w1 ρ hG hF hρ hcst hfun => ?_
      have e9 : ρ (.tmp 9) = .pointer (some ⟨G9, 0, none⟩) := ((hρ 9).trans (slotO [] (by kernel_rfl))).trans sl9
      clear hρ hF hcst hfun sl1 sl7 sl9 sl10 sl13 fin
      exact opv_val (by go_simp <;> rfl) ⟨gw_self _, rfl⟩
    · refine owes_vt 4 false (Go.Op.load 3 (Go.Operand.tmp 58)) 3 [5] (by kernel_rfl) (by kernel_rfl) (by kernel_rfl) (fun _ _ h => h) (by rw [hsz]; kernel_rfl) (by kernel_rfl) rfl fun vals w1 ρ hG hF hρ hcst hfun => ?_
      have e58 : ρ (.tmp 58) = .pointer (some ⟨G9, 5, none⟩) := ((hρ 58).trans (slotJ [5] (by rw [hsz]; decide) (by kernel_rfl))).trans (hF 5 (by decide))
      have k0 : w1.cell? ⟨G9, 5, none⟩ = some (.int .i64 a.wd) := (H9.out.below hG H9.out.lt).cell 5
      clear hρ hF hcst hfun sl1 sl7 sl9 sl10 sl13 fin
      exact opv_val (by go_simp <;> rfl) ⟨gw_self _, rfl⟩
    · refine owes_vt 4 false (Go.Op.move (Go.Operand.tmp 7)) 3 [] (by kernel_rfl) (by kernel_rfl) (by kernel_rfl) (fun _ _ h => h) (by rw [hsz]; kernel_rfl) (by kernel_rfl) rfl fun vals w1 ρ hG hF hρ hcst hfun => ?_
      have e7 : ρ (.tmp 7) = .int .i64 m := ((hρ 7).trans (slotO [] (by kernel_rfl))).trans sl7
      clear hρ hF hcst hfun sl1 sl7 sl9 sl10 sl13 fin
      exact opv_val (by go_simp <;> rfl) ⟨gw_self _, rfl⟩
    · refine owes_vt 4 false (Go.Op.binOp Go.BinOp.sub 3 (Go.Operand.tmp 60) (Go.Operand.const (Go.Value.int Go.IntKind.i64 1)) 3) 3 [7] (by kernel_rfl) (by kernel_rfl) (by kernel_rfl) (fun _ _ h => h) (by rw [hsz]; kernel_rfl) (by kernel_rfl) rfl fun vals w1 ρ hG hF hρ hcst hfun => ?_
      have e60 : ρ (.tmp 60) = .int .i64 m := ((hρ 60).trans (slotJ [7] (by rw [hsz]; decide) (by kernel_rfl))).trans (hF 7 (by decide))
      have kw0 : IntKind.i64.wrap ((m : Int) - 1) = (m : Int) - 1 := wrapIn (by omega) (by omega)
      clear hρ hF hfun sl1 sl7 sl9 sl10 sl13 fin
      exact opv_val (by go_simp <;> rfl) ⟨gw_self _, rfl⟩
    · refine owes_vt 4 false (Go.Op.binOp Go.BinOp.neq 3 (Go.Operand.tmp 59) (Go.Operand.tmp 61) 3) 4 [6, 8] (by kernel_rfl) (by kernel_rfl) (by kernel_rfl) (fun _ _ h => h) (by rw [hsz]; kernel_rfl) (by kernel_rfl) rfl fun vals w1 ρ hG hF hρ hcst hfun => ?_
      have e59 : ρ (.tmp 59) = .int .i64 a.wd := ((hρ 59).trans (slotJ [6, 8] (by rw [hsz]; decide) (by kernel_rfl))).trans (hF 6 (by decide))
      have e61 : ρ (.tmp 61) = .int .i64 ((m : Int) - 1) := ((hρ 61).trans (slotJ [6, 8] (by rw [hsz]; decide) (by kernel_rfl))).trans (hF 8 (by decide))
      have q : ((a.wd : Int) != (m : Int) - 1) = false := by rw [hb.out]; simp; omega
      clear hρ hF hcst hfun sl1 sl7 sl9 sl10 sl13 fin
      exact opv_val (by go_simp <;> rfl) ⟨gw_self _, rfl⟩
    · refine owes_v (Go.Op.pick (Go.Operand.tmp 57) (Go.Operand.const (Go.Value.bool true)) (Go.Operand.tmp 62)) 4 [4, 9] (by kernel_rfl) (by kernel_rfl) (by kernel_rfl) rfl fun vals w1 ρ hG hF hρ hcst hfun => ?_
      have e57 : ρ (.tmp 57) = .bool false := ((hρ 57).trans (slotJ [4, 9] (by rw [hsz]; decide) (by kernel_rfl))).trans (hF 4 (by decide))
      have e62 : ρ (.tmp 62) = .bool false := ((hρ 62).trans (slotJ [4, 9] (by rw [hsz]; decide) (by kernel_rfl))).trans (hF 9 (by decide))
      clear hρ hF hfun sl1 sl7 sl9 sl10 sl13 fin
      exact opv_val (by go_simp <;> rfl) ⟨gw_self _, rfl⟩
    · exact owes_mvj 10 63 (by kernel_rfl) (by kernel_rfl) (by kernel_rfl) (by kernel_rfl) (by rw [hsz]; decide) (fun v w h => h)
    · refine owes_vt 11 false (Go.Op.fieldAddr 32 (Go.Operand.tmp 9) 0) 0 [] (by kernel_rfl) (by kernel_rfl) (by kernel_rfl) (fun _ _ h => h) (by rw [hsz]; kernel_rfl) (by kernel_rfl) rfl fun vals w1 ρ hG hF hρ hcst hfun => ?_
      have e9 : ρ (.tmp 9) = .pointer (some ⟨G9, 0, none⟩) := ((hρ 9).trans (slotO [] (by kernel_rfl))).trans sl9
      clear hρ hF hcst hfun sl1 sl7 sl9 sl10 sl13 fin
      exact opv_val (by go_simp <;> rfl) ⟨gw_self _, rfl⟩
    · refine owes_vt 11 false (Go.Op.load 28 (Go.Operand.tmp 65)) 28 [12] (by kernel_rfl) (by kernel_rfl) (by kernel_rfl) (fun _ _ h => h) (by rw [hsz]; kernel_rfl) (by kernel_rfl) rfl fun vals w1 ρ hG hF hρ hcst hfun => ?_
      have e65 : ρ (.tmp 65) = .pointer (some ⟨G9, 0, none⟩) := ((hρ 65).trans (slotJ [12] (by rw [hsz]; decide) (by kernel_rfl))).trans (hF 12 (by decide))
      have k0 : w1.cell? ⟨G9, 0, none⟩ = some (.int .u64 (U64 a.ep)) := (H9.out.below hG H9.out.lt).cell 0
      clear hρ hF hcst hfun sl1 sl7 sl9 sl10 sl13 fin
      exact opv_val (by go_simp <;> rfl) ⟨gw_self _, rfl⟩
    · refine owes_vt 11 false (Go.Op.move (Go.Operand.tmp 1)) 55 [] (by kernel_rfl) (by kernel_rfl) (by kernel_rfl) (fun _ _ h => h) (by rw [hsz]; kernel_rfl) (by kernel_rfl) rfl fun vals w1 ρ hG hF hρ hcst hfun => ?_
      have e1 : ρ (.tmp 1) = .int .u32 f := ((hρ 1).trans (slotO [] (by kernel_rfl))).trans sl1
      clear hρ hF hcst hfun sl1 sl7 sl9 sl10 sl13 fin
      exact opv_val (by go_simp <;> rfl) ⟨gw_self _, rfl⟩
    · refine owes_vt 11 false (Go.Op.convert 55 28 (Go.Operand.tmp 67)) 28 [14] (by kernel_rfl) (by kernel_rfl) (by kernel_rfl) (fun _ _ h => h) (by rw [hsz]; kernel_rfl) (by kernel_rfl) rfl fun vals w1 ρ hG hF hρ hcst hfun => ?_
      have e67 : ρ (.tmp 67) = .int .u32 f := ((hρ 67).trans (slotJ [14] (by rw [hsz]; decide) (by kernel_rfl))).trans (hF 14 (by decide))
      have q : IntKind.u64.wrap (f : Int) = f := wrapU (by omega) (by omega)
      clear hρ hF hcst hfun sl1 sl7 sl9 sl10 sl13 fin
      exact opv_val (by go_simp <;> rfl) ⟨gw_self _, rfl⟩
    · refine owes_vt 11 false (Go.Op.move (Go.Operand.tmp 7)) 3 [] (by kernel_rfl) (by kernel_rfl) (by kernel_rfl) (fun _ _ h => h) (by rw [hsz]; kernel_rfl) (by kernel_rfl) rfl fun vals w1 ρ hG hF hρ hcst hfun => ?_
      have e7 : ρ (.tmp 7) = .int .i64 m := ((hρ 7).trans (slotO [] (by kernel_rfl))).trans sl7
      clear hρ hF hcst hfun sl1 sl7 sl9 sl10 sl13 fin
      exact opv_val (by go_simp <;> rfl) ⟨gw_self _, rfl⟩
    · refine owes_vt 11 false (Go.Op.binOp Go.BinOp.sub 3 (Go.Operand.tmp 69) (Go.Operand.const (Go.Value.int Go.IntKind.i64 1)) 3) 3 [16] (by kernel_rfl) (by kernel_rfl) (by kernel_rfl) (fun _ _ h => h) (by rw [hsz]; kernel_rfl) (by kernel_rfl) rfl fun vals w1 ρ hG hF hρ hcst hfun => ?_
      have e69 : ρ (.tmp 69) = .int .i64 m := ((hρ 69).trans (slotJ [16] (by rw [hsz]; decide) (by kernel_rfl))).trans (hF 16 (by decide))
      have kw0 : IntKind.i64.wrap ((m : Int) - 1) = (m : Int) - 1 := wrapIn (by omega) (by omega)
      clear hρ hF hfun sl1 sl7 sl9 sl10 sl13 fin
      exact opv_val (by go_simp <;> rfl) ⟨gw_self _, rfl⟩
    · refine owes_vt 11 false (Go.Op.convert 3 28 (Go.Operand.tmp 70)) 28 [17] (by kernel_rfl) (by kernel_rfl) (by kernel_rfl) (fun _ _ h => h) (by rw [hsz]; kernel_rfl) (by kernel_rfl) rfl fun vals w1 ρ hG hF hρ hcst hfun => ?_
      have e70 : ρ (.tmp 70) = .int .i64 ((m : Int) - 1) := ((hρ 70).trans (slotJ [17] (by rw [hsz]; decide) (by kernel_rfl))).trans (hF 17 (by decide))
      have q : IntKind.u64.wrap ((m : Int) - 1) = (m : Int) - 1 := wrapU (by omega) (by omega)
      clear hρ hF hcst hfun sl1 sl7 sl9 sl10 sl13 fin
      exact opv_val (by go_simp <;> rfl) ⟨gw_self _, rfl⟩
    · refine owes_vt 11 false (Go.Op.binOp Go.BinOp.add 28 (Go.Operand.tmp 68) (Go.Operand.tmp 71) 28) 28 [15, 18] (by kernel_rfl) (by kernel_rfl) (by kernel_rfl) (fun _ _ h => h) (by rw [hsz]; kernel_rfl) (by kernel_rfl) rfl fun vals w1 ρ hG hF hρ hcst hfun => ?_
      have e68 : ρ (.tmp 68) = .int .u64 f := ((hρ 68).trans (slotJ [15, 18] (by rw [hsz]; decide) (by kernel_rfl))).trans (hF 15 (by decide))
      have e71 : ρ (.tmp 71) = .int .u64 ((m : Int) - 1) := ((hρ 71).trans (slotJ [15, 18] (by rw [hsz]; decide) (by kernel_rfl))).trans (hF 18 (by decide))
      have q : IntKind.u64.wrap ((f : Int) + ((m : Int) - 1)) = (f : Int) + ((m : Int) - 1) := wrapU (by omega) (by omega)
      clear hρ hF hcst hfun sl1 sl7 sl9 sl10 sl13 fin
      exact opv_val (by go_simp <;> rfl) ⟨gw_self _, rfl⟩
    · refine owes_vt 11 false (Go.Op.binOp Go.BinOp.neq 28 (Go.Operand.tmp 66) (Go.Operand.tmp 72) 28) 4 [13, 19] (by kernel_rfl) (by kernel_rfl) (by kernel_rfl) (fun _ _ h => h) (by rw [hsz]; kernel_rfl) (by kernel_rfl) rfl fun vals w1 ρ hG hF hρ hcst hfun => ?_
      have e66 : ρ (.tmp 66) = .int .u64 (U64 a.ep) := ((hρ 66).trans (slotJ [13, 19] (by rw [hsz]; decide) (by kernel_rfl))).trans (hF 13 (by decide))
      have e72 : ρ (.tmp 72) = .int .u64 ((f : Int) + ((m : Int) - 1)) := ((hρ 72).trans (slotJ [13, 19] (by rw [hsz]; decide) (by kernel_rfl))).trans (hF 19 (by decide))
      have q : (U64 a.ep != (f : Int) + ((m : Int) - 1)) = false := by rw [he.out]; simp; omega
      clear hρ hF hcst hfun sl1 sl7 sl9 sl10 sl13 fin
      exact opv_val (by go_simp <;> rfl) ⟨gw_self _, rfl⟩
    · refine owes_v (Go.Op.pick (Go.Operand.tmp 64) (Go.Operand.const (Go.Value.bool true)) (Go.Operand.tmp 73)) 4 [11, 20] (by kernel_rfl) (by kernel_rfl) (by kernel_rfl) rfl fun vals w1 ρ hG hF hρ hcst hfun => ?_
      have e64 : ρ (.tmp 64) = .bool false := ((hρ 64).trans (slotJ [11, 20] (by rw [hsz]; decide) (by kernel_rfl))).trans (hF 11 (by decide))
      have e73 : ρ (.tmp 73) = .bool false := ((hρ 73).trans (slotJ [11, 20] (by rw [hsz]; decide) (by kernel_rfl))).trans (hF 20 (by decide))
      clear hρ hF hfun sl1 sl7 sl9 sl10 sl13 fin
      exact opv_val (by go_simp <;> rfl) ⟨gw_self _, rfl⟩
  · intro vals w1 hG hF
    exact fin vals w1 hG (hF 21 (by decide +kernel))
theorem t18_0a (Q : Exit → Act → World → Prop) (a0 : Act) (w : World) (G9 G11 G12 m : Nat) (a b : Sb) (f1 : Bool) (hm : m = 1) (H9 : Hid (Bk w G9 32 a.cells)) (H11 : Hid (Bk w G11 33 (c14 a b))) (H12 : Hid (Bk w G12 34 #[.bool true, .bool f1])) (hsz : a0.tmps.size = 108) (sl7 : a0.tmps.getD 7 undef = .int .i64 m) (sl9 : a0.tmps.getD 9 undef = .pointer (some ⟨G9, 0, none⟩)) (sl11 : a0.tmps.getD 11 undef = .pointer (some ⟨G11, 0, none⟩)) (sl12 : a0.tmps.getD 12 undef = .pointer (some ⟨G12, 0, none⟩)) (sl14 : a0.tmps.getD 14 undef = .int .i64 0)
    (fin : ∀ (vals : Nat → Value) (w1 : World), Below w.heap.size w w1 → (IsV (.bool true)) (vals 30) w1 → Q .normal (putD vals [78, 79, 80, 81, 82, 83, 84, 85, 86, 87, 88, 89, 90, 91, 92, 93, 94, 95, 96, 97, 98, 99, 100, 101, 102, 103, 104, 105, 106, 107, 4] 0 a0) w1) :
    (Code.region 18 (regIn Try.f5 18) true).wp Try.prog Q a0 w := by
  refine region_by (G := fun w w1 => Below w.heap.size w w1) [IsV (.int .i64 0),
    IsV (.pointer (some ⟨G12, 0, none⟩)),
    IsV (.bool true),
    IsV (.bool true),
    IsV (.int .i64 0),
    IsV (.pointer (some ⟨G11, 0, none⟩)),
    IsV (.agg #[.int .u64 (U64 a.ep), .int .i64 a.s, .int .i64 a.l, .int .i64 a.n, .int .i64 a.sp, .int .i64 a.wd, .int .u64 (U64 a.lg)]),
    IsV (.agg #[.int .u64 (U64 a.ep), .int .i64 a.s, .int .i64 a.l, .int .i64 a.n, .int .i64 a.sp, .int .i64 a.wd, .int .u64 (U64 a.lg)]),
    IsV (.bool true),
    IsV (.bool true),
    IsV (.bool true),
    IsV (.int .i64 m),
    IsV (.bool true),
    IsV (.bool true),
    IsV undef,
    IsV undef,
    IsV undef,
    IsV undef,
    IsV undef,
    IsV undef,
    IsV undef,
    IsV undef,
    IsV undef,
    IsV undef,
    IsV undef,
    IsV undef,
    IsV undef,
    IsV undef,
    IsV (.bool true),
    IsV (.bool true),
    IsV (.bool true)]
    [78, 79, 80, 81, 82, 83, 84, 85, 86, 87, 88, 89, 90, 91, 92, 93, 94, 95, 96, 97, 98, 99, 100, 101, 102, 103, 104, 105, 106, 107, 4] (by kernel_rfl) (Gw.drew _) Gw.trans (by rw [hsz]; kernel_rfl) (by kernel_rfl) ?_ ?_ ?_
  · intro f hf
    simp only [List.mem_cons, List.not_mem_nil, or_false] at hf
    rcases hf with rfl | rfl | rfl | rfl | rfl | rfl | rfl | rfl | rfl | rfl | rfl | rfl | rfl | rfl | rfl | rfl | rfl | rfl | rfl | rfl | rfl | rfl | rfl | rfl | rfl | rfl | rfl | rfl | rfl | rfl | rfl <;> intro v a b h g <;> first | exact IsV.mono h
  · refine ⟨?_, ?_, ?_, ?_, ?_, ?_, ?_, ?_, ?_, ?_, ?_, ?_, ?_, ?_, ?_, ?_, ?_, ?_, ?_, ?_, ?_, ?_, ?_, ?_, ?_, ?_, ?_, ?_, ?_, ?_, ?_, trivial⟩
    · exact owes_mv 14 (by kernel_rfl) (by kernel_rfl) (by kernel_rfl) sl14 (fun _ => rfl)
    · refine owes_v (Go.Op.indexAddr 34 (Go.Operand.tmp 12) (Go.Operand.tmp 78)) 0 [0] (by kernel_rfl) (by kernel_rfl) (by kernel_rfl) rfl fun vals w1 ρ hG hF hρ hcst hfun => ?_
      have e12 : ρ (.tmp 12) = .pointer (some ⟨G12, 0, none⟩) := ((hρ 12).trans (slotO [0] (by kernel_rfl))).trans sl12
      have e78 : ρ (.tmp 78) = .int .i64 0 := ((hρ 78).trans (slotJ [0] (by rw [hsz]; decide) (by kernel_rfl))).trans (hF 0 (by decide))
      clear hρ hF hcst hfun sl7 sl9 sl11 sl12 sl14 fin
      exact opv_val (by go_simp <;> rfl) ⟨gw_self _, rfl⟩
    · refine owes_v (Go.Op.load 4 (Go.Operand.tmp 79)) 4 [1] (by kernel_rfl) (by kernel_rfl) (by kernel_rfl) rfl fun vals w1 ρ hG hF hρ hcst hfun => ?_
      have e79 : ρ (.tmp 79) = .pointer (some ⟨G12, 0, none⟩) := ((hρ 79).trans (slotJ [1] (by rw [hsz]; decide) (by kernel_rfl))).trans (hF 1 (by decide))
      have k0 : w1.cell? ⟨G12, 0, none⟩ = some (.bool true) := (H12.out.below hG H12.out.lt).cell 0
      clear hρ hF hcst hfun sl7 sl9 sl11 sl12 sl14 fin
      exact opv_val (by go_simp <;> rfl) ⟨gw_self _, rfl⟩
    · exact owes_mvj 2 80 (by kernel_rfl) (by kernel_rfl) (by kernel_rfl) (by kernel_rfl) (by rw [hsz]; decide) (fun v w h => h)
    · refine owes_vt 3 true (Go.Op.move (Go.Operand.tmp 14)) 3 [] (by kernel_rfl) (by kernel_rfl) (by kernel_rfl) (fun _ _ h => h) (by rw [hsz]; kernel_rfl) (by kernel_rfl) rfl fun vals w1 ρ hG hF hρ hcst hfun => ?_
      have e14 : ρ (.tmp 14) = .int .i64 0 := ((hρ 14).trans (slotO [] (by kernel_rfl))).trans sl14
      clear hρ hF hcst hfun sl7 sl9 sl11 sl12 sl14 fin
      exact opv_val (by go_simp <;> rfl) ⟨gw_self _, rfl⟩
    · refine owes_vt 3 true (Go.Op.indexAddr 33 (Go.Operand.tmp 11) (Go.Operand.tmp 82)) 0 [4] (by kernel_rfl) (by kernel_rfl) (by kernel_rfl) (fun _ _ h => h) (by rw [hsz]; kernel_rfl) (by kernel_rfl) rfl fun vals w1 ρ hG hF hρ hcst hfun => ?_
      have e11 : ρ (.tmp 11) = .pointer (some ⟨G11, 0, none⟩) := ((hρ 11).trans (slotO [4] (by kernel_rfl))).trans sl11
      have e82 : ρ (.tmp 82) = .int .i64 0 := ((hρ 82).trans (slotJ [4] (by rw [hsz]; decide) (by kernel_rfl))).trans (hF 4 (by decide))
      clear hρ hF hcst hfun sl7 sl9 sl11 sl12 sl14 fin
      exact opv_val (by go_simp <;> rfl) ⟨gw_self _, rfl⟩
    · refine owes_vt 3 true (Go.Op.load 32 (Go.Operand.tmp 83)) 32 [5] (by kernel_rfl) (by kernel_rfl) (by kernel_rfl) (fun _ _ h => h) (by rw [hsz]; kernel_rfl) (by kernel_rfl) rfl fun vals w1 ρ hG hF hρ hcst hfun => ?_
      have e83 : ρ (.tmp 83) = .pointer (some ⟨G11, 0, none⟩) := ((hρ 83).trans (slotJ [5] (by rw [hsz]; decide) (by kernel_rfl))).trans (hF 5 (by decide))
      obtain ⟨⟨x0, x1, x2, x3, x4, x5, x6⟩, x7, x8, x9, x10, x11, x12, x13⟩ := (H11.out.below hG H11.out.lt).cut7
      clear hρ hF hcst hfun sl7 sl9 sl11 sl12 sl14 fin
      exact opv_val (by go_simp <;> rfl) ⟨gw_self _, rfl⟩
    · refine owes_vt 3 true (Go.Op.load 32 (Go.Operand.tmp 9)) 32 [] (by kernel_rfl) (by kernel_rfl) (by kernel_rfl) (fun _ _ h => h) (by rw [hsz]; kernel_rfl) (by kernel_rfl) rfl fun vals w1 ρ hG hF hρ hcst hfun => ?_
      have e9 : ρ (.tmp 9) = .pointer (some ⟨G9, 0, none⟩) := ((hρ 9).trans (slotO [] (by kernel_rfl))).trans sl9
      have k9 := H9.out.below hG H9.out.lt
      unfold Sb.cells at k9
      obtain ⟨x0, x1, x2, x3, x4, x5, x6⟩ := k9.seven
      clear hρ hF hcst hfun sl7 sl9 sl11 sl12 sl14 fin
      exact opv_val (by go_simp <;> rfl) ⟨gw_self _, rfl⟩
    · refine owes_vt 3 true (Go.Op.binOp Go.BinOp.eql 32 (Go.Operand.tmp 84) (Go.Operand.tmp 85) 32) 4 [6, 7] (by kernel_rfl) (by kernel_rfl) (by kernel_rfl) (fun _ _ h => h) (by rw [hsz]; kernel_rfl) (by kernel_rfl) rfl fun vals w1 ρ hG hF hρ hcst hfun => ?_
      have e84 : ρ (.tmp 84) = .agg #[.int .u64 (U64 a.ep), .int .i64 a.s, .int .i64 a.l, .int .i64 a.n, .int .i64 a.sp, .int .i64 a.wd, .int .u64 (U64 a.lg)] := ((hρ 84).trans (slotJ [6, 7] (by rw [hsz]; decide) (by kernel_rfl))).trans (hF 6 (by decide))
      have e85 : ρ (.tmp 85) = .agg #[.int .u64 (U64 a.ep), .int .i64 a.s, .int .i64 a.l, .int .i64 a.n, .int .i64 a.sp, .int .i64 a.wd, .int .u64 (U64 a.lg)] := ((hρ 85).trans (slotJ [6, 7] (by rw [hsz]; decide) (by kernel_rfl))).trans (hF 7 (by decide))
      have q := eqSB a.ep a.lg a.s a.l a.n a.sp a.wd
      clear hρ hF hcst hfun sl7 sl9 sl11 sl12 sl14 fin
      exact opv_val (by go_simp <;> rfl) ⟨gw_self _, rfl⟩
    · refine owes_v (Go.Op.pick (Go.Operand.tmp 81) (Go.Operand.tmp 86) (Go.Operand.const (Go.Value.bool false))) 4 [3, 8] (by kernel_rfl) (by kernel_rfl) (by kernel_rfl) rfl fun vals w1 ρ hG hF hρ hcst hfun => ?_
      have e81 : ρ (.tmp 81) = .bool true := ((hρ 81).trans (slotJ [3, 8] (by rw [hsz]; decide) (by kernel_rfl))).trans (hF 3 (by decide))
      have e86 : ρ (.tmp 86) = .bool true := ((hρ 86).trans (slotJ [3, 8] (by rw [hsz]; decide) (by kernel_rfl))).trans (hF 8 (by decide))
      clear hρ hF hfun sl7 sl9 sl11 sl12 sl14 fin
      exact opv_val (by go_simp <;> rfl) ⟨gw_self _, rfl⟩
    · exact owes_mvj 9 87 (by kernel_rfl) (by kernel_rfl) (by kernel_rfl) (by kernel_rfl) (by rw [hsz]; decide) (fun v w h => h)
    · refine owes_vt 10 true (Go.Op.move (Go.Operand.tmp 7)) 3 [] (by kernel_rfl) (by kernel_rfl) (by kernel_rfl) (fun _ _ h => h) (by rw [hsz]; kernel_rfl) (by kernel_rfl) rfl fun vals w1 ρ hG hF hρ hcst hfun => ?_
      have e7 : ρ (.tmp 7) = .int .i64 m := ((hρ 7).trans (slotO [] (by kernel_rfl))).trans sl7
      clear hρ hF hcst hfun sl7 sl9 sl11 sl12 sl14 fin
      exact opv_val (by go_simp <;> rfl) ⟨gw_self _, rfl⟩
    · refine owes_vt 10 true (Go.Op.binOp Go.BinOp.eql 3 (Go.Operand.tmp 89) (Go.Operand.const (Go.Value.int Go.IntKind.i64 1)) 3) 4 [11] (by kernel_rfl) (by kernel_rfl) (by kernel_rfl) (fun _ _ h => h) (by rw [hsz]; kernel_rfl) (by kernel_rfl) rfl fun vals w1 ρ hG hF hρ hcst hfun => ?_
      have e89 : ρ (.tmp 89) = .int .i64 m := ((hρ 89).trans (slotJ [11] (by rw [hsz]; decide) (by kernel_rfl))).trans (hF 11 (by decide))
      have q : ((m : Int) == 1) = true := by rw [hm]; rfl
      clear hρ hF hfun sl7 sl9 sl11 sl12 sl14 fin
      exact opv_val (by go_simp <;> rfl) ⟨gw_self _, rfl⟩
    · refine owes_vt 10 true (Go.Op.move (Go.Operand.tmp 90)) 4 [12] (by kernel_rfl) (by kernel_rfl) (by kernel_rfl) (fun _ _ h => h) (by rw [hsz]; kernel_rfl) (by kernel_rfl) rfl fun vals w1 ρ hG hF hρ hcst hfun => ?_
      have e90 : ρ (.tmp 90) = .bool true := ((hρ 90).trans (slotJ [12] (by rw [hsz]; decide) (by kernel_rfl))).trans (hF 12 (by decide))
      clear hρ hF hcst hfun sl7 sl9 sl11 sl12 sl14 fin
      exact opv_val (by go_simp <;> rfl) ⟨gw_self _, rfl⟩
    · exact owes_no 13 true false (by decide) (by kernel_rfl) (by kernel_rfl) (fun _ _ h => h) (by rw [hsz]; kernel_rfl) (fun _ => rfl)
    · exact owes_no 13 true false (by decide) (by kernel_rfl) (by kernel_rfl) (fun _ _ h => h) (by rw [hsz]; kernel_rfl) (fun _ => rfl)
    · exact owes_no 13 true false (by decide) (by kernel_rfl) (by kernel_rfl) (fun _ _ h => h) (by rw [hsz]; kernel_rfl) (fun _ => rfl)
    · exact owes_no 13 true false (by decide) (by kernel_rfl) (by kernel_rfl) (fun _ _ h => h) (by rw [hsz]; kernel_rfl) (fun _ => rfl)
    · exact owes_no 13 true false (by decide) (by kernel_rfl) (by kernel_rfl) (fun _ _ h => h) (by rw [hsz]; kernel_rfl) (fun _ => rfl)
    · exact owes_un 18 true (by kernel_rfl) (by kernel_rfl) (fun _ _ h => h) (by rw [hsz]; kernel_rfl) (fun _ => rfl)
    · exact owes_un 18 true (by kernel_rfl) (by kernel_rfl) (fun _ _ h => h) (by rw [hsz]; kernel_rfl) (fun _ => rfl)
    · exact owes_un 18 true (by kernel_rfl) (by kernel_rfl) (fun _ _ h => h) (by rw [hsz]; kernel_rfl) (fun _ => rfl)
    · exact owes_un 18 true (by kernel_rfl) (by kernel_rfl) (fun _ _ h => h) (by rw [hsz]; kernel_rfl) (fun _ => rfl)
    · exact owes_un 18 true (by kernel_rfl) (by kernel_rfl) (fun _ _ h => h) (by rw [hsz]; kernel_rfl) (fun _ => rfl)
    · exact owes_un 18 true (by kernel_rfl) (by kernel_rfl) (fun _ _ h => h) (by rw [hsz]; kernel_rfl) (fun _ => rfl)
    · exact owes_un 18 true (by kernel_rfl) (by kernel_rfl) (fun _ _ h => h) (by rw [hsz]; kernel_rfl) (fun _ => rfl)
    · exact owes_un 18 true (by kernel_rfl) (by kernel_rfl) (fun _ _ h => h) (by rw [hsz]; kernel_rfl) (fun _ => rfl)
    · exact owes_no 13 true false (by decide) (by kernel_rfl) (by kernel_rfl) (fun _ _ h => h) (by rw [hsz]; kernel_rfl) (fun _ => rfl)
    · refine owes_vt 10 true (Go.Op.pick (Go.Operand.tmp 91) (Go.Operand.const (Go.Value.bool true)) (Go.Operand.tmp 105)) 4 [13, 27] (by kernel_rfl) (by kernel_rfl) (by kernel_rfl) (fun _ _ h => h) (by rw [hsz]; kernel_rfl) (by kernel_rfl) rfl fun vals w1 ρ hG hF hρ hcst hfun => ?_
      have e91 : ρ (.tmp 91) = .bool true := ((hρ 91).trans (slotJ [13, 27] (by rw [hsz]; decide) (by kernel_rfl))).trans (hF 13 (by decide))
      have e105 : ρ (.tmp 105) = undef := ((hρ 105).trans (slotJ [13, 27] (by rw [hsz]; decide) (by kernel_rfl))).trans (hF 27 (by decide))
      clear hρ hF hfun sl7 sl9 sl11 sl12 sl14 fin
      exact opv_val (by go_simp <;> rfl) ⟨gw_self _, rfl⟩
    · refine owes_v (Go.Op.pick (Go.Operand.tmp 88) (Go.Operand.tmp 106) (Go.Operand.const (Go.Value.bool false))) 4 [10, 28] (by kernel_rfl) (by kernel_rfl) (by kernel_rfl) rfl fun vals w1 ρ hG hF hρ hcst hfun => ?_
      have e88 : ρ (.tmp 88) = .bool true := ((hρ 88).trans (slotJ [10, 28] (by rw [hsz]; decide) (by kernel_rfl))).trans (hF 10 (by decide))
      have e106 : ρ (.tmp 106) = .bool true := ((hρ 106).trans (slotJ [10, 28] (by rw [hsz]; decide) (by kernel_rfl))).trans (hF 28 (by decide))
      clear hρ hF hfun sl7 sl9 sl11 sl12 sl14 fin
      exact opv_val (by go_simp <;> rfl) ⟨gw_self _, rfl⟩
    · exact owes_mvj 29 107 (by kernel_rfl) (by kernel_rfl) (by kernel_rfl) (by kernel_rfl) (by rw [hsz]; decide) (fun v w h => h)
  · intro vals w1 hG hF
    exact fin vals w1 hG (hF 30 (by decide +kernel))
theorem t18_0b (Q : Exit → Act → World → Prop) (a0 : Act) (w : World) (G9 G11 G12 m : Nat) (a b : Sb) (f1 : Bool) (hm : 2 ≤ m) (hm2 : m ≤ 60) (hb : Hid (b.wd = m - 2)) (H9 : Hid (Bk w G9 32 a.cells)) (H11 : Hid (Bk w G11 33 (c14 a b))) (H12 : Hid (Bk w G12 34 #[.bool true, .bool true])) (hsz : a0.tmps.size = 108) (sl7 : a0.tmps.getD 7 undef = .int .i64 m) (sl9 : a0.tmps.getD 9 undef = .pointer (some ⟨G9, 0, none⟩)) (sl11 : a0.tmps.getD 11 undef = .pointer (some ⟨G11, 0, none⟩)) (sl12 : a0.tmps.getD 12 undef = .pointer (some ⟨G12, 0, none⟩)) (sl14 : a0.tmps.getD 14 undef = .int .i64 0)
    (fin : ∀ (vals : Nat → Value) (w1 : World), Below w.heap.size w w1 → (IsV (.bool true)) (vals 30) w1 → Q .normal (putD vals [78, 79, 80, 81, 82, 83, 84, 85, 86, 87, 88, 89, 90, 91, 92, 93, 94, 95, 96, 97, 98, 99, 100, 101, 102, 103, 104, 105, 106, 107, 4] 0 a0) w1) :
    (Code.region 18 (regIn Try.f5 18) true).wp Try.prog Q a0 w := by
  refine region_by (G := fun w w1 => Below w.heap.size w w1) [IsV (.int .i64 0),
    IsV (.pointer (some ⟨G12, 0, none⟩)),
    IsV (.bool true),
    IsV (.bool true),
    IsV (.int .i64 0),
    IsV (.pointer (some ⟨G11, 0, none⟩)),
    IsV (.agg #[.int .u64 (U64 a.ep), .int .i64 a.s, .int .i64 a.l, .int .i64 a.n, .int .i64 a.sp, .int .i64 a.wd, .int .u64 (U64 a.lg)]),
    IsV (.agg #[.int .u64 (U64 a.ep), .int .i64 a.s, .int .i64 a.l, .int .i64 a.n, .int .i64 a.sp, .int .i64 a.wd, .int .u64 (U64 a.lg)]),
    IsV (.bool true),
    IsV (.bool true),
    IsV (.bool true),
    IsV (.int .i64 m),
    IsV (.bool false),
    IsV (.bool false),
    IsV (.int .i64 0),
    IsV (.int .i64 1),
    IsV (.pointer (some ⟨G12, 1, none⟩)),
    IsV (.bool true),
    IsV (.bool true),
    IsV (.int .i64 0),
    IsV (.int .i64 1),
    IsV (.pointer (some ⟨G11, 7, none⟩)),
    IsV (.pointer (some ⟨G11, 12, none⟩)),
    IsV (.int .i64 b.wd),
    IsV (.int .i64 m),
    IsV (.int .i64 ((m : Int) - 2)),
    IsV (.bool true),
    IsV (.bool true),
    IsV (.bool true),
    IsV (.bool true),
    IsV (.bool true)]
    [78, 79, 80, 81, 82, 83, 84, 85, 86, 87, 88, 89, 90, 91, 92, 93, 94, 95, 96, 97, 98, 99, 100, 101, 102, 103, 104, 105, 106, 107, 4] (by kernel_rfl) (Gw.drew _) Gw.trans (by rw [hsz]; kernel_rfl) (by kernel_rfl) ?_ ?_ ?_
  · intro f hf
    simp only [List.mem_cons, List.not_mem_nil, or_false] at hf
    rcases hf with rfl | rfl | rfl | rfl | rfl | rfl | rfl | rfl | rfl | rfl | rfl | rfl | rfl | rfl | rfl | rfl | rfl | rfl | rfl | rfl | rfl | rfl | rfl | rfl | rfl | rfl | rfl | rfl | rfl | rfl | rfl <;> intro v a b h g <;> first | exact IsV.mono h
  · refine ⟨?_, ?_, ?_, ?_, ?_, ?_, ?_, ?_, ?_, ?_, ?_, ?_, ?_, ?_, ?_, ?_, ?_, ?_, ?_, ?_, ?_, ?_, ?_, ?_, ?_, ?_, ?_, ?_, ?_, ?_, ?_, trivial⟩
    · exact owes_mv 14 (by kernel_rfl) (by kernel_rfl) (by kernel_rfl) sl14 (fun _ => rfl)
    · refine owes_v (Go.Op.indexAddr 34 (Go.Operand.tmp 12) (Go.Operand.tmp 78)) 0 [0] (by kernel_rfl) (by kernel_rfl) (by kernel_rfl) rfl fun vals w1 ρ hG hF hρ hcst hfun => ?_
      have e12 : ρ (.tmp 12) = .pointer (some ⟨G12, 0, none⟩) := ((hρ 12).trans (slotO [0] (by kernel_rfl))).trans sl12
      have e78 : ρ (.tmp 78) = .int .i64 0 := ((hρ 78).trans (slotJ [0] (by rw [hsz]; decide) (by kernel_rfl))).trans (hF 0 (by decide))
      clear hρ hF hcst hfun sl7 sl9 sl11 sl12 sl14 fin
      exact opv_val (by go_simp <;> rfl) ⟨gw_self _, rfl⟩
    · refine owes_v (Go.Op.load 4 (Go.Operand.tmp 79)) 4 [1] (by kernel_rfl) (by kernel_rfl) (by kernel_rfl) rfl fun vals w1 ρ hG hF hρ hcst hfun => ?_
      have e79 : ρ (.tmp 79) = .pointer (some ⟨G12, 0, none⟩) := ((hρ 79).trans (slotJ [1] (by rw [hsz]; decide) (by kernel_rfl))).trans (hF 1 (by decide))
      have k0 : w1.cell? ⟨G12, 0, none⟩ = some (.bool true) := (H12.out.below hG H12.out.lt).cell 0
      clear hρ hF hcst hfun sl7 sl9 sl11 sl12 sl14 fin
      exact opv_val (by go_simp <;> rfl) ⟨gw_self _, rfl⟩
    · exact owes_mvj 2 80 (by kernel_rfl) (by kernel_rfl) (by kernel_rfl) (by kernel_rfl) (by rw [hsz]; decide) (fun v w h => h)
    · refine owes_vt 3 true (Go.Op.move (Go.Operand.tmp 14)) 3 [] (by kernel_rfl) (by kernel_rfl) (by kernel_rfl) (fun _ _ h => h) (by rw [hsz]; kernel_rfl) (by kernel_rfl) rfl fun vals w1 ρ hG hF hρ hcst hfun => ?_
      have e14 : ρ (.tmp 14) = .int .i64 0 := ((hρ 14).trans (slotO [] (by kernel_rfl))).trans sl14
      clear hρ hF hcst hfun sl7 sl9 sl11 sl12 sl14 fin
      exact opv_val (by go_simp <;> rfl) ⟨gw_self _, rfl⟩
    · refine owes_vt 3 true (Go.Op.indexAddr 33 (Go.Operand.tmp 11) (Go.Operand.tmp 82)) 0 [4] (by kernel_rfl) (by kernel_rfl) (by kernel_rfl) (fun _ _ h => h) (by rw [hsz]; kernel_rfl) (by kernel_rfl) rfl fun vals w1 ρ hG hF hρ hcst hfun => ?_
      have e11 : ρ (.tmp 11) = .pointer (some ⟨G11, 0, none⟩) := ((hρ 11).trans (slotO [4] (by kernel_rfl))).trans sl11
      have e82 : ρ (.tmp 82) = .int .i64 0 := ((hρ 82).trans (slotJ [4] (by rw [hsz]; decide) (by kernel_rfl))).trans (hF 4 (by decide))
      clear hρ hF hcst hfun sl7 sl9 sl11 sl12 sl14 fin
      exact opv_val (by go_simp <;> rfl) ⟨gw_self _, rfl⟩
    · refine owes_vt 3 true (Go.Op.load 32 (Go.Operand.tmp 83)) 32 [5] (by kernel_rfl) (by kernel_rfl) (by kernel_rfl) (fun _ _ h => h) (by rw [hsz]; kernel_rfl) (by kernel_rfl) rfl fun vals w1 ρ hG hF hρ hcst hfun => ?_
      have e83 : ρ (.tmp 83) = .pointer (some ⟨G11, 0, none⟩) := ((hρ 83).trans (slotJ [5] (by rw [hsz]; decide) (by kernel_rfl))).trans (hF 5 (by decide))
      obtain ⟨⟨x0, x1, x2, x3, x4, x5, x6⟩, x7, x8, x9, x10, x11, x12, x13⟩ := (H11.out.below hG H11.out.lt).cut7
      clear hρ hF hcst hfun sl7 sl9 sl11 sl12 sl14 fin
      exact opv_val (by go_simp <;> rfl) ⟨gw_self _, rfl⟩
    · refine owes_vt 3 true (Go.Op.load 32 (Go.Operand.tmp 9)) 32 [] (by kernel_rfl) (by kernel_rfl) (by kernel_rfl) (fun _ _ h => h) (by rw [hsz]; kernel_rfl) (by kernel_rfl) rfl fun vals w1 ρ hG hF hρ hcst hfun => ?_
      have e9 : ρ (.tmp 9) = .pointer (some ⟨G9, 0, none⟩) := ((hρ 9).trans (slotO [] (by kernel_rfl))).trans sl9
      have k9 := H9.out.below hG H9.out.lt
      unfold Sb.cells at k9
      obtain ⟨x0, x1, x2, x3, x4, x5, x6⟩ := k9.seven
      clear hρ hF hcst hfun sl7 sl9 sl11 sl12 sl14 fin
      exact opv_val (by go_simp <;> rfl) ⟨gw_self _, rfl⟩
    · refine owes_vt 3 true (Go.Op.binOp Go.BinOp.eql 32 (Go.Operand.tmp 84) (Go.Operand.tmp 85) 32) 4 [6, 7] (by kernel_rfl) (by kernel_rfl) (by kernel_rfl) (fun _ _ h => h) (by rw [hsz]; kernel_rfl) (by kernel_rfl) rfl fun vals w1 ρ hG hF hρ hcst hfun => ?_
      have e84 : ρ (.tmp 84) = .agg #[.int .u64 (U64 a.ep), .int .i64 a.s, .int .i64 a.l, .int .i64 a.n, .int .i64 a.sp, .int .i64 a.wd, .int .u64 (U64 a.lg)] := ((hρ 84).trans (slotJ [6, 7] (by rw [hsz]; decide) (by kernel_rfl))).trans (hF 6 (by decide))
      have e85 : ρ (.tmp 85) = .agg #[.int .u64 (U64 a.ep), .int .i64 a.s, .int .i64 a.l, .int .i64 a.n, .int .i64 a.sp, .int .i64 a.wd, .int .u64 (U64 a.lg)] := ((hρ 85).trans (slotJ [6, 7] (by rw [hsz]; decide) (by kernel_rfl))).trans (hF 7 (by decide))
      have q := eqSB a.ep a.lg a.s a.l a.n a.sp a.wd
      clear hρ hF hcst hfun sl7 sl9 sl11 sl12 sl14 fin
      exact opv_val (by go_simp <;> rfl) ⟨gw_self _, rfl⟩
    · refine owes_v (Go.Op.pick (Go.Operand.tmp 81) (Go.Operand.tmp 86) (Go.Operand.const (Go.Value.bool false))) 4 [3, 8] (by kernel_rfl) (by kernel_rfl) (by kernel_rfl) rfl fun vals w1 ρ hG hF hρ hcst hfun => ?_
      have e81 : ρ (.tmp 81) = .bool true := ((hρ 81).trans (slotJ [3, 8] (by rw [hsz]; decide) (by kernel_rfl))).trans (hF 3 (by decide))
      have e86 : ρ (.tmp 86) = .bool true := ((hρ 86).trans (slotJ [3, 8] (by rw [hsz]; decide) (by kernel_rfl))).trans (hF 8 (by decide))
      clear hρ hF hfun sl7 sl9 sl11 sl12 sl14 fin
      exact opv_val (by go_simp <;> rfl) ⟨gw_self _, rfl⟩
    · exact owes_mvj 9 87 (by kernel_rfl) (by kernel_rfl) (by kernel_rfl) (by kernel_rfl) (by rw [hsz]; decide) (fun v w h => h)
    · refine owes_vt 10 true (Go.Op.move (Go.Operand.tmp 7)) 3 [] (by kernel_rfl) (by kernel_rfl) (by kernel_rfl) (fun _ _ h => h) (by rw [hsz]; kernel_rfl) (by kernel_rfl) rfl fun vals w1 ρ hG hF hρ hcst hfun => ?_
      have e7 : ρ (.tmp 7) = .int .i64 m := ((hρ 7).trans (slotO [] (by kernel_rfl))).trans sl7
      clear hρ hF hcst hfun sl7 sl9 sl11 sl12 sl14 fin
      exact opv_val (by go_simp <;> rfl) ⟨gw_self _, rfl⟩
    · refine owes_vt 10 true (Go.Op.binOp Go.BinOp.eql 3 (Go.Operand.tmp 89) (Go.Operand.const (Go.Value.int Go.IntKind.i64 1)) 3) 4 [11] (by kernel_rfl) (by kernel_rfl) (by kernel_rfl) (fun _ _ h => h) (by rw [hsz]; kernel_rfl) (by kernel_rfl) rfl fun vals w1 ρ hG hF hρ hcst hfun => ?_
      have e89 : ρ (.tmp 89) = .int .i64 m := ((hρ 89).trans (slotJ [11] (by rw [hsz]; decide) (by kernel_rfl))).trans (hF 11 (by decide))
      have q : ((m : Int) == 1) = false := by simp; omega
      clear hρ hF hfun sl7 sl9 sl11 sl12 sl14 fin
      exact opv_val (by go_simp <;> rfl) ⟨gw_self _, rfl⟩
    · refine owes_vt 10 true (Go.Op.move (Go.Operand.tmp 90)) 4 [12] (by kernel_rfl) (by kernel_rfl) (by kernel_rfl) (fun _ _ h => h) (by rw [hsz]; kernel_rfl) (by kernel_rfl) rfl fun vals w1 ρ hG hF hρ hcst hfun => ?_
      have e90 : ρ (.tmp 90) = .bool false := ((hρ 90).trans (slotJ [12] (by rw [hsz]; decide) (by kernel_rfl))).trans (hF 12 (by decide))
      clear hρ hF hcst hfun sl7 sl9 sl11 sl12 sl14 fin
      exact opv_val (by go_simp <;> rfl) ⟨gw_self _, rfl⟩
    · refine owes_vt 13 false (Go.Op.move (Go.Operand.tmp 14)) 3 [] (by kernel_rfl) (by kernel_rfl) (by kernel_rfl) (fun _ _ h => h) (by rw [hsz]; kernel_rfl) (by kernel_rfl) rfl fun vals w1 ρ hG hF hρ hcst hfun => ?_
      have e14 : ρ (.tmp 14) = .int .i64 0 := ((hρ 14).trans (slotO [] (by kernel_rfl))).trans sl14
      clear hρ hF hcst hfun sl7 sl9 sl11 sl12 sl14 fin
      exact opv_val (by go_simp <;> rfl) ⟨gw_self _, rfl⟩
    · refine owes_vt 13 false (Go.Op.binOp Go.BinOp.sub 3 (Go.Operand.const (Go.Value.int Go.IntKind.i64 1)) (Go.Operand.tmp 92) 3) 3 [14] (by kernel_rfl) (by kernel_rfl) (by kernel_rfl) (fun _ _ h => h) (by rw [hsz]; kernel_rfl) (by kernel_rfl) rfl fun vals w1 ρ hG hF hρ hcst hfun => ?_
      have e92 : ρ (.tmp 92) = .int .i64 0 := ((hρ 92).trans (slotJ [14] (by rw [hsz]; decide) (by kernel_rfl))).trans (hF 14 (by decide))
      clear hρ hF hfun sl7 sl9 sl11 sl12 sl14 fin
      exact opv_val (by go_simp <;> rfl) ⟨gw_self _, rfl⟩
    · refine owes_vt 13 false (Go.Op.indexAddr 34 (Go.Operand.tmp 12) (Go.Operand.tmp 93)) 0 [15] (by kernel_rfl) (by kernel_rfl) (by kernel_rfl) (fun _ _ h => h) (by rw [hsz]; kernel_rfl) (by kernel_rfl) rfl fun vals w1 ρ hG hF hρ hcst hfun => ?_
      have e12 : ρ (.tmp 12) = .pointer (some ⟨G12, 0, none⟩) := ((hρ 12).trans (slotO [15] (by kernel_rfl))).trans sl12
      have e93 : ρ (.tmp 93) = .int .i64 1 := ((hρ 93).trans (slotJ [15] (by rw [hsz]; decide) (by kernel_rfl))).trans (hF 15 (by decide))
      clear hρ hF hcst hfun sl7 sl9 sl11 sl12 sl14 fin
      exact opv_val (by go_simp <;> rfl) ⟨gw_self _, rfl⟩
    · refine owes_vt 13 false (Go.Op.load 4 (Go.Operand.tmp 94)) 4 [16] (by kernel_rfl) (by kernel_rfl) (by kernel_rfl) (fun _ _ h => h) (by rw [hsz]; kernel_rfl) (by kernel_rfl) rfl fun vals w1 ρ hG hF hρ hcst hfun => ?_
      have e94 : ρ (.tmp 94) = .pointer (some ⟨G12, 1, none⟩) := ((hρ 94).trans (slotJ [16] (by rw [hsz]; decide) (by kernel_rfl))).trans (hF 16 (by decide))
      have k0 : w1.cell? ⟨G12, 1, none⟩ = some (.bool true) := (H12.out.below hG H12.out.lt).cell 1
      clear hρ hF hcst hfun sl7 sl9 sl11 sl12 sl14 fin
      exact opv_val (by go_simp <;> rfl) ⟨gw_self _, rfl⟩
    · refine owes_vt 13 false (Go.Op.move (Go.Operand.tmp 95)) 4 [17] (by kernel_rfl) (by kernel_rfl) (by kernel_rfl) (fun _ _ h => h) (by rw [hsz]; kernel_rfl) (by kernel_rfl) rfl fun vals w1 ρ hG hF hρ hcst hfun => ?_
      have e95 : ρ (.tmp 95) = .bool true := ((hρ 95).trans (slotJ [17] (by rw [hsz]; decide) (by kernel_rfl))).trans (hF 17 (by decide))
      clear hρ hF hcst hfun sl7 sl9 sl11 sl12 sl14 fin
      exact opv_val (by go_simp <;> rfl) ⟨gw_self _, rfl⟩
    · refine owes_vt 18 true (Go.Op.move (Go.Operand.tmp 14)) 3 [] (by kernel_rfl) (by kernel_rfl) (by kernel_rfl) (fun _ _ h => h) (by rw [hsz]; kernel_rfl) (by kernel_rfl) rfl fun vals w1 ρ hG hF hρ hcst hfun => ?_
      have e14 : ρ (.tmp 14) = .int .i64 0 := ((hρ 14).trans (slotO [] (by kernel_rfl))).trans sl14
      clear hρ hF hcst hfun sl7 sl9 sl11 sl12 sl14 fin
      exact opv_val (by go_simp <;> rfl) ⟨gw_self _, rfl⟩
    · refine owes_vt 18 true (Go.Op.binOp Go.BinOp.sub 3 (Go.Operand.const (Go.Value.int Go.IntKind.i64 1)) (Go.Operand.tmp 97) 3) 3 [19] (by kernel_rfl) (by kernel_rfl) (by kernel_rfl) (fun _ _ h => h) (by rw [hsz]; kernel_rfl) (by kernel_rfl) rfl fun vals w1 ρ hG hF hρ hcst hfun => ?_
      have e97 : ρ (.tmp 97) = .int .i64 0 := ((hρ 97).trans (slotJ [19] (by rw [hsz]; decide) (by kernel_rfl))).trans (hF 19 (by decide))
      clear hρ hF hfun sl7 sl9 sl11 sl12 sl14 fin
      exact opv_val (by go_simp <;> rfl) ⟨gw_self _, rfl⟩
    · refine owes_vt 18 true (Go.Op.indexAddr 33 (Go.Operand.tmp 11) (Go.Operand.tmp 98)) 0 [20] (by kernel_rfl) (by kernel_rfl) (by kernel_rfl) (fun _ _ h => h) (by rw [hsz]; kernel_rfl) (by kernel_rfl) rfl fun vals w1 ρ hG hF hρ hcst hfun => ?_
      have e11 : ρ (.tmp 11) = .pointer (some ⟨G11, 0, none⟩) := ((hρ 11).trans (slotO [20] (by kernel_rfl))).trans sl11
      have e98 : ρ (.tmp 98) = .int .i64 1 := ((hρ 98).trans (slotJ [20] (by rw [hsz]; decide) (by kernel_rfl))).trans (hF 20 (by decide))
      clear hρ hF hcst hfun sl7 sl9 sl11 sl12 sl14 fin
      exact opv_val (by go_simp <;> rfl) ⟨gw_self _, rfl⟩
    · refine owes_vt 18 true (Go.Op.fieldAddr 32 (Go.Operand.tmp 99) 3) 0 [21] (by kernel_rfl) (by kernel_rfl) (by kernel_rfl) (fun _ _ h => h) (by rw [hsz]; kernel_rfl) (by kernel_rfl) rfl fun vals w1 ρ hG hF hρ hcst hfun => ?_
      have e99 : ρ (.tmp 99) = .pointer (some ⟨G11, 7, none⟩) := ((hρ 99).trans (slotJ [21] (by rw [hsz]; decide) (by kernel_rfl))).trans (hF 21 (by decide))
      clear hρ hF hcst hfun sl7 sl9 sl11 sl12 sl14 fin
      exact opv_val (by go_simp <;> rfl) ⟨gw_self _, rfl⟩
    · refine owes_vt 18 true (Go.Op.load 3 (Go.Operand.tmp 100)) 3 [22] (by kernel_rfl) (by kernel_rfl) (by kernel_rfl) (fun _ _ h => h) (by rw [hsz]; kernel_rfl) (by kernel_rfl) rfl fun vals w1 ρ hG hF hρ hcst hfun => ?_
      have e100 : ρ (.tmp 100) = .pointer (some ⟨G11, 12, none⟩) := ((hρ 100).trans (slotJ [22] (by rw [hsz]; decide) (by kernel_rfl))).trans (hF 22 (by decide))
      obtain ⟨⟨x0, x1, x2, x3, x4, x5, x6⟩, x7, x8, x9, x10, x11, x12, x13⟩ := (H11.out.below hG H11.out.lt).cut7
      clear hρ hF hcst hfun sl7 sl9 sl11 sl12 sl14 fin
      exact opv_val (by go_simp <;> rfl) ⟨gw_self _, rfl⟩
    · refine owes_vt 18 true (Go.Op.move (Go.Operand.tmp 7)) 3 [] (by kernel_rfl) (by kernel_rfl) (by kernel_rfl) (fun _ _ h => h) (by rw [hsz]; kernel_rfl) (by kernel_rfl) rfl fun vals w1 ρ hG hF hρ hcst hfun => ?_
      have e7 : ρ (.tmp 7) = .int .i64 m := ((hρ 7).trans (slotO [] (by kernel_rfl))).trans sl7
      clear hρ hF hcst hfun sl7 sl9 sl11 sl12 sl14 fin
      exact opv_val (by go_simp <;> rfl) ⟨gw_self _, rfl⟩
    · refine owes_vt 18 true (Go.Op.binOp Go.BinOp.sub 3 (Go.Operand.tmp 102) (Go.Operand.const (Go.Value.int Go.IntKind.i64 2)) 3) 3 [24] (by kernel_rfl) (by kernel_rfl) (by kernel_rfl) (fun _ _ h => h) (by rw [hsz]; kernel_rfl) (by kernel_rfl) rfl fun vals w1 ρ hG hF hρ hcst hfun => ?_
      have e102 : ρ (.tmp 102) = .int .i64 m := ((hρ 102).trans (slotJ [24] (by rw [hsz]; decide) (by kernel_rfl))).trans (hF 24 (by decide))
      have kw0 : IntKind.i64.wrap ((m : Int) - 2) = (m : Int) - 2 := wrapIn (by omega) (by omega)
      clear hρ hF hfun sl7 sl9 sl11 sl12 sl14 fin
      exact opv_val (by go_simp <;> rfl) ⟨gw_self _, rfl⟩
    · refine owes_vt 18 true (Go.Op.binOp Go.BinOp.eql 3 (Go.Operand.tmp 101) (Go.Operand.tmp 103) 3) 4 [23, 25] (by kernel_rfl) (by kernel_rfl) (by kernel_rfl) (fun _ _ h => h) (by rw [hsz]; kernel_rfl) (by kernel_rfl) rfl fun vals w1 ρ hG hF hρ hcst hfun => ?_
      have e101 : ρ (.tmp 101) = .int .i64 b.wd := ((hρ 101).trans (slotJ [23, 25] (by rw [hsz]; decide) (by kernel_rfl))).trans (hF 23 (by decide))
      have e103 : ρ (.tmp 103) = .int .i64 ((m : Int) - 2) := ((hρ 103).trans (slotJ [23, 25] (by rw [hsz]; decide) (by kernel_rfl))).trans (hF 25 (by decide))
      have q : ((b.wd : Int) == (m : Int) - 2) = true := by rw [hb.out]; simp; omega
      clear hρ hF hcst hfun sl7 sl9 sl11 sl12 sl14 fin
      exact opv_val (by go_simp <;> rfl) ⟨gw_self _, rfl⟩
    · refine owes_vt 13 false (Go.Op.pick (Go.Operand.tmp 96) (Go.Operand.tmp 104) (Go.Operand.const (Go.Value.bool false))) 4 [18, 26] (by kernel_rfl) (by kernel_rfl) (by kernel_rfl) (fun _ _ h => h) (by rw [hsz]; kernel_rfl) (by kernel_rfl) rfl fun vals w1 ρ hG hF hρ hcst hfun => ?_
      have e96 : ρ (.tmp 96) = .bool true := ((hρ 96).trans (slotJ [18, 26] (by rw [hsz]; decide) (by kernel_rfl))).trans (hF 18 (by decide))
      have e104 : ρ (.tmp 104) = .bool true := ((hρ 104).trans (slotJ [18, 26] (by rw [hsz]; decide) (by kernel_rfl))).trans (hF 26 (by decide))
      clear hρ hF hfun sl7 sl9 sl11 sl12 sl14 fin
      exact opv_val (by go_simp <;> rfl) ⟨gw_self _, rfl⟩
    · refine owes_vt 10 true (Go.Op.pick (Go.Operand.tmp 91) (Go.Operand.const (Go.Value.bool true)) (Go.Operand.tmp 105)) 4 [13, 27] (by kernel_rfl) (by kernel_rfl) (by kernel_rfl) (fun _ _ h => h) (by rw [hsz]; kernel_rfl) (by kernel_rfl) rfl fun vals w1 ρ hG hF hρ hcst hfun => ?_
      have e91 : ρ (.tmp 91) = .bool false := ((hρ 91).trans (slotJ [13, 27] (by rw [hsz]; decide) (by kernel_rfl))).trans (hF 13 (by decide))
      have e105 : ρ (.tmp 105) = .bool true := ((hρ 105).trans (slotJ [13, 27] (by rw [hsz]; decide) (by kernel_rfl))).trans (hF 27 (by decide))
      clear hρ hF hfun sl7 sl9 sl11 sl12 sl14 fin
      exact opv_val (by go_simp <;> rfl) ⟨gw_self _, rfl⟩
    · refine owes_v (Go.Op.pick (Go.Operand.tmp 88) (Go.Operand.tmp 106) (Go.Operand.const (Go.Value.bool false))) 4 [10, 28] (by kernel_rfl) (by kernel_rfl) (by kernel_rfl) rfl fun vals w1 ρ hG hF hρ hcst hfun => ?_
      have e88 : ρ (.tmp 88) = .bool true := ((hρ 88).trans (slotJ [10, 28] (by rw [hsz]; decide) (by kernel_rfl))).trans (hF 10 (by decide))
      have e106 : ρ (.tmp 106) = .bool true := ((hρ 106).trans (slotJ [10, 28] (by rw [hsz]; decide) (by kernel_rfl))).trans (hF 28 (by decide))
      clear hρ hF hfun sl7 sl9 sl11 sl12 sl14 fin
      exact opv_val (by go_simp <;> rfl) ⟨gw_self _, rfl⟩
    · exact owes_mvj 29 107 (by kernel_rfl) (by kernel_rfl) (by kernel_rfl) (by kernel_rfl) (by rw [hsz]; decide) (fun v w h => h)
  · intro vals w1 hG hF
    exact fin vals w1 hG (hF 30 (by decide +kernel))
theorem t18_1a (Q : Exit → Act → World → Prop) (a0 : Act) (w : World) (G9 G11 G12 m : Nat) (a b : Sb) (f1 : Bool) (hm : m = 1) (H9 : Hid (Bk w G9 32 a.cells)) (H11 : Hid (Bk w G11 33 (c14 b a))) (H12 : Hid (Bk w G12 34 #[.bool f1, .bool true])) (hsz : a0.tmps.size = 108) (sl7 : a0.tmps.getD 7 undef = .int .i64 m) (sl9 : a0.tmps.getD 9 undef = .pointer (some ⟨G9, 0, none⟩)) (sl11 : a0.tmps.getD 11 undef = .pointer (some ⟨G11, 0, none⟩)) (sl12 : a0.tmps.getD 12 undef = .pointer (some ⟨G12, 0, none⟩)) (sl14 : a0.tmps.getD 14 undef = .int .i64 1)
    (fin : ∀ (vals : Nat → Value) (w1 : World), Below w.heap.size w w1 → (IsV (.bool true)) (vals 30) w1 → Q .normal (putD vals [78, 79, 80, 81, 82, 83, 84, 85, 86, 87, 88, 89, 90, 91, 92, 93, 94, 95, 96, 97, 98, 99, 100, 101, 102, 103, 104, 105, 106, 107, 4] 0 a0) w1) :
    (Code.region 18 (regIn Try.f5 18) true).wp Try.prog Q a0 w := by
  refine region_by (G := fun w w1 => Below w.heap.size w w1) [IsV (.int .i64 1),
    IsV (.pointer (some ⟨G12, 1, none⟩)),
    IsV (.bool true),
    IsV (.bool true),
    IsV (.int .i64 1),
    IsV (.pointer (some ⟨G11, 7, none⟩)),
    IsV (.agg #[.int .u64 (U64 a.ep), .int .i64 a.s, .int .i64 a.l, .int .i64 a.n, .int .i64 a.sp, .int .i64 a.wd, .int .u64 (U64 a.lg)]),
    IsV (.agg #[.int .u64 (U64 a.ep), .int .i64 a.s, .int .i64 a.l, .int .i64 a.n, .int .i64 a.sp, .int .i64 a.wd, .int .u64 (U64 a.lg)]),
    IsV (.bool true),
    IsV (.bool true),
    IsV (.bool true),
    IsV (.int .i64 m),
    IsV (.bool true),
    IsV (.bool true),
    IsV undef,
    IsV undef,
    IsV undef,
    IsV undef,
    IsV undef,
    IsV undef,
    IsV undef,
    IsV undef,
    IsV undef,
    IsV undef,
    IsV undef,
    IsV undef,
    IsV undef,
    IsV undef,
    IsV (.bool true),
    IsV (.bool true),
    IsV (.bool true)]
    [78, 79, 80, 81, 82, 83, 84, 85, 86, 87, 88, 89, 90, 91, 92, 93, 94, 95, 96, 97, 98, 99, 100, 101, 102, 103, 104, 105, 106, 107, 4] (by kernel_rfl) (Gw.drew _) Gw.trans (by rw [hsz]; kernel_rfl) (by kernel_rfl) ?_ ?_ ?_
  · intro f hf
    simp only [List.mem_cons, List.not_mem_nil, or_false] at hf
    rcases hf with rfl | rfl | rfl | rfl | rfl | rfl | rfl | rfl | rfl | rfl | rfl | rfl | rfl | rfl | rfl | rfl | rfl | rfl | rfl | rfl | rfl | rfl | rfl | rfl | rfl | rfl | rfl | rfl | rfl | rfl | rfl <;> intro v a b h g <;> first | exact IsV.mono h
  · refine ⟨?_, ?_, ?_, ?_, ?_, ?_, ?_, ?_, ?_, ?_, ?_, ?_, ?_, ?_, ?_, ?_, ?_, ?_, ?_, ?_, ?_, ?_, ?_, ?_, ?_, ?_, ?_, ?_, ?_, ?_, ?_, trivial⟩
    · exact owes_mv 14 (by kernel_rfl) (by kernel_rfl) (by kernel_rfl) sl14 (fun _ => rfl)
    · refine owes_v (Go.Op.indexAddr 34 (Go.Operand.tmp 12) (Go.Operand.tmp 78)) 0 [0] (by kernel_rfl) (by kernel_rfl) (by kernel_rfl) rfl fun vals w1 ρ hG hF hρ hcst hfun => ?_
      have e12 : ρ (.tmp 12) = .pointer (some ⟨G12, 0, none⟩) := ((hρ 12).trans (slotO [0] (by kernel_rfl))).trans sl12
      have e78 : ρ (.tmp 78) = .int .i64 1 := ((hρ 78).trans (slotJ [0] (by rw [hsz]; decide) (by kernel_rfl))).trans (hF 0 (by decide))
      clear hρ hF hcst hfun sl7 sl9 sl11 sl12 sl14 fin
      exact opv_val (by go_simp <;> rfl) ⟨gw_self _, rfl⟩
    · refine owes_v (Go.Op.load 4 (Go.Operand.tmp 79)) 4 [1] (by kernel_rfl) (by kernel_rfl) (by kernel_rfl) rfl fun vals w1 ρ hG hF hρ hcst hfun => ?_
      have e79 : ρ (.tmp 79) = .pointer (some ⟨G12, 1, none⟩) := ((hρ 79).trans (slotJ [1] (by rw [hsz]; decide) (by kernel_rfl))).trans (hF 1 (by decide))
      have k0 : w1.cell? ⟨G12, 1, none⟩ = some (.bool true) := (H12.out.below hG H12.out.lt).cell 1
      clear hρ hF hcst hfun sl7 sl9 sl11 sl12 sl14 fin
      exact opv_val (by go_simp <;> rfl) ⟨gw_self _, rfl⟩
    · exact owes_mvj 2 80 (by kernel_rfl) (by kernel_rfl) (by kernel_rfl) (by kernel_rfl) (by rw [hsz]; decide) (fun v w h => h)
    · refine owes_vt 3 true (Go.Op.move (Go.Operand.tmp 14)) 3 [] (by kernel_rfl) (by kernel_rfl) (by kernel_rfl) (fun _ _ h => h) (by rw [hsz]; kernel_rfl) (by kernel_rfl) rfl fun vals w1 ρ hG hF hρ hcst hfun => ?_
      have e14 : ρ (.tmp 14) = .int .i64 1 := ((hρ 14).trans (slotO [] (by kernel_rfl))).trans sl14
      clear hρ hF hcst hfun sl7 sl9 sl11 sl12 sl14 fin
      exact opv_val (by go_simp <;> rfl) ⟨gw_self _, rfl⟩
    · refine owes_vt 3 true (Go.Op.indexAddr 33 (Go.Operand.tmp 11) (Go.Operand.tmp 82)) 0 [4] (by kernel_rfl) (by kernel_rfl) (by kernel_rfl) (fun _ _ h => h) (by rw [hsz]; kernel_rfl) (by kernel_rfl) rfl fun vals w1 ρ hG hF hρ hcst hfun => ?_
      have e11 : ρ (.tmp 11) = .pointer (some ⟨G11, 0, none⟩) := ((hρ 11).trans (slotO [4] (by kernel_rfl))).trans sl11
      have e82 : ρ (.tmp 82) = .int .i64 1 := ((hρ 82).trans (slotJ [4] (by rw [hsz]; decide) (by kernel_rfl))).trans (hF 4 (by decide))
      clear hρ hF hcst hfun sl7 sl9 sl11 sl12 sl14 fin
      exact opv_val (by go_simp <;> rfl) ⟨gw_self _, rfl⟩
    · refine owes_vt 3 true (Go.Op.load 32 (Go.Operand.tmp 83)) 32 [5] (by kernel_rfl) (by kernel_rfl) (by kernel_rfl) (fun _ _ h => h) (by rw [hsz]; kernel_rfl) (by kernel_rfl) rfl fun vals w1 ρ hG hF hρ hcst hfun => ?_
      have e83 : ρ (.tmp 83) = .pointer (some ⟨G11, 7, none⟩) := ((hρ 83).trans (slotJ [5] (by rw [hsz]; decide) (by kernel_rfl))).trans (hF 5 (by decide))
      obtain ⟨⟨x0, x1, x2, x3, x4, x5, x6⟩, x7, x8, x9, x10, x11, x12, x13⟩ := (H11.out.below hG H11.out.lt).cut7
      clear hρ hF hcst hfun sl7 sl9 sl11 sl12 sl14 fin
      exact opv_val (by go_simp <;> rfl) ⟨gw_self _, rfl⟩
    · refine owes_vt 3 true (Go.Op.load 32 (Go.Operand.tmp 9)) 32 [] (by kernel_rfl) (by kernel_rfl) (by kernel_rfl) (fun _ _ h => h) (by rw [hsz]; kernel_rfl) (by kernel_rfl) rfl fun vals w1 ρ hG hF hρ hcst hfun => ?_
      have e9 : ρ (.tmp 9) = .pointer (some ⟨G9, 0, none⟩) := ((hρ 9).trans (slotO [] (by kernel_rfl))).trans sl9
      have k9 := H9.out.below hG H9.out.lt
      unfold Sb.cells at k9
      obtain ⟨x0, x1, x2, x3, x4, x5, x6⟩ := k9.seven
      clear hρ hF hcst hfun sl7 sl9 sl11 sl12 sl14 fin
      exact opv_val (by go_simp <;> rfl) ⟨gw_self _, rfl⟩
    · refine owes_vt 3 true (Go.Op.binOp Go.BinOp.eql 32 (Go.Operand.tmp 84) (Go.Operand.tmp 85) 32) 4 [6, 7] (by kernel_rfl) (by kernel_rfl) (by kernel_rfl) (fun _ _ h => h) (by rw [hsz]; kernel_rfl) (by kernel_rfl) rfl fun vals w1 ρ hG hF hρ hcst hfun => ?_
      have e84 : ρ (.tmp 84) = .agg #[.int .u64 (U64 a.ep), .int .i64 a.s, .int .i64 a.l, .int .i64 a.n, .int .i64 a.sp, .int .i64 a.wd, .int .u64 (U64 a.lg)] := ((hρ 84).trans (slotJ [6, 7] (by rw [hsz]; decide) (by kernel_rfl))).trans (hF 6 (by decide))
      have e85 : ρ (.tmp 85) = .agg #[.int .u64 (U64 a.ep), .int .i64 a.s, .int .i64 a.l, .int .i64 a.n, .int .i64 a.sp, .int .i64 a.wd, .int .u64 (U64 a.lg)] := ((hρ 85).trans (slotJ [6, 7] (by rw [hsz]; decide) (by kernel_rfl))).trans (hF 7 (by decide))
      have q := eqSB a.ep a.lg a.s a.l a.n a.sp a.wd
      clear hρ hF hcst hfun sl7 sl9 sl11 sl12 sl14 fin
      exact opv_val (by go_simp <;> rfl) ⟨gw_self _, rfl⟩
    · refine owes_v (Go.Op.pick (Go.Operand.tmp 81) (Go.Operand.tmp 86) (Go.Operand.const (Go.Value.bool false))) 4 [3, 8] (by kernel_rfl) (by kernel_rfl) (by kernel_rfl) rfl fun vals w1 ρ hG hF hρ hcst hfun => ?_
      have e81 : ρ (.tmp 81) = .bool true := ((hρ 81).trans (slotJ [3, 8] (by rw [hsz]; decide) (by kernel_rfl))).trans (hF 3 (by decide))
      have e86 : ρ (.tmp 86) = .bool true := ((hρ 86).trans (slotJ [3, 8] (by rw [hsz]; decide) (by kernel_rfl))).trans (hF 8 (by decide))
      clear hρ hF hfun sl7 sl9 sl11 sl12 sl14 fin
      exact opv_val (by go_simp <;> rfl) ⟨gw_self _, rfl⟩
    · exact owes_mvj 9 87 (by kernel_rfl) (by kernel_rfl) (by kernel_rfl) (by kernel_rfl) (by rw [hsz]; decide) (fun v w h => h)
    · refine owes_vt 10 true (Go.Op.move (Go.Operand.tmp 7)) 3 [] (by kernel_rfl) (by kernel_rfl) (by kernel_rfl) (fun _ _ h => h) (by rw [hsz]; kernel_rfl) (by kernel_rfl) rfl fun vals w1 ρ hG hF hρ hcst hfun => ?_
      have e7 : ρ (.tmp 7) = .int .i64 m := ((hρ 7).trans (slotO [] (by kernel_rfl))).trans sl7
      clear hρ hF hcst hfun sl7 sl9 sl11 sl12 sl14 fin
      exact opv_val (by go_simp <;> rfl) ⟨gw_self _, rfl⟩
    · refine owes_vt 10 true (Go.Op.binOp Go.BinOp.eql 3 (Go.Operand.tmp 89) (Go.Operand.const (Go.Value.int Go.IntKind.i64 1)) 3) 4 [11] (by kernel_rfl) (by kernel_rfl) (by kernel_rfl) (fun _ _ h => h) (by rw [hsz]; kernel_rfl) (by kernel_rfl) rfl fun vals w1 ρ hG hF hρ hcst hfun => ?_
      have e89 : ρ (.tmp 89) = .int .i64 m := ((hρ 89).trans (slotJ [11] (by rw [hsz]; decide) (by kernel_rfl))).trans (hF 11 (by decide))
      have q : ((m : Int) == 1) = true := by rw [hm]; rfl
      clear hρ hF hfun sl7 sl9 sl11 sl12 sl14 fin
      exact opv_val (by go_simp <;> rfl) ⟨gw_self _, rfl⟩
    · refine owes_vt 10 true (Go.Op.move (Go.Operand.tmp 90)) 4 [12] (by kernel_rfl) (by kernel_rfl) (by kernel_rfl) (fun _ _ h => h) (by rw [hsz]; kernel_rfl) (by kernel_rfl) rfl fun vals w1 ρ hG hF hρ hcst hfun => ?_
      have e90 : ρ (.tmp 90) = .bool true := ((hρ 90).trans (slotJ [12] (by rw [hsz]; decide) (by kernel_rfl))).trans (hF 12 (by decide))
      clear hρ hF hcst hfun sl7 sl9 sl11 sl12 sl14 fin
      exact opv_val (by go_simp <;> rfl) ⟨gw_self _, rfl⟩
    · exact owes_no 13 true false (by decide) (by kernel_rfl) (by kernel_rfl) (fun _ _ h => h) (by rw [hsz]; kernel_rfl) (fun _ => rfl)
    · exact owes_no 13 true false (by decide) (by kernel_rfl) (by kernel_rfl) (fun _ _ h => h) (by rw [hsz]; kernel_rfl) (fun _ => rfl)
    · exact owes_no 13 true false (by decide) (by kernel_rfl) (by kernel_rfl) (fun _ _ h => h) (by rw [hsz]; kernel_rfl) (fun _ => rfl)
    · exact owes_no 13 true false (by decide) (by kernel_rfl) (by kernel_rfl) (fun _ _ h => h) (by rw [hsz]; kernel_rfl) (fun _ => rfl)
    · exact owes_no 13 true false (by decide) (by kernel_rfl) (by kernel_rfl) (fun _ _ h => h) (by rw [hsz]; kernel_rfl) (fun _ => rfl)
    · exact owes_un 18 true (by kernel_rfl) (by kernel_rfl) (fun _ _ h => h) (by rw [hsz]; kernel_rfl) (fun _ => rfl)
    · exact owes_un 18 true (by kernel_rfl) (by kernel_rfl) (fun _ _ h => h) (by rw [hsz]; kernel_rfl) (fun _ => rfl)
    · exact owes_un 18 true (by kernel_rfl) (by kernel_rfl) (fun _ _ h => h) (by rw [hsz]; kernel_rfl) (fun _ => rfl)
    · exact owes_un 18 true (by kernel_rfl) (by kernel_rfl) (fun _ _ h => h) (by rw [hsz]; kernel_rfl) (fun _ => rfl)
    · exact owes_un 18 true (by kernel_rfl) (by kernel_rfl) (fun _ _ h => h) (by rw [hsz]; kernel_rfl) (fun _ => rfl)
    · exact owes_un 18 true (by kernel_rfl) (by kernel_rfl) (fun _ _ h => h) (by rw [hsz]; kernel_rfl) (fun _ => rfl)
    · exact owes_un 18 true (by kernel_rfl) (by kernel_rfl) (fun _ _ h => h) (by rw [hsz]; kernel_rfl) (fun _ => rfl)
    · exact owes_un 18 true (by kernel_rfl) (by kernel_rfl) (fun _ _ h => h) (by rw [hsz]; kernel_rfl) (fun _ => rfl)
    · exact owes_no 13 true false (by decide) (by kernel_rfl) (by kernel_rfl) (fun _ _ h => h) (by rw [hsz]; kernel_rfl) (fun _ => rfl)
    · refine owes_vt 10 true (Go.Op.pick (Go.Operand.tmp 91) (Go.Operand.const (Go.Value.bool true)) (Go.Operand.tmp 105)) 4 [13, 27] (by kernel_rfl) (by kernel_rfl) (by kernel_rfl) (fun _ _ h => h) (by rw [hsz]; kernel_rfl) (by kernel_rfl) rfl fun vals w1 ρ hG hF hρ hcst hfun => ?_
      have e91 : ρ (.tmp 91) = .bool true := ((hρ 91).trans (slotJ [13, 27] (by rw [hsz]; decide) (by kernel_rfl))).trans (hF 13 (by decide))
      have e105 : ρ (.tmp 105) = undef := ((hρ 105).trans (slotJ [13, 27] (by rw [hsz]; decide) (by kernel_rfl))).trans (hF 27 (by decide))
      clear hρ hF hfun sl7 sl9 sl11 sl12 sl14 fin
      exact opv_val (by go_simp <;> rfl) ⟨gw_self _, rfl⟩
    · refine owes_v (Go.Op.pick (Go.Operand.tmp 88) (Go.Operand.tmp 106) (Go.Operand.const (Go.Value.bool false))) 4 [10, 28] (by kernel_rfl) (by kernel_rfl) (by kernel_rfl) rfl fun vals w1 ρ hG hF hρ hcst hfun => ?_
      have e88 : ρ (.tmp 88) = .bool true := ((hρ 88).trans (slotJ [10, 28] (by rw [hsz]; decide) (by kernel_rfl))).trans (hF 10 (by decide))
      have e106 : ρ (.tmp 106) = .bool true := ((hρ 106).trans (slotJ [10, 28] (by rw [hsz]; decide) (by kernel_rfl))).trans (hF 28 (by decide))
      clear hρ hF hfun sl7 sl9 sl11 sl12 sl14 fin
      exact opv_val (by go_simp <;> rfl) ⟨gw_self _, rfl⟩
    · exact owes_mvj 29 107 (by kernel_rfl) (by kernel_rfl) (by kernel_rfl) (by kernel_rfl) (by rw [hsz]; decide) (fun v w h => h)
  · intro vals w1 hG hF
    exact fin vals w1 hG (hF 30 (by decide +kernel))
theorem t18_1b (Q : Exit → Act → World → Prop) (a0 : Act) (w : World) (G9 G11 G12 m : Nat) (a b : Sb) (f1 : Bool) (hm : 2 ≤ m) (hm2 : m ≤ 60) (hb : Hid (b.wd = m - 2)) (H9 : Hid (Bk w G9 32 a.cells)) (H11 : Hid (Bk w G11 33 (c14 b a))) (H12 : Hid (Bk w G12 34 #[.bool true, .bool true])) (hsz : a0.tmps.size = 108) (sl7 : a0.tmps.getD 7 undef = .int .i64 m) (sl9 : a0.tmps.getD 9 undef = .pointer (some ⟨G9, 0, none⟩)) (sl11 : a0.tmps.getD 11 undef = .pointer (some ⟨G11, 0, none⟩)) (sl12 : a0.tmps.getD 12 undef = .pointer (some ⟨G12, 0, none⟩)) (sl14 : a0.tmps.getD 14 undef = .int .i64 1)
    (fin : ∀ (vals : Nat → Value) (w1 : World), Below w.heap.size w w1 → (IsV (.bool true)) (vals 30) w1 → Q .normal (putD vals [78, 79, 80, 81, 82, 83, 84, 85, 86, 87, 88, 89, 90, 91, 92, 93, 94, 95, 96, 97, 98, 99, 100, 101, 102, 103, 104, 105, 106, 107, 4] 0 a0) w1) :
    (Code.region 18 (regIn Try.f5 18) true).wp Try.prog Q a0 w := by
  refine region_by (G := fun w w1 => Below w.heap.size w w1) [IsV (.int .i64 1),
    IsV (.pointer (some ⟨G12, 1, none⟩)),
    IsV (.bool true),
    IsV (.bool true),
    IsV (.int .i64 1),
    IsV (.pointer (some ⟨G11, 7, none⟩)),
    IsV (.agg #[.int .u64 (U64 a.ep), .int .i64 a.s, .int .i64 a.l, .int .i64 a.n, .int .i64 a.sp, .int .i64 a.wd, .int .u64 (U64 a.lg)]),
    IsV (.agg #[.int .u64 (U64 a.ep), .int .i64 a.s, .int .i64 a.l, .int .i64 a.n, .int .i64 a.sp, .int .i64 a.wd, .int .u64 (U64 a.lg)]),
    IsV (.bool true),
    IsV (.bool true),
    IsV (.bool true),
    IsV (.int .i64 m),
    IsV (.bool false),
    IsV (.bool false),
    IsV (.int .i64 1),
    IsV (.int .i64 0),
    IsV (.pointer (some ⟨G12, 0, none⟩)),
    IsV (.bool true),
    IsV (.bool true),
    IsV (.int .i64 1),
    IsV (.int .i64 0),
    IsV (.pointer (some ⟨G11, 0, none⟩)),
    IsV (.pointer (some ⟨G11, 5, none⟩)),
    IsV (.int .i64 b.wd),
    IsV (.int .i64 m),
    IsV (.int .i64 ((m : Int) - 2)),
    IsV (.bool true),
    IsV (.bool true),
    IsV (.bool true),
    IsV (.bool true),
    IsV (.bool true)]
    [78, 79, 80, 81, 82, 83, 84, 85, 86, 87, 88, 89, 90, 91, 92, 93, 94, 95, 96, 97, 98, 99, 100, 101, 102, 103, 104, 105, 106, 107, 4] (by kernel_rfl) (Gw.drew _) Gw.trans (by rw [hsz]; kernel_rfl) (by kernel_rfl) ?_ ?_ ?_
  · intro f hf
    simp only [List.mem_cons, List.not_mem_nil, or_false] at hf
    rcases hf with rfl | rfl | rfl | rfl | rfl | rfl | rfl | rfl | rfl | rfl | rfl | rfl | rfl | rfl | rfl | rfl | rfl | rfl | rfl | rfl | rfl | rfl | rfl | rfl | rfl | rfl | rfl | rfl | rfl | rfl | rfl <;> intro v a b h g <;> first | exact IsV.mono h
  · refine ⟨?_, ?_, ?_, ?_, ?_, ?_, ?_, ?_, ?_, ?_, ?_, ?_, ?_, ?_, ?_, ?_, ?_, ?_, ?_, ?_, ?_, ?_, ?_, ?_, ?_, ?_, ?_, ?_, ?_, ?_, ?_, trivial⟩
    · exact owes_mv 14 (by kernel_rfl) (by kernel_rfl) (by kernel_rfl) sl14 (fun _ => rfl)
    · refine owes_v (Go.Op.indexAddr 34 (Go.Operand.tmp 12) (Go.Operand.tmp 78)) 0 [0] (by kernel_rfl) (by kernel_rfl) (by kernel_rfl) rfl fun vals w1 ρ hG hF hρ hcst hfun => ?_
      have e12 : ρ (.tmp 12) = .pointer (some ⟨G12, 0, none⟩) := ((hρ 12).trans (slotO [0] (by kernel_rfl))).trans sl12
      have e78 : ρ (.tmp 78) = .int .i64 1 := ((hρ 78).trans (slotJ [0] (by rw [hsz]; decide) (by kernel_rfl))).trans (hF 0 (by decide))
      clear hρ hF hcst hfun sl7 sl9 sl11 sl12 sl14 fin
      exact opv_val (by go_simp <;> rfl) ⟨gw_self _, rfl⟩
    · refine owes_v (Go.Op.load 4 (Go.Operand.tmp 79)) 4 [1] (by kernel_rfl) (by kernel_rfl) (by kernel_rfl) rfl fun vals w1 ρ hG hF hρ hcst hfun => ?_
      have e79 : ρ (.tmp 79) = .pointer (some ⟨G12, 1, none⟩) := ((hρ 79).trans (slotJ [1] (by rw [hsz]; decide) (by kernel_rfl))).trans (hF 1 (by decide))
      have k0 : w1.cell? ⟨G12, 1, none⟩ = some (.bool true) := (H12.out.below hG H12.out.lt).cell 1
      clear hρ hF hcst hfun sl7 sl9 sl11 sl12 sl14 fin
      exact opv_val (by go_simp <;> rfl) ⟨gw_self _, rfl⟩
    · exact owes_mvj 2 80 (by kernel_rfl) (by kernel_rfl) (by kernel_rfl) (by kernel_rfl) (by rw [hsz]; decide) (fun v w h => h)
    · refine owes_vt 3 true (Go.Op.move (Go.Operand.tmp 14)) 3 [] (by kernel_rfl) (by kernel_rfl) (by kernel_rfl) (fun _ _ h => h) (by rw [hsz]; kernel_rfl) (by kernel_rfl) rfl fun vals w1 ρ hG hF hρ hcst hfun => ?_
      have e14 : ρ (.tmp 14) = .int .i64 1 := ((hρ 14).trans (slotO [] (by kernel_rfl))).trans sl14
      clear hρ hF hcst hfun sl7 sl9 sl11 sl12 sl14 fin
      exact opv_val (by go_simp <;> rfl) ⟨gw_self _, rfl⟩
    · refine owes_vt 3 true (Go.Op.indexAddr 33 (Go.Operand.tmp 11) (Go.Operand.tmp 82)) 0 [4] (by kernel_rfl) (by kernel_rfl) (by kernel_rfl) (fun _ _ h => h) (by rw [hsz]; kernel_rfl) (by kernel_rfl) rfl fun vals w1 ρ hG hF hρ hcst hfun => ?_
      have e11 : ρ (.tmp 11) = .pointer (some ⟨G11, 0, none⟩) := ((hρ 11).trans (slotO [4] (by kernel_rfl))).trans sl11
      have e82 : ρ (.tmp 82) = .int .i64 1 := ((hρ 82).trans (slotJ [4] (by rw [hsz]; decide) (by kernel_rfl))).trans (hF 4 (by decide))
      clear hρ hF hcst hfun sl7 sl9 sl11 sl12 sl14 fin
      exact opv_val (by go_simp <;> rfl) ⟨gw_self _, rfl⟩
    · refine owes_vt 3 true (Go.Op.load 32 (Go.Operand.tmp 83)) 32 [5] (by kernel_rfl) (by kernel_rfl) (by kernel_rfl) (fun _ _ h => h) (by rw [hsz]; kernel_rfl) (by kernel_rfl) rfl fun vals w1 ρ hG hF hρ hcst hfun => ?_
      have e83 : ρ (.tmp 83) = .pointer (some ⟨G11, 7, none⟩) := ((hρ 83).trans (slotJ [5] (by rw [hsz]; decide) (by kernel_rfl))).trans (hF 5 (by decide))
      obtain ⟨⟨x0, x1, x2, x3, x4, x5, x6⟩, x7, x8, x9, x10, x11, x12, x13⟩ := (H11.out.below hG H11.out.lt).cut7
      clear hρ hF hcst hfun sl7 sl9 sl11 sl12 sl14 fin
      exact opv_val (by go_simp <;> rfl) ⟨gw_self _, rfl⟩
    · refine owes_vt 3 true (Go.Op.load 32 (Go.Operand.tmp 9)) 32 [] (by kernel_rfl) (by kernel_rfl) (by kernel_rfl) (fun _ _ h => h) (by rw [hsz]; kernel_rfl) (by kernel_rfl) rfl fun vals w1 ρ hG hF hρ hcst hfun => ?_
      have e9 : ρ (.tmp 9) = .pointer (some ⟨G9, 0, none⟩) := ((hρ 9).trans (slotO [] (by kernel_rfl))).trans sl9
      have k9 := H9.out.below hG H9.out.lt
      unfold Sb.cells at k9
      obtain ⟨x0, x1, x2, x3, x4, x5, x6⟩ := k9.seven
      clear hρ hF hcst hfun sl7 sl9 sl11 sl12 sl14 fin
      exact opv_val (by go_simp <;> rfl) ⟨gw_self _, rfl⟩
    · refine owes_vt 3 true (Go.Op.binOp Go.BinOp.eql 32 (Go.Operand.tmp 84) (Go.Operand.tmp 85) 32) 4 [6, 7] (by kernel_rfl) (by kernel_rfl) (by kernel_rfl) (fun _ _ h => h) (by rw [hsz]; kernel_rfl) (by kernel_rfl) rfl fun vals w1 ρ hG hF hρ hcst hfun => ?_
      have e84 : ρ (.tmp 84) = .agg #[.int .u64 (U64 a.ep), .int .i64 a.s, .int .i64 a.l, .int .i64 a.n, .int .i64 a.sp, .int .i64 a.wd, .int .u64 (U64 a.lg)] := ((hρ 84).trans (slotJ [6, 7] (by rw [hsz]; decide) (by kernel_rfl))).trans (hF 6 (by decide))
      have e85 : ρ (.tmp 85) = .agg #[.int .u64 (U64 a.ep), .int .i64 a.s, .int .i64 a.l, .int .i64 a.n, .int .i64 a.sp, .int .i64 a.wd, .int .u64 (U64 a.lg)] := ((hρ 85).trans (slotJ [6, 7] (by rw [hsz]; decide) (by kernel_rfl))).trans (hF 7 (by decide))
      have q := eqSB a.ep a.lg a.s a.l a.n a.sp a.wd
      clear hρ hF hcst hfun sl7 sl9 sl11 sl12 sl14 fin
      exact opv_val (by go_simp <;> rfl) ⟨gw_self _, rfl⟩
    · refine owes_v (Go.Op.pick (Go.Operand.tmp 81) (Go.Operand.tmp 86) (Go.Operand.const (Go.Value.bool false))) 4 [3, 8] (by kernel_rfl) (by kernel_rfl) (by kernel_rfl) rfl fun vals w1 ρ hG hF hρ hcst hfun => ?_
      have e81 : ρ (.tmp 81) = .bool true := ((hρ 81).trans (slotJ [3, 8] (by rw [hsz]; decide) (by kernel_rfl))).trans (hF 3 (by decide))
      have e86 : ρ (.tmp 86) = .bool true := ((hρ 86).trans (slotJ [3, 8] (by rw [hsz]; decide) (by kernel_rfl))).trans (hF 8 (by decide))
      clear hρ hF hfun sl7 sl9 sl11 sl12 sl14 fin
      exact opv_val (by go_simp <;> rfl) ⟨gw_self _, rfl⟩
    · exact owes_mvj 9 87 (by kernel_rfl) (by kernel_rfl) (by kernel_rfl) (by kernel_rfl) (by rw [hsz]; decide) (fun v w h => h)
    · refine owes_vt 10 true (Go.Op.move (Go.Operand.tmp 7)) 3 [] (by kernel_rfl) (by kernel_rfl) (by kernel_rfl) (fun _ _ h => h) (by rw [hsz]; kernel_rfl) (by kernel_rfl) rfl fun vals w1 ρ hG hF hρ hcst hfun => ?_
      have e7 : ρ (.tmp 7) = .int .i64 m := ((hρ 7).trans (slotO [] (by kernel_rfl))).trans sl7
      clear hρ hF hcst hfun sl7 sl9 sl11 sl12 sl14 fin
      exact opv_val (by go_simp <;> rfl) ⟨gw_self _, rfl⟩
    · refine owes_vt 10 true (Go.Op.binOp Go.BinOp.eql 3 (Go.Operand.tmp 89) (Go.Operand.const (Go.Value.int Go.IntKind.i64 1)) 3) 4 [11] (by kernel_rfl) (by kernel_rfl) (by kernel_rfl) (fun _ _ h => h) (by rw [hsz]; kernel_rfl) (by kernel_rfl) rfl fun vals w1 ρ hG hF hρ hcst hfun => ?_
      have e89 : ρ (.tmp 89) = .int .i64 m := ((hρ 89).trans (slotJ [11] (by rw [hsz]; decide) (by kernel_rfl))).trans (hF 11 (by decide))
      have q : ((m : Int) == 1) = false := by simp; omega
      clear hρ hF hfun sl7 sl9 sl11 sl12 sl14 fin
      exact opv_val (by go_simp <;> rfl) ⟨gw_self _, rfl⟩
    · refine owes_vt 10 true (Go.Op.move (Go.Operand.tmp 90)) 4 [12] (by kernel_rfl) (by kernel_rfl) (by kernel_rfl) (fun _ _ h => h) (by rw [hsz]; kernel_rfl) (by kernel_rfl) rfl fun vals w1 ρ hG hF hρ hcst hfun => ?_
      have e90 : ρ (.tmp 90) = .bool false := ((hρ 90).trans (slotJ [12] (by rw [hsz]; decide) (by kernel_rfl))).trans (hF 12 (by decide))
      clear hρ hF hcst hfun sl7 sl9 sl11 sl12 sl14 fin
      exact opv_val (by go_simp <;> rfl) ⟨gw_self _, rfl⟩
    · refine owes_vt 13 false (Go.Op.move (Go.Operand.tmp 14)) 3 [] (by kernel_rfl) (by kernel_rfl) (by kernel_rfl) (fun _ _ h => h) (by rw [hsz]; kernel_rfl) (by kernel_rfl) rfl fun vals w1 ρ hG hF hρ hcst hfun => ?_
      have e14 : ρ (.tmp 14) = .int .i64 1 := ((hρ 14).trans (slotO [] (by kernel_rfl))).trans sl14
      clear hρ hF hcst hfun sl7 sl9 sl11 sl12 sl14 fin
      exact opv_val (by go_simp <;> rfl) ⟨gw_self _, rfl⟩
    · refine owes_vt 13 false (Go.Op.binOp Go.BinOp.sub 3 (Go.Operand.const (Go.Value.int Go.IntKind.i64 1)) (Go.Operand.tmp 92) 3) 3 [14] (by kernel_rfl) (by kernel_rfl) (by kernel_rfl) (fun _ _ h => h) (by rw [hsz]; kernel_rfl) (by kernel_rfl) rfl fun vals w1 ρ hG hF hρ hcst hfun => ?_
      have e92 : ρ (.tmp 92) = .int .i64 1 := ((hρ 92).trans (slotJ [14] (by rw [hsz]; decide) (by kernel_rfl))).trans (hF 14 (by decide))
      clear hρ hF hfun sl7 sl9 sl11 sl12 sl14 fin
      exact opv_val (by go_simp <;> rfl) ⟨gw_self _, rfl⟩
    · refine owes_vt 13 false (Go.Op.indexAddr 34 (Go.Operand.tmp 12) (Go.Operand.tmp 93)) 0 [15] (by kernel_rfl) (by kernel_rfl) (by kernel_rfl) (fun _ _ h => h) (by rw [hsz]; kernel_rfl) (by kernel_rfl) rfl fun vals w1 ρ hG hF hρ hcst hfun => ?_
      have e12 : ρ (.tmp 12) = .pointer (some ⟨G12, 0, none⟩) := ((hρ 12).trans (slotO [15] (by kernel_rfl))).trans sl12
      have e93 : ρ (.tmp 93) = .int .i64 0 := ((hρ 93).trans (slotJ [15] (by rw [hsz]; decide) (by kernel_rfl))).trans (hF 15 (by decide))
      clear hρ hF hcst hfun sl7 sl9 sl11 sl12 sl14 fin
      exact opv_val (by go_simp <;> rfl) ⟨gw_self _, rfl⟩
    · refine owes_vt 13 false (Go.Op.load 4 (Go.Operand.tmp 94)) 4 [16] (by kernel_rfl) (by kernel_rfl) (by kernel_rfl) (fun _ _ h => h) (by rw [hsz]; kernel_rfl) (by kernel_rfl) rfl fun vals w1 ρ hG hF hρ hcst hfun => ?_
      have e94 : ρ (.tmp 94) = .pointer (some ⟨G12, 0, none⟩) := ((hρ 94).trans (slotJ [16] (by rw [hsz]; decide) (by kernel_rfl))).trans (hF 16 (by decide))
      have k0 : w1.cell? ⟨G12, 0, none⟩ = some (.bool true) := (H12.out.below hG H12.out.lt).cell 0
      clear hρ hF hcst hfun sl7 sl9 sl11 sl12 sl14 fin
      exact opv_val (by go_simp <;> rfl) ⟨gw_self _, rfl⟩
    · refine owes_vt 13 false (Go.Op.move (Go.Operand.tmp 95)) 4 [17] (by kernel_rfl) (by kernel_rfl) (by kernel_rfl) (fun _ _ h => h) (by rw [hsz]; kernel_rfl) (by kernel_rfl) rfl fun vals w1 ρ hG hF hρ hcst hfun => ?_
      have e95 : ρ (.tmp 95) = .bool true := ((hρ 95).trans (slotJ [17] (by rw [hsz]; decide) (by kernel_rfl))).trans (hF 17 (by decide))
      clear hρ hF hcst hfun sl7 sl9 sl11 sl12 sl14 fin
      exact opv_val (by go_simp <;> rfl) ⟨gw_self _, rfl⟩
    · refine owes_vt 18 true (Go.Op.move (Go.Operand.tmp 14)) 3 [] (by kernel_rfl) (by kernel_rfl) (by kernel_rfl) (fun _ _ h => h) (by rw [hsz]; kernel_rfl) (by kernel_rfl) rfl fun vals w1 ρ hG hF hρ hcst hfun => ?_
      have e14 : ρ (.tmp 14) = .int .i64 1 := ((hρ 14).trans (slotO [] (by kernel_rfl))).trans sl14
      clear hρ hF hcst hfun sl7 sl9 sl11 sl12 sl14 fin
      exact opv_val (by go_simp <;> rfl) ⟨gw_self _, rfl⟩
    · refine owes_vt 18 true (Go.Op.binOp Go.BinOp.sub 3 (Go.Operand.const (Go.Value.int Go.IntKind.i64 1)) (Go.Operand.tmp 97) 3) 3 [19] (by kernel_rfl) (by kernel_rfl) (by kernel_rfl) (fun _ _ h => h) (by rw [hsz]; kernel_rfl) (by kernel_rfl) rfl fun vals w1 ρ hG hF hρ hcst hfun => ?_
      have e97 : ρ (.tmp 97) = .int .i64 1 := ((hρ 97).trans (slotJ [19] (by rw [hsz]; decide) (by kernel_rfl))).trans (hF 19 (by decide))
      clear hρ hF hfun sl7 sl9 sl11 sl12 sl14 fin
      exact opv_val (by go_simp <;> rfl) ⟨gw_self _, rfl⟩
    · refine owes_vt 18 true (Go.Op.indexAddr 33 (Go.Operand.tmp 11) (Go.Operand.tmp 98)) 0 [20] (by kernel_rfl) (by kernel_rfl) (by kernel_rfl) (fun _ _ h => h) (by rw [hsz]; kernel_rfl) (by kernel_rfl) rfl fun vals w1 ρ hG hF hρ hcst hfun => ?_
      have e11 : ρ (.tmp 11) = .pointer (some ⟨G11, 0, none⟩) := ((hρ 11).trans (slotO [20] (by kernel_rfl))).trans sl11
      have e98 : ρ (.tmp 98) = .int .i64 0 := ((hρ 98).trans (slotJ [20] (by rw [hsz]; decide) (by kernel_rfl))).trans (hF 20 (by decide))
      clear hρ hF hcst hfun sl7 sl9 sl11 sl12 sl14 fin
      exact opv_val (by go_simp <;> rfl) ⟨gw_self _, rfl⟩
    · refine owes_vt 18 true (Go.Op.fieldAddr 32 (Go.Operand.tmp 99) 3) 0 [21] (by kernel_rfl) (by kernel_rfl) (by kernel_rfl) (fun _ _ h => h) (by rw [hsz]; kernel_rfl) (by kernel_rfl) rfl fun vals w1 ρ hG hF hρ hcst hfun => ?_
      have e99 : ρ (.tmp 99) = .pointer (some ⟨G11, 0, none⟩) := ((hρ 99).trans (slotJ [21] (by rw [hsz]; decide) (by kernel_rfl))).trans (hF 21 (by decide))
      clear hρ hF hcst hfun sl7 sl9 sl11 sl12 sl14 fin
      exact opv_val (by go_simp <;> rfl) ⟨gw_self _, rfl⟩
    · refine owes_vt 18 true (Go.Op.load 3 (Go.Operand.tmp 100)) 3 [22] (by kernel_rfl) (by kernel_rfl) (by kernel_rfl) (fun _ _ h => h) (by rw [hsz]; kernel_rfl) (by kernel_rfl) rfl fun vals w1 ρ hG hF hρ hcst hfun => ?_
      have e100 : ρ (.tmp 100) = .pointer (some ⟨G11, 5, none⟩) := ((hρ 100).trans (slotJ [22] (by rw [hsz]; decide) (by kernel_rfl))).trans (hF 22 (by decide))
      obtain ⟨⟨x0, x1, x2, x3, x4, x5, x6⟩, x7, x8, x9, x10, x11, x12, x13⟩ := (H11.out.below hG H11.out.lt).cut7
      clear hρ hF hcst hfun sl7 sl9 sl11 sl12 sl14 fin
      exact opv_val (by go_simp <;> rfl) ⟨gw_self _, rfl⟩
    · refine owes_vt 18 true (Go.Op.move (Go.Operand.tmp 7)) 3 [] (by kernel_rfl) (by kernel_rfl) (by kernel_rfl) (fun _ _ h => h) (by rw [hsz]; kernel_rfl) (by kernel_rfl) rfl fun vals w1 ρ hG hF hρ hcst hfun => ?_
      have e7 : ρ (.tmp 7) = .int .i64 m := ((hρ 7).trans (slotO [] (by kernel_rfl))).trans sl7
      clear hρ hF hcst hfun sl7 sl9 sl11 sl12 sl14 fin
      exact opv_val (by go_simp <;> rfl) ⟨gw_self _, rfl⟩
    · refine owes_vt 18 true (Go.Op.binOp Go.BinOp.sub 3 (Go.Operand.tmp 102) (Go.Operand.const (Go.Value.int Go.IntKind.i64 2)) 3) 3 [24] (by kernel_rfl) (by kernel_rfl) (by kernel_rfl) (fun _ _ h => h) (by rw [hsz]; kernel_rfl) (by kernel_rfl) rfl fun vals w1 ρ hG hF hρ hcst hfun => ?_
      have e102 : ρ (.tmp 102) = .int .i64 m := ((hρ 102).trans (slotJ [24] (by rw [hsz]; decide) (by kernel_rfl))).trans (hF 24 (by decide))
      have kw0 : IntKind.i64.wrap ((m : Int) - 2) = (m : Int) - 2 := wrapIn (by omega) (by omega)
      clear hρ hF hfun sl7 sl9 sl11 sl12 sl14 fin
      exact opv_val (by go_simp <;> rfl) ⟨gw_self _, rfl⟩
    · refine owes_vt 18 true (Go.Op.binOp Go.BinOp.eql 3 (Go.Operand.tmp 101) (Go.Operand.tmp 103) 3) 4 [23, 25] (by kernel_rfl) (by kernel_rfl) (by kernel_rfl) (fun _ _ h => h) (by rw [hsz]; kernel_rfl) (by kernel_rfl) rfl fun vals w1 ρ hG hF hρ hcst hfun => ?_
      have e101 : ρ (.tmp 101) = .int .i64 b.wd := ((hρ 101).trans (slotJ [23, 25] (by rw [hsz]; decide) (by kernel_rfl))).trans (hF 23 (by decide))
      have e103 : ρ (.tmp 103) = .int .i64 ((m : Int) - 2) := ((hρ 103).trans (slotJ [23, 25] (by rw [hsz]; decide) (by kernel_rfl))).trans (hF 25 (by decide))
      have q : ((b.wd : Int) == (m : Int) - 2) = true := by rw [hb.out]; simp; omega
      clear hρ hF hcst hfun sl7 sl9 sl11 sl12 sl14 fin
      exact opv_val (by go_simp <;> rfl) ⟨gw_self _, rfl⟩
    · refine owes_vt 13 false (Go.Op.pick (Go.Operand.tmp 96) (Go.Operand.tmp 104) (Go.Operand.const (Go.Value.bool false))) 4 [18, 26] (by kernel_rfl) (by kernel_rfl) (by kernel_rfl) (fun _ _ h => h) (by rw [hsz]; kernel_rfl) (by kernel_rfl) rfl fun vals w1 ρ hG hF hρ hcst hfun => ?_
      have e96 : ρ (.tmp 96) = .bool true := ((hρ 96).trans (slotJ [18, 26] (by rw [hsz]; decide) (by kernel_rfl))).trans (hF 18 (by decide))
      have e104 : ρ (.tmp 104) = .bool true := ((hρ 104).trans (slotJ [18, 26] (by rw [hsz]; decide) (by kernel_rfl))).trans (hF 26 (by decide))
      clear hρ hF hfun sl7 sl9 sl11 sl12 sl14 fin
      exact opv_val (by go_simp <;> rfl) ⟨gw_self _, rfl⟩
    · refine owes_vt 10 true (Go.Op.pick (Go.Operand.tmp 91) (Go.Operand.const (Go.Value.bool true)) (Go.Operand.tmp 105)) 4 [13, 27] (by kernel_rfl) (by kernel_rfl) (by kernel_rfl) (fun _ _ h => h) (by rw [hsz]; kernel_rfl) (by kernel_rfl) rfl fun vals w1 ρ hG hF hρ hcst hfun => ?_
      have e91 : ρ (.tmp 91) = .bool false := ((hρ 91).trans (slotJ [13, 27] (by rw [hsz]; decide) (by kernel_rfl))).trans (hF 13 (by decide))
      have e105 : ρ (.tmp 105) = .bool true := ((hρ 105).trans (slotJ [13, 27] (by rw [hsz]; decide) (by kernel_rfl))).trans (hF 27 (by decide))
      clear hρ hF hfun sl7 sl9 sl11 sl12 sl14 fin
      exact opv_val (by go_simp <;> rfl) ⟨gw_self _, rfl⟩
    · refine owes_v (Go.Op.pick (Go.Operand.tmp 88) (Go.Operand.tmp 106) (Go.Operand.const (Go.Value.bool false))) 4 [10, 28] (by kernel_rfl) (by kernel_rfl) (by kernel_rfl) rfl fun vals w1 ρ hG hF hρ hcst hfun => ?_
      have e88 : ρ (.tmp 88) = .bool true := ((hρ 88).trans (slotJ [10, 28] (by rw [hsz]; decide) (by kernel_rfl))).trans (hF 10 (by decide))
      have e106 : ρ (.tmp 106) = .bool true := ((hρ 106).trans (slotJ [10, 28] (by rw [hsz]; decide) (by kernel_rfl))).trans (hF 28 (by decide))
      clear hρ hF hfun sl7 sl9 sl11 sl12 sl14 fin
      exact opv_val (by go_simp <;> rfl) ⟨gw_self _, rfl⟩
    · exact owes_mvj 29 107 (by kernel_rfl) (by kernel_rfl) (by kernel_rfl) (by kernel_rfl) (by rw [hsz]; decide) (fun v w h => h)
  · intro vals w1 hG hF
    exact fin vals w1 hG (hF 30 (by decide +kernel))
theorem turns_walk (w : World) (x : Int) (wx : (Lit.int .u8 x).wf = true) (y : Int) (wy : (Lit.int .u32 y).wf = true) : Calls Try.prog 5 #[.int .u8 x, .int .u32 y] w (TruP (.bool true) w) := by
  have hx : 0 ≤ x ∧ x ≤ 255 := by simpa [Lit.wf, IntKind.min, IntKind.max, IntKind.signed, IntKind.bits] using wx
  have hy : 0 ≤ y ∧ y ≤ 4294967295 := by simpa [Lit.wf, IntKind.min, IntKind.max, IntKind.signed, IntKind.bits] using wy
  obtain ⟨f, rfl⟩ : ∃ f : Nat, y = f := ⟨y.toNat, by omega⟩
  obtain ⟨hx1, hx2⟩ := hx
  obtain ⟨_, hf⟩ := hy
  clear wx wy
  go_enter Try.func5, Try.ntmps5
  go_wp2_with fail
  refine Calls.mono (known7_c _) ?_
  rintro e w1 ⟨rfl, b1⟩
  obtain ⟨W2, hW2⟩ : ∃ W, W = w1.alloc (.cells #[.int .i64 64, .int .i64 8, .int .i64 64] 30) := ⟨_, rfl⟩
  have HK2 := Lib.hid (show Bk W2 w1.heap.size 30 #[.int .i64 64, .int .i64 8, .int .i64 64] ∧ Below w.heap.size w W2 ∧ w1.heap.size < W2.heap.size from by rw [hW2]; exact ⟨Bk.new w1 _ _, b1.alloc b1.size _, by simp⟩)
  have HW2 := Lib.hid hW2
  clear b1 hW2
  go_wp2_with fail
  rw [← HW2.out]
  refine Calls.mono (k7_fresh W2) ?_
  rintro e w3 ⟨g, rfl, d3, b3⟩
  have HB3 := Lib.hid (HK2.out.2.1.trans (b3.mono HK2.out.2.1.size))
  have HD3 := Lib.hid d3
  have HK3 := Lib.hid (HK2.out.1.below b3 HK2.out.2.2)
  have HS3 := Lib.hid b3.size
  clear d3 b3
  go_wp2_with fail
  obtain ⟨m, hm⟩ : ∃ m : Nat, 1 + x % 20 = (m : Int) := ⟨(1 + x % 20).toNat, by omega⟩
  have hm1 : 1 ≤ m := by omega
  have hm2 : m ≤ 20 := by omega
  rw [hm]
  clear hm
  obtain ⟨G5, hG5⟩ : ∃ k, k = w1.heap.size := ⟨_, rfl⟩
  have HLT := Lib.hid (show G5 < W2.heap.size from by rw [hG5]; exact HK2.out.2.2)
  rw [← hG5] at HK3 ⊢
  clear hG5 HW2
  go_loopw [8] (fun i wr => ∃ k : Nat, k ≤ m ∧ i = .int .i64 k ∧ DiskX W2.heap.size (fun _ => False) wr g (dT f k) ∧ Bk wr G5 30 #[.int .i64 64, .int .i64 8, .int .i64 64] ∧ Below w.heap.size w wr ∧ W2.heap.size ≤ wr.heap.size) (fun i _ => m - (Go.RowKit.intOf i).toNat)
  case atStart => exact ⟨0, by omega, rfl, HD3.out, HK3.out, HB3.out, HS3.out⟩
  case round =>
    obtain ⟨k, hk, rfl, hd, hb, hB, hS⟩ := hrel
    have HH := Lib.hid (And.intro hd (And.intro hb (And.intro hB hS)))
    obtain ⟨c0, c1, c2⟩ := hb.three
    clear hd hb hB hS HD3 HK3 HB3 HS3
    by_cases hlt : k < m
    · have p1 : (0 : Int) ≤ (k : Int) := by omega
      have p2 : (k : Int) < (m : Int) := by omega
      have p3 : (k : Int) ≤ 20 := by omega
      have HW := Lib.hid (turn_w f k HH.out.1 (fun k e => e.elim) HH.out.2.2.2 (by omega) (by omega))
      go_wp2_with fail
      refine Calls.mono HW.out ?_
      rintro e w4 ⟨rfl, d4, k4⟩
      have b4 := k4.below (B := W2.heap.size) HH.out.2.2.2 (fun k e => e.1)
      have HH4 := Lib.hid (show DiskX W2.heap.size (fun _ => False) w4 g (dT f (k + 1)) ∧ Bk w4 G5 30 #[.int .i64 64, .int .i64 8, .int .i64 64] ∧ Below w.heap.size w w4 ∧ W2.heap.size ≤ w4.heap.size from ⟨d4, HH.out.2.1.below b4 HLT.out, HH.out.2.2.1.trans (b4.mono HK2.out.2.1.size), Nat.le_trans HH.out.2.2.2 b4.size⟩)
      clear d4 k4 b4 HW c0 c1 c2 HH
      go_wp2_with fail
      go_roundw
      case rel => exact ⟨k + 1, by omega, by go_num, HH4.out⟩
      case measure => (first | (simp [Go.RowKit.intOf]; done) | (simp [Go.RowKit.intOf]; omega))
    · obtain rfl : k = m := by omega
      clear hlt hk c0 c1 c2
      have HM := Lib.hid (And.intro hm1 (And.intro hm2 (show f ≤ 4294967295 from by omega)))
      obtain ⟨a, ha⟩ : ∃ a, a = bT f (k - 1) := ⟨_, rfl⟩
      have HA := Lib.hid ha
      have HRD := Lib.hid (turn_read f k HH.out.1 hm1 (by omega) (by omega))
      rw [← ha] at HRD
      unfold Sb.cells at HRD
      have HWD := Lib.hid (show a.wd = k - 1 from by rw [ha]; rfl)
      have HEP := Lib.hid (show U64 a.ep = ((f + (k - 1) : Nat) : Int) from by rw [ha]; exact bT_ep f (k - 1) (by omega))
      have HSL := Lib.hid (show ∀ W, Calls Try.prog 19 #[.int .u64 (U64 a.ep)] W fun e w' => e = .returned (.int .i64 (((f + (k - 1)) % 2 : Nat) : Int)) ∧ w' = W from fun W => by
        have := slot_c a.ep W
        rw [show U64 (a.ep &&& 1#64) = ((a.at_ : Nat) : Int) from rfl, ha, bT_at, ← ha] at this
        exact this)
      clear ha hf hm2
      go_wp2_with fail
      refine Calls.mono HRD.out ?_
      rintro e w5 ⟨rfl, b5⟩
      obtain ⟨G9, hG9⟩ : ∃ G, G = w5.heap.size := ⟨_, rfl⟩
      obtain ⟨W6, hW6⟩ : ∃ W, W = w5.alloc (.cells #[.int .u64 (U64 a.ep), .int .i64 a.s, .int .i64 a.l, .int .i64 a.n, .int .i64 a.sp, .int .i64 a.wd, .int .u64 (U64 a.lg)] 32) := ⟨_, rfl⟩
      have b6 : Below wr.heap.size wr W6 := by rw [hW6]; exact b5.alloc b5.size _
      have H9 := Lib.hid (show Bk W6 G9 32 a.cells from by rw [hW6, hG9]; exact Bk.new w5 _ _)
      have HD6 := Lib.hid (HH.out.1.below b6)
      have HB6 := Lib.hid (HH.out.2.2.1.trans (b6.mono HH.out.2.2.1.size))
      have HW6 := Lib.hid hW6
      have HG9 := Lib.hid hG9
      clear b5 b6 hW6 hG9 HRD HH
      obtain ⟨x0, x1, f0, f1, hx⟩ : ∃ x0 x1 : Sb, ∃ f0 f1 : Bool, (((f + (k - 1)) % 2 = 0 ∧ x0 = bT f (k - 1) ∧ f0 = true ∧ x1 = (oT f k).getD z0 ∧ f1 = (oT f k).isSome) ∨ ((f + (k - 1)) % 2 = 1 ∧ x1 = bT f (k - 1) ∧ f1 = true ∧ x0 = (oT f k).getD z0 ∧ f0 = (oT f k).isSome)) := by
        rcases (show (f + (k - 1)) % 2 = 0 ∨ (f + (k - 1)) % 2 = 1 from by omega) with e | e
        · exact ⟨_, _, _, _, .inl ⟨e, rfl, rfl, rfl, rfl⟩⟩
        · exact ⟨_, _, _, _, .inr ⟨e, rfl, rfl, rfl, rfl⟩⟩
      have HX := Lib.hid hx
      have HBO := Lib.hid (turn_both f k HD6.out HM.out.1 (by have := HM.out.2.1; omega) x0 x1 f0 f1 hx)
      clear hx
      go_wp2_with fail
      rw [← HW6.out, ← HG9.out]
      obtain ⟨cc, hcc⟩ : ∃ cc, cc = c14 x0 x1 := ⟨_, rfl⟩
      have HCC := Lib.hid hcc
      have HCO := Lib.hid (c14_one x0 x1)
      have HCS := Lib.hid (show (c14 x0 x1).size = 14 from rfl)
      rw [← hcc] at HBO HCO HCS
      refine Calls.mono HBO.out ?_
      rintro e w9 ⟨rfl, b9⟩
      have H99 := Lib.hid (H9.out.below b9 H9.out.lt)
      have HB9 := Lib.hid (HB6.out.trans (b9.mono HB6.out.size))
      obtain ⟨Z14, hZ⟩ : ∃ z : Array Value, z = #[.int .u64 0, .int .i64 0, .int .i64 0, .int .i64 0, .int .i64 0, .int .i64 0, .int .u64 0, .int .u64 0, .int .i64 0, .int .i64 0, .int .i64 0, .int .i64 0, .int .i64 0, .int .u64 0] := ⟨_, rfl⟩
      have HZS := Lib.hid (show Z14.size = 14 from by rw [hZ]; rfl)
      obtain ⟨WA, hWA⟩ : ∃ W, W = (w9.alloc (.cells #[.int .u64 0, .int .i64 0, .int .i64 0, .int .i64 0, .int .i64 0, .int .i64 0, .int .u64 0, .int .u64 0, .int .i64 0, .int .i64 0, .int .i64 0, .int .i64 0, .int .i64 0, .int .u64 0] 33)).alloc (.cells #[.bool false, .bool false] 34) := ⟨_, rfl⟩
      have HBA := Lib.hid (show Below w9.heap.size w9 WA ∧ Bk WA w9.heap.size 33 Z14 ∧ Bk WA (w9.heap.size + 1) 34 #[.bool false, .bool false] from by
        rw [hWA, hZ]
        refine ⟨((Below.refl _ _).alloc (Nat.le_refl _) _).alloc (by simp) _, (Bk.new w9 _ _).alloc _, ?_⟩
        have := Bk.new (w9.alloc (.cells #[.int .u64 0, .int .i64 0, .int .i64 0, .int .i64 0, .int .i64 0, .int .i64 0, .int .u64 0, .int .u64 0, .int .i64 0, .int .i64 0, .int .i64 0, .int .i64 0, .int .i64 0, .int .u64 0] 33)) 34 #[.bool false, .bool false]
        simpa using this)
      have HWA := Lib.hid hWA
      clear b9 hcc hZ hWA HD6 HB6 H9 HBO
      go_upto_region 15 with (first
        | (refine wp_stR rfl 33 _ _ rfl w9.heap.size cc rfl rfl 33 Z14 (by have := HBA.out.2.1; rw [HWA.out] at this; exact this) (by rw [HCS.out]; kernel_rfl) (by rw [HCS.out, HZS.out]) HCO.out ?_; intro wB kB bB oB; have HBB := Lib.hid (show Below w9.heap.size w9 wB ∧ Bk wB w9.heap.size 33 cc ∧ Bk wB (w9.heap.size + 1) 34 #[.bool false, .bool false] from (by rw [← HWA.out] at bB oB; exact ⟨HBA.out.1.trans (bB _ (Nat.le_refl _)), kB, (oB _ (by omega)).trans HBA.out.2.2⟩)); clear kB bB oB)
        | (refine wp_stR rfl 34 _ _ rfl (w9.heap.size + 1) #[.bool f0, .bool f1] rfl rfl 34 #[.bool false, .bool false] HBB.out.2.2 (by kernel_rfl) rfl (r2_one _ _) ?_; intro wC kC bC oC; have HCx := Lib.hid (show Below w9.heap.size w9 wC ∧ Bk wC w9.heap.size 33 cc ∧ Bk wC (w9.heap.size + 1) 34 #[.bool f0, .bool f1] from (by exact ⟨HBB.out.1.trans (bC _ (by omega)), (oC _ (by omega)).trans HBB.out.2.1, kC⟩)); clear kC bC oC))
      refine wp_region_lit ?_
      refine t15 _ _ _ G9 f k a HWD HEP HM.out.1 (by have := HM.out.2.1; omega) HM.out.2.2 (Lib.hid (H99.out.below HCx.out.1 H99.out.lt)) _ _ (by kernel_rfl) (by kernel_rfl) ?_ ?_ ?_ ?_ ?_ ?_ ?_
      iterate 6 (· rfl)
      intro vals wD hG h74
      unfold IsV at h74
      simp only [putD, Act.put, List.setIfInBounds_toArray, List.set_cons_zero, List.set_cons_succ, h74]
      have HBD := Lib.hid (HCx.out.1.trans (hG.mono HCx.out.1.size))
      have HND := Lib.hid (HB9.out.trans (HBD.out.mono HB9.out.size))
      have H9D := Lib.hid (H99.out.below HBD.out H99.out.lt)
      have H11 := Lib.hid (show Bk wD w9.heap.size 33 (c14 x0 x1) from by rw [← HCC.out]; exact HCx.out.2.1.below hG HCx.out.2.1.lt)
      have H12 := Lib.hid (HCx.out.2.2.below hG HCx.out.2.2.lt)
      have k9 := H9D.out
      unfold Sb.cells at k9
      obtain ⟨c0, c1, c2, c3, c4, c5, c6⟩ := k9.seven
      clear h74 hG k9 HCx HBB HBA HWA HCO HCS HCC H99 HB9
      go_wp2_with fail
      refine Calls.mono (HSL.out _) ?_
      rintro e w' ⟨rfl, rfl⟩
      clear c0 c1 c2 c3 c4 c5 c6
      rcases HX.out with ⟨e, h0, h0f, h1, h1f⟩ | ⟨e, h1, h1f, h0, h0f⟩
      all_goals
        rw [e]
        rw [h0, h1, ← HA.out] at H11
        rw [h0f, h1f] at H12
        have HE := Lib.hid e
        clear e h0 h0f h1 h1f HX
        obtain ⟨G11, hG11⟩ : ∃ G, G = w9.heap.size := ⟨_, rfl⟩
        rw [← hG11] at H11 H12 ⊢
        clear hG11
        have HM2 := Lib.hid hm1
        by_cases h1 : k = 1
        · have H1 := Lib.hid h1
          rw [show oT f k = none from by unfold oT; rw [if_neg (by omega)]] at H11 H12
          clear h1 hm1
          go_wp2_with fail
          first
            | refine t18_0a _ _ _ G9 G11 (G11 + 1) k a _ _ H1.out H9D H11 H12 ?_ ?_ ?_ ?_ ?_ ?_ ?_
            | refine t18_1a _ _ _ G9 G11 (G11 + 1) k a _ _ H1.out H9D H11 H12 ?_ ?_ ?_ ?_ ?_ ?_ ?_
          iterate 6 (· rfl)
          intro vals wE hG h4
          unfold IsV at h4
          simp only [putD, Act.put, List.setIfInBounds_toArray, List.set_cons_zero, List.set_cons_succ, h4]
          have HNE := Lib.hid (HND.out.trans (hG.mono HND.out.size))
          clear h4 hG
          go_wp2_with fail
          go_ret
          exact ⟨rfl, HNE.out⟩
        · have H1 := Lib.hid (show 2 ≤ k from by omega)
          rw [show oT f k = some (bT f (k - 2)) from by unfold oT; rw [if_pos H1.out]] at H11 H12
          clear h1 hm1
          go_wp2_with fail
          first
            | refine t18_0b _ _ _ G9 G11 (G11 + 1) k a (bT f (k - 2)) true H1.out (by have := HM.out.2.1; omega) (Lib.hid rfl) H9D H11 H12 ?_ ?_ ?_ ?_ ?_ ?_ ?_
            | refine t18_1b _ _ _ G9 G11 (G11 + 1) k a (bT f (k - 2)) true H1.out (by have := HM.out.2.1; omega) (Lib.hid rfl) H9D H11 H12 ?_ ?_ ?_ ?_ ?_ ?_ ?_
          iterate 6 (· rfl)
          intro vals wE hG h4
          unfold IsV at h4
          simp only [putD, Act.put, List.setIfInBounds_toArray, List.set_cons_zero, List.set_cons_succ, h4]
          have HNE := Lib.hid (HND.out.trans (hG.mono HND.out.size))
          clear h4 hG
          go_wp2_with fail
          go_ret
          exact ⟨rfl, HNE.out⟩
end Go.Proofs.Ytjcpbhjmmnpjnaa
namespace Go.Proofs.Ytjcpbhjmmnpjnaa.slotsTurns
open Go.ChangeShapes Go.WideShapes Go.ChangeAt Go.RowKit
open Go.ChangeMaps (open_string shut_string)
set_option linter.unusedVariables false
set_option maxRecDepth 100000 in
theorem lifted (os : Os) (started : os.Started) (H : Type) (enc : TypeId × Value → H) :
    ReturnsInHanded {} Try.checked os 5 .any (Rows.slotsTurnsSpec.pre6 enc Try.prog Try.f5 Rows.slotsTurnsRow.domain false) (Rows.slotsTurnsSpec.post enc Try.prog Try.f5 false true false false) := by
  refine returnsInHanded_of_change (C := Try.checked) own started (by kernel_rfl) Try.func5
    (ChangeSpec.witness6 (enc := enc) (C := Try.checked) false ⟨#[], #[.int .u8 0, .int .u32 0], []⟩ 8 (by kernel_rfl) (by kernel_rfl) (by kernel_rfl) (by kernel_rfl)) ?_
  intro W base args ds gs before hval0 hW hcnd _
  have hval : ∀ (j : Nat) t v, Try.f5.params[j]? = some t → args[j]? = some v → Value.okWide Try.prog W .any base t v := hval0
  have hW' := hW
  obtain ⟨p, q, hA0, hV, rfl, hfz, hnd⟩ := hW
  have hA : DataW.TrodAll enc Try.prog W 0 (fun _ => true) true Try.f5.params.toList args.toList ds p := hA0
  rw [Try.params5] at hA hval
  obtain ⟨v0, vs0, d0, ds0, p0, q0, hargs, rfl, rfl, h0, r0⟩ := trodAll_cons hA
  obtain ⟨v1, vs1, d1, ds1, p1, q1, rfl, rfl, rfl, h1, r1⟩ := trodAll_cons r0
  obtain ⟨rfl, rfl, rfl⟩ := trodAll_nil r1
  obtain rfl : args = #[v0, v1] := by cases args; simp_all
  obtain ⟨rfl, rfl⟩ := trodVars_none hV
  have k0 := h0
  have lt0 : ∀ x ∈ p0, x.block < W.heap.size := by obtain ⟨m, hm⟩ := k0; exact DataW.trod_lt m _ _ _ hm
  obtain ⟨a0, e0v, _, _, w0⟩ := open_int Try.underlying5 (hval 0 5 v0 rfl rfl) h0; subst e0v
  have k1 := h1
  have lt1 : ∀ x ∈ p1, x.block < W.heap.size := by obtain ⟨m, hm⟩ := k1; exact DataW.trod_lt m _ _ _ hm
  obtain ⟨a1, e1v, _, _, w1⟩ := open_int Try.underlying55 (hval 1 55 v1 rfl rfl) h1; subst e1v
  clear hA0 hval0
  refine (turns_walk W a0 w0 a1 w1).mono fun e W' ⟨he, bel⟩ => ?_
  subst he
  exact ⟨_, rfl, _, _, _, [], _, [], hW', trodAll_mk1 (shut_bool Try.underlying4 _), (trodAll_cons_mk (Below.trod laidOut (by kernel_rfl) (of_decide_eq_true (by kernel_rfl)) k0 bel lt0) (trodAll_cons_mk (Below.trod laidOut (by kernel_rfl) (of_decide_eq_true (by kernel_rfl)) k1 bel lt1) trodAll_mk0)), rfl, bel.frame _, fun h => by cases h⟩
theorem over : Rows.slotsTurnsRow.holds Try.pinned (OpenSpec.ofChange Rows.slotsTurnsSpec) :=
  OpenClaim.holds_of_wide 5 Try.f5 rfl rfl rfl rfl rfl rfl rfl ⟨rfl, rfl, rfl, rfl, rfl⟩ rfl rfl rfl rfl rfl (by kernel_rfl) Try.func5 (by kernel_rfl)
    (of_decide_eq_true (by kernel_rfl)) (by unfold Func.isWrapper; first | (rw [if_pos (by decide +kernel)]; kernel_rfl) | (rw [if_neg (by decide +kernel)]; exact ⟨rfl, rfl⟩))
    (fun os started H enc _ => lifted os started H enc)
theorem proved : Rows.SlotsTurnsSaid := over
end Go.Proofs.Ytjcpbhjmmnpjnaa.slotsTurns
