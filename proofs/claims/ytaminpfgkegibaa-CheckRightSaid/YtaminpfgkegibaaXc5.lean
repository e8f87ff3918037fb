/- Texts joined: CkF CkG FiB RegS RegT2 CkH CkI CkJ. -/
import Derived.Test.YtaminpfgkegibaaXc4
import Derived.LoopTactic
import Derived.Test.YtaminpfgkegibaaRegV
import Derived.Test.YtaminpfgkegibaaRegT
/- check.look: its regions; one object more. Conditions: lengths. -/
namespace Go.Proofs.Ytaminpfgkegibaa
set_option linter.unusedVariables false
set_option linter.unusedSimpArgs false
open Go.RowKit Go.Maps
set_option maxHeartbeats 2000000
set_option maxRecDepth 100000
theorem lo5a (Q : Exit → Act → World → Prop) (a0 : Act) (w : World) (H : Nat) (er : Int) (he : ¬ er = 0) (hsz : a0.tmps.size = 69) (sl6 : a0.tmps.getD 6 undef = .int .i64 er)
    (fin : ∀ (vals : Nat → Value) (w1 : World), Below w.heap.size w w1 → (IsV (.bool true)) (vals 16) w1 → Q .normal (putD vals [27, 28, 29, 30, 31, 32, 33, 34, 35, 36, 37, 38, 39, 40, 41, 42, 43] 0 a0) w1) :
    (Code.region 5 (regIn Try.f22 5) true).wp Try.prog Q a0 w := by
  refine region_by (G := fun w w1 => Below w.heap.size w w1) [IsV (.int .i64 er),
    IsV (.bool true),
    IsV (.bool true),
    IsV undef,
    IsV undef,
    IsV (.bool true),
    IsV (.bool true),
    IsV undef,
    IsV undef,
    IsV undef,
    IsV undef,
    IsV undef,
    IsV undef,
    IsV undef,
    IsV undef,
    IsV undef,
    IsV (.bool true)]
    [27, 28, 29, 30, 31, 32, 33, 34, 35, 36, 37, 38, 39, 40, 41, 42, 43] (by kernel_rfl) (Gw.drew _) Gw.trans (by rw [hsz]; kernel_rfl) (by kernel_rfl) ?_ ?_ ?_
  · intro f hf
    simp only [List.mem_cons, List.not_mem_nil, or_false] at hf
    rcases hf with rfl | rfl | rfl | rfl | rfl | rfl | rfl | rfl | rfl | rfl | rfl | rfl | rfl | rfl | rfl | rfl | rfl <;> intro v a b h g <;> first | exact IsV.mono h
  · refine ⟨?_, ?_, ?_, ?_, ?_, ?_, ?_, ?_, ?_, ?_, ?_, ?_, ?_, ?_, ?_, ?_, ?_, trivial⟩
    · exact owes_mv 6 (by kernel_rfl) (by kernel_rfl) (by kernel_rfl) sl6 (fun _ => rfl)
    · refine owes_v (Go.Op.binOp Go.BinOp.neq 30 (Go.Operand.tmp 27) (Go.Operand.const (Go.Value.int Go.IntKind.i64 0)) 30) 4 [0] (by kernel_rfl) (by kernel_rfl) (by kernel_rfl) rfl fun vals w1 ρ hG hF hρ hcst hfun => ?_
      have e27 : ρ (.tmp 27) = .int .i64 er := ((hρ 27).trans (slotJ [0] (by rw [hsz]; decide) (by kernel_rfl))).trans (hF 0 (by decide))
      clear hρ hF hfun sl6 fin
      exact opv_val (by go_simp <;> rfl) ⟨gw_self _, rfl⟩
    · exact owes_mvj 1 28 (by kernel_rfl) (by kernel_rfl) (by kernel_rfl) (by kernel_rfl) (by rw [hsz]; decide) (fun v w h => h)
    · exact owes_no 2 true false (by decide) (by kernel_rfl) (by kernel_rfl) (fun _ _ h => h) (by rw [hsz]; kernel_rfl) (fun _ => rfl)
    · exact owes_no 2 true false (by decide) (by kernel_rfl) (by kernel_rfl) (fun _ _ h => h) (by rw [hsz]; kernel_rfl) (fun _ => rfl)
    · refine owes_v (Go.Op.pick (Go.Operand.tmp 29) (Go.Operand.const (Go.Value.bool true)) (Go.Operand.tmp 31)) 4 [2, 4] (by kernel_rfl) (by kernel_rfl) (by kernel_rfl) rfl fun vals w1 ρ hG hF hρ hcst hfun => ?_
      have e29 : ρ (.tmp 29) = .bool true := ((hρ 29).trans (slotJ [2, 4] (by rw [hsz]; decide) (by kernel_rfl))).trans (hF 2 (by decide))
      have e31 : ρ (.tmp 31) = undef := ((hρ 31).trans (slotJ [2, 4] (by rw [hsz]; decide) (by kernel_rfl))).trans (hF 4 (by decide))
      clear hρ hF hfun sl6 fin
      exact opv_val (by go_simp <;> rfl) ⟨gw_self _, rfl⟩
    · exact owes_mvj 5 32 (by kernel_rfl) (by kernel_rfl) (by kernel_rfl) (by kernel_rfl) (by rw [hsz]; decide) (fun v w h => h)
    · exact owes_no 6 true false (by decide) (by kernel_rfl) (by kernel_rfl) (fun _ _ h => h) (by rw [hsz]; kernel_rfl) (fun _ => rfl)
    · exact owes_no 6 true false (by decide) (by kernel_rfl) (by kernel_rfl) (fun _ _ h => h) (by rw [hsz]; kernel_rfl) (fun _ => rfl)
    · exact owes_no 6 true false (by decide) (by kernel_rfl) (by kernel_rfl) (fun _ _ h => h) (by rw [hsz]; kernel_rfl) (fun _ => rfl)
    · exact owes_no 6 true false (by decide) (by kernel_rfl) (by kernel_rfl) (fun _ _ h => h) (by rw [hsz]; kernel_rfl) (fun _ => rfl)
    · exact owes_no 6 true false (by decide) (by kernel_rfl) (by kernel_rfl) (fun _ _ h => h) (by rw [hsz]; kernel_rfl) (fun _ => rfl)
    · exact owes_no 6 true false (by decide) (by kernel_rfl) (by kernel_rfl) (fun _ _ h => h) (by rw [hsz]; kernel_rfl) (fun _ => rfl)
    · exact owes_no 6 true false (by decide) (by kernel_rfl) (by kernel_rfl) (fun _ _ h => h) (by rw [hsz]; kernel_rfl) (fun _ => rfl)
    · exact owes_no 6 true false (by decide) (by kernel_rfl) (by kernel_rfl) (fun _ _ h => h) (by rw [hsz]; kernel_rfl) (fun _ => rfl)
    · exact owes_no 6 true false (by decide) (by kernel_rfl) (by kernel_rfl) (fun _ _ h => h) (by rw [hsz]; kernel_rfl) (fun _ => rfl)
    · refine owes_v (Go.Op.pick (Go.Operand.tmp 33) (Go.Operand.const (Go.Value.bool true)) (Go.Operand.tmp 42)) 4 [6, 15] (by kernel_rfl) (by kernel_rfl) (by kernel_rfl) rfl fun vals w1 ρ hG hF hρ hcst hfun => ?_
      have e33 : ρ (.tmp 33) = .bool true := ((hρ 33).trans (slotJ [6, 15] (by rw [hsz]; decide) (by kernel_rfl))).trans (hF 6 (by decide))
      have e42 : ρ (.tmp 42) = undef := ((hρ 42).trans (slotJ [6, 15] (by rw [hsz]; decide) (by kernel_rfl))).trans (hF 15 (by decide))
      clear hρ hF hfun sl6 fin
      exact opv_val (by go_simp <;> rfl) ⟨gw_self _, rfl⟩
  · intro vals w1 hG hF
    exact fin vals w1 hG (hF 16 (by decide +kernel))
theorem lo5c (Q : Exit → Act → World → Prop) (a0 : Act) (w : World) (H s a t : Nat) (P n sz : Int) (r : Bool) (hH : H < w.heap.size) (hs : s < w.heap.size) (g0 : w.cell? ⟨H, 0, none⟩ = some (.int .i64 P)) (g1 : w.cell? ⟨H, 1, none⟩ = some (.int .i64 n)) (g2 : w.cell? ⟨H, 2, none⟩ = some (.bool false)) (g3 : w.cell? ⟨H, 3, none⟩ = some (.int .i64 0)) (d2 : w.cell? ⟨s, 2, none⟩ = some (.int .i64 (t : Int))) (ha : (a : Int) < (t : Int)) (ht : (t : Int) ≤ 8192) (qa : (0 : Int) ≤ (a : Int)) (hr : decide ((t : Int) - (a : Int) < sz) = r) (hp : Hid (∀ W, Calls Try.prog 48 #[.agg #[.int .i64 P, .int .i64 n, .bool false, .int .i64 0]] W (RetP (.int .i64 sz) W))) (hsz : a0.tmps.size = 69) (sl0 : a0.tmps.getD 0 undef = .pointer (some ⟨s, 0, none⟩)) (sl4 : a0.tmps.getD 4 undef = .int .i64 (a : Int)) (sl5 : a0.tmps.getD 5 undef = .pointer (some ⟨H, 0, none⟩)) (sl6 : a0.tmps.getD 6 undef = .int .i64 0)
    (fin : ∀ (vals : Nat → Value) (w1 : World), Below w.heap.size w w1 → (IsV (.bool r)) (vals 16) w1 → Q .normal (putD vals [27, 28, 29, 30, 31, 32, 33, 34, 35, 36, 37, 38, 39, 40, 41, 42, 43] 0 a0) w1) :
    (Code.region 5 (regIn Try.f22 5) true).wp Try.prog Q a0 w := by
  refine region_by (G := fun w w1 => Below w.heap.size w w1) [IsV (.int .i64 0),
    IsV (.bool false),
    IsV (.bool false),
    IsV (.pointer (some ⟨H, 2, none⟩)),
    IsV (.bool false),
    IsV (.bool false),
    IsV (.bool false),
    IsV (.agg #[.int .i64 P, .int .i64 n, .bool false, .int .i64 0]),
    IsV (.int .i64 sz),
    IsV (.pointer (some ⟨s, 0, none⟩)),
    IsV (.pointer (some ⟨s, 0, none⟩)),
    IsV (.pointer (some ⟨s, 2, none⟩)),
    IsV (.int .i64 (t : Int)),
    IsV (.int .i64 (a : Int)),
    IsV (.int .i64 ((t : Int) - (a : Int))),
    IsV (.bool r),
    IsV (.bool r)]
    [27, 28, 29, 30, 31, 32, 33, 34, 35, 36, 37, 38, 39, 40, 41, 42, 43] (by kernel_rfl) (Gw.drew _) Gw.trans (by rw [hsz]; kernel_rfl) (by kernel_rfl) ?_ ?_ ?_
  · intro f hf
    simp only [List.mem_cons, List.not_mem_nil, or_false] at hf
    rcases hf with rfl | rfl | rfl | rfl | rfl | rfl | rfl | rfl | rfl | rfl | rfl | rfl | rfl | rfl | rfl | rfl | rfl <;> intro v a b h g <;> first | exact IsV.mono h
  · refine ⟨?_, ?_, ?_, ?_, ?_, ?_, ?_, ?_, ?_, ?_, ?_, ?_, ?_, ?_, ?_, ?_, ?_, trivial⟩
    · exact owes_mv 6 (by kernel_rfl) (by kernel_rfl) (by kernel_rfl) sl6 (fun _ => rfl)
    · refine owes_v (Go.Op.binOp Go.BinOp.neq 30 (Go.Operand.tmp 27) (Go.Operand.const (Go.Value.int Go.IntKind.i64 0)) 30) 4 [0] (by kernel_rfl) (by kernel_rfl) (by kernel_rfl) rfl fun vals w1 ρ hG hF hρ hcst hfun => ?_
      have e27 : ρ (.tmp 27) = .int .i64 0 := ((hρ 27).trans (slotJ [0] (by rw [hsz]; decide) (by kernel_rfl))).trans (hF 0 (by decide))
      clear hρ hF hfun sl0 sl4 sl5 sl6 fin
      exact opv_val (by go_simp <;> rfl) ⟨gw_self _, rfl⟩
    · exact owes_mvj 1 28 (by kernel_rfl) (by kernel_rfl) (by kernel_rfl) (by kernel_rfl) (by rw [hsz]; decide) (fun v w h => h)
    · refine owes_vt 2 false (Go.Op.fieldAddr 111 (Go.Operand.tmp 5) 2) 0 [] (by kernel_rfl) (by kernel_rfl) (by kernel_rfl) (fun _ _ h => h) (by rw [hsz]; kernel_rfl) (by kernel_rfl) rfl fun vals w1 ρ hG hF hρ hcst hfun => ?_
      have e5 : ρ (.tmp 5) = .pointer (some ⟨H, 0, none⟩) := ((hρ 5).trans (slotO [] (by kernel_rfl))).trans sl5
      clear hρ hF hcst hfun sl0 sl4 sl5 sl6 fin
      exact opv_val (by go_simp <;> rfl) ⟨gw_self _, rfl⟩
    · refine owes_vt 2 false (Go.Op.load 4 (Go.Operand.tmp 30)) 4 [3] (by kernel_rfl) (by kernel_rfl) (by kernel_rfl) (fun _ _ h => h) (by rw [hsz]; kernel_rfl) (by kernel_rfl) rfl fun vals w1 ρ hG hF hρ hcst hfun => ?_
      have e30 : ρ (.tmp 30) = .pointer (some ⟨H, 2, none⟩) := ((hρ 30).trans (slotJ [3] (by rw [hsz]; decide) (by kernel_rfl))).trans (hF 3 (by decide))
      have k := (hG.cell (p := ⟨H, 2, none⟩) hH).trans g2
      clear hρ hF hcst hfun sl0 sl4 sl5 sl6 fin
      exact opv_val (by go_simp <;> rfl) ⟨gw_self _, rfl⟩
    · refine owes_v (Go.Op.pick (Go.Operand.tmp 29) (Go.Operand.const (Go.Value.bool true)) (Go.Operand.tmp 31)) 4 [2, 4] (by kernel_rfl) (by kernel_rfl) (by kernel_rfl) rfl fun vals w1 ρ hG hF hρ hcst hfun => ?_
      have e29 : ρ (.tmp 29) = .bool false := ((hρ 29).trans (slotJ [2, 4] (by rw [hsz]; decide) (by kernel_rfl))).trans (hF 2 (by decide))
      have e31 : ρ (.tmp 31) = .bool false := ((hρ 31).trans (slotJ [2, 4] (by rw [hsz]; decide) (by kernel_rfl))).trans (hF 4 (by decide))
      clear hρ hF hfun sl0 sl4 sl5 sl6 fin
      exact opv_val (by go_simp <;> rfl) ⟨gw_self _, rfl⟩
    · exact owes_mvj 5 32 (by kernel_rfl) (by kernel_rfl) (by kernel_rfl) (by kernel_rfl) (by rw [hsz]; decide) (fun v w h => h)
    · refine owes_vt 6 false (Go.Op.load 111 (Go.Operand.tmp 5)) 111 [] (by kernel_rfl) (by kernel_rfl) (by kernel_rfl) (fun _ _ h => h) (by rw [hsz]; kernel_rfl) (by kernel_rfl) rfl fun vals w1 ρ hG hF hρ hcst hfun => ?_
      have e5 : ρ (.tmp 5) = .pointer (some ⟨H, 0, none⟩) := ((hρ 5).trans (slotO [] (by kernel_rfl))).trans sl5
      have k0 := (hG.cell (p := ⟨H, 0, none⟩) hH).trans g0; have k1 := (hG.cell (p := ⟨H, 1, none⟩) hH).trans g1; have k2 := (hG.cell (p := ⟨H, 2, none⟩) hH).trans g2; have k3 := (hG.cell (p := ⟨H, 3, none⟩) hH).trans g3
      clear hρ hF hcst hfun sl0 sl4 sl5 sl6 fin
      exact opv_val (by go_simp <;> rfl) ⟨gw_self _, rfl⟩
    · refine owes_vt 6 false (Go.Op.call { callee := Go.Callee.value (Go.Operand.func 48), args := #[Go.Operand.tmp 34], argTypes := #[111] }) 3 [7] (by kernel_rfl) (by kernel_rfl) (by kernel_rfl) (fun _ _ h => h) (by rw [hsz]; kernel_rfl) (by kernel_rfl) rfl fun vals w1 ρ hG hF hρ hcst hfun => ?_
      have e34 : ρ (.tmp 34) = .agg #[.int .i64 P, .int .i64 n, .bool false, .int .i64 0] := ((hρ 34).trans (slotJ [7] (by rw [hsz]; decide) (by kernel_rfl))).trans (hF 7 (by decide))
      clear hρ hF hcst sl0 sl4 sl5 sl6 fin
      exact opv_enter (by go_simp <;> rfl) (of_ret (hp.out w1))
    · refine owes_vt 6 false (Go.Op.move (Go.Operand.tmp 0)) 37 [] (by kernel_rfl) (by kernel_rfl) (by kernel_rfl) (fun _ _ h => h) (by rw [hsz]; kernel_rfl) (by kernel_rfl) rfl fun vals w1 ρ hG hF hρ hcst hfun => ?_
      have e0 : ρ (.tmp 0) = .pointer (some ⟨s, 0, none⟩) := ((hρ 0).trans (slotO [] (by kernel_rfl))).trans sl0
      clear hρ hF hcst hfun sl0 sl4 sl5 sl6 fin
      exact opv_val (by go_simp <;> rfl) ⟨gw_self _, rfl⟩
    · refine owes_vt 6 false (Go.Op.nilCheck (Go.Operand.tmp 36)) 0 [9] (by kernel_rfl) (by kernel_rfl) (by kernel_rfl) (fun _ _ h => h) (by rw [hsz]; kernel_rfl) (by kernel_rfl) rfl fun vals w1 ρ hG hF hρ hcst hfun => ?_
      have e36 : ρ (.tmp 36) = .pointer (some ⟨s, 0, none⟩) := ((hρ 36).trans (slotJ [9] (by rw [hsz]; decide) (by kernel_rfl))).trans (hF 9 (by decide))
      clear hρ hF hcst hfun sl0 sl4 sl5 sl6 fin
      exact opv_val (by go_simp <;> rfl) ⟨gw_self _, rfl⟩
    · refine owes_vt 6 false (Go.Op.fieldAddr 67 (Go.Operand.tmp 37) 2) 0 [10] (by kernel_rfl) (by kernel_rfl) (by kernel_rfl) (fun _ _ h => h) (by rw [hsz]; kernel_rfl) (by kernel_rfl) rfl fun vals w1 ρ hG hF hρ hcst hfun => ?_
      have e37 : ρ (.tmp 37) = .pointer (some ⟨s, 0, none⟩) := ((hρ 37).trans (slotJ [10] (by rw [hsz]; decide) (by kernel_rfl))).trans (hF 10 (by decide))
      clear hρ hF hcst hfun sl0 sl4 sl5 sl6 fin
      exact opv_val (by go_simp <;> rfl) ⟨gw_self _, rfl⟩
    · refine owes_vt 6 false (Go.Op.load 3 (Go.Operand.tmp 38)) 3 [11] (by kernel_rfl) (by kernel_rfl) (by kernel_rfl) (fun _ _ h => h) (by rw [hsz]; kernel_rfl) (by kernel_rfl) rfl fun vals w1 ρ hG hF hρ hcst hfun => ?_
      have e38 : ρ (.tmp 38) = .pointer (some ⟨s, 2, none⟩) := ((hρ 38).trans (slotJ [11] (by rw [hsz]; decide) (by kernel_rfl))).trans (hF 11 (by decide))
      have k := (hG.cell (p := ⟨s, 2, none⟩) hs).trans d2
      clear hρ hF hcst hfun sl0 sl4 sl5 sl6 fin
      exact opv_val (by go_simp <;> rfl) ⟨gw_self _, rfl⟩
    · refine owes_vt 6 false (Go.Op.move (Go.Operand.tmp 4)) 3 [] (by kernel_rfl) (by kernel_rfl) (by kernel_rfl) (fun _ _ h => h) (by rw [hsz]; kernel_rfl) (by kernel_rfl) rfl fun vals w1 ρ hG hF hρ hcst hfun => ?_
      have e4 : ρ (.tmp 4) = .int .i64 (a : Int) := ((hρ 4).trans (slotO [] (by kernel_rfl))).trans sl4
      clear hρ hF hcst hfun sl0 sl4 sl5 sl6 fin
      exact opv_val (by go_simp <;> rfl) ⟨gw_self _, rfl⟩
    · refine owes_vt 6 false (Go.Op.binOp Go.BinOp.sub 3 (Go.Operand.tmp 39) (Go.Operand.tmp 40) 3) 3 [12, 13] (by kernel_rfl) (by kernel_rfl) (by kernel_rfl) (fun _ _ h => h) (by rw [hsz]; kernel_rfl) (by kernel_rfl) rfl fun vals w1 ρ hG hF hρ hcst hfun => ?_
      have e39 : ρ (.tmp 39) = .int .i64 (t : Int) := ((hρ 39).trans (slotJ [12, 13] (by rw [hsz]; decide) (by kernel_rfl))).trans (hF 12 (by decide))
      have e40 : ρ (.tmp 40) = .int .i64 (a : Int) := ((hρ 40).trans (slotJ [12, 13] (by rw [hsz]; decide) (by kernel_rfl))).trans (hF 13 (by decide))
      have kw0 : IntKind.i64.wrap (((t : Int) - (a : Int))) = ((t : Int) - (a : Int)) := wrapIn (by omega) (by omega)
      clear hρ hF hcst hfun sl0 sl4 sl5 sl6 fin
      exact opv_val (by go_simp <;> rfl) ⟨gw_self _, rfl⟩
    · refine owes_vt 6 false (Go.Op.binOp Go.BinOp.gtr 3 (Go.Operand.tmp 35) (Go.Operand.tmp 41) 3) 4 [8, 14] (by kernel_rfl) (by kernel_rfl) (by kernel_rfl) (fun _ _ h => h) (by rw [hsz]; kernel_rfl) (by kernel_rfl) rfl fun vals w1 ρ hG hF hρ hcst hfun => ?_
      have e35 : ρ (.tmp 35) = .int .i64 sz := ((hρ 35).trans (slotJ [8, 14] (by rw [hsz]; decide) (by kernel_rfl))).trans (hF 8 (by decide))
      have e41 : ρ (.tmp 41) = .int .i64 ((t : Int) - (a : Int)) := ((hρ 41).trans (slotJ [8, 14] (by rw [hsz]; decide) (by kernel_rfl))).trans (hF 14 (by decide))
      subst hr
      clear hρ hF hcst hfun sl0 sl4 sl5 sl6 fin
      exact opv_val (by go_simp <;> rfl) ⟨gw_self _, rfl⟩
    · refine owes_v (Go.Op.pick (Go.Operand.tmp 33) (Go.Operand.const (Go.Value.bool true)) (Go.Operand.tmp 42)) 4 [6, 15] (by kernel_rfl) (by kernel_rfl) (by kernel_rfl) rfl fun vals w1 ρ hG hF hρ hcst hfun => ?_
      have e33 : ρ (.tmp 33) = .bool false := ((hρ 33).trans (slotJ [6, 15] (by rw [hsz]; decide) (by kernel_rfl))).trans (hF 6 (by decide))
      have e42 : ρ (.tmp 42) = .bool r := ((hρ 42).trans (slotJ [6, 15] (by rw [hsz]; decide) (by kernel_rfl))).trans (hF 15 (by decide))
      clear hρ hF hfun sl0 sl4 sl5 sl6 fin
      exact opv_val (by go_simp <;> rfl) ⟨gw_self _, rfl⟩
  · intro vals w1 hG hF
    exact fin vals w1 hG (hF 16 (by decide +kernel))
theorem lo8 (Q : Exit → Act → World → Prop) (a0 : Act) (w : World) (H Xb mb a : Nat) (P n sz : Int) (hH : H < w.heap.size) (hX : Xb < w.heap.size) (g0 : w.cell? ⟨H, 0, none⟩ = some (.int .i64 P)) (g1 : w.cell? ⟨H, 1, none⟩ = some (.int .i64 n)) (g2 : w.cell? ⟨H, 2, none⟩ = some (.bool false)) (g3 : w.cell? ⟨H, 3, none⟩ = some (.int .i64 0)) (c2 : w.cell? ⟨Xb, 2, none⟩ = some (.map (some mb))) (hp : Hid (∀ W, Calls Try.prog 48 #[.agg #[.int .i64 P, .int .i64 n, .bool false, .int .i64 0]] W (RetP (.int .i64 sz) W))) (hsz : a0.tmps.size = 69) (sl3 : a0.tmps.getD 3 undef = .pointer (some ⟨Xb, 0, none⟩)) (sl4 : a0.tmps.getD 4 undef = .int .i64 (a : Int)) (sl5 : a0.tmps.getD 5 undef = .pointer (some ⟨H, 0, none⟩))
    (fin : ∀ (vals : Nat → Value) (w1 : World), Below w.heap.size w w1 → (IsV (.map (some mb))) (vals 3) w1 → (IsV (.int .i64 (a : Int))) (vals 4) w1 → (IsV (.int .i64 sz)) (vals 6) w1 → wpList Try.prog #[{ dst := none, op := Go.Op.mapUpdate 70 (Go.Operand.tmp 60) (Go.Operand.tmp 61) (Go.Operand.tmp 63), type := 0, pos := "", after := #[], guard := none }] Q [{ dst := none, op := Go.Op.mapUpdate 70 (Go.Operand.tmp 60) (Go.Operand.tmp 61) (Go.Operand.tmp 63), type := 0, pos := "", after := #[], guard := none }] (putD vals [57, 58, 59, 60, 61, 62, 63] 0 a0) w1) :
    (Code.region 8 (regIn Try.f22 8) true).wp Try.prog Q a0 w := by
  refine region_by_tail (m := 7) (G := fun w w1 => Below w.heap.size w w1) [IsV (.pointer (some ⟨Xb, 0, none⟩)),
    IsV (.pointer (some ⟨Xb, 0, none⟩)),
    IsV (.pointer (some ⟨Xb, 2, none⟩)),
    IsV (.map (some mb)),
    IsV (.int .i64 (a : Int)),
    IsV (.agg #[.int .i64 P, .int .i64 n, .bool false, .int .i64 0]),
    IsV (.int .i64 sz)]
    [57, 58, 59, 60, 61, 62, 63] (by kernel_rfl) (Gw.drew _) Gw.trans (by rw [hsz]; kernel_rfl) (by kernel_rfl) ?_ ?_ ?_
  · intro f hf
    simp only [List.mem_cons, List.not_mem_nil, or_false] at hf
    rcases hf with rfl | rfl | rfl | rfl | rfl | rfl | rfl <;> intro v a b h g <;> first | exact IsV.mono h
  · refine ⟨?_, ?_, ?_, ?_, ?_, ?_, ?_, trivial⟩
    · exact owes_mv 3 (by kernel_rfl) (by kernel_rfl) (by kernel_rfl) sl3 (fun _ => rfl)
    · refine owes_v (Go.Op.nilCheck (Go.Operand.tmp 57)) 0 [0] (by kernel_rfl) (by kernel_rfl) (by kernel_rfl) rfl fun vals w1 ρ hG hF hρ hcst hfun => ?_
      have e57 : ρ (.tmp 57) = .pointer (some ⟨Xb, 0, none⟩) := ((hρ 57).trans (slotJ [0] (by rw [hsz]; decide) (by kernel_rfl))).trans (hF 0 (by decide))
      clear hρ hF hcst hfun sl3 sl4 sl5 fin
      exact opv_val (by go_simp <;> rfl) ⟨gw_self _, rfl⟩
    · refine owes_v (Go.Op.fieldAddr 72 (Go.Operand.tmp 58) 2) 0 [1] (by kernel_rfl) (by kernel_rfl) (by kernel_rfl) rfl fun vals w1 ρ hG hF hρ hcst hfun => ?_
      have e58 : ρ (.tmp 58) = .pointer (some ⟨Xb, 0, none⟩) := ((hρ 58).trans (slotJ [1] (by rw [hsz]; decide) (by kernel_rfl))).trans (hF 1 (by decide))
      clear hρ hF hcst hfun sl3 sl4 sl5 fin
      exact opv_val (by go_simp <;> rfl) ⟨gw_self _, rfl⟩
    · refine owes_v (Go.Op.load 70 (Go.Operand.tmp 59)) 70 [2] (by kernel_rfl) (by kernel_rfl) (by kernel_rfl) rfl fun vals w1 ρ hG hF hρ hcst hfun => ?_
      have e59 : ρ (.tmp 59) = .pointer (some ⟨Xb, 2, none⟩) := ((hρ 59).trans (slotJ [2] (by rw [hsz]; decide) (by kernel_rfl))).trans (hF 2 (by decide))
      have k := (hG.cell (p := ⟨Xb, 2, none⟩) hX).trans c2
      clear hρ hF hcst hfun sl3 sl4 sl5 fin
      exact opv_val (by go_simp <;> rfl) ⟨gw_self _, rfl⟩
    · exact owes_mv 4 (by kernel_rfl) (by kernel_rfl) (by kernel_rfl) sl4 (fun _ => rfl)
    · refine owes_v (Go.Op.load 111 (Go.Operand.tmp 5)) 111 [] (by kernel_rfl) (by kernel_rfl) (by kernel_rfl) rfl fun vals w1 ρ hG hF hρ hcst hfun => ?_
      have e5 : ρ (.tmp 5) = .pointer (some ⟨H, 0, none⟩) := ((hρ 5).trans (slotO [] (by kernel_rfl))).trans sl5
      have k0 := (hG.cell (p := ⟨H, 0, none⟩) hH).trans g0; have k1 := (hG.cell (p := ⟨H, 1, none⟩) hH).trans g1; have k2 := (hG.cell (p := ⟨H, 2, none⟩) hH).trans g2; have k3 := (hG.cell (p := ⟨H, 3, none⟩) hH).trans g3
      clear hρ hF hcst hfun sl3 sl4 sl5 fin
      exact opv_val (by go_simp <;> rfl) ⟨gw_self _, rfl⟩
    · refine owes_v (Go.Op.call { callee := Go.Callee.value (Go.Operand.func 48), args := #[Go.Operand.tmp 62], argTypes := #[111] }) 3 [5] (by kernel_rfl) (by kernel_rfl) (by kernel_rfl) rfl fun vals w1 ρ hG hF hρ hcst hfun => ?_
      have e62 : ρ (.tmp 62) = .agg #[.int .i64 P, .int .i64 n, .bool false, .int .i64 0] := ((hρ 62).trans (slotJ [5] (by rw [hsz]; decide) (by kernel_rfl))).trans (hF 5 (by decide))
      clear hρ hF hcst sl3 sl4 sl5 fin
      exact opv_enter (by go_simp <;> rfl) (of_ret (hp.out w1))
  · intro vals w1 hG hF
    exact last_list (by kernel_rfl) (by kernel_rfl) (by kernel_rfl) (fin vals w1 hG (hF 3 (by decide +kernel)) (hF 4 (by decide +kernel)) (hF 6 (by decide +kernel)))
section
variable {W W' : World} {B Xb sv mb : Nat} {rv lv : Value} {ws : List (BitVec 64)} {p : List Nat} {fs : List (Nat × ByteArray)}
/-- A place more in the row. -/
theorem LkAt.place {w w6 : World} {o : Obj} {v6 : Value} {a : Nat} (h : LkAt w B Xb sv mb rv lv ws p fs) (ho : Ow iN 3 w6 B v6 (p ++ [a])) (hg : (w.alloc o).grownBy w6 rv.ownBlock) (hv : v6.ownBlock = rv.ownBlock ∨ v6.ownBlock = some (w.alloc o).heap.size) :
    ∀ W, W = w6.setCell ⟨Xb, 1, none⟩ v6 → Bk W Xb 72 #[.pointer (some ⟨sv, 0, none⟩), v6, .map (some mb), lv] ∧ Ow iN 3 W B v6 (p ++ [a]) ∧ MapIs W (some mb) (sizR ws p) ∧ FR W B lv fs ∧ (∀ k, (k = Xb ∨ k = mb) → v6.ownBlock ≠ some k ∧ lv.ownBlock ≠ some k) ∧ (∀ k, v6.ownBlock = some k → lv.ownBlock ≠ some k) ∧ Below B w W := by
  rintro W rfl
  obtain ⟨l1, l2, l3, l4, l5⟩ := h.lts
  have hsz : w.heap.size ≤ (w.alloc o).heap.size := (Gw.alloc w o).size
  have K1 := Kept.grown hg
  have K2 := Kept.set w6 Xb 1 v6
  have hA := h.below (Gw.alloc w o)
  have a1 := h.ap Xb (.inl rfl)
  have a2 := h.ap mb (.inr rfl)
  have m6 : ∀ k, v6.ownBlock = some k → rv.ownBlock = some k ∨ w.heap.size ≤ k := fun k hk => by
    rcases hv with e | e
    · exact .inl (e ▸ hk)
    · rw [e] at hk
      injection hk with hk
      exact .inr (by omega)
  have n6 : ∀ k, (k = Xb ∨ k = mb) → v6.ownBlock ≠ some k := fun k hk e => by
    rcases m6 k e with h' | h'
    · exact (h.ap k hk).1 h'
    · rcases hk with hk | hk <;> omega
  have q6 : ∀ k, v6.ownBlock = some k → lv.ownBlock ≠ some k := fun k hk e => by
    rcases m6 k hk with h' | h'
    · exact h.ap2 k h' e
    · have := (l4 k e).2; omega
  refine ⟨(hA.blk.grownK hg (fun e => a1.1 e.symm)).set 1 v6, K2.ow ho (fun k hk e => n6 Xb (.inl rfl) (e ▸ hk)), (hA.mp.kept K1 (fun b hb e => by injection hb with hb; exact a2.1 (hb ▸ e))).kept K2 (fun b hb e => by injection hb with hb; exact h.ne (e.symm.trans hb.symm)), (hA.fr.kept K1 (fun k hk e => h.ap2 k e hk)).kept K2 (fun k hk e => a1.2 (e ▸ hk)), fun k hk => ⟨n6 k hk, (h.ap k hk).2⟩, q6, ?_⟩
  exact (((Gw.alloc w o).mono l5).trans (K1.below (by omega) (fun k hk => (l3 k hk).1))).trans (K2.below (by have := K1.size; omega) (fun k hk => by rw [hk]; exact h.BX.1))
theorem sizR_snoc (ws : List (BitVec 64)) (p : List Nat) (a : Nat) (h : ∀ y ∈ p, y < a) : putI (sizR ws p) (a : Int) (szX (ws.getD a 0#64) : Int) = sizR ws (p ++ [a]) := by
  rw [put_end]
  · unfold sizR; rw [List.map_append]; rfl
  · intro q hq
    obtain ⟨y, hy, rfl⟩ := List.mem_map.1 hq
    have := h y hy
    show (y : Int) < (a : Int)
    omega
end
end Go.Proofs.Ytaminpfgkegibaa
/- check.look; check.Space. Conditions: lengths. -/
namespace Go.Proofs.Ytaminpfgkegibaa
set_option linter.unusedVariables false
set_option linter.unusedSimpArgs false
open Go.RowKit Go.Maps
set_option maxHeartbeats 4000000
set_option maxRecDepth 100000
theorem found_good (ws : List (BitVec 64)) (t : Nat) : ∀ (n a : Nat), ∀ y ∈ (foundN ws t n a).1, a ≤ y ∧ y < t ∧ goodX (ws.getD y 0#64) (t - y) = true
  | 0, a, y, h => by cases h
  | n + 1, a, y, h => by
    unfold foundN at h
    by_cases h1 : a < t
    · rw [if_pos h1] at h
      by_cases h2 : goodX (ws.getD a 0#64) (t - a) = true
      · rw [if_pos h2] at h
        rcases List.mem_cons.1 h with rfl | h
        · exact ⟨Nat.le_refl _, h1, h2⟩
        · have := found_good ws t n _ y h
          exact ⟨by omega, this.2⟩
      · rw [if_neg h2] at h; cases h
    · rw [if_neg h1] at h; cases h
theorem found_len (ws : List (BitVec 64)) (t : Nat) : ∀ (n a : Nat), (foundN ws t n a).1.length ≤ t - a
  | 0, a => Nat.zero_le _
  | n + 1, a => by
    unfold foundN
    by_cases h1 : a < t
    · rw [if_pos h1]
      by_cases h2 : goodX (ws.getD a 0#64) (t - a) = true
      · rw [if_pos h2]
        have h3 := found_len ws t n (a + szX (ws.getD a 0#64))
        obtain ⟨_, _, _, hs, _, _⟩ := head_of h2
        show (foundN ws t n _).1.length + 1 ≤ _
        omega
      · rw [if_neg h2]; exact Nat.zero_le _
    · rw [if_neg h1]; exact Nat.zero_le _
theorem rdN_new (w : World) (a : Nat) : Rd iN (w.alloc (.cells #[.int .i64 (a : Int)] 3)) (w.heap.size + 1) (some ⟨w.heap.size, 0, none⟩) [a] := rd1_new rfl
section
variable {B Bs Xb s g mb : Nat} {v rv lv : Value} {ws : List (BitVec 64)} {b t e : Nat} {p : List Nat} {fs : List (Nat × ByteArray)}
def LookP (w : World) (s : Nat) (ws : List (BitVec 64)) (p : List Nat) (bd : Option Nat) (r : Ending) (w' : World) : Prop :=
  ∃ (Xb mb : Nat) (rv lv : Value), r = .returned (.pointer (some ⟨Xb, 0, none⟩)) ∧ LkAt w' w.heap.size Xb s mb rv lv ws p (badF bd) ∧ Below w.heap.size w w'
theorem look_c (w : World) (sp : SpAt w Bs s g v ws b t e) (hw : ws.length ≤ 8192) (F : List Nat × Option Nat) (hF : foundN ws t (t + 1) b = F) (hq : ∀ x, F.2 = some x → okU (ws.getD x 0#64) = false) :
    Calls Try.prog 22 #[.pointer (some ⟨s, 0, none⟩)] w (LookP w s ws F.1 F.2) := by
  have hbt := sp.bt
  have htl : t ≤ ws.length := Nat.le_trans sp.te sp.el
  have HSp := Lib.hid (And.intro sp (And.intro hbt (And.intro htl hw)))
  obtain ⟨d0, d1, d2, d3⟩ := sp.four
  have hsl := sp.blk.lt
  have HF := Lib.hid (And.intro hF hq)
  have tI : (t : Int) ≤ 8192 := by omega
  have bI : (b : Int) ≤ 8192 := by omega
  have hmm := @run_makeMap Try.prog
  clear sp hF hq hbt htl hw
  go_enter Try.func22, Try.ntmps22
  go_wp2_with fail
  have hm1 : MapIs (w.alloc (.map #[] 0)) (some w.heap.size) (sizR ws []) := tighten (l := []) (World.ownsMap_made w Try.prog 3 (plainElem Try.prog 3))
  have e1 : (w.alloc (.map #[] 0)).heap.size = w.heap.size + 1 := by unfold World.alloc; simp
  have hbk0 := Bk.new (w.alloc (.map #[] 0)) 72 #[.pointer (some ⟨s, 0, none⟩), .slice none 0 0, .map (some w.heap.size), .slice none 0 0]
  rw [e1] at hbk0
  have b12 := Gw.alloc (w.alloc (.map #[] 0)) (.cells #[.pointer (some ⟨s, 0, none⟩), .slice none 0 0, .map (some w.heap.size), .slice none 0 0] 72)
  have hm2 := hm1.kept (Kept.of_below b12 (fun _ => False)) (fun _ _ f => f)
  have hb02 : Below w.heap.size w ((w.alloc (.map #[] 0)).alloc (.cells #[.pointer (some ⟨s, 0, none⟩), .slice none 0 0, .map (some w.heap.size), .slice none 0 0] 72)) := (Gw.alloc w _).trans (b12.mono (by omega))
  obtain ⟨w2, hw2⟩ : ∃ w2, w2 = (w.alloc (.map #[] 0)).alloc (.cells #[.pointer (some ⟨s, 0, none⟩), .slice none 0 0, .map (some w.heap.size), .slice none 0 0] 72) := ⟨_, rfl⟩
  rw [← hw2] at hbk0 hm2 hb02 ⊢
  obtain ⟨Xb, hXb⟩ : ∃ m, m = w.heap.size + 1 := ⟨_, rfl⟩
  obtain ⟨mb, hmb⟩ : ∃ m, m = w.heap.size := ⟨_, rfl⟩
  rw [← hXb] at hbk0 ⊢
  rw [← hmb] at hbk0 hm2
  have hlk : LkAt w2 w.heap.size Xb s mb (.slice none 0 0) (.slice none 0 0) ws [] [] := ⟨hbk0, Ow.nil_ _ _ _ _, hm2, FR.nil _ _, by omega, fun k _ => ⟨fun h => (by cases h), fun h => (by cases h)⟩, fun k h => (by cases h), ⟨by omega, by omega⟩⟩
  have HS0 : Hid (∃ rv pd n, LkAt w2 w.heap.size Xb s mb rv (.slice none 0 0) ws pd [] ∧ (∀ y ∈ pd, y < b) ∧ pd ++ (foundN ws t n b).1 = F.1 ∧ (foundN ws t n b).2 = F.2 ∧ t + 1 ≤ b + n ∧ Below w.heap.size w w2) := Lib.hid ⟨_, [], t + 1, hlk, fun _ h => (by cases h), by rw [HF.out.1]; rfl, by rw [HF.out.1], by omega, hb02⟩
  have HXl := Lib.hid hlk.blk.lt
  clear hlk hbk0 hm1 hm2 b12 hb02 hw2 hXb hmb e1 hmm d0 d1 d2 d3 hsl
  go_loopw [4] (fun x W => ∃ a : Nat, x = .int .i64 a ∧ b ≤ a ∧ a ≤ t ∧ Hid (∃ rv pd n, LkAt W w.heap.size Xb s mb rv (.slice none 0 0) ws pd [] ∧ (∀ y ∈ pd, y < a) ∧ pd ++ (foundN ws t n a).1 = F.1 ∧ (foundN ws t n a).2 = F.2 ∧ t + 1 ≤ a + n ∧ Below w.heap.size w W)) (fun x _ => t - (Go.RowKit.intOf x).toNat)
  case atStart => exact ⟨b, rfl, Nat.le_refl _, HSp.out.2.1, HS0⟩
  case round =>
    obtain ⟨a, rfl, hba, hat, hS⟩ := hrel
    clear HS0
    obtain ⟨rv, pd, n, e1, e2, e3, e4, e5, e6⟩ := hS.out
    have sp := HSp.out.1.below e6
    obtain ⟨d0, d1, d2, d3⟩ := sp.four
    have hsl := sp.blk.lt
    have p0 : (0 : Int) ≤ (a : Int) := by omega
    by_cases hlt : a < t
    · have p1 : (a : Int) < (t : Int) := by omega
      obtain ⟨x, hx⟩ : ∃ x, x = ws.getD a 0#64 := ⟨_, rfl⟩
      obtain ⟨m, rfl⟩ : ∃ m, n = m + 1 := ⟨n - 1, by omega⟩
      have hal : a < ws.length := by have := HSp.out.2.2.1; omega
      have hHd := sphead_in wr Bs s g v ws b t e sp a hba hlt (by have := HSp.out.2.2.2; omega) hal
      have hxe : ws[a] = x := by rw [hx, List.getD_eq_getElem?_getD, List.getElem?_eq_getElem hal]; rfl
      rw [hxe] at hHd
      unfold foundN at e3 e4
      rw [if_pos hlt, ← hx] at e3 e4
      by_cases hg : goodX x (t - a) = true
      · rw [if_pos hg] at e3 e4
        obtain ⟨hv, hP64, hB1024, hsx, hsz, hroom⟩ := head_of hg
        rw [hv] at hHd
        have HHd := Lib.hid hHd
        obtain ⟨P, hP⟩ : ∃ P, P = P0 x := ⟨_, rfl⟩
        obtain ⟨nb, hn⟩ : ∃ P, P = B0 x := ⟨_, rfl⟩
        obtain ⟨sz, hszz⟩ : ∃ P, P = szX x := ⟨_, rfl⟩
        rw [← hP, ← hn] at HHd hsz
        rw [← hszz] at hsz hroom e3 e4
        have hs1 : 1 ≤ sz := by rw [hszz, hsx]; omega
        have HSz := Lib.hid (fun W => size_c (P : Int) (nb : Int) false 0 W)
        rw [hsz] at HSz
        obtain ⟨rA, rc, e0, _⟩ := e1.row.form
        obtain ⟨np, hnp⟩ : ∃ np, np = pd.length := ⟨_, rfl⟩
        rw [← hnp] at e0
        subst e0
        have hpl : pd.length ≤ 8192 := by
          have h1 := congrArg List.length e3
          have h2 := found_len ws t (t + 1) b
          rw [HF.out.1, ← h1] at h2
          have := HSp.out.2.2.2
          have := HSp.out.2.2.1
          simp at h2
          omega
        have HE := Lib.hid (And.intro e1 (And.intro e2 (And.intro e3 (And.intro e4 (And.intro e5 (And.intro e6 (And.intro hx (And.intro hszz hpl))))))))
        have z1 : (sz : Int) ≤ (t : Int) - (a : Int) := by omega
        have z2 : (1 : Int) ≤ (sz : Int) := by omega
        clear hHd e1 e2 e3 e4 e5 e6 hS hx hxe hg sp hv hsx hsz hP hn hszz hnp hpl hroom
        go_wp2_with fail
        refine Calls.mono HHd.out ?_
        rintro r w3 ⟨rfl, b3⟩
        have H3 := Lib.hid b3
        clear b3 d0 d1 d2 d3
        go_wp2_with fail
        obtain ⟨Hb, hHb⟩ : ∃ H, H = w3.heap.size := ⟨_, rfl⟩
        obtain ⟨w4, hw4⟩ : ∃ w3', w3' = w3.alloc (.cells #[.int .i64 (P : Int), .int .i64 (nb : Int), .bool false, .int .i64 0] 111) := ⟨_, rfl⟩
        have hbk : Bk w4 Hb 111 #[.int .i64 (P : Int), .int .i64 (nb : Int), .bool false, .int .i64 0] := by rw [hw4, hHb]; exact Bk.new w3 _ _
        have b34 : Below w3.heap.size w3 w4 := by rw [hw4]; exact Gw.alloc w3 _
        rw [← hw4, ← hHb]
        have b4 := H3.out.trans (b34.mono H3.out.size)
        have h4 := HE.out.1.below b4
        have sp4 := HSp.out.1.below (HE.out.2.2.2.2.2.1.trans (b4.mono HE.out.2.2.2.2.2.1.size))
        have d2 := sp4.four.2.2.1
        have hs4 := sp4.blk.lt
        obtain ⟨g0, g1, g2, g3⟩ := hbk.four
        have hHl := hbk.lt
        have HBk := Lib.hid (And.intro hbk (And.intro (show Hb ≠ Xb ∧ Hb ≠ mb ∧ (∀ k, (Value.slice rA np rc).ownBlock = some k → k ≠ Hb) from by
          have l := (HE.out.1.below H3.out).lts
          exact ⟨by omega, by omega, fun k hk e => by have := (l.2.2.1 k hk).2; omega⟩) b4))
        clear hw4 hHb b34 hbk h4 sp4 b4
        refine lo5c _ _ _ Hb s a t (P : Int) (nb : Int) (sz : Int) false hHl hs4 g0 g1 g2 g3 d2 p1 tI p0 (decide_eq_false (by omega)) HSz rfl ?_ ?_ ?_ ?_ ?_
        · rfl
        · rfl
        · rfl
        · rfl
        intro vals w5 hG h43
        unfold IsV at h43
        simp only [putD, Act.put, List.setIfInBounds_toArray, List.set_cons_zero, List.set_cons_succ, h43]
        have hb5 := HBk.out.2.2.trans (hG.mono HBk.out.2.2.size)
        have h5 := HE.out.1.below hb5
        have H5 := Lib.hid (And.intro h5 (And.intro hb5 (HBk.out.1.below hG HBk.out.1.lt)))
        obtain ⟨c0, c1, c2, c3⟩ := h5.four
        have hXl := h5.blk.lt
        have HO := Lib.hid h5.row
        have HLn := Lib.hid (show pd.length + [a].length ≤ 4294967296 by have := HE.out.2.2.2.2.2.2.2.2; simp; omega)
        have HBs := Lib.hid h5.lts.2.2.2.2
        clear hG h43 hb5 h5 g0 g1 g2 g3 d2 hs4 hHl
        go_wp2_with (at_builtin; refine wp_app oneI iN_one rfl (.tmp 51) (.tmp 53) rfl w.heap.size _ pd rfl (HO.out.alloc _) (some ⟨w5.heap.size, 0, none⟩) 1 1 [a] rfl rfl (w5.heap.size + 1) (rdN_new w5 a) HLn.out (by decide) (Nat.le_trans HBs.out (Gw.alloc w5 _).size) ?_; intro v6 w6 ho6 hb6 hg6 hv6; obtain ⟨A6, c6, e6, _⟩ := ho6.form; obtain ⟨n6, hn6⟩ : ∃ n, n = (pd ++ [a]).length := ⟨_, rfl⟩; rw [← hn6] at e6; subst e6; clear hn6; have hk6 := (H5.out.1.blk.alloc (.cells #[.int .i64 (a : Int)] 3)).grownK hg6 (fun e => (H5.out.1.ap Xb (.inl rfl)).1 e.symm); have HK := Lib.hid (And.intro ho6 (And.intro (show World.grownBy (w5.alloc (.cells #[.int .i64 (a : Int)] 3)) w6 (Value.slice rA np rc).ownBlock from hg6) (show (Value.slice A6 n6 c6).ownBlock = (Value.slice rA np rc).ownBlock ∨ (Value.slice A6 n6 c6).ownBlock = some (w5.alloc (.cells #[.int .i64 (a : Int)] 3)).heap.size from hv6))); have j1 := hk6.cell 1; have jf := hk6.free 1; have jX := hk6.lt; clear ho6 hb6 hg6 hv6 hk6 c0 c1 c2 c3)
        have hpl := H5.out.1.place HK.out.1 HK.out.2.1 HK.out.2.2 _ rfl
        obtain ⟨q1, q2, q3, q4, q5, q6, q7⟩ := hpl
        have hK6 := (Kept.alloc (fun k => k = Xb ∨ (Value.slice rA np rc).ownBlock = some k) w5 (.cells #[.int .i64 (a : Int)] 3)).trans (((Kept.grown HK.out.2.1).more (S' := fun k => k = Xb ∨ (Value.slice rA np rc).ownBlock = some k) (fun k hk => .inr hk)).trans ((Kept.set w6 Xb 1 (.slice A6 n6 c6)).more (S' := fun k => k = Xb ∨ (Value.slice rA np rc).ownBlock = some k) (fun k hk => .inl hk)))
        obtain ⟨w7, hw7⟩ : ∃ w7, w7 = w6.setCell ⟨Xb, 1, none⟩ (.slice A6 n6 c6) := ⟨_, rfl⟩
        rw [← hw7] at q1 q2 q3 q4 q7 hK6 ⊢
        have hbk7 := hK6.bk H5.out.2.2 (fun h => h.elim (fun h => HBk.out.2.1.1 h) (fun h => HBk.out.2.1.2.2 _ h rfl))
        have H7 := Lib.hid (And.intro q1 (And.intro q2 (And.intro q3 (And.intro q4 (And.intro q5 (And.intro q6 (And.intro q7 hbk7)))))))
        have x2 := q1.cell 2
        have x2l := q1.lt
        obtain ⟨g0, g1, g2, g3⟩ := hbk7.four
        have hHl := hbk7.lt
        clear hw7 q1 q2 q3 q4 q5 q6 q7 hK6 hbk7 j1 jf jX hXl
        refine lo8 _ _ _ Hb Xb mb a (P : Int) (nb : Int) (sz : Int) hHl x2l g0 g1 g2 g3 x2 HSz rfl ?_ ?_ ?_ ?_
        · rfl
        · rfl
        · rfl
        intro vals8 w8 hG8 h60 h61 h63
        unfold IsV at h60 h61 h63
        simp only [putD, Act.put, List.setIfInBounds_toArray, List.set_cons_zero, List.set_cons_succ, h60, h61, h63]
        have H8 := Lib.hid hG8
        have HM8 := Lib.hid (H7.out.2.2.1.kept (Kept.of_below hG8 (fun _ => False)) (fun _ _ f => f))
        have HWF := Lib.hid (show (Lit.int .i64 (a : Int)).wf = true ∧ (Lit.int .i64 (sz : Int)).wf = true ∧ (sizR ws pd).length ≤ 1000000 from ⟨by simp [Lit.wf, IntKind.min, IntKind.max, IntKind.signed, IntKind.bits]; omega, by simp [Lit.wf, IntKind.min, IntKind.max, IntKind.signed, IntKind.bits]; omega, by have := HE.out.2.2.2.2.2.2.2.2; unfold sizR; simp; omega⟩)
        clear hG8 h60 h61 h63 g0 g1 g2 g3 hHl x2 x2l
        go_wp2_with (refine wp_put_is (b := mb) (l := sizR ws pd) rfl (.tmp 60) (.tmp 61) (.tmp 63) rfl rfl HM8.out (a : Int) (sz : Int) rfl rfl HWF.out.1 HWF.out.2.1 HWF.out.2.2 ?_; intro w9 hm9 hk9; have hb9 := hk9.bk (H7.out.2.2.2.2.2.2.2.below H8.out H7.out.2.2.2.2.2.2.2.lt) (fun h => by injection h with h; exact HBk.out.2.1.2.1 h.symm); obtain ⟨g0, g1, g2, g3⟩ := hb9.four; have hHl := hb9.lt; have H9 := Lib.hid (And.intro hm9 hk9); clear hm9 hk9 hb9)
        refine Calls.mono (HSz.out w9) ?_
        rintro r w10 ⟨rfl, b10⟩
        have HN : Hid (∃ rv pd n, LkAt w10 w.heap.size Xb s mb rv (.slice none 0 0) ws pd [] ∧ (∀ y ∈ pd, y < a + sz) ∧ pd ++ (foundN ws t n (a + sz)).1 = F.1 ∧ (foundN ws t n (a + sz)).2 = F.2 ∧ t + 1 ≤ a + sz + n ∧ Below w.heap.size w w10) := by
          obtain ⟨q1, q2, q3, q4, q5, q6, q7, q8⟩ := H7.out
          obtain ⟨e1, e2, e3, e4, e5, e6, hx, hszz, hpl⟩ := HE.out
          obtain ⟨hm9, hk9⟩ := H9.out
          have hnX : ¬ (some mb = some Xb) := fun h => by injection h with h; exact e1.ne h.symm
          have hm9' : MapIs w9 (some mb) (sizR ws (pd ++ [a])) := by
            rw [← sizR_snoc ws pd a e2, ← hx, ← hszz]
            exact hm9
          have b8 := H8.out
          have hB8 : w.heap.size ≤ w8.heap.size := by have := e6.size; have := H5.out.2.1.size; have := q7.size; have := b8.size; omega
          have hL : LkAt w9 w.heap.size Xb s mb (.slice A6 n6 c6) (.slice none 0 0) ws (pd ++ [a]) [] := ⟨hk9.bk (q1.below b8 q1.lt) hnX, hk9.ow (q2.below b8) (fun k hk e => by injection e with e; exact (q5 mb (.inr rfl)).1 (e ▸ hk)), hm9', FR.nil _ _, e1.ne, q5, q6, e1.BX⟩
          refine Lib.hid ⟨_, pd ++ [a], m, hL.below b10, fun y hy => ?_, by rw [List.append_assoc]; exact e3, e4, by omega, ?_⟩
          · rcases List.mem_append.1 hy with h | h
            · have := e2 y h; omega
            · rw [List.mem_singleton.1 h]; omega
          · have h7 : Below w.heap.size w w7 := (e6.trans (H5.out.2.1.mono e6.size)).trans q7
            have h8 := h7.trans (b8.mono h7.size)
            have h9 := h8.trans (hk9.below h8.size (fun k hk => by injection hk with hk; rw [← hk]; exact e1.BX.2))
            exact h9.trans (b10.mono h9.size)
        have zt : a + sz ≤ t := by omega
        have zb : b ≤ a + sz := by omega
        obtain ⟨nx, hnx⟩ : ∃ nx, nx = a + sz := ⟨_, rfl⟩
        rw [← hnx] at HN zt zb
        have z4 : (a : Int) + (sz : Int) = (nx : Int) := by omega
        have z5 : (nx : Int) ≤ 8192 := by omega
        have z6 : a < nx := by omega
        clear b10 g0 g1 g2 g3 hHl hnx
        go_wp2_with fail
        go_roundw
        case rel => first | exact ⟨nx, by go_num, zb, zt, HN⟩ | ((repeat apply Exists.intro); refine ⟨?_, rfl⟩; exact ⟨nx, by go_num, zb, zt, HN⟩)
        case measure => simp [Go.RowKit.intOf]; omega
      · rw [if_neg hg] at e3 e4
        have hok : okU x = false := by rw [hx]; exact HF.out.2 a e4.symm
        rw [unV_no hok] at hHd
        have HHd := Lib.hid hHd
        have HE := Lib.hid (And.intro e1 (And.intro (show pd = F.1 from by rw [← e3]; exact (List.append_nil _).symm) (And.intro (show F.2 = some a from e4.symm) e6)))
        clear hHd e1 e2 e3 e4 e5 e6 hS hx hxe hok hg sp
        go_wp2_with fail
        refine Calls.mono HHd.out ?_
        rintro r w3 ⟨rfl, b3⟩
        have H3 := Lib.hid b3
        clear b3 d0 d1 d2 d3
        go_wp2_with fail
        obtain ⟨Hb, hHb⟩ : ∃ H, H = w3.heap.size := ⟨_, rfl⟩
        obtain ⟨w4, hw4⟩ : ∃ w3', w3' = w3.alloc (.cells #[.int .i64 0, .int .i64 0, .bool false, .int .i64 0] 111) := ⟨_, rfl⟩
        have b34 : Below w3.heap.size w3 w4 := by rw [hw4]; exact Gw.alloc w3 _
        rw [← hw4, ← hHb]
        have H4 := Lib.hid (H3.out.trans (b34.mono H3.out.size))
        clear hw4 hHb b34
        refine lo5a _ _ _ Hb 2 (by decide) ?_ ?_ ?_
        · rfl
        · rfl
        intro vals w5 hG h43
        unfold IsV at h43
        simp only [putD, Act.put, List.setIfInBounds_toArray, List.set_cons_zero, List.set_cons_succ, h43]
        have hb5 := H4.out.trans (hG.mono H4.out.size)
        have HT := Lib.hid (tell_c w5 (HE.out.1.below hb5) (Nat.zero_le _) a headS)
        have H5 := Lib.hid hb5
        unfold headS at HT
        clear hG h43 hb5
        go_wp2_with fail
        refine Calls.mono HT.out ?_
        rintro r w6 ⟨rfl, lv', h6, k6, n6⟩
        have H6 := Lib.hid (And.intro h6 k6)
        clear h6 k6 n6
        go_wp2_with fail
        go_ret
        obtain ⟨e1, hp, hb, e6⟩ := HE.out
        refine ⟨Xb, mb, rv, lv', rfl, ?_, ?_⟩
        · rw [← hp, hb]
          exact H6.out.1
        · have h5 := e6.trans (H5.out.mono e6.size)
          exact h5.trans (H6.out.2.below h5.size (fun k hk => hk.elim (fun h => by rw [h]; exact e1.BX.1) (fun h => by cases h)))
    · have p1 : ¬ (a : Int) < (t : Int) := by omega
      have hF2 : foundN ws t n a = ([], none) := by
        cases n with
        | zero => rfl
        | succ m => unfold foundN; rw [if_neg hlt]
      rw [hF2] at e3 e4
      have HE := Lib.hid (And.intro e1 (And.intro (show pd = F.1 from by rw [← e3]; exact (List.append_nil _).symm) (And.intro (show F.2 = none from e4.symm) e6)))
      clear e1 e2 e3 e4 e5 e6 hS hF2 sp
      go_wp2_with fail
      go_ret
      obtain ⟨e1, hp, hb, e6⟩ := HE.out
      refine ⟨Xb, mb, rv, .slice none 0 0, rfl, ?_, e6⟩
      rw [← hp, hb]
      exact e1
end
end Go.Proofs.Ytaminpfgkegibaa
/- A row of findings (loamref17.Finding) as a list; append; at. Conditions: lengths. -/
namespace Go.Proofs.Ytaminpfgkegibaa
set_option linter.unusedVariables false
set_option linter.unusedSimpArgs false
open Go.RowKit Go.Maps
set_option maxHeartbeats 400000
set_option maxRecDepth 100000
/-- A row of pairs of one's own. -/
def rFR (w : World) (base : Nat) (v : Value) (l : List (Nat × ByteArray)) : Prop := w.ownsRow base 76 2 v l.length (flatF l)
/-- A slice's address reads as pairs. -/
def rRdF (w : World) (A : Option Addr) (l : List (Nat × ByteArray)) : Prop := ∀ j u, (flatF l)[j]? = some u → ∃ a, A = some a ∧ w.cell? (a.add j) = some u
section
variable {w w' : World} {base : Nat} {v : Value} {l : List (Nat × ByteArray)} {S : Nat → Prop}
theorem rFR.kept (h : rFR w base v l) (hk : Kept S w w') (hn : ∀ k, v.ownBlock = some k → ¬ S k) : rFR w' base v l := hk.rowF h hn
theorem rFR.below (h : rFR w base v l) (hb : Below w.heap.size w w') : rFR w' base v l := h.kept (Kept.of_below hb (fun _ => False)) (fun _ _ f => f)
theorem rFR.nil (w : World) (base : Nat) : rFR w base (.slice none 0 0) [] := ⟨rfl, .inl ⟨rfl, rfl⟩⟩
theorem rFR.empty (w : World) (base q : Nat) (hq : base ≤ q) (hb : Bk w q 76 #[]) : rFR w base (.slice (some ⟨q, 0, none⟩) 0 0) [] := ⟨rfl, .inr ⟨q, 0, #[], rfl, hq, hb, Nat.le_refl _, by simp [maxLen], rfl, rfl⟩⟩
theorem rFR.form (h : rFR w base v l) : (v = .slice none 0 0 ∧ l = []) ∨ ∃ q c, v = .slice (some ⟨q, 0, none⟩) l.length c ∧ l.length ≤ c ∧ c ≤ maxLen ∧ base ≤ q ∧ q < w.heap.size := by
  rcases h.2 with ⟨e, hn⟩ | ⟨q, cap, cur, e, hB, hh, hc, hm, _⟩
  · exact .inl ⟨e, List.eq_nil_of_length_eq_zero hn⟩
  · exact .inr ⟨q, cap, e, hc, hm, hB, (Array.getElem?_eq_some_iff.1 hh).1⟩
theorem rFR.slice_ (h : rFR w base v l) : ∃ A c, v = .slice A l.length c ∧ l.length ≤ c ∧ c ≤ maxLen := by
  rcases h.form with ⟨rfl, rfl⟩ | ⟨q, c, rfl, h1, h2, _⟩
  · exact ⟨none, 0, rfl, Nat.le_refl _, by simp [maxLen]⟩
  · exact ⟨_, c, rfl, h1, h2⟩
theorem rFR.lt (h : rFR w base v l) : ∀ k, v.ownBlock = some k → base ≤ k ∧ k < w.heap.size := fun k hk => World.ownsRow.lt h k hk
theorem rFR.rdf {A : Option Addr} {n c : Nat} (h : rFR w base (.slice A n c) l) : rRdF w A l := by
  intro j u hu
  rcases h.form with ⟨e, rfl⟩ | ⟨q, c', e, _⟩
  · cases hu
  · injection e with e1 e2 e3
    subst e1
    exact ⟨_, rfl, World.ownsRow.cells h rfl j u hu⟩
theorem rRdF.pre {A : Option Addr} (h : rRdF w A l) (k : Nat) : rRdF w A (l.take k) := by
  intro j u hu
  refine h j u ?_
  have e : flatF l = flatF (l.take k) ++ flatF (l.drop k) := by rw [← flatF_app, List.take_append_drop]
  rw [e, List.getElem?_append_left (List.getElem?_eq_some_iff.1 hu).1]
  exact hu
theorem rRdF.suf {b o : Nat} (h : rRdF w (some ⟨b, o, none⟩) l) (k : Nat) : rRdF w (some ⟨b, o + 2 * k, none⟩) (l.drop k) := by
  intro j u hu
  rw [← flatF_drop, List.getElem?_drop] at hu
  obtain ⟨a, e, hc⟩ := h _ _ hu
  injection e with e
  subst e
  refine ⟨_, rfl, ?_⟩
  rw [← hc, add_off, add_off, Nat.add_assoc]
/-- The cells of element j. -/
theorem rFR.at_ {A : Option Addr} {n c : Nat} (h : rFR w base (.slice A n c) l) (j : Nat) (hj : j < l.length) : ∃ q, A = some ⟨q, 0, none⟩ ∧ base ≤ q ∧ q < w.heap.size ∧ w.cell? ⟨q, j * 2, none⟩ = some (.int .i64 (l[j].1 : Int)) ∧ w.cell? ⟨q, j * 2 + 1, none⟩ = some (.string l[j].2) := by
  rcases h.form with ⟨e, rfl⟩ | ⟨q, c', e, _, _, h1, h2⟩
  · exact absurd hj (by simp)
  · injection e with e1 e2 e3
    subst e1
    obtain ⟨f1, f2⟩ := flatF_at l j hj
    have c1 := World.ownsRow.cells h rfl _ _ f1
    have c2 := World.ownsRow.cells h rfl _ _ f2
    refine ⟨q, rfl, h1, h2, ?_, ?_⟩
    · rw [add_off] at c1; rw [← c1]; congr 2; omega
    · rw [add_off] at c2; rw [← c2]; congr 2; omega
variable {ops : Array Oper} {rest : List Oper} {o : Oper} {a : Act} {Q : Exit → Act → World → Prop}
end
end Go.Proofs.Ytaminpfgkegibaa
/- A region whose operations are loads and reckonings, which float, and a row of others (calls, appends, stores) that wait for each other: the floating ones have known values, the row is straight code. No conditions. -/
namespace Go.Proofs.Ytaminpfgkegibaa
set_option linter.unusedVariables false
set_option linter.unusedSimpArgs false
open Go.RowKit
section
variable {P : Program} {ops : Array Oper} {Q : Exit → Act → World → Prop} {a0 : Act} {w0 : World}
/-- Operations one behind the other; W holds of each world between. -/
def SpineW (P : Program) (ops : Array Oper) (Q : Exit → Act → World → Prop) (W : World → Prop) : List Nat → Act → World → Prop
  | [], a, w => Q .normal a w
  | i :: is, a, w => ∃ o, ops[i]? = some o ∧ o.guard = none ∧ Oper.wp P o a w (fun a' w' => a'.defers = a.defers ∧ W w' ∧ SpineW P ops Q W is a' w') NoQ
def operandsOf (ops : Array Oper) (i : Nat) : List Tmp := match ops[i]? with
  | none => []
  | some o => o.op.operands.toList.filterMap fun | .tmp t => some t | _ => none
def chainB (ops : Array Oper) : List Nat → Bool
  | x :: y :: l => waitsB ops y x && chainB ops (y :: l)
  | _ => true
def slotsB (ops : Array Oper) (fl : List Nat) (j : Nat) : Bool := match dstOf ops j with
  | none => false
  | some d => slotB ops fl j d
def spineB (ops : Array Oper) (sp fl : List Nat) : Bool :=
  chainB ops sp && ((List.range ops.size).all fun i => sp.contains i || fl.contains i) && (fl.all fun j => !sp.contains j && decide (j < ops.size) && ((ops[j]?).bind (·.guard)).isNone && slotsB ops fl j) && (sp.all fun i => decide (i < ops.size)) && decide (sp.Nodup) &&
  (fl.all fun i => (operandsOf ops i).all fun t => (fl.any fun j => waitsB ops i j && dstOf ops j == some t) || ((fl.all fun j => dstOf ops j != some t) && sp.all fun j => dstOf ops j != some t || waitsB ops j i)) &&
  (sp.all fun i => (operandsOf ops i).all fun t => fl.all fun j => dstOf ops j != some t || waitsB ops i j)
theorem wp_two {o : Oper} {A a : Act} {w : World} {K K2 : Act → World → Prop} (he : execOp A.eval o = execOp a.eval o)
    (h : Oper.wp P o A w (fun a' w' => a'.defers = A.defers ∧ K a' w') NoQ) (hk : ∀ v w', K (A.put o.dst v) w' → K2 (a.put o.dst v) w') : Oper.wp P o a w K2 Q := by
  unfold Oper.wp at *
  rw [← he]
  generalize (execOp A.eval o).run P w = r at *
  cases r with
  | ok n w' =>
    cases n <;> simp only [Oper.upon] at h ⊢
    case value u => exact hk _ _ h.2
    case skip => exact hk _ _ h.2
    case defer d =>
      exfalso
      have := h.1
      cases hd : o.dst <;> simp [Act.put, hd] at this
    case enter f args =>
      refine Calls.mono h fun e w'' he => ?_
      cases e with
      | returned u => exact hk _ _ he.2
      | panicked c => exact he.elim
      | outgrown => obtain ⟨_, _, hf⟩ := he; exact hf.elim
    case row row args => exact Rows.mono h fun u w'' he => hk _ _ he.2
  | halt x w' =>
    cases x <;> simp only [Oper.upon] at h ⊢
    case panic u => exact h.elim
def SpineQ (df : List Deferred) (W : World → Prop) (next : Act → World → Prop) : Exit → Act → World → Prop
  | .normal, a, w => a.defers = df ∧ W w ∧ next a w
  | _, _, _ => False
theorem regB_plain {size : Nat} (h : regB ops size = true) {i : Nat} {o : Oper} (ho : ops[i]? = some o) : match o.op with | .defer _ => False | .select .. => False | _ => True := by
  unfold regB at h
  rw [List.all_eq_true] at h
  have h1 := h i (List.mem_range.2 (Array.getElem?_eq_some_iff.1 ho).1)
  rw [ho] at h1
  simp only [Bool.and_eq_true] at h1
  have h2 := h1.2
  revert h2
  cases o.op <;> simp
theorem chain_at {l : List Nat} : ∀ {d : List Nat} {x y : Nat}, chainB ops (d ++ x :: y :: l) = true → waitsB ops y x = true := by
  intro d
  induction d with
  | nil => intro x y h; unfold chainB at h; rw [List.nil_append] at h; simp only [Bool.and_eq_true] at h; exact h.1
  | cons z d ih =>
    intro x y h
    apply ih (x := x) (y := y)
    cases d with
    | nil => simp only [List.cons_append, List.nil_append, chainB, Bool.and_eq_true] at h ⊢; exact h.2
    | cons u d => simp only [List.cons_append, chainB, Bool.and_eq_true] at h ⊢; exact h.2
theorem region_spine {id : Nat} (sp fl : List Nat) (c : Nat → Value) (W : World → Prop) (hm : P.follows .mixedOrders = true) (hreg : regB ops a0.tmps.size = true) (hsp : spineB ops sp fl = true) (hW : W w0.drew)
    (hF : ∀ i ∈ fl, ∀ w, W w → ∃ o, ops[i]? = some o ∧ (execOp (putL ops c fl a0).eval o).run P w = .ok (.value (c i)) w)
    (fin : SpineW P ops Q W sp (putL ops c fl a0) w0.drew) : (Code.region id ops true).wp P Q a0 w0 := by
  unfold spineB at hsp
  simp only [Bool.and_eq_true, List.all_eq_true, List.mem_range, decide_eq_true_eq, Bool.or_eq_true, List.contains_iff_mem, Bool.not_eq_true', Bool.not_eq_eq_eq_not, Bool.not_true] at hsp
  obtain ⟨⟨⟨⟨⟨⟨hch, hcov⟩, hfl⟩, hspl⟩, hnd⟩, hfo⟩, hso⟩ := hsp
  have hflsp : ∀ j ∈ fl, j ∉ sp := fun j hj h => by
    have := (hfl j hj).1.1.1
    rw [List.contains_eq_mem] at this
    simp [h] at this
  have getT : ∀ (l : Array Bool) (k : Nat) (b c : Bool), k < l.size → l.getD k b = l.getD k c := by
    intro l k b c hk
    rw [Array.getD_eq_getD_getElem?, Array.getD_eq_getD_getElem?, Array.getElem?_eq_getElem hk]; rfl
  have hdst : ∀ i, i < ops.size → ∃ d, dstOf ops i = some d ∧ d < a0.tmps.size ∧ ∀ j, j < ops.size → j ≠ i → dstOf ops j ≠ some d := by
    intro i hi
    obtain ⟨o2, d, ho2, hd2, hdl, hdd, _⟩ := regB_at hreg hi
    exact ⟨d, by unfold dstOf; rw [ho2]; exact hd2, hdl, hdd⟩
  have hA0 : ∀ j ∈ fl, valAt ops (putL ops c fl a0) j = c j := by
    intro j hj
    obtain ⟨d, hd, hdl, _⟩ := hdst j (hfl j hj).1.1.2
    have hs := (hfl j hj).2
    unfold slotsB at hs
    rw [hd] at hs
    unfold valAt
    rw [hd]
    exact slotJ fl hdl hs
  have hout : ∀ t, (∀ j ∈ fl, dstOf ops j ≠ some t) → (putL ops c fl a0).tmps.getD t undef = a0.tmps.getD t undef := by
    intro t ht
    exact slotO fl (List.all_eq_true.2 fun k hk => by simpa using ht k hk)
  have main : ∀ (fuel : Nat) (listed : Array Bool) (a : Act) (w : World) (dn rest : List Nat) (A : Act), listed.size = ops.size →
      ((List.range ops.size).filter fun j => !listed.getD j true).length ≤ fuel →
      W w → SpineW P ops Q W rest A w → sp = dn ++ rest → (∀ i ∈ dn, listed.getD i true = true) → (∀ i ∈ rest, listed.getD i true = false) → a.defers = A.defers → a.tmps.size = A.tmps.size → A.tmps.size = a0.tmps.size →
      (∀ j ∈ fl, valAt ops A j = c j) → (∀ t, (∀ j ∈ dn, dstOf ops j ≠ some t) → (∀ j ∈ fl, dstOf ops j ≠ some t) → A.tmps.getD t undef = a0.tmps.getD t undef) → (∀ j ∈ dn, ∀ k, waitsB ops j k = true → listed.getD k true = true) →
      (∀ t, a.tmps.getD t undef = A.tmps.getD t undef ∨ ∃ j ∈ fl, listed.getD j true = false ∧ dstOf ops j = some t) →
      wpAny P .any ops Q fuel listed a w := by
    intro fuel
    have allUp : ∀ (listed : Array Bool), listed.size = ops.size → Region.ready .any ops listed = [] → ∀ j, j < ops.size → listed.getD j true = true := by
      intro listed hsz hr j
      induction j using Nat.strongRecOn with
      | ind j ih =>
        intro hj
        cases hl : listed.getD j true with
        | true => rfl
        | false =>
          exfalso
          obtain ⟨o, d, ho, _, _, _, he⟩ := regB_at hreg hj
          have : j ∈ Region.ready .any ops listed := mem_ready.2 ⟨hl, o, ho, fun e hem hb => by
            have hlt := he e hem hb
            have := ih e.on hlt (by omega)
            rw [Array.getD_eq_getD_getElem?] at this ⊢
            rw [Array.getElem?_eq_getElem (by omega)] at this ⊢
            exact this⟩
          rw [hr] at this
          cases this
    have done : ∀ (listed : Array Bool) (a : Act) (w : World) (dn rest : List Nat) (A : Act), (∀ j, j < ops.size → listed.getD j true = true) → SpineW P ops Q W rest A w → sp = dn ++ rest → (∀ i ∈ rest, listed.getD i true = false) →
        a.defers = A.defers → a.tmps.size = A.tmps.size → (∀ t, a.tmps.getD t undef = A.tmps.getD t undef ∨ ∃ j ∈ fl, listed.getD j true = false ∧ dstOf ops j = some t) → Q .normal a w := by
      intro listed a w dn rest A hall hS hdn hrest hd hs hrel
      cases rest with
      | cons i is =>
        have h1 := hrest i (.head _)
        rw [hall i (hspl i (by rw [hdn]; simp))] at h1
        cases h1
      | nil =>
        have h1 := putL_whole (ops := ops) A [] a hs hd (fun t => by
          rcases hrel t with h | ⟨j, hj, h1, _⟩
          · exact .inl h
          · rw [hall j (hfl j hj).1.1.2] at h1; cases h1)
        unfold putL at h1
        rw [h1]
        exact hS
    induction fuel with
    | zero =>
      intro listed a w dn rest A hsz hcnt hw hS hdn hdl hrest hd hs hs0 hv ho hC hrel
      have hall : ∀ j, j < ops.size → listed.getD j true = true := by
        intro j hj
        cases hl : listed.getD j true with
        | true => rfl
        | false =>
          have : j ∈ (List.range ops.size).filter fun j => !listed.getD j true := List.mem_filter.2 ⟨List.mem_range.2 hj, by simp only [hl]; rfl⟩
          rw [List.eq_nil_of_length_eq_zero (Nat.le_zero.1 hcnt)] at this
          cases this
      refine ⟨?_, done listed a w dn rest A hall hS hdn hrest hd hs hrel⟩
      apply List.eq_nil_iff_forall_not_mem.2
      intro j hj
      obtain ⟨h1, o, ho, _⟩ := mem_ready.1 hj
      have hlt : j < ops.size := (Array.getElem?_eq_some_iff.1 ho).1
      rw [hall j hlt] at h1
      cases h1
    | succ fuel ih =>
      intro listed a w dn rest A hsz hcnt hw hS hdn hdl hrest hd hs hs0 hv ho hC hrel
      refine ⟨fun hr => done listed a w dn rest A (allUp listed hsz hr) hS hdn hrest hd hs hrel, fun i hi => ?_⟩
      obtain ⟨hui, o, hoi, hall⟩ := mem_ready.1 hi
      have hlt : i < ops.size := (Array.getElem?_eq_some_iff.1 hoi).1
      have hlz : i < listed.size := by omega
      have hwt : ∀ j, waitsB ops i j = true → listed.getD j true = true := by
        intro j hj
        obtain ⟨o', ho', e, he, hb, rfl⟩ := waits_some hj
        rw [hoi] at ho'
        injection ho' with ho'
        subst ho'
        have h1 := hall e he hb
        rcases Nat.lt_or_ge e.on listed.size with hl | hl
        · rw [getT _ _ true false hl]
          exact h1
        · rw [Array.getD_eq_getD_getElem?, Array.getElem?_eq_none hl] at h1; cases h1
      have hset : ∀ j b, (listed.setIfInBounds i true).getD j b = if j = i then true else listed.getD j b := by
        intro j b
        rw [Array.getD_eq_getD_getElem?, Array.getD_eq_getD_getElem?, Array.getElem?_setIfInBounds]
        by_cases e : i = j
        · subst e; simp [hlz]
        · rw [if_neg e, if_neg (fun h => e h.symm)]
      have hcnt' : ((List.range ops.size).filter fun j => !(listed.setIfInBounds i true).getD j true).length ≤ fuel := by
        have := filter_less (p := fun j => !listed.getD j true) (q := fun j => !(listed.setIfInBounds i true).getD j true) (i := i) (l := List.range ops.size) (fun x hx => by
          rw [hset] at hx
          by_cases e : x = i
          · rw [if_pos e] at hx; cases hx
          · rw [if_neg e] at hx; exact hx) (List.mem_range.2 hlt) (by rw [hui]; rfl) (by rw [hset, if_pos rfl]; rfl)
        omega
      obtain ⟨d, hdo, hdlt, hdd⟩ := hdst i hlt
      have hops : operandsOf ops i = o.op.operands.toList.filterMap fun | .tmp t => some t | _ => none := by unfold operandsOf; rw [hoi]
      have hndf : match o.op with | .defer _ => False | .select .. => False | _ => True := regB_plain hreg hoi
      have hdo' : o.dst = some d := by unfold dstOf at hdo; rw [hoi] at hdo; exact hdo
      have hcong : ∀ B : Act, (∀ t ∈ operandsOf ops i, B.tmps.getD t undef = a.tmps.getD t undef) → execOp B.eval o = execOp a.eval o := by
        intro B hB
        refine execOp_congr o (fun cs b e => by rw [e] at hndf; exact hndf) fun x hx => ?_
        cases x with
        | tmp t => exact hB t (by rw [hops]; exact List.mem_filterMap.2 ⟨.tmp t, by simpa using hx, rfl⟩)
        | _ => rfl
      have hval : ∀ (B : Act) (v : Value), B.tmps.size = a0.tmps.size → valAt ops (B.put o.dst v) i = v := by
        intro B v hB
        unfold valAt
        rw [hdo, hdo']
        exact put_same _ _ _ (by rw [hB]; exact hdlt)
      by_cases hf1 : i ∈ fl
      · -- one that floats
        have hg := (hfl i hf1).1.2
        rw [hoi, Option.bind_some, Option.isNone_iff_eq_none] at hg
        obtain ⟨o3, ho3, hrun⟩ := hF i hf1 w hw
        rw [hoi] at ho3
        injection ho3 with ho3
        subst ho3
        have hA0a : ∀ t ∈ operandsOf ops i, (putL ops c fl a0).tmps.getD t undef = a.tmps.getD t undef := by
          intro t ht
          rcases hfo i hf1 t ht with h | h
          · rw [List.any_eq_true] at h
            obtain ⟨j, hj, h⟩ := h
            rw [Bool.and_eq_true, beq_iff_eq] at h
            have h1 := hA0 j hj
            have h2 := hv j hj
            unfold valAt at h1 h2
            rw [h.2] at h1 h2
            rcases hrel t with h3 | ⟨k, hk, h3, h4⟩
            · rw [h3]; exact h1.trans h2.symm
            · exfalso
              obtain ⟨dj, hdj, _, hdd2⟩ := hdst j (hfl j hj).1.1.2
              rw [h.2] at hdj
              injection hdj with hdj
              subst hdj
              have hkj : k = j := by
                apply Classical.byContradiction
                intro hne
                exact hdd2 k (hfl k hk).1.1.2 hne h4
              rw [hkj, hwt j h.1] at h3
              cases h3
          · have h' : ∀ j ∈ fl, dstOf ops j ≠ some t := fun j hj => by simpa using h.1 j hj
            rw [hout t h', ← ho t (fun j hj e => by
              rcases h.2 j (by rw [hdn]; exact List.mem_append_left _ hj) with h5 | h5
              · exact absurd e (by simpa using h5)
              · have := hC j hj i h5
                rw [hui] at this
                cases this) h']
            rcases hrel t with h3 | ⟨k, hk, _, h4⟩
            · exact h3.symm
            · exact absurd h4 (h' k hk)
        have hrun' : (execOp a.eval o).run P w = .ok (.value (c i)) w := by rw [← hcong _ hA0a]; exact hrun
        unfold wpOp
        rw [hoi]
        simp only [Region.wanted, hg, if_true]
        left
        unfold Oper.wp
        rw [hrun']
        simp only [Oper.upon]
        refine ih (listed.setIfInBounds i true) (a.put o.dst (c i)) w dn rest A (by simp [hsz]) hcnt' hw hS hdn (fun x hx => by rw [hset]; split; rfl; exact hdl x hx) ?_ ?_ (by rw [put_size, hs]) hs0 hv ho (fun j hj k hk => by rw [hset]; split; rfl; exact hC j hj k hk) ?_
        · intro x hx
          rw [hset, if_neg (fun e => hflsp i hf1 (by rw [hdn, ← e]; exact List.mem_append_right _ hx))]
          exact hrest x hx
        · rw [← hd]; cases o.dst <;> rfl
        · intro t
          by_cases e : dstOf ops i = some t
          · left
            have h2 := hv i hf1
            unfold valAt at h2
            rw [e] at h2
            rw [hdo] at e
            injection e with e
            subst e
            rw [hdo', put_same _ _ _ (by rw [hs, hs0]; exact hdlt)]
            exact h2.symm
          · rw [put_other _ _ _ _ (by rw [hdo', ← hdo]; exact e)]
            rcases hrel t with h3 | ⟨k, hk, h3, h4⟩
            · exact .inl h3
            · refine .inr ⟨k, hk, ?_, h4⟩
              rw [hset, if_neg (fun e2 => e (by rw [← e2]; exact h4))]
              exact h3
      · -- one of the row
        have hs1 : i ∈ sp := by
          rcases hcov i hlt with h | h
          · exact h
          · exact absurd h hf1
        have hhead : ∃ is, rest = i :: is := by
          have hmem : i ∈ dn ++ rest := by rw [← hdn]; exact hs1
          rcases List.mem_append.1 hmem with h | h
          · rw [hdl i h] at hui; cases hui
          · cases rest with
            | nil => cases h
            | cons x is =>
              by_cases e : i = x
              · exact ⟨is, by rw [e]⟩
              · exfalso
                have hmi : i ∈ is := by
                  rcases List.mem_cons.1 h with h | h
                  · exact absurd h e
                  · exact h
                obtain ⟨u, t, hut⟩ := List.append_of_mem hmi
                obtain ⟨pre, y, hy⟩ : ∃ pre y, x :: u = pre ++ [y] := ⟨(x :: u).dropLast, (x :: u).getLast (by simp), (List.dropLast_concat_getLast (by simp)).symm⟩
                have hsp2 : sp = (dn ++ pre) ++ y :: i :: t := by
                  rw [hdn, hut, ← List.cons_append, hy]
                  simp
                have hwy : waitsB ops i y = true := chain_at (d := dn ++ pre) (l := t) (by rw [← hsp2]; exact hch)
                have hyr : y ∈ x :: is := by
                  rw [hut, ← List.cons_append, hy]
                  simp
                have := hrest y hyr
                rw [hwt y hwy] at this
                cases this
        obtain ⟨is, rfl⟩ := hhead
        obtain ⟨o3, ho3, hg, hwp⟩ := hS
        rw [hoi] at ho3
        injection ho3 with ho3
        subst ho3
        have hAa : ∀ t ∈ operandsOf ops i, A.tmps.getD t undef = a.tmps.getD t undef := by
          intro t ht
          rcases hrel t with h3 | ⟨k, hk, h3, h4⟩
          · exact h3.symm
          · exfalso
            rcases hso i hs1 t ht k hk with h | h
            · exact absurd h4 (by simpa using h)
            · rw [hwt k h] at h3; cases h3
        unfold wpOp
        rw [hoi]
        simp only [Region.wanted, hg, if_true]
        left
        refine wp_two (hcong A hAa) hwp ?_
        rintro v w' ⟨hw', hS'⟩
        refine ih (listed.setIfInBounds i true) (a.put o.dst v) w' (dn ++ [i]) is (A.put o.dst v) (by simp [hsz]) hcnt' hw' hS' (by rw [hdn]; simp) (fun x hx => by
          rw [hset]
          split
          · rfl
          · rename_i hne
            rcases List.mem_append.1 hx with h | h
            · exact hdl x h
            · exact absurd (by simpa using h) hne) ?_ ?_ (by rw [put_size, put_size, hs]) (by rw [put_size, hs0]) ?_ ?_ ?_ ?_
        · intro x hx
          have hne : x ≠ i := by
            intro e
            subst e
            rw [hdn] at hnd
            have := (List.nodup_append.1 hnd).2.1
            exact (List.nodup_cons.1 this).1 hx
          rw [hset, if_neg hne]
          exact hrest x (.tail _ hx)
        · cases o.dst <;> exact hd
        · intro j hj
          rw [← hv j hj]
          unfold valAt
          cases hjd : dstOf ops j with
          | none => rfl
          | some dj =>
            simp only
            refine put_other _ _ _ _ ?_
            rw [hdo']
            intro e
            have hji : j ≠ i := fun e2 => hf1 (by rw [← e2]; exact hj)
            exact hdd j (hfl j hj).1.1.2 hji (by rw [hjd]; exact e.symm)
        · intro t ht ht2
          rw [put_other _ _ _ _ (by rw [hdo', ← hdo]; exact ht i (by simp))]
          exact ho t (fun j hj => ht j (List.mem_append_left _ hj)) ht2
        · intro j hj k hk
          rw [hset]
          split
          · rfl
          · rcases List.mem_append.1 hj with h | h
            · exact hC j h k hk
            · have : j = i := by simpa using h
              subst this
              exact hwt k hk
        · intro t
          by_cases e : o.dst = some t
          · left
            rw [e]
            rw [hdo'] at e
            injection e with e
            subst e
            rw [put_same _ _ _ (by rw [hs, hs0]; exact hdlt), put_same _ _ _ (by rw [hs0]; exact hdlt)]
          · rw [put_other _ _ _ _ e, put_other _ _ _ _ e]
            rcases hrel t with h3 | ⟨k, hk, h3, h4⟩
            · exact .inl h3
            · refine .inr ⟨k, hk, ?_, h4⟩
              rw [hset, if_neg (fun e2 => hf1 (by rw [← e2]; exact hk))]
              exact h3
  refine wp_region_any hm ?_
  refine main ops.size (Array.replicate ops.size false) a0 w0.drew [] sp (putL ops c fl a0) (by simp) ?_ hW fin rfl (fun x hx => by cases hx) ?_ (putL_defers c fl a0).symm (putL_size c fl a0).symm (putL_size c fl a0) hA0 (fun t _ h => hout t h) (fun j hj => by cases hj) ?_
  · exact Nat.le_trans (List.length_filter_le _ _) (by simp)
  · intro i hi
    rw [Array.getD_eq_getD_getElem?, Array.getElem?_eq_getElem (by simpa using hspl i hi)]
    simp
  · intro t
    by_cases e : ∃ j ∈ fl, dstOf ops j = some t
    · obtain ⟨j, hj, hjd⟩ := e
      refine .inr ⟨j, hj, ?_, hjd⟩
      rw [Array.getD_eq_getD_getElem?, Array.getElem?_eq_getElem (by simpa using (hfl j hj).1.1.2)]
      simp
    · left
      exact (slotO fl (List.all_eq_true.2 fun k hk => by
        have : dstOf ops k ≠ some t := fun h => e ⟨k, hk, h⟩
        simpa using this)).symm
def putA : List (Nat × Tmp × Value) → Act → Act
  | [], a => a
  | x :: l, a => putA l (a.put (some x.2.1) x.2.2)
def valOf (fl : List (Nat × Tmp × Value)) (i : Nat) : Value := ((fl.find? fun y => y.1 == i).map (·.2.2)).getD undef
theorem valOf_mem : ∀ (fl : List (Nat × Tmp × Value)), (fl.map (·.1)).Nodup → ∀ x ∈ fl, valOf fl x.1 = x.2.2
  | [], _, x, h => by cases h
  | y :: l, hn, x, h => by
    rw [List.map_cons, List.nodup_cons] at hn
    unfold valOf
    rw [List.find?_cons]
    by_cases e : y.1 = x.1
    · have hx : x = y := by
        rcases List.mem_cons.1 h with h | h
        · exact h
        · exact absurd (by rw [e]; exact List.mem_map_of_mem h) hn.1
      subst hx
      simp
    · have e2 : (y.1 == x.1) = false := by simpa using e
      rw [e2]
      simp only
      rcases List.mem_cons.1 h with h | h
      · exact absurd (by rw [h]) e
      · exact valOf_mem l hn.2 x h
theorem putL_putA (c : Nat → Value) : ∀ (fl : List (Nat × Tmp × Value)) (a : Act), (∀ x ∈ fl, c x.1 = x.2.2 ∧ dstOf ops x.1 = some x.2.1) → putL ops c (fl.map (·.1)) a = putA fl a
  | [], a, _ => rfl
  | x :: l, a, h => by
    rw [List.map_cons]
    unfold putL putA
    rw [(h x (.head _)).1, (h x (.head _)).2]
    exact putL_putA c l _ fun y hy => h y (.tail _ hy)
end
end Go.Proofs.Ytaminpfgkegibaa
/- A region whose last but one operation waits for all others, and whose last one waits for that: by facts for the others, and then those two. No conditions. -/
namespace Go.Proofs.Ytaminpfgkegibaa
set_option linter.unusedVariables false
set_option linter.unusedSimpArgs false
open Go.RowKit
section
variable {P : Program} {ops : Array Oper} {Q : Exit → Act → World → Prop} {G : World → World → Prop} {F : Nat → Value → World → Prop} {a0 : Act} {w0 : World}
def regT2B (ops : Array Oper) (m size : Nat) : Bool :=
  ops.size == m + 2 && ((List.range m).all fun j => waitsB ops m j || (List.range m).any fun k => decide (j < k) && waitsB ops k j) && ((List.range (m + 2)).all fun i => eldB ops i) && ((List.range m).all fun i => ownB ops m size i) && waitsB ops (m + 1) m
theorem region_tail2 {id m : Nat} (hm : P.follows .mixedOrders = true) (hrefl : G w0 w0.drew) (htrans : ∀ a b c, G a b → G b c → G a c) (hmono : ∀ j, j < m → ∀ v a b, F j v a → G a b → F j v b)
    (hreg : regT2B ops m a0.tmps.size = true) (howes : ∀ i, i < m → Owes P ops Q G F a0 w0 i)
    (fin : ∀ (vals : Nat → Value) (w : World), G w0 w → (∀ j, j < m → F j (vals j) w) → wpOp P ops Q m (fun a w => wpOp P ops Q (m + 1) (fun a w => Q .normal a w) a w) (putL ops vals (List.range m) a0) w) :
    (Code.region id ops true).wp P Q a0 w0 := by
  unfold regT2B at hreg
  simp only [Bool.and_eq_true, beq_iff_eq, List.all_eq_true, List.mem_range] at hreg
  obtain ⟨⟨⟨⟨hsize, hwaits⟩, held⟩, hown⟩, hlast⟩ := hreg
  have getT : ∀ (l : Array Bool) (k : Nat) (b c : Bool), k < l.size → l.getD k b = l.getD k c := by
    intro l k b c hk
    rw [Array.getD_eq_getD_getElem?, Array.getD_eq_getD_getElem?, Array.getElem?_eq_getElem hk]; rfl
  have main : ∀ (fuel : Nat) (listed : Array Bool) (a : Act) (w : World), listed.size = ops.size → listed.getD m true = false → listed.getD (m + 1) true = false →
      ((List.range ops.size).filter fun j => !listed.getD j true).length ≤ fuel →
      G w0 w → a.defers = a0.defers → a.tmps.size = a0.tmps.size →
      (∀ j, j < m → listed.getD j true = true → F j (valAt ops a j) w) →
      (∀ t, (∀ j, j < m → listed.getD j true = true → dstOf ops j ≠ some t) → a.tmps.getD t undef = a0.tmps.getD t undef) →
      (∀ j, j < m → listed.getD j true = true → ∀ k, waitsB ops j k = true → listed.getD k false = true) →
      wpAny P .any ops Q fuel listed a w := by
    intro fuel
    induction fuel with
    | zero =>
      intro listed a w hsz hun hun2 hcnt
      exfalso
      have : m ∈ (List.range ops.size).filter fun j => !listed.getD j true := List.mem_filter.2 ⟨List.mem_range.2 (by omega), by simp only [hun]; rfl⟩
      rw [List.eq_nil_of_length_eq_zero (Nat.le_zero.1 hcnt)] at this
      cases this
    | succ fuel ih =>
      intro listed a w hsz hun hun2 hcnt hG hd hs hF hR hC
      refine ⟨fun hr => ?_, fun i hi => ?_⟩
      · exfalso
        have up : ∀ j, j < m + 2 → listed.getD j true = true := by
          intro j
          induction j using Nat.strongRecOn with
          | ind j ihj =>
            intro hj
            cases hl : listed.getD j true with
            | true => rfl
            | false =>
              exfalso
              obtain ⟨o, ho, he⟩ := eldB_out (held j hj)
              have : j ∈ Region.ready .any ops listed := mem_ready.2 ⟨hl, o, ho, fun e hem hb => by
                have hlt := he e hem hb
                rw [getT _ _ false true (by omega)]
                exact ihj e.on hlt (by omega)⟩
              rw [hr] at this
              cases this
        rw [up m (by omega)] at hun
        cases hun
      · obtain ⟨hui, o, ho, hall⟩ := mem_ready.1 hi
        have hlt : i < ops.size := (Array.getElem?_eq_some_iff.1 ho).1
        have hlz : i < listed.size := by omega
        have hw : ∀ j, waitsB ops i j = true → j < ops.size ∧ listed.getD j true = true := by
          intro j hj
          obtain ⟨o', ho', e, he, hb, rfl⟩ := waits_some hj
          rw [ho] at ho'
          injection ho' with ho'
          subst ho'
          have h1 := hall e he hb
          rcases Nat.lt_or_ge e.on listed.size with hl | hl
          · refine ⟨by omega, ?_⟩
            rw [getT _ _ true false hl]
            exact h1
          · rw [Array.getD_eq_getD_getElem?, Array.getElem?_eq_none hl] at h1; cases h1
        have hset : ∀ j b, (listed.setIfInBounds i true).getD j b = if j = i then true else listed.getD j b := by
          intro j b
          rw [Array.getD_eq_getD_getElem?, Array.getD_eq_getD_getElem?, Array.getElem?_setIfInBounds]
          by_cases e : i = j
          · subst e; simp [hlz]
          · rw [if_neg e, if_neg (fun h => e h.symm)]
        by_cases him : i = m
        · subst him
          have hall2 : ∀ n j, j < i → i - j ≤ n → listed.getD j true = true := by
            intro n
            induction n with
            | zero => intro j hj hn; omega
            | succ n ihn =>
              intro j hj hn
              have h1 := hwaits j hj
              rw [Bool.or_eq_true] at h1
              rcases h1 with h1 | h1
              · exact (hw j h1).2
              · rw [List.any_eq_true] at h1
                obtain ⟨k, hk, hkj⟩ := h1
                rw [Bool.and_eq_true, decide_eq_true_eq] at hkj
                have hki := List.mem_range.1 hk
                rw [getT _ _ true false (by omega)]
                exact hC k hki (ihn k hki (by omega)) j hkj.2
          have hall' : ∀ j, j < i → listed.getD j true = true := fun j hj => hall2 (i - j) j hj (Nat.le_refl _)
          have h1 := fin (valAt ops a) w hG (fun j hj => hF j hj (hall' j hj))
          rw [putL_whole a (List.range i) a0 hs.symm hd.symm] at h1
          · refine wpOp_mono (fun a' w' hq => ?_) h1
            have hset2 : ∀ j, j < ops.size → j ≠ i + 1 → (listed.setIfInBounds i true).getD j true = true := fun j hj hne => by
              rw [hset]
              by_cases e : j = i
              · rw [if_pos e]
              · rw [if_neg e]; exact hall' j (by omega)
            have hun3 : (listed.setIfInBounds i true).getD (i + 1) true = false := by rw [hset, if_neg (by omega)]; exact hun2
            obtain ⟨f1, rfl⟩ : ∃ f, fuel = f + 1 := by
              have h2 : ((List.range ops.size).filter fun j => !listed.getD j true).length ≤ fuel + 1 := hcnt
              have h4 := List.Nodup.length_le_of_subset (l₁ := [i, i + 1]) (l₂ := (List.range ops.size).filter fun j => !listed.getD j true) (by simp) (fun x hx => by
                simp only [List.mem_cons, List.not_mem_nil, or_false] at hx
                rcases hx with rfl | rfl
                · exact List.mem_filter.2 ⟨List.mem_range.2 (by omega), by simp only [hun]; rfl⟩
                · exact List.mem_filter.2 ⟨List.mem_range.2 (by omega), by simp only [hun2]; rfl⟩)
              simp only [List.length_cons, List.length_nil] at h4
              exact ⟨fuel - 1, by omega⟩
            obtain ⟨o2, ho2, he2⟩ := eldB_out (held (i + 1) (by omega))
            have hrd : i + 1 ∈ Region.ready .any ops (listed.setIfInBounds i true) := mem_ready.2 ⟨hun3, o2, ho2, fun e hem hb => by
              have hlt2 := he2 e hem hb
              rw [getT _ _ false true (by simp only [Array.size_setIfInBounds]; omega)]
              exact hset2 e.on (by omega) (by omega)⟩
            refine ⟨fun hr => ?_, fun k hk => ?_⟩
            · exfalso
              rw [hr] at hrd
              cases hrd
            · obtain ⟨h2, o3, ho3, _⟩ := mem_ready.1 hk
              have hkl : k < ops.size := (Array.getElem?_eq_some_iff.1 ho3).1
              have hki : k = i + 1 := by
                by_cases e : k = i + 1
                · exact e
                · rw [hset2 k hkl e] at h2; cases h2
              subst hki
              refine wpOp_mono (fun a2 w2 hq2 => ?_) hq
              refine wpAny_done ?_ hq2 f1
              apply List.eq_nil_iff_forall_not_mem.2
              intro j hj
              obtain ⟨h5, o5, ho5, _⟩ := mem_ready.1 hj
              have hj2 : j < ops.size := (Array.getElem?_eq_some_iff.1 ho5).1
              rw [Array.getD_eq_getD_getElem?, Array.getElem?_setIfInBounds] at h5
              by_cases e : i + 1 = j
              · subst e
                rw [if_pos rfl] at h5
                simp [hsz, hj2] at h5
              · rw [if_neg e, ← Array.getD_eq_getD_getElem?, hset2 j hj2 (fun h => e h.symm)] at h5; cases h5
          · intro t
            by_cases e : ∃ j, j < i ∧ dstOf ops j = some t
            · obtain ⟨j, hj, hjd⟩ := e
              exact .inr ⟨j, List.mem_range.2 hj, hjd⟩
            · left
              exact (hR t fun j hj _ he => e ⟨j, hj, he⟩).symm
        · have him2 : i ≠ m + 1 := fun e => by
            subst e
            have h9 := (hw m hlast).2
            rw [hun] at h9; cases h9
          have hi' : i < m := by omega
          obtain ⟨d, hdo, hdl, hdd⟩ := ownB_out (hown i hi')
          have hwm : ∀ j, waitsB ops i j = true → j < m := by
            intro j hj
            obtain ⟨o', ho', e, he, hb, rfl⟩ := waits_some hj
            obtain ⟨o2, ho2, he2⟩ := eldB_out (held i (by omega))
            rw [ho'] at ho2
            injection ho2 with ho2
            subst ho2
            have := he2 e he hb
            omega
          have hstep := howes i hi' a w hG hd hs (fun j hj => hF j (hwm j hj) (hw j hj).2) (fun t ht => hR t fun j hj hl he => by
            have h1 := hC j hj hl i (ht j he)
            rw [getT _ _ false true hlz, hui] at h1
            cases h1)
          refine wpOp_mono ?_ hstep
          rintro a' w' ⟨v, rfl, hg, hf⟩
          rw [hdo]
          refine ih (listed.setIfInBounds i true) (a.put (some d) v) w' (by simp [hsz]) (by rw [hset, if_neg (fun h => him h.symm)]; exact hun) (by rw [hset, if_neg (fun h => him2 h.symm)]; exact hun2) ?_ (htrans _ _ _ hG hg) (by exact hd) (by rw [put_size, hs]) ?_ ?_ ?_
          · have := filter_less (p := fun j => !listed.getD j true) (q := fun j => !(listed.setIfInBounds i true).getD j true) (i := i) (l := List.range ops.size) (fun x hx => by
              rw [hset] at hx
              by_cases e : x = i
              · rw [if_pos e] at hx; cases hx
              · rw [if_neg e] at hx; exact hx) (List.mem_range.2 hlt) (by rw [hui]; rfl) (by rw [hset, if_pos rfl]; rfl)
            omega
          · intro j hj hl
            by_cases e : j = i
            · subst e
              unfold valAt
              rw [hdo]
              simp only
              rw [put_same _ _ _ (by rw [hs]; exact hdl)]
              exact hf
            · rw [hset, if_neg e] at hl
              have h1 := hmono j hj _ _ _ (hF j hj hl) hg
              have h2 : valAt ops (a.put (some d) v) j = valAt ops a j := by
                unfold valAt
                have hne := hdd j hj e
                cases hjd : dstOf ops j with
                | none => rfl
                | some dj =>
                  simp only
                  exact put_other _ _ _ _ (fun h => hne (by rw [hjd]; exact h.symm))
              rw [h2]
              exact h1
          · intro t ht
            have h1 : some d ≠ some t := fun h => ht i hi' (by rw [hset, if_pos rfl]) (by rw [hdo]; exact h)
            rw [put_other _ _ _ _ h1]
            exact hR t fun j hj hl => ht j hj (by rw [hset]; split <;> simp_all)
          · intro j hj hl k hk
            rw [hset]
            by_cases e : k = i
            · rw [if_pos e]
            · rw [if_neg e]
              by_cases e2 : j = i
              · subst e2
                have h1 := hw k hk
                rw [getT _ _ false true (by omega)]
                exact h1.2
              · rw [hset, if_neg e2] at hl
                exact hC j hj hl k hk
  refine wp_region_any hm ?_
  refine main ops.size (Array.replicate ops.size false) a0 w0.drew (by simp) ?_ ?_ ?_ hrefl rfl rfl ?_ ?_ ?_
  · rw [Array.getD_eq_getD_getElem?, Array.getElem?_eq_getElem (by simp; omega)]
    simp
  · rw [Array.getD_eq_getD_getElem?, Array.getElem?_eq_getElem (by simp; omega)]
    simp
  · exact Nat.le_trans (List.length_filter_le _ _) (by simp)
  · intro j hj hl
    rw [Array.getD_eq_getD_getElem?, Array.getElem?_eq_getElem (by simp; omega)] at hl
    simp at hl
  · intro t _; rfl
  · intro j hj hl
    rw [Array.getD_eq_getD_getElem?, Array.getElem?_eq_getElem (by simp; omega)] at hl
    simp at hl
/-- region_tail2, by lists. -/
theorem region_by_tail2 {id m : Nat} (Fs : List (Value → World → Prop)) (ds : List Tmp)
    (hm : P.follows .mixedOrders = true) (hrefl : G w0 w0.drew) (htrans : ∀ a b c, G a b → G b c → G a c)
    (hreg : regT2B ops m a0.tmps.size = true) (hds : (List.range' 0 m).map (dstOf ops) = ds.map some)
    (hmono : ∀ f ∈ Fs, ∀ v a b, f v a → G a b → f v b)
    (howes : AllN (Owes P ops Q G (fun j => Fs.getD j fun _ _ => True) a0 w0) m 0)
    (fin : ∀ (vals : Nat → Value) (w : World), G w0 w → (∀ j, j < m → (Fs.getD j fun _ _ => True) (vals j) w) → wpOp P ops Q m (fun a w => wpOp P ops Q (m + 1) (fun a w => Q .normal a w) a w) (putD vals ds 0 a0) w) :
    (Code.region id ops true).wp P Q a0 w0 := by
  refine region_tail2 (m := m) hm hrefl htrans ?_ hreg (fun i hi => howes.at_ _ _ i (by omega) (by omega)) ?_
  · intro j _ v a b h g
    rw [List.getD_eq_getElem?_getD] at h ⊢
    cases hj : Fs[j]? with
    | none => rw [hj] at h; exact trivial
    | some f => rw [hj] at h; exact hmono f (List.mem_of_getElem? hj) v a b h g
  · intro vals w hG hF
    rw [List.range_eq_range', putD_eq vals ds m 0 a0 hds]
    exact fin vals w hG hF
/-- The last but one, by what it does alone; the last one behind it. -/
theorem next_spine {m : Nat} {K : Act → World → Prop} {d : Option Tmp} {op : Op} {type : TypeId} {a : Act} {w : World} (ho : (ops[m]?).map (fun o => (o.op, o.type)) = some (op, type)) (hdo : (ops[m]?).map (·.dst) = some d) (hg : (ops[m]?).bind (·.guard) = none)
    (h : wpList P #[{ dst := d, op, type, pos := "", after := #[], guard := none }] (SpineQ a.defers (fun _ => True) K) [{ dst := d, op, type, pos := "", after := #[], guard := none }] a w) : wpOp P ops Q m K a w := by
  cases hi : ops[m]? with
  | none => rw [hi] at ho; cases ho
  | some o =>
    rw [hi] at ho hdo hg
    obtain ⟨dst, op', type', pos, after, guard⟩ := o
    simp only [Option.map_some, Option.some.injEq, Prod.mk.injEq] at ho hdo
    obtain ⟨rfl, rfl⟩ := ho
    subst hdo
    simp only [Option.bind_some] at hg
    subst hg
    unfold wpOp
    rw [hi]
    unfold wpList at h
    simp only [Region.wanted, if_true] at h ⊢
    left
    have he : execOp a.eval { dst, op := op', type := type', pos, after, guard := none } = execOp a.eval { dst, op := op', type := type', pos := "", after := #[], guard := none } := by
      cases op' <;> rfl
    rcases h with h | ⟨_, h2⟩
    · unfold Oper.wp at h ⊢
      rw [he]
      generalize (execOp a.eval { dst, op := op', type := type', pos := "", after := #[], guard := none }).run P w = r at *
      cases r with
      | ok n w' =>
        cases n <;> simp only [Oper.upon, wpList] at h ⊢
        case value u => exact h.2.2
        case skip => exact h.2.2
        case defer u => exact h.2.2
        case enter f args =>
          refine Calls.mono h fun e w'' he => ?_
          cases e with
          | returned u => exact he.2.2
          | panicked c => exact he.elim
          | outgrown => obtain ⟨_, _, hf⟩ := he; exact hf.elim
        case row row args => exact Rows.mono h fun u w'' he => he.2.2
      | halt x w' =>
        cases x <;> simp only [Oper.upon] at h ⊢
        case panic u => exact h.elim
    · obtain ⟨_, _, h3⟩ := h2
      exact h3.elim
theorem wpOp_weak {m : Nat} {K K2 : Act → World → Prop} {a : Act} {w : World} (h : wpOp P ops Q m K a w) (hk : ∀ a w, K a w → K2 a w) : wpOp P ops Q m K2 a w := wpOp_mono (fun a w => hk a w) h
theorem next_spine2 {m n : Nat} {d d2 : Option Tmp} {op op2 : Op} {type type2 : TypeId} {a : Act} {w : World} (ho : (ops[m]?).map (fun o => (o.op, o.type)) = some (op, type)) (hdo : (ops[m]?).map (·.dst) = some d) (hg : (ops[m]?).bind (·.guard) = none)
    (ho2 : (ops[n]?).map (fun o => (o.op, o.type)) = some (op2, type2)) (hdo2 : (ops[n]?).map (·.dst) = some d2) (hg2 : (ops[n]?).bind (·.guard) = none)
    (h : wpList P #[{ dst := d, op, type, pos := "", after := #[], guard := none }] (SpineQ a.defers (fun _ => True) (fun a w => wpList P #[{ dst := d2, op := op2, type := type2, pos := "", after := #[], guard := none }] Q [{ dst := d2, op := op2, type := type2, pos := "", after := #[], guard := none }] a w)) [{ dst := d, op, type, pos := "", after := #[], guard := none }] a w) :
    wpOp P ops Q m (fun a w => wpOp P ops Q n (fun a w => Q .normal a w) a w) a w :=
  wpOp_weak (next_spine ho hdo hg h) fun _ _ h => last_list ho2 hdo2 hg2 h
end
end Go.Proofs.Ytaminpfgkegibaa
/- The document's Found; regions of its Space. Conditions: right objects. -/
namespace Go.Proofs.Ytaminpfgkegibaa
set_option linter.unusedVariables false
set_option linter.unusedSimpArgs false
open Go.RowKit Go.Maps
set_option maxHeartbeats 4000000
set_option maxRecDepth 100000
/-- A new row of one finding. -/
def PFv (la B : Nat) (v : Value) (w : World) : Prop := ∃ q, v = .slice (some ⟨q, 0, none⟩) 1 1 ∧ B ≤ q ∧ Bk w q 76 #[.int .i64 (la : Int), .string ⟨#[112, 97, 100]⟩]
theorem PFv.mono {la B : Nat} {v : Value} {a b : World} (h : PFv la B v a) (g : Below a.heap.size a b) : PFv la B v b := by
  obtain ⟨q, e, hq, h⟩ := h
  exact ⟨q, e, hq, h.below g h.lt⟩
end Go.Proofs.Ytaminpfgkegibaa
/- The document's Found, of right objects. Conditions: lengths. -/
namespace Go.Proofs.Ytaminpfgkegibaa
set_option linter.unusedVariables false
set_option linter.unusedSimpArgs false
open Go.RowKit Go.Maps
set_option maxHeartbeats 4000000
set_option maxRecDepth 100000
end Go.Proofs.Ytaminpfgkegibaa
/- The document's Space, of right objects. Conditions: lengths. -/
namespace Go.Proofs.Ytaminpfgkegibaa
set_option linter.unusedVariables false
set_option linter.unusedSimpArgs false
open Go.RowKit Go.Maps
set_option maxHeartbeats 8000000
set_option maxRecDepth 100000
end Go.Proofs.Ytaminpfgkegibaa
