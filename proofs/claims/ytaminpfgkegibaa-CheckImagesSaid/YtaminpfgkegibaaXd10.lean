/- Texts joined: CkF CkG CkX CrB CrC FiB CkV CkH. -/
import Derived.Test.YtaminpfgkegibaaXd9
import Derived.Test.YtaminpfgkegibaaFiC
import Derived.LoopTactic
/- check.look: its regions; one object more. Conditions: lengths. -/
namespace Go.Proofs.Ytaminpfgkegibaa
set_option linter.unusedVariables false
set_option linter.unusedSimpArgs false
open Go.RowKit Go.Maps
set_option maxHeartbeats 2000000
set_option maxRecDepth 100000
theorem lo5a (Q : Exit → Act → World → Prop) (a0 : Act) (w : World) (H : Nat) (er : Int) (he : ¬ er = 0) (hsz : a0.tmps.size = 69) (sl6 : a0.tmps.getD 6 undef = .int .i64 er)
    (fin : ∀ (vals : Nat → Value) (w1 : World), Below w.heap.size w w1 → (IsV (.bool true)) (vals 16) w1 → Q .normal (putD vals [27, 28, 29, 30, 31, 32, 33, 34, 35, 36, 37, 38, 39, 40, 41, 42, 43] 0 a0) w1) :
    (Code.region 5 (regIn Try.f22 5) true).wp Try.prog Q a0 w := by
  refine region_by (G := fun w w1 => Below w.heap.size w w1) [IsV (.int .i64 er),
    IsV (.bool true),
    IsV (.bool true),
    IsV undef,
    IsV undef,
    IsV (.bool true),
    IsV (.bool true),
    IsV undef,
    IsV undef,
    IsV undef,
    IsV undef,
    IsV undef,
    IsV undef,
    IsV undef,
    IsV undef,
    IsV undef,
    IsV (.bool true)]
    [27, 28, 29, 30, 31, 32, 33, 34, 35, 36, 37, 38, 39, 40, 41, 42, 43] (by kernel_rfl) (Gw.drew _) Gw.trans (by rw [hsz]; kernel_rfl) (by kernel_rfl) ?_ ?_ ?_
  · intro f hf
    simp only [List.mem_cons, List.not_mem_nil, or_false] at hf
    rcases hf with rfl | rfl | rfl | rfl | rfl | rfl | rfl | rfl | rfl | rfl | rfl | rfl | rfl | rfl | rfl | rfl | rfl <;> intro v a b h g <;> first | exact IsV.mono h
  · refine ⟨?_, ?_, ?_, ?_, ?_, ?_, ?_, ?_, ?_, ?_, ?_, ?_, ?_, ?_, ?_, ?_, ?_, trivial⟩
    · exact owes_mv 6 (by kernel_rfl) (by kernel_rfl) (by kernel_rfl) sl6 (fun _ => rfl)
    · refine owes_v (Go.Op.binOp Go.BinOp.neq 30 (Go.Operand.tmp 27) (Go.Operand.const (Go.Value.int Go.IntKind.i64 0)) 30) 4 [0] (by kernel_rfl) (by kernel_rfl) (by kernel_rfl) rfl fun vals w1 ρ hG hF hρ hcst hfun => ?_
      have e27 : ρ (.tmp 27) = .int .i64 er := ((hρ 27).trans (slotJ [0] (by rw [hsz]; decide) (by kernel_rfl))).trans (hF 0 (by decide))
      clear hρ hF hfun sl6 fin
      exact opv_val (by go_simp <;> rfl) ⟨gw_self _, rfl⟩
    · exact owes_mvj 1 28 (by kernel_rfl) (by kernel_rfl) (by kernel_rfl) (by kernel_rfl) (by rw [hsz]; decide) (fun v w h => h)
    · exact owes_no 2 true false (by decide) (by kernel_rfl) (by kernel_rfl) (fun _ _ h => h) (by rw [hsz]; kernel_rfl) (fun _ => rfl)
    · exact owes_no 2 true false (by decide) (by kernel_rfl) (by kernel_rfl) (fun _ _ h => h) (by rw [hsz]; kernel_rfl) (fun _ => rfl)
    · refine owes_v (Go.Op.pick (Go.Operand.tmp 29) (Go.Operand.const (Go.Value.bool true)) (Go.Operand.tmp 31)) 4 [2, 4] (by kernel_rfl) (by kernel_rfl) (by kernel_rfl) rfl fun vals w1 ρ hG hF hρ hcst hfun => ?_
      have e29 : ρ (.tmp 29) = .bool true := ((hρ 29).trans (slotJ [2, 4] (by rw [hsz]; decide) (by kernel_rfl))).trans (hF 2 (by decide))
      have e31 : ρ (.tmp 31) = undef := ((hρ 31).trans (slotJ [2, 4] (by rw [hsz]; decide) (by kernel_rfl))).trans (hF 4 (by decide))
      clear hρ hF hfun sl6 fin
      exact opv_val (by go_simp <;> rfl) ⟨gw_self _, rfl⟩
    · exact owes_mvj 5 32 (by kernel_rfl) (by kernel_rfl) (by kernel_rfl) (by kernel_rfl) (by rw [hsz]; decide) (fun v w h => h)
    · exact owes_no 6 true false (by decide) (by kernel_rfl) (by kernel_rfl) (fun _ _ h => h) (by rw [hsz]; kernel_rfl) (fun _ => rfl)
    · exact owes_no 6 true false (by decide) (by kernel_rfl) (by kernel_rfl) (fun _ _ h => h) (by rw [hsz]; kernel_rfl) (fun _ => rfl)
    · exact owes_no 6 true false (by decide) (by kernel_rfl) (by kernel_rfl) (fun _ _ h => h) (by rw [hsz]; kernel_rfl) (fun _ => rfl)
    · exact owes_no 6 true false (by decide) (by kernel_rfl) (by kernel_rfl) (fun _ _ h => h) (by rw [hsz]; kernel_rfl) (fun _ => rfl)
    · exact owes_no 6 true false (by decide) (by kernel_rfl) (by kernel_rfl) (fun _ _ h => h) (by rw [hsz]; kernel_rfl) (fun _ => rfl)
    · exact owes_no 6 true false (by decide) (by kernel_rfl) (by kernel_rfl) (fun _ _ h => h) (by rw [hsz]; kernel_rfl) (fun _ => rfl)
    · exact owes_no 6 true false (by decide) (by kernel_rfl) (by kernel_rfl) (fun _ _ h => h) (by rw [hsz]; kernel_rfl) (fun _ => rfl)
    · exact owes_no 6 true false (by decide) (by kernel_rfl) (by kernel_rfl) (fun _ _ h => h) (by rw [hsz]; kernel_rfl) (fun _ => rfl)
    · exact owes_no 6 true false (by decide) (by kernel_rfl) (by kernel_rfl) (fun _ _ h => h) (by rw [hsz]; kernel_rfl) (fun _ => rfl)
    · refine owes_v (Go.Op.pick (Go.Operand.tmp 33) (Go.Operand.const (Go.Value.bool true)) (Go.Operand.tmp 42)) 4 [6, 15] (by kernel_rfl) (by kernel_rfl) (by kernel_rfl) rfl fun vals w1 ρ hG hF hρ hcst hfun => ?_
      have e33 : ρ (.tmp 33) = .bool true := ((hρ 33).trans (slotJ [6, 15] (by rw [hsz]; decide) (by kernel_rfl))).trans (hF 6 (by decide))
      have e42 : ρ (.tmp 42) = undef := ((hρ 42).trans (slotJ [6, 15] (by rw [hsz]; decide) (by kernel_rfl))).trans (hF 15 (by decide))
      clear hρ hF hfun sl6 fin
      exact opv_val (by go_simp <;> rfl) ⟨gw_self _, rfl⟩
  · intro vals w1 hG hF
    exact fin vals w1 hG (hF 16 (by decide +kernel))
theorem lo5c (Q : Exit → Act → World → Prop) (a0 : Act) (w : World) (H s a t : Nat) (P n sz : Int) (r : Bool) (hH : H < w.heap.size) (hs : s < w.heap.size) (g0 : w.cell? ⟨H, 0, none⟩ = some (.int .i64 P)) (g1 : w.cell? ⟨H, 1, none⟩ = some (.int .i64 n)) (g2 : w.cell? ⟨H, 2, none⟩ = some (.bool false)) (g3 : w.cell? ⟨H, 3, none⟩ = some (.int .i64 0)) (d2 : w.cell? ⟨s, 2, none⟩ = some (.int .i64 (t : Int))) (ha : (a : Int) < (t : Int)) (ht : (t : Int) ≤ 8192) (qa : (0 : Int) ≤ (a : Int)) (hr : decide ((t : Int) - (a : Int) < sz) = r) (hp : Hid (∀ W, Calls Try.prog 48 #[.agg #[.int .i64 P, .int .i64 n, .bool false, .int .i64 0]] W (RetP (.int .i64 sz) W))) (hsz : a0.tmps.size = 69) (sl0 : a0.tmps.getD 0 undef = .pointer (some ⟨s, 0, none⟩)) (sl4 : a0.tmps.getD 4 undef = .int .i64 (a : Int)) (sl5 : a0.tmps.getD 5 undef = .pointer (some ⟨H, 0, none⟩)) (sl6 : a0.tmps.getD 6 undef = .int .i64 0)
    (fin : ∀ (vals : Nat → Value) (w1 : World), Below w.heap.size w w1 → (IsV (.bool r)) (vals 16) w1 → Q .normal (putD vals [27, 28, 29, 30, 31, 32, 33, 34, 35, 36, 37, 38, 39, 40, 41, 42, 43] 0 a0) w1) :
    (Code.region 5 (regIn Try.f22 5) true).wp Try.prog Q a0 w := by
  refine region_by (G := fun w w1 => Below w.heap.size w w1) [IsV (.int .i64 0),
    IsV (.bool false),
    IsV (.bool false),
    IsV (.pointer (some ⟨H, 2, none⟩)),
    IsV (.bool false),
    IsV (.bool false),
    IsV (.bool false),
    IsV (.agg #[.int .i64 P, .int .i64 n, .bool false, .int .i64 0]),
    IsV (.int .i64 sz),
    IsV (.pointer (some ⟨s, 0, none⟩)),
    IsV (.pointer (some ⟨s, 0, none⟩)),
    IsV (.pointer (some ⟨s, 2, none⟩)),
    IsV (.int .i64 (t : Int)),
    IsV (.int .i64 (a : Int)),
    IsV (.int .i64 ((t : Int) - (a : Int))),
    IsV (.bool r),
    IsV (.bool r)]
    [27, 28, 29, 30, 31, 32, 33, 34, 35, 36, 37, 38, 39, 40, 41, 42, 43] (by kernel_rfl) (Gw.drew _) Gw.trans (by rw [hsz]; kernel_rfl) (by kernel_rfl) ?_ ?_ ?_
  · intro f hf
    simp only [List.mem_cons, List.not_mem_nil, or_false] at hf
    rcases hf with rfl | rfl | rfl | rfl | rfl | rfl | rfl | rfl | rfl | rfl | rfl | rfl | rfl | rfl | rfl | rfl | rfl <;> intro v a b h g <;> first | exact IsV.mono h
  · refine ⟨?_, ?_, ?_, ?_, ?_, ?_, ?_, ?_, ?_, ?_, ?_, ?_, ?_, ?_, ?_, ?_, ?_, trivial⟩
    · exact owes_mv 6 (by kernel_rfl) (by kernel_rfl) (by kernel_rfl) sl6 (fun _ => rfl)
    · refine owes_v (Go.Op.binOp Go.BinOp.neq 30 (Go.Operand.tmp 27) (Go.Operand.const (Go.Value.int Go.IntKind.i64 0)) 30) 4 [0] (by kernel_rfl) (by kernel_rfl) (by kernel_rfl) rfl fun vals w1 ρ hG hF hρ hcst hfun => ?_
      have e27 : ρ (.tmp 27) = .int .i64 0 := ((hρ 27).trans (slotJ [0] (by rw [hsz]; decide) (by kernel_rfl))).trans (hF 0 (by decide))
      clear hρ hF hfun sl0 sl4 sl5 sl6 fin
      exact opv_val (by go_simp <;> rfl) ⟨gw_self _, rfl⟩
    · exact owes_mvj 1 28 (by kernel_rfl) (by kernel_rfl) (by kernel_rfl) (by kernel_rfl) (by rw [hsz]; decide) (fun v w h => h)
    · refine owes_vt 2 false (Go.Op.fieldAddr 111 (Go.Operand.tmp 5) 2) 0 [] (by kernel_rfl) (by kernel_rfl) (by kernel_rfl) (fun _ _ h => h) (by rw [hsz]; kernel_rfl) (by kernel_rfl) rfl fun vals w1 ρ hG hF hρ hcst hfun => ?_
      have e5 : ρ (.tmp 5) = .pointer (some ⟨H, 0, none⟩) := ((hρ 5).trans (slotO [] (by kernel_rfl))).trans sl5
      clear hρ hF hcst hfun sl0 sl4 sl5 sl6 fin
      exact opv_val (by go_simp <;> rfl) ⟨gw_self _, rfl⟩
    · refine owes_vt 2 false (Go.Op.load 4 (Go.Operand.tmp 30)) 4 [3] (by kernel_rfl) (by kernel_rfl) (by kernel_rfl) (fun _ _ h => h) (by rw [hsz]; kernel_rfl) (by kernel_rfl) rfl fun vals w1 ρ hG hF hρ hcst hfun => ?_
      have e30 : ρ (.tmp 30) = .pointer (some ⟨H, 2, none⟩) := ((hρ 30).trans (slotJ [3] (by rw [hsz]; decide) (by kernel_rfl))).trans (hF 3 (by decide))
      have k := (hG.cell (p := ⟨H, 2, none⟩) hH).trans g2
      clear hρ hF hcst hfun sl0 sl4 sl5 sl6 fin
      exact opv_val (by go_simp <;> rfl) ⟨gw_self _, rfl⟩
    · refine owes_v (Go.Op.pick (Go.Operand.tmp 29) (Go.Operand.const (Go.Value.bool true)) (Go.Operand.tmp 31)) 4 [2, 4] (by kernel_rfl) (by kernel_rfl) (by kernel_rfl) rfl fun vals w1 ρ hG hF hρ hcst hfun => ?_
      have e29 : ρ (.tmp 29) = .bool false := ((hρ 29).trans (slotJ [2, 4] (by rw [hsz]; decide) (by kernel_rfl))).trans (hF 2 (by decide))
      have e31 : ρ (.tmp 31) = .bool false := ((hρ 31).trans (slotJ [2, 4] (by rw [hsz]; decide) (by kernel_rfl))).trans (hF 4 (by decide))
      clear hρ hF hfun sl0 sl4 sl5 sl6 fin
      exact opv_val (by go_simp <;> rfl) ⟨gw_self _, rfl⟩
    · exact owes_mvj 5 32 (by kernel_rfl) (by kernel_rfl) (by kernel_rfl) (by kernel_rfl) (by rw [hsz]; decide) (fun v w h => h)
    · refine owes_vt 6 false (Go.Op.load 111 (Go.Operand.tmp 5)) 111 [] (by kernel_rfl) (by kernel_rfl) (by kernel_rfl) (fun _ _ h => h) (by rw [hsz]; kernel_rfl) (by kernel_rfl) rfl fun vals w1 ρ hG hF hρ hcst hfun => ?_
      have e5 : ρ (.tmp 5) = .pointer (some ⟨H, 0, none⟩) := ((hρ 5).trans (slotO [] (by kernel_rfl))).trans sl5
      have k0 := (hG.cell (p := ⟨H, 0, none⟩) hH).trans g0; have k1 := (hG.cell (p := ⟨H, 1, none⟩) hH).trans g1; have k2 := (hG.cell (p := ⟨H, 2, none⟩) hH).trans g2; have k3 := (hG.cell (p := ⟨H, 3, none⟩) hH).trans g3
      clear hρ hF hcst hfun sl0 sl4 sl5 sl6 fin
      exact opv_val (by go_simp <;> rfl) ⟨gw_self _, rfl⟩
    · refine owes_vt 6 false (Go.Op.call { callee := Go.Callee.value (Go.Operand.func 48), args := #[Go.Operand.tmp 34], argTypes := #[111] }) 3 [7] (by kernel_rfl) (by kernel_rfl) (by kernel_rfl) (fun _ _ h => h) (by rw [hsz]; kernel_rfl) (by kernel_rfl) rfl fun vals w1 ρ hG hF hρ hcst hfun => ?_
      have e34 : ρ (.tmp 34) = .agg #[.int .i64 P, .int .i64 n, .bool false, .int .i64 0] := ((hρ 34).trans (slotJ [7] (by rw [hsz]; decide) (by kernel_rfl))).trans (hF 7 (by decide))
      clear hρ hF hcst sl0 sl4 sl5 sl6 fin
      exact opv_enter (by go_simp <;> rfl) (of_ret (hp.out w1))
    · refine owes_vt 6 false (Go.Op.move (Go.Operand.tmp 0)) 37 [] (by kernel_rfl) (by kernel_rfl) (by kernel_rfl) (fun _ _ h => h) (by rw [hsz]; kernel_rfl) (by kernel_rfl) rfl fun vals w1 ρ hG hF hρ hcst hfun => ?_
      have e0 : ρ (.tmp 0) = .pointer (some ⟨s, 0, none⟩) := ((hρ 0).trans (slotO [] (by kernel_rfl))).trans sl0
      clear hρ hF hcst hfun sl0 sl4 sl5 sl6 fin
      exact opv_val (by go_simp <;> rfl) ⟨gw_self _, rfl⟩
    · refine owes_vt 6 false (Go.Op.nilCheck (Go.Operand.tmp 36)) 0 [9] (by kernel_rfl) (by kernel_rfl) (by kernel_rfl) (fun _ _ h => h) (by rw [hsz]; kernel_rfl) (by kernel_rfl) rfl fun vals w1 ρ hG hF hρ hcst hfun => ?_
      have e36 : ρ (.tmp 36) = .pointer (some ⟨s, 0, none⟩) := ((hρ 36).trans (slotJ [9] (by rw [hsz]; decide) (by kernel_rfl))).trans (hF 9 (by decide))
      clear hρ hF hcst hfun sl0 sl4 sl5 sl6 fin
      exact opv_val (by go_simp <;> rfl) ⟨gw_self _, rfl⟩
    · refine owes_vt 6 false (Go.Op.fieldAddr 67 (Go.Operand.tmp 37) 2) 0 [10] (by kernel_rfl) (by kernel_rfl) (by kernel_rfl) (fun _ _ h => h) (by rw [hsz]; kernel_rfl) (by kernel_rfl) rfl fun vals w1 ρ hG hF hρ hcst hfun => ?_
      have e37 : ρ (.tmp 37) = .pointer (some ⟨s, 0, none⟩) := ((hρ 37).trans (slotJ [10] (by rw [hsz]; decide) (by kernel_rfl))).trans (hF 10 (by decide))
      clear hρ hF hcst hfun sl0 sl4 sl5 sl6 fin
      exact opv_val (by go_simp <;> rfl) ⟨gw_self _, rfl⟩
    · refine owes_vt 6 false (Go.Op.load 3 (Go.Operand.tmp 38)) 3 [11] (by kernel_rfl) (by kernel_rfl) (by kernel_rfl) (fun _ _ h => h) (by rw [hsz]; kernel_rfl) (by kernel_rfl) rfl fun vals w1 ρ hG hF hρ hcst hfun => ?_
      have e38 : ρ (.tmp 38) = .pointer (some ⟨s, 2, none⟩) := ((hρ 38).trans (slotJ [11] (by rw [hsz]; decide) (by kernel_rfl))).trans (hF 11 (by decide))
      have k := (hG.cell (p := ⟨s, 2, none⟩) hs).trans d2
      clear hρ hF hcst hfun sl0 sl4 sl5 sl6 fin
      exact opv_val (by go_simp <;> rfl) ⟨gw_self _, rfl⟩
    · refine owes_vt 6 false (Go.Op.move (Go.Operand.tmp 4)) 3 [] (by kernel_rfl) (by kernel_rfl) (by kernel_rfl) (fun _ _ h => h) (by rw [hsz]; kernel_rfl) (by kernel_rfl) rfl fun vals w1 ρ hG hF hρ hcst hfun => ?_
      have e4 : ρ (.tmp 4) = .int .i64 (a : Int) := ((hρ 4).trans (slotO [] (by kernel_rfl))).trans sl4
      clear hρ hF hcst hfun sl0 sl4 sl5 sl6 fin
      exact opv_val (by go_simp <;> rfl) ⟨gw_self _, rfl⟩
    · refine owes_vt 6 false (Go.Op.binOp Go.BinOp.sub 3 (Go.Operand.tmp 39) (Go.Operand.tmp 40) 3) 3 [12, 13] (by kernel_rfl) (by kernel_rfl) (by kernel_rfl) (fun _ _ h => h) (by rw [hsz]; kernel_rfl) (by kernel_rfl) rfl fun vals w1 ρ hG hF hρ hcst hfun => ?_
      have e39 : ρ (.tmp 39) = .int .i64 (t : Int) := ((hρ 39).trans (slotJ [12, 13] (by rw [hsz]; decide) (by kernel_rfl))).trans (hF 12 (by decide))
      have e40 : ρ (.tmp 40) = .int .i64 (a : Int) := ((hρ 40).trans (slotJ [12, 13] (by rw [hsz]; decide) (by kernel_rfl))).trans (hF 13 (by decide))
      have kw0 : IntKind.i64.wrap (((t : Int) - (a : Int))) = ((t : Int) - (a : Int)) := wrapIn (by omega) (by omega)
      clear hρ hF hcst hfun sl0 sl4 sl5 sl6 fin
      exact opv_val (by go_simp <;> rfl) ⟨gw_self _, rfl⟩
    · refine owes_vt 6 false (Go.Op.binOp Go.BinOp.gtr 3 (Go.Operand.tmp 35) (Go.Operand.tmp 41) 3) 4 [8, 14] (by kernel_rfl) (by kernel_rfl) (by kernel_rfl) (fun _ _ h => h) (by rw [hsz]; kernel_rfl) (by kernel_rfl) rfl fun vals w1 ρ hG hF hρ hcst hfun => ?_
      have e35 : ρ (.tmp 35) = .int .i64 sz := ((hρ 35).trans (slotJ [8, 14] (by rw [hsz]; decide) (by kernel_rfl))).trans (hF 8 (by decide))
      have e41 : ρ (.tmp 41) = .int .i64 ((t : Int) - (a : Int)) := ((hρ 41).trans (slotJ [8, 14] (by rw [hsz]; decide) (by kernel_rfl))).trans (hF 14 (by decide))
      subst hr
      clear hρ hF hcst hfun sl0 sl4 sl5 sl6 fin
      exact opv_val (by go_simp <;> rfl) ⟨gw_self _, rfl⟩
    · refine owes_v (Go.Op.pick (Go.Operand.tmp 33) (Go.Operand.const (Go.Value.bool true)) (Go.Operand.tmp 42)) 4 [6, 15] (by kernel_rfl) (by kernel_rfl) (by kernel_rfl) rfl fun vals w1 ρ hG hF hρ hcst hfun => ?_
      have e33 : ρ (.tmp 33) = .bool false := ((hρ 33).trans (slotJ [6, 15] (by rw [hsz]; decide) (by kernel_rfl))).trans (hF 6 (by decide))
      have e42 : ρ (.tmp 42) = .bool r := ((hρ 42).trans (slotJ [6, 15] (by rw [hsz]; decide) (by kernel_rfl))).trans (hF 15 (by decide))
      clear hρ hF hfun sl0 sl4 sl5 sl6 fin
      exact opv_val (by go_simp <;> rfl) ⟨gw_self _, rfl⟩
  · intro vals w1 hG hF
    exact fin vals w1 hG (hF 16 (by decide +kernel))
theorem lo8 (Q : Exit → Act → World → Prop) (a0 : Act) (w : World) (H Xb mb a : Nat) (P n sz : Int) (hH : H < w.heap.size) (hX : Xb < w.heap.size) (g0 : w.cell? ⟨H, 0, none⟩ = some (.int .i64 P)) (g1 : w.cell? ⟨H, 1, none⟩ = some (.int .i64 n)) (g2 : w.cell? ⟨H, 2, none⟩ = some (.bool false)) (g3 : w.cell? ⟨H, 3, none⟩ = some (.int .i64 0)) (c2 : w.cell? ⟨Xb, 2, none⟩ = some (.map (some mb))) (hp : Hid (∀ W, Calls Try.prog 48 #[.agg #[.int .i64 P, .int .i64 n, .bool false, .int .i64 0]] W (RetP (.int .i64 sz) W))) (hsz : a0.tmps.size = 69) (sl3 : a0.tmps.getD 3 undef = .pointer (some ⟨Xb, 0, none⟩)) (sl4 : a0.tmps.getD 4 undef = .int .i64 (a : Int)) (sl5 : a0.tmps.getD 5 undef = .pointer (some ⟨H, 0, none⟩))
    (fin : ∀ (vals : Nat → Value) (w1 : World), Below w.heap.size w w1 → (IsV (.map (some mb))) (vals 3) w1 → (IsV (.int .i64 (a : Int))) (vals 4) w1 → (IsV (.int .i64 sz)) (vals 6) w1 → wpList Try.prog #[{ dst := none, op := Go.Op.mapUpdate 70 (Go.Operand.tmp 60) (Go.Operand.tmp 61) (Go.Operand.tmp 63), type := 0, pos := "", after := #[], guard := none }] Q [{ dst := none, op := Go.Op.mapUpdate 70 (Go.Operand.tmp 60) (Go.Operand.tmp 61) (Go.Operand.tmp 63), type := 0, pos := "", after := #[], guard := none }] (putD vals [57, 58, 59, 60, 61, 62, 63] 0 a0) w1) :
    (Code.region 8 (regIn Try.f22 8) true).wp Try.prog Q a0 w := by
  refine region_by_tail (m := 7) (G := fun w w1 => Below w.heap.size w w1) [IsV (.pointer (some ⟨Xb, 0, none⟩)),
    IsV (.pointer (some ⟨Xb, 0, none⟩)),
    IsV (.pointer (some ⟨Xb, 2, none⟩)),
    IsV (.map (some mb)),
    IsV (.int .i64 (a : Int)),
    IsV (.agg #[.int .i64 P, .int .i64 n, .bool false, .int .i64 0]),
    IsV (.int .i64 sz)]
    [57, 58, 59, 60, 61, 62, 63] (by kernel_rfl) (Gw.drew _) Gw.trans (by rw [hsz]; kernel_rfl) (by kernel_rfl) ?_ ?_ ?_
  · intro f hf
    simp only [List.mem_cons, List.not_mem_nil, or_false] at hf
    rcases hf with rfl | rfl | rfl | rfl | rfl | rfl | rfl <;> intro v a b h g <;> first | exact IsV.mono h
  · refine ⟨?_, ?_, ?_, ?_, ?_, ?_, ?_, trivial⟩
    · exact owes_mv 3 (by kernel_rfl) (by kernel_rfl) (by kernel_rfl) sl3 (fun _ => rfl)
    · refine owes_v (Go.Op.nilCheck (Go.Operand.tmp 57)) 0 [0] (by kernel_rfl) (by kernel_rfl) (by kernel_rfl) rfl fun vals w1 ρ hG hF hρ hcst hfun => ?_
      have e57 : ρ (.tmp 57) = .pointer (some ⟨Xb, 0, none⟩) := ((hρ 57).trans (slotJ [0] (by rw [hsz]; decide) (by kernel_rfl))).trans (hF 0 (by decide))
      clear hρ hF hcst hfun sl3 sl4 sl5 fin
      exact opv_val (by go_simp <;> rfl) ⟨gw_self _, rfl⟩
    · refine owes_v (Go.Op.fieldAddr 72 (Go.Operand.tmp 58) 2) 0 [1] (by kernel_rfl) (by kernel_rfl) (by kernel_rfl) rfl fun vals w1 ρ hG hF hρ hcst hfun => ?_
      have e58 : ρ (.tmp 58) = .pointer (some ⟨Xb, 0, none⟩) := ((hρ 58).trans (slotJ [1] (by rw [hsz]; decide) (by kernel_rfl))).trans (hF 1 (by decide))
      clear hρ hF hcst hfun sl3 sl4 sl5 fin
      exact opv_val (by go_simp <;> rfl) ⟨gw_self _, rfl⟩
    · refine owes_v (Go.Op.load 70 (Go.Operand.tmp 59)) 70 [2] (by kernel_rfl) (by kernel_rfl) (by kernel_rfl) rfl fun vals w1 ρ hG hF hρ hcst hfun => ?_
      have e59 : ρ (.tmp 59) = .pointer (some ⟨Xb, 2, none⟩) := ((hρ 59).trans (slotJ [2] (by rw [hsz]; decide) (by kernel_rfl))).trans (hF 2 (by decide))
      have k := (hG.cell (p := ⟨Xb, 2, none⟩) hX).trans c2
      clear hρ hF hcst hfun sl3 sl4 sl5 fin
      exact opv_val (by go_simp <;> rfl) ⟨gw_self _, rfl⟩
    · exact owes_mv 4 (by kernel_rfl) (by kernel_rfl) (by kernel_rfl) sl4 (fun _ => rfl)
    · refine owes_v (Go.Op.load 111 (Go.Operand.tmp 5)) 111 [] (by kernel_rfl) (by kernel_rfl) (by kernel_rfl) rfl fun vals w1 ρ hG hF hρ hcst hfun => ?_
      have e5 : ρ (.tmp 5) = .pointer (some ⟨H, 0, none⟩) := ((hρ 5).trans (slotO [] (by kernel_rfl))).trans sl5
      have k0 := (hG.cell (p := ⟨H, 0, none⟩) hH).trans g0; have k1 := (hG.cell (p := ⟨H, 1, none⟩) hH).trans g1; have k2 := (hG.cell (p := ⟨H, 2, none⟩) hH).trans g2; have k3 := (hG.cell (p := ⟨H, 3, none⟩) hH).trans g3
      clear hρ hF hcst hfun sl3 sl4 sl5 fin
      exact opv_val (by go_simp <;> rfl) ⟨gw_self _, rfl⟩
    · refine owes_v (Go.Op.call { callee := Go.Callee.value (Go.Operand.func 48), args := #[Go.Operand.tmp 62], argTypes := #[111] }) 3 [5] (by kernel_rfl) (by kernel_rfl) (by kernel_rfl) rfl fun vals w1 ρ hG hF hρ hcst hfun => ?_
      have e62 : ρ (.tmp 62) = .agg #[.int .i64 P, .int .i64 n, .bool false, .int .i64 0] := ((hρ 62).trans (slotJ [5] (by rw [hsz]; decide) (by kernel_rfl))).trans (hF 5 (by decide))
      clear hρ hF hcst sl3 sl4 sl5 fin
      exact opv_enter (by go_simp <;> rfl) (of_ret (hp.out w1))
  · intro vals w1 hG hF
    exact last_list (by kernel_rfl) (by kernel_rfl) (by kernel_rfl) (fin vals w1 hG (hF 3 (by decide +kernel)) (hF 4 (by decide +kernel)) (hF 6 (by decide +kernel)))
section
variable {W W' : World} {B Xb sv mb : Nat} {rv lv : Value} {ws : List (BitVec 64)} {p : List Nat} {fs : List (Nat × ByteArray)}
/-- A place more in the row. -/
theorem LkAt.place {w w6 : World} {o : Obj} {v6 : Value} {a : Nat} (h : LkAt w B Xb sv mb rv lv ws p fs) (ho : Ow iN 3 w6 B v6 (p ++ [a])) (hg : (w.alloc o).grownBy w6 rv.ownBlock) (hv : v6.ownBlock = rv.ownBlock ∨ v6.ownBlock = some (w.alloc o).heap.size) :
    ∀ W, W = w6.setCell ⟨Xb, 1, none⟩ v6 → Bk W Xb 72 #[.pointer (some ⟨sv, 0, none⟩), v6, .map (some mb), lv] ∧ Ow iN 3 W B v6 (p ++ [a]) ∧ MapIs W (some mb) (sizR ws p) ∧ FR W B lv fs ∧ (∀ k, (k = Xb ∨ k = mb) → v6.ownBlock ≠ some k ∧ lv.ownBlock ≠ some k) ∧ (∀ k, v6.ownBlock = some k → lv.ownBlock ≠ some k) ∧ Below B w W := by
  rintro W rfl
  obtain ⟨l1, l2, l3, l4, l5⟩ := h.lts
  have hsz : w.heap.size ≤ (w.alloc o).heap.size := (Gw.alloc w o).size
  have K1 := Kept.grown hg
  have K2 := Kept.set w6 Xb 1 v6
  have hA := h.below (Gw.alloc w o)
  have a1 := h.ap Xb (.inl rfl)
  have a2 := h.ap mb (.inr rfl)
  have m6 : ∀ k, v6.ownBlock = some k → rv.ownBlock = some k ∨ w.heap.size ≤ k := fun k hk => by
    rcases hv with e | e
    · exact .inl (e ▸ hk)
    · rw [e] at hk
      injection hk with hk
      exact .inr (by omega)
  have n6 : ∀ k, (k = Xb ∨ k = mb) → v6.ownBlock ≠ some k := fun k hk e => by
    rcases m6 k e with h' | h'
    · exact (h.ap k hk).1 h'
    · rcases hk with hk | hk <;> omega
  have q6 : ∀ k, v6.ownBlock = some k → lv.ownBlock ≠ some k := fun k hk e => by
    rcases m6 k hk with h' | h'
    · exact h.ap2 k h' e
    · have := (l4 k e).2; omega
  refine ⟨(hA.blk.grownK hg (fun e => a1.1 e.symm)).set 1 v6, K2.ow ho (fun k hk e => n6 Xb (.inl rfl) (e ▸ hk)), (hA.mp.kept K1 (fun b hb e => by injection hb with hb; exact a2.1 (hb ▸ e))).kept K2 (fun b hb e => by injection hb with hb; exact h.ne (e.symm.trans hb.symm)), (hA.fr.kept K1 (fun k hk e => h.ap2 k e hk)).kept K2 (fun k hk e => a1.2 (e ▸ hk)), fun k hk => ⟨n6 k hk, (h.ap k hk).2⟩, q6, ?_⟩
  exact (((Gw.alloc w o).mono l5).trans (K1.below (by omega) (fun k hk => (l3 k hk).1))).trans (K2.below (by have := K1.size; omega) (fun k hk => by rw [hk]; exact h.BX.1))
theorem sizR_snoc (ws : List (BitVec 64)) (p : List Nat) (a : Nat) (h : ∀ y ∈ p, y < a) : putI (sizR ws p) (a : Int) (szX (ws.getD a 0#64) : Int) = sizR ws (p ++ [a]) := by
  rw [put_end]
  · unfold sizR; rw [List.map_append]; rfl
  · intro q hq
    obtain ⟨y, hy, rfl⟩ := List.mem_map.1 hq
    have := h y hy
    show (y : Int) < (a : Int)
    omega
end
end Go.Proofs.Ytaminpfgkegibaa
/- check.look; check.Space. Conditions: lengths. -/
namespace Go.Proofs.Ytaminpfgkegibaa
set_option linter.unusedVariables false
set_option linter.unusedSimpArgs false
open Go.RowKit Go.Maps
set_option maxHeartbeats 4000000
set_option maxRecDepth 100000
section
variable {B Bs Xb s g mb : Nat} {v rv lv : Value} {ws : List (BitVec 64)} {b t e : Nat} {p : List Nat} {fs : List (Nat × ByteArray)}
def LookP (w : World) (s : Nat) (ws : List (BitVec 64)) (p : List Nat) (bd : Option Nat) (r : Ending) (w' : World) : Prop :=
  ∃ (Xb mb : Nat) (rv lv : Value), r = .returned (.pointer (some ⟨Xb, 0, none⟩)) ∧ LkAt w' w.heap.size Xb s mb rv lv ws p (badF bd) ∧ Below w.heap.size w w'
theorem look_c (w : World) (sp : SpAt w Bs s g v ws b t e) (hw : ws.length ≤ 8192) (F : List Nat × Option Nat) (hF : foundN ws t (t + 1) b = F) (hq : ∀ x, F.2 = some x → okU (ws.getD x 0#64) = false) :
    Calls Try.prog 22 #[.pointer (some ⟨s, 0, none⟩)] w (LookP w s ws F.1 F.2) := by
  have hbt := sp.bt
  have htl : t ≤ ws.length := Nat.le_trans sp.te sp.el
  have HSp := Lib.hid (And.intro sp (And.intro hbt (And.intro htl hw)))
  obtain ⟨d0, d1, d2, d3⟩ := sp.four
  have hsl := sp.blk.lt
  have HF := Lib.hid (And.intro hF hq)
  have tI : (t : Int) ≤ 8192 := by omega
  have bI : (b : Int) ≤ 8192 := by omega
  have hmm := @run_makeMap Try.prog
  clear sp hF hq hbt htl hw
  go_enter Try.func22, Try.ntmps22
  go_wp2_with fail
  have hm1 : MapIs (w.alloc (.map #[] 0)) (some w.heap.size) (sizR ws []) := tighten (l := []) (World.ownsMap_made w Try.prog 3 (plainElem Try.prog 3))
  have e1 : (w.alloc (.map #[] 0)).heap.size = w.heap.size + 1 := by unfold World.alloc; simp
  have hbk0 := Bk.new (w.alloc (.map #[] 0)) 72 #[.pointer (some ⟨s, 0, none⟩), .slice none 0 0, .map (some w.heap.size), .slice none 0 0]
  rw [e1] at hbk0
  have b12 := Gw.alloc (w.alloc (.map #[] 0)) (.cells #[.pointer (some ⟨s, 0, none⟩), .slice none 0 0, .map (some w.heap.size), .slice none 0 0] 72)
  have hm2 := hm1.kept (Kept.of_below b12 (fun _ => False)) (fun _ _ f => f)
  have hb02 : Below w.heap.size w ((w.alloc (.map #[] 0)).alloc (.cells #[.pointer (some ⟨s, 0, none⟩), .slice none 0 0, .map (some w.heap.size), .slice none 0 0] 72)) := (Gw.alloc w _).trans (b12.mono (by omega))
  obtain ⟨w2, hw2⟩ : ∃ w2, w2 = (w.alloc (.map #[] 0)).alloc (.cells #[.pointer (some ⟨s, 0, none⟩), .slice none 0 0, .map (some w.heap.size), .slice none 0 0] 72) := ⟨_, rfl⟩
  rw [← hw2] at hbk0 hm2 hb02 ⊢
  obtain ⟨Xb, hXb⟩ : ∃ m, m = w.heap.size + 1 := ⟨_, rfl⟩
  obtain ⟨mb, hmb⟩ : ∃ m, m = w.heap.size := ⟨_, rfl⟩
  rw [← hXb] at hbk0 ⊢
  rw [← hmb] at hbk0 hm2
  have hlk : LkAt w2 w.heap.size Xb s mb (.slice none 0 0) (.slice none 0 0) ws [] [] := ⟨hbk0, Ow.nil_ _ _ _ _, hm2, FR.nil _ _, by omega, fun k _ => ⟨fun h => (by cases h), fun h => (by cases h)⟩, fun k h => (by cases h), ⟨by omega, by omega⟩⟩
  have HS0 : Hid (∃ rv pd n, LkAt w2 w.heap.size Xb s mb rv (.slice none 0 0) ws pd [] ∧ (∀ y ∈ pd, y < b) ∧ pd ++ (foundN ws t n b).1 = F.1 ∧ (foundN ws t n b).2 = F.2 ∧ t + 1 ≤ b + n ∧ Below w.heap.size w w2) := Lib.hid ⟨_, [], t + 1, hlk, fun _ h => (by cases h), by rw [HF.out.1]; rfl, by rw [HF.out.1], by omega, hb02⟩
  have HXl := Lib.hid hlk.blk.lt
  clear hlk hbk0 hm1 hm2 b12 hb02 hw2 hXb hmb e1 hmm d0 d1 d2 d3 hsl
  go_loopw [4] (fun x W => ∃ a : Nat, x = .int .i64 a ∧ b ≤ a ∧ a ≤ t ∧ Hid (∃ rv pd n, LkAt W w.heap.size Xb s mb rv (.slice none 0 0) ws pd [] ∧ (∀ y ∈ pd, y < a) ∧ pd ++ (foundN ws t n a).1 = F.1 ∧ (foundN ws t n a).2 = F.2 ∧ t + 1 ≤ a + n ∧ Below w.heap.size w W)) (fun x _ => t - (Go.RowKit.intOf x).toNat)
  case atStart => exact ⟨b, rfl, Nat.le_refl _, HSp.out.2.1, HS0⟩
  case round =>
    obtain ⟨a, rfl, hba, hat, hS⟩ := hrel
    clear HS0
    obtain ⟨rv, pd, n, e1, e2, e3, e4, e5, e6⟩ := hS.out
    have sp := HSp.out.1.below e6
    obtain ⟨d0, d1, d2, d3⟩ := sp.four
    have hsl := sp.blk.lt
    have p0 : (0 : Int) ≤ (a : Int) := by omega
    by_cases hlt : a < t
    · have p1 : (a : Int) < (t : Int) := by omega
      obtain ⟨x, hx⟩ : ∃ x, x = ws.getD a 0#64 := ⟨_, rfl⟩
      obtain ⟨m, rfl⟩ : ∃ m, n = m + 1 := ⟨n - 1, by omega⟩
      have hal : a < ws.length := by have := HSp.out.2.2.1; omega
      have hHd := sphead_in wr Bs s g v ws b t e sp a hba hlt (by have := HSp.out.2.2.2; omega) hal
      have hxe : ws[a] = x := by rw [hx, List.getD_eq_getElem?_getD, List.getElem?_eq_getElem hal]; rfl
      rw [hxe] at hHd
      unfold foundN at e3 e4
      rw [if_pos hlt, ← hx] at e3 e4
      by_cases hg : goodX x (t - a) = true
      · rw [if_pos hg] at e3 e4
        obtain ⟨hv, hP64, hB1024, hsx, hsz, hroom⟩ := head_of hg
        rw [hv] at hHd
        have HHd := Lib.hid hHd
        obtain ⟨P, hP⟩ : ∃ P, P = P0 x := ⟨_, rfl⟩
        obtain ⟨nb, hn⟩ : ∃ P, P = B0 x := ⟨_, rfl⟩
        obtain ⟨sz, hszz⟩ : ∃ P, P = szX x := ⟨_, rfl⟩
        rw [← hP, ← hn] at HHd hsz
        rw [← hszz] at hsz hroom e3 e4
        have hs1 : 1 ≤ sz := by rw [hszz, hsx]; omega
        have HSz := Lib.hid (fun W => size_c (P : Int) (nb : Int) false 0 W)
        rw [hsz] at HSz
        obtain ⟨rA, rc, e0, _⟩ := e1.row.form
        obtain ⟨np, hnp⟩ : ∃ np, np = pd.length := ⟨_, rfl⟩
        rw [← hnp] at e0
        subst e0
        have hpl : pd.length ≤ 8192 := by
          have h1 := congrArg List.length e3
          have h2 := found_len ws t (t + 1) b
          rw [HF.out.1, ← h1] at h2
          have := HSp.out.2.2.2
          have := HSp.out.2.2.1
          simp at h2
          omega
        have HE := Lib.hid (And.intro e1 (And.intro e2 (And.intro e3 (And.intro e4 (And.intro e5 (And.intro e6 (And.intro hx (And.intro hszz hpl))))))))
        have z1 : (sz : Int) ≤ (t : Int) - (a : Int) := by omega
        have z2 : (1 : Int) ≤ (sz : Int) := by omega
        clear hHd e1 e2 e3 e4 e5 e6 hS hx hxe hg sp hv hsx hsz hP hn hszz hnp hpl hroom
        go_wp2_with fail
        refine Calls.mono HHd.out ?_
        rintro r w3 ⟨rfl, b3⟩
        have H3 := Lib.hid b3
        clear b3 d0 d1 d2 d3
        go_wp2_with fail
        obtain ⟨Hb, hHb⟩ : ∃ H, H = w3.heap.size := ⟨_, rfl⟩
        obtain ⟨w4, hw4⟩ : ∃ w3', w3' = w3.alloc (.cells #[.int .i64 (P : Int), .int .i64 (nb : Int), .bool false, .int .i64 0] 111) := ⟨_, rfl⟩
        have hbk : Bk w4 Hb 111 #[.int .i64 (P : Int), .int .i64 (nb : Int), .bool false, .int .i64 0] := by rw [hw4, hHb]; exact Bk.new w3 _ _
        have b34 : Below w3.heap.size w3 w4 := by rw [hw4]; exact Gw.alloc w3 _
        rw [← hw4, ← hHb]
        have b4 := H3.out.trans (b34.mono H3.out.size)
        have h4 := HE.out.1.below b4
        have sp4 := HSp.out.1.below (HE.out.2.2.2.2.2.1.trans (b4.mono HE.out.2.2.2.2.2.1.size))
        have d2 := sp4.four.2.2.1
        have hs4 := sp4.blk.lt
        obtain ⟨g0, g1, g2, g3⟩ := hbk.four
        have hHl := hbk.lt
        have HBk := Lib.hid (And.intro hbk (And.intro (show Hb ≠ Xb ∧ Hb ≠ mb ∧ (∀ k, (Value.slice rA np rc).ownBlock = some k → k ≠ Hb) from by
          have l := (HE.out.1.below H3.out).lts
          exact ⟨by omega, by omega, fun k hk e => by have := (l.2.2.1 k hk).2; omega⟩) b4))
        clear hw4 hHb b34 hbk h4 sp4 b4
        refine lo5c _ _ _ Hb s a t (P : Int) (nb : Int) (sz : Int) false hHl hs4 g0 g1 g2 g3 d2 p1 tI p0 (decide_eq_false (by omega)) HSz rfl ?_ ?_ ?_ ?_ ?_
        · rfl
        · rfl
        · rfl
        · rfl
        intro vals w5 hG h43
        unfold IsV at h43
        simp only [putD, Act.put, List.setIfInBounds_toArray, List.set_cons_zero, List.set_cons_succ, h43]
        have hb5 := HBk.out.2.2.trans (hG.mono HBk.out.2.2.size)
        have h5 := HE.out.1.below hb5
        have H5 := Lib.hid (And.intro h5 (And.intro hb5 (HBk.out.1.below hG HBk.out.1.lt)))
        obtain ⟨c0, c1, c2, c3⟩ := h5.four
        have hXl := h5.blk.lt
        have HO := Lib.hid h5.row
        have HLn := Lib.hid (show pd.length + [a].length ≤ 4294967296 by have := HE.out.2.2.2.2.2.2.2.2; simp; omega)
        have HBs := Lib.hid h5.lts.2.2.2.2
        clear hG h43 hb5 h5 g0 g1 g2 g3 d2 hs4 hHl
        go_wp2_with (at_builtin; refine wp_app oneI iN_one rfl (.tmp 51) (.tmp 53) rfl w.heap.size _ pd rfl (HO.out.alloc _) (some ⟨w5.heap.size, 0, none⟩) 1 1 [a] rfl rfl (w5.heap.size + 1) (rdN_new w5 a) HLn.out (by decide) (Nat.le_trans HBs.out (Gw.alloc w5 _).size) ?_; intro v6 w6 ho6 hb6 hg6 hv6; obtain ⟨A6, c6, e6, _⟩ := ho6.form; obtain ⟨n6, hn6⟩ : ∃ n, n = (pd ++ [a]).length := ⟨_, rfl⟩; rw [← hn6] at e6; subst e6; clear hn6; have hk6 := (H5.out.1.blk.alloc (.cells #[.int .i64 (a : Int)] 3)).grownK hg6 (fun e => (H5.out.1.ap Xb (.inl rfl)).1 e.symm); have HK := Lib.hid (And.intro ho6 (And.intro (show World.grownBy (w5.alloc (.cells #[.int .i64 (a : Int)] 3)) w6 (Value.slice rA np rc).ownBlock from hg6) (show (Value.slice A6 n6 c6).ownBlock = (Value.slice rA np rc).ownBlock ∨ (Value.slice A6 n6 c6).ownBlock = some (w5.alloc (.cells #[.int .i64 (a : Int)] 3)).heap.size from hv6))); have j1 := hk6.cell 1; have jf := hk6.free 1; have jX := hk6.lt; clear ho6 hb6 hg6 hv6 hk6 c0 c1 c2 c3)
        have hpl := H5.out.1.place HK.out.1 HK.out.2.1 HK.out.2.2 _ rfl
        obtain ⟨q1, q2, q3, q4, q5, q6, q7⟩ := hpl
        have hK6 := (Kept.alloc (fun k => k = Xb ∨ (Value.slice rA np rc).ownBlock = some k) w5 (.cells #[.int .i64 (a : Int)] 3)).trans (((Kept.grown HK.out.2.1).more (S' := fun k => k = Xb ∨ (Value.slice rA np rc).ownBlock = some k) (fun k hk => .inr hk)).trans ((Kept.set w6 Xb 1 (.slice A6 n6 c6)).more (S' := fun k => k = Xb ∨ (Value.slice rA np rc).ownBlock = some k) (fun k hk => .inl hk)))
        obtain ⟨w7, hw7⟩ : ∃ w7, w7 = w6.setCell ⟨Xb, 1, none⟩ (.slice A6 n6 c6) := ⟨_, rfl⟩
        rw [← hw7] at q1 q2 q3 q4 q7 hK6 ⊢
        have hbk7 := hK6.bk H5.out.2.2 (fun h => h.elim (fun h => HBk.out.2.1.1 h) (fun h => HBk.out.2.1.2.2 _ h rfl))
        have H7 := Lib.hid (And.intro q1 (And.intro q2 (And.intro q3 (And.intro q4 (And.intro q5 (And.intro q6 (And.intro q7 hbk7)))))))
        have x2 := q1.cell 2
        have x2l := q1.lt
        obtain ⟨g0, g1, g2, g3⟩ := hbk7.four
        have hHl := hbk7.lt
        clear hw7 q1 q2 q3 q4 q5 q6 q7 hK6 hbk7 j1 jf jX hXl
        refine lo8 _ _ _ Hb Xb mb a (P : Int) (nb : Int) (sz : Int) hHl x2l g0 g1 g2 g3 x2 HSz rfl ?_ ?_ ?_ ?_
        · rfl
        · rfl
        · rfl
        intro vals8 w8 hG8 h60 h61 h63
        unfold IsV at h60 h61 h63
        simp only [putD, Act.put, List.setIfInBounds_toArray, List.set_cons_zero, List.set_cons_succ, h60, h61, h63]
        have H8 := Lib.hid hG8
        have HM8 := Lib.hid (H7.out.2.2.1.kept (Kept.of_below hG8 (fun _ => False)) (fun _ _ f => f))
        have HWF := Lib.hid (show (Lit.int .i64 (a : Int)).wf = true ∧ (Lit.int .i64 (sz : Int)).wf = true ∧ (sizR ws pd).length ≤ 1000000 from ⟨by simp [Lit.wf, IntKind.min, IntKind.max, IntKind.signed, IntKind.bits]; omega, by simp [Lit.wf, IntKind.min, IntKind.max, IntKind.signed, IntKind.bits]; omega, by have := HE.out.2.2.2.2.2.2.2.2; unfold sizR; simp; omega⟩)
        clear hG8 h60 h61 h63 g0 g1 g2 g3 hHl x2 x2l
        go_wp2_with (refine wp_put_is (b := mb) (l := sizR ws pd) rfl (.tmp 60) (.tmp 61) (.tmp 63) rfl rfl HM8.out (a : Int) (sz : Int) rfl rfl HWF.out.1 HWF.out.2.1 HWF.out.2.2 ?_; intro w9 hm9 hk9; have hb9 := hk9.bk (H7.out.2.2.2.2.2.2.2.below H8.out H7.out.2.2.2.2.2.2.2.lt) (fun h => by injection h with h; exact HBk.out.2.1.2.1 h.symm); obtain ⟨g0, g1, g2, g3⟩ := hb9.four; have hHl := hb9.lt; have H9 := Lib.hid (And.intro hm9 hk9); clear hm9 hk9 hb9)
        refine Calls.mono (HSz.out w9) ?_
        rintro r w10 ⟨rfl, b10⟩
        have HN : Hid (∃ rv pd n, LkAt w10 w.heap.size Xb s mb rv (.slice none 0 0) ws pd [] ∧ (∀ y ∈ pd, y < a + sz) ∧ pd ++ (foundN ws t n (a + sz)).1 = F.1 ∧ (foundN ws t n (a + sz)).2 = F.2 ∧ t + 1 ≤ a + sz + n ∧ Below w.heap.size w w10) := by
          obtain ⟨q1, q2, q3, q4, q5, q6, q7, q8⟩ := H7.out
          obtain ⟨e1, e2, e3, e4, e5, e6, hx, hszz, hpl⟩ := HE.out
          obtain ⟨hm9, hk9⟩ := H9.out
          have hnX : ¬ (some mb = some Xb) := fun h => by injection h with h; exact e1.ne h.symm
          have hm9' : MapIs w9 (some mb) (sizR ws (pd ++ [a])) := by
            rw [← sizR_snoc ws pd a e2, ← hx, ← hszz]
            exact hm9
          have b8 := H8.out
          have hB8 : w.heap.size ≤ w8.heap.size := by have := e6.size; have := H5.out.2.1.size; have := q7.size; have := b8.size; omega
          have hL : LkAt w9 w.heap.size Xb s mb (.slice A6 n6 c6) (.slice none 0 0) ws (pd ++ [a]) [] := ⟨hk9.bk (q1.below b8 q1.lt) hnX, hk9.ow (q2.below b8) (fun k hk e => by injection e with e; exact (q5 mb (.inr rfl)).1 (e ▸ hk)), hm9', FR.nil _ _, e1.ne, q5, q6, e1.BX⟩
          refine Lib.hid ⟨_, pd ++ [a], m, hL.below b10, fun y hy => ?_, by rw [List.append_assoc]; exact e3, e4, by omega, ?_⟩
          · rcases List.mem_append.1 hy with h | h
            · have := e2 y h; omega
            · rw [List.mem_singleton.1 h]; omega
          · have h7 : Below w.heap.size w w7 := (e6.trans (H5.out.2.1.mono e6.size)).trans q7
            have h8 := h7.trans (b8.mono h7.size)
            have h9 := h8.trans (hk9.below h8.size (fun k hk => by injection hk with hk; rw [← hk]; exact e1.BX.2))
            exact h9.trans (b10.mono h9.size)
        have zt : a + sz ≤ t := by omega
        have zb : b ≤ a + sz := by omega
        obtain ⟨nx, hnx⟩ : ∃ nx, nx = a + sz := ⟨_, rfl⟩
        rw [← hnx] at HN zt zb
        have z4 : (a : Int) + (sz : Int) = (nx : Int) := by omega
        have z5 : (nx : Int) ≤ 8192 := by omega
        have z6 : a < nx := by omega
        clear b10 g0 g1 g2 g3 hHl hnx
        go_wp2_with fail
        go_roundw
        case rel => first | exact ⟨nx, by go_num, zb, zt, HN⟩ | ((repeat apply Exists.intro); refine ⟨?_, rfl⟩; exact ⟨nx, by go_num, zb, zt, HN⟩)
        case measure => simp [Go.RowKit.intOf]; omega
      · rw [if_neg hg] at e3 e4
        have hok : okU x = false := by rw [hx]; exact HF.out.2 a e4.symm
        rw [unV_no hok] at hHd
        have HHd := Lib.hid hHd
        have HE := Lib.hid (And.intro e1 (And.intro (show pd = F.1 from by rw [← e3]; exact (List.append_nil _).symm) (And.intro (show F.2 = some a from e4.symm) e6)))
        clear hHd e1 e2 e3 e4 e5 e6 hS hx hxe hok hg sp
        go_wp2_with fail
        refine Calls.mono HHd.out ?_
        rintro r w3 ⟨rfl, b3⟩
        have H3 := Lib.hid b3
        clear b3 d0 d1 d2 d3
        go_wp2_with fail
        obtain ⟨Hb, hHb⟩ : ∃ H, H = w3.heap.size := ⟨_, rfl⟩
        obtain ⟨w4, hw4⟩ : ∃ w3', w3' = w3.alloc (.cells #[.int .i64 0, .int .i64 0, .bool false, .int .i64 0] 111) := ⟨_, rfl⟩
        have b34 : Below w3.heap.size w3 w4 := by rw [hw4]; exact Gw.alloc w3 _
        rw [← hw4, ← hHb]
        have H4 := Lib.hid (H3.out.trans (b34.mono H3.out.size))
        clear hw4 hHb b34
        refine lo5a _ _ _ Hb 2 (by decide) ?_ ?_ ?_
        · rfl
        · rfl
        intro vals w5 hG h43
        unfold IsV at h43
        simp only [putD, Act.put, List.setIfInBounds_toArray, List.set_cons_zero, List.set_cons_succ, h43]
        have hb5 := H4.out.trans (hG.mono H4.out.size)
        have HT := Lib.hid (tell_c w5 (HE.out.1.below hb5) (Nat.zero_le _) a headS)
        have H5 := Lib.hid hb5
        unfold headS at HT
        clear hG h43 hb5
        go_wp2_with fail
        refine Calls.mono HT.out ?_
        rintro r w6 ⟨rfl, lv', h6, k6, n6⟩
        have H6 := Lib.hid (And.intro h6 k6)
        clear h6 k6 n6
        go_wp2_with fail
        go_ret
        obtain ⟨e1, hp, hb, e6⟩ := HE.out
        refine ⟨Xb, mb, rv, lv', rfl, ?_, ?_⟩
        · rw [← hp, hb]
          exact H6.out.1
        · have h5 := e6.trans (H5.out.mono e6.size)
          exact h5.trans (H6.out.2.below h5.size (fun k hk => hk.elim (fun h => by rw [h]; exact e1.BX.1) (fun h => by cases h)))
    · have p1 : ¬ (a : Int) < (t : Int) := by omega
      have hF2 : foundN ws t n a = ([], none) := by
        cases n with
        | zero => rfl
        | succ m => unfold foundN; rw [if_neg hlt]
      rw [hF2] at e3 e4
      have HE := Lib.hid (And.intro e1 (And.intro (show pd = F.1 from by rw [← e3]; exact (List.append_nil _).symm) (And.intro (show F.2 = none from e4.symm) e6)))
      clear e1 e2 e3 e4 e5 e6 hS hF2 sp
      go_wp2_with fail
      go_ret
      obtain ⟨e1, hp, hb, e6⟩ := HE.out
      refine ⟨Xb, mb, rv, .slice none 0 0, rfl, ?_, e6⟩
      rw [← hp, hb]
      exact e1
end
end Go.Proofs.Ytaminpfgkegibaa
/- check.look of any words. Conditions: lengths. -/
namespace Go.Proofs.Ytaminpfgkegibaa
set_option linter.unusedVariables false
set_option linter.unusedSimpArgs false
open Go.RowKit Go.Maps
set_option maxHeartbeats 4000000
set_option maxRecDepth 100000
theorem lo5b (Q : Exit → Act → World → Prop) (a0 : Act) (w : World) (H : Nat) (hH : H < w.heap.size) (g2 : w.cell? ⟨H, 2, none⟩ = some (.bool true)) (hsz : a0.tmps.size = 69) (sl5 : a0.tmps.getD 5 undef = .pointer (some ⟨H, 0, none⟩)) (sl6 : a0.tmps.getD 6 undef = .int .i64 0)
    (fin : ∀ (vals : Nat → Value) (w1 : World), Below w.heap.size w w1 → (IsV (.bool true)) (vals 16) w1 → Q .normal (putD vals [27, 28, 29, 30, 31, 32, 33, 34, 35, 36, 37, 38, 39, 40, 41, 42, 43] 0 a0) w1) :
    (Code.region 5 (regIn Try.f22 5) true).wp Try.prog Q a0 w := by
  refine region_by (G := fun w w1 => Below w.heap.size w w1) [IsV (.int .i64 0),
    IsV (.bool false),
    IsV (.bool false),
    IsV (.pointer (some ⟨H, 2, none⟩)),
    IsV (.bool true),
    IsV (.bool true),
    IsV (.bool true),
    IsV undef,
    IsV undef,
    IsV undef,
    IsV undef,
    IsV undef,
    IsV undef,
    IsV undef,
    IsV undef,
    IsV undef,
    IsV (.bool true)]
    [27, 28, 29, 30, 31, 32, 33, 34, 35, 36, 37, 38, 39, 40, 41, 42, 43] (by kernel_rfl) (Gw.drew _) Gw.trans (by rw [hsz]; kernel_rfl) (by kernel_rfl) ?_ ?_ ?_
  · intro f hf
    simp only [List.mem_cons, List.not_mem_nil, or_false] at hf
    rcases hf with rfl | rfl | rfl | rfl | rfl | rfl | rfl | rfl | rfl | rfl | rfl | rfl | rfl | rfl | rfl | rfl | rfl <;> intro v a b h g <;> first | exact IsV.mono h
  · refine ⟨?_, ?_, ?_, ?_, ?_, ?_, ?_, ?_, ?_, ?_, ?_, ?_, ?_, ?_, ?_, ?_, ?_, trivial⟩
    · exact owes_mv 6 (by kernel_rfl) (by kernel_rfl) (by kernel_rfl) sl6 (fun _ => rfl)
    · refine owes_v (Go.Op.binOp Go.BinOp.neq 30 (Go.Operand.tmp 27) (Go.Operand.const (Go.Value.int Go.IntKind.i64 0)) 30) 4 [0] (by kernel_rfl) (by kernel_rfl) (by kernel_rfl) rfl fun vals w1 ρ hG hF hρ hcst hfun => ?_
      have e27 : ρ (.tmp 27) = .int .i64 0 := ((hρ 27).trans (slotJ [0] (by rw [hsz]; decide) (by kernel_rfl))).trans (hF 0 (by decide))
      clear hρ hF hfun sl5 sl6 fin
      exact opv_val (by go_simp <;> rfl) ⟨gw_self _, rfl⟩
    · exact owes_mvj 1 28 (by kernel_rfl) (by kernel_rfl) (by kernel_rfl) (by kernel_rfl) (by rw [hsz]; decide) (fun v w h => h)
    · refine owes_vt 2 false (Go.Op.fieldAddr 111 (Go.Operand.tmp 5) 2) 0 [] (by kernel_rfl) (by kernel_rfl) (by kernel_rfl) (fun _ _ h => h) (by rw [hsz]; kernel_rfl) (by kernel_rfl) rfl fun vals w1 ρ hG hF hρ hcst hfun => ?_
      have e5 : ρ (.tmp 5) = .pointer (some ⟨H, 0, none⟩) := ((hρ 5).trans (slotO [] (by kernel_rfl))).trans sl5
      clear hρ hF hcst hfun sl5 sl6 fin
      exact opv_val (by go_simp <;> rfl) ⟨gw_self _, rfl⟩
    · refine owes_vt 2 false (Go.Op.load 4 (Go.Operand.tmp 30)) 4 [3] (by kernel_rfl) (by kernel_rfl) (by kernel_rfl) (fun _ _ h => h) (by rw [hsz]; kernel_rfl) (by kernel_rfl) rfl fun vals w1 ρ hG hF hρ hcst hfun => ?_
      have e30 : ρ (.tmp 30) = .pointer (some ⟨H, 2, none⟩) := ((hρ 30).trans (slotJ [3] (by rw [hsz]; decide) (by kernel_rfl))).trans (hF 3 (by decide))
      have k := (hG.cell (p := ⟨H, 2, none⟩) hH).trans g2
      clear hρ hF hcst hfun sl5 sl6 fin
      exact opv_val (by go_simp <;> rfl) ⟨gw_self _, rfl⟩
    · refine owes_v (Go.Op.pick (Go.Operand.tmp 29) (Go.Operand.const (Go.Value.bool true)) (Go.Operand.tmp 31)) 4 [2, 4] (by kernel_rfl) (by kernel_rfl) (by kernel_rfl) rfl fun vals w1 ρ hG hF hρ hcst hfun => ?_
      have e29 : ρ (.tmp 29) = .bool false := ((hρ 29).trans (slotJ [2, 4] (by rw [hsz]; decide) (by kernel_rfl))).trans (hF 2 (by decide))
      have e31 : ρ (.tmp 31) = .bool true := ((hρ 31).trans (slotJ [2, 4] (by rw [hsz]; decide) (by kernel_rfl))).trans (hF 4 (by decide))
      clear hρ hF hfun sl5 sl6 fin
      exact opv_val (by go_simp <;> rfl) ⟨gw_self _, rfl⟩
    · exact owes_mvj 5 32 (by kernel_rfl) (by kernel_rfl) (by kernel_rfl) (by kernel_rfl) (by rw [hsz]; decide) (fun v w h => h)
    · exact owes_no 6 true false (by decide) (by kernel_rfl) (by kernel_rfl) (fun _ _ h => h) (by rw [hsz]; kernel_rfl) (fun _ => rfl)
    · exact owes_no 6 true false (by decide) (by kernel_rfl) (by kernel_rfl) (fun _ _ h => h) (by rw [hsz]; kernel_rfl) (fun _ => rfl)
    · exact owes_no 6 true false (by decide) (by kernel_rfl) (by kernel_rfl) (fun _ _ h => h) (by rw [hsz]; kernel_rfl) (fun _ => rfl)
    · exact owes_no 6 true false (by decide) (by kernel_rfl) (by kernel_rfl) (fun _ _ h => h) (by rw [hsz]; kernel_rfl) (fun _ => rfl)
    · exact owes_no 6 true false (by decide) (by kernel_rfl) (by kernel_rfl) (fun _ _ h => h) (by rw [hsz]; kernel_rfl) (fun _ => rfl)
    · exact owes_no 6 true false (by decide) (by kernel_rfl) (by kernel_rfl) (fun _ _ h => h) (by rw [hsz]; kernel_rfl) (fun _ => rfl)
    · exact owes_no 6 true false (by decide) (by kernel_rfl) (by kernel_rfl) (fun _ _ h => h) (by rw [hsz]; kernel_rfl) (fun _ => rfl)
    · exact owes_no 6 true false (by decide) (by kernel_rfl) (by kernel_rfl) (fun _ _ h => h) (by rw [hsz]; kernel_rfl) (fun _ => rfl)
    · exact owes_no 6 true false (by decide) (by kernel_rfl) (by kernel_rfl) (fun _ _ h => h) (by rw [hsz]; kernel_rfl) (fun _ => rfl)
    · refine owes_v (Go.Op.pick (Go.Operand.tmp 33) (Go.Operand.const (Go.Value.bool true)) (Go.Operand.tmp 42)) 4 [6, 15] (by kernel_rfl) (by kernel_rfl) (by kernel_rfl) rfl fun vals w1 ρ hG hF hρ hcst hfun => ?_
      have e33 : ρ (.tmp 33) = .bool true := ((hρ 33).trans (slotJ [6, 15] (by rw [hsz]; decide) (by kernel_rfl))).trans (hF 6 (by decide))
      have e42 : ρ (.tmp 42) = undef := ((hρ 42).trans (slotJ [6, 15] (by rw [hsz]; decide) (by kernel_rfl))).trans (hF 15 (by decide))
      clear hρ hF hfun sl5 sl6 fin
      exact opv_val (by go_simp <;> rfl) ⟨gw_self _, rfl⟩
  · intro vals w1 hG hF
    exact fin vals w1 hG (hF 16 (by decide +kernel))
section
variable {B Bs Xb s g mb : Nat} {v rv lv : Value} {ws : List (BitVec 64)} {b t e : Nat} {p : List Nat} {fs : List (Nat × ByteArray)}
theorem lookG_c (w : World) (sp : SpAt w Bs s g v ws b t e) (hw : ws.length ≤ 8192) (F : List Nat × Option Nat) (hF : foundN ws t (t + 1) b = F) :
    Calls Try.prog 22 #[.pointer (some ⟨s, 0, none⟩)] w (LookP w s ws F.1 F.2) := by
  have hbt := sp.bt
  have htl : t ≤ ws.length := Nat.le_trans sp.te sp.el
  have HSp := Lib.hid (And.intro sp (And.intro hbt (And.intro htl hw)))
  obtain ⟨d0, d1, d2, d3⟩ := sp.four
  have hsl := sp.blk.lt
  have HF := Lib.hid (And.intro hF True.intro)
  have tI : (t : Int) ≤ 8192 := by omega
  have bI : (b : Int) ≤ 8192 := by omega
  have hmm := @run_makeMap Try.prog
  clear sp hF hbt htl hw
  go_enter Try.func22, Try.ntmps22
  go_wp2_with fail
  have hm1 : MapIs (w.alloc (.map #[] 0)) (some w.heap.size) (sizR ws []) := tighten (l := []) (World.ownsMap_made w Try.prog 3 (plainElem Try.prog 3))
  have e1 : (w.alloc (.map #[] 0)).heap.size = w.heap.size + 1 := by unfold World.alloc; simp
  have hbk0 := Bk.new (w.alloc (.map #[] 0)) 72 #[.pointer (some ⟨s, 0, none⟩), .slice none 0 0, .map (some w.heap.size), .slice none 0 0]
  rw [e1] at hbk0
  have b12 := Gw.alloc (w.alloc (.map #[] 0)) (.cells #[.pointer (some ⟨s, 0, none⟩), .slice none 0 0, .map (some w.heap.size), .slice none 0 0] 72)
  have hm2 := hm1.kept (Kept.of_below b12 (fun _ => False)) (fun _ _ f => f)
  have hb02 : Below w.heap.size w ((w.alloc (.map #[] 0)).alloc (.cells #[.pointer (some ⟨s, 0, none⟩), .slice none 0 0, .map (some w.heap.size), .slice none 0 0] 72)) := (Gw.alloc w _).trans (b12.mono (by omega))
  obtain ⟨w2, hw2⟩ : ∃ w2, w2 = (w.alloc (.map #[] 0)).alloc (.cells #[.pointer (some ⟨s, 0, none⟩), .slice none 0 0, .map (some w.heap.size), .slice none 0 0] 72) := ⟨_, rfl⟩
  rw [← hw2] at hbk0 hm2 hb02 ⊢
  obtain ⟨Xb, hXb⟩ : ∃ m, m = w.heap.size + 1 := ⟨_, rfl⟩
  obtain ⟨mb, hmb⟩ : ∃ m, m = w.heap.size := ⟨_, rfl⟩
  rw [← hXb] at hbk0 ⊢
  rw [← hmb] at hbk0 hm2
  have hlk : LkAt w2 w.heap.size Xb s mb (.slice none 0 0) (.slice none 0 0) ws [] [] := ⟨hbk0, Ow.nil_ _ _ _ _, hm2, FR.nil _ _, by omega, fun k _ => ⟨fun h => (by cases h), fun h => (by cases h)⟩, fun k h => (by cases h), ⟨by omega, by omega⟩⟩
  have HS0 : Hid (∃ rv pd n, LkAt w2 w.heap.size Xb s mb rv (.slice none 0 0) ws pd [] ∧ (∀ y ∈ pd, y < b) ∧ pd ++ (foundN ws t n b).1 = F.1 ∧ (foundN ws t n b).2 = F.2 ∧ t + 1 ≤ b + n ∧ Below w.heap.size w w2) := Lib.hid ⟨_, [], t + 1, hlk, fun _ h => (by cases h), by rw [HF.out.1]; rfl, by rw [HF.out.1], by omega, hb02⟩
  have HXl := Lib.hid hlk.blk.lt
  clear hlk hbk0 hm1 hm2 b12 hb02 hw2 hXb hmb e1 hmm d0 d1 d2 d3 hsl
  go_loopw [4] (fun x W => ∃ a : Nat, x = .int .i64 a ∧ b ≤ a ∧ a ≤ t ∧ Hid (∃ rv pd n, LkAt W w.heap.size Xb s mb rv (.slice none 0 0) ws pd [] ∧ (∀ y ∈ pd, y < a) ∧ pd ++ (foundN ws t n a).1 = F.1 ∧ (foundN ws t n a).2 = F.2 ∧ t + 1 ≤ a + n ∧ Below w.heap.size w W)) (fun x _ => t - (Go.RowKit.intOf x).toNat)
  case atStart => exact ⟨b, rfl, Nat.le_refl _, HSp.out.2.1, HS0⟩
  case round =>
    obtain ⟨a, rfl, hba, hat, hS⟩ := hrel
    clear HS0
    obtain ⟨rv, pd, n, e1, e2, e3, e4, e5, e6⟩ := hS.out
    have sp := HSp.out.1.below e6
    obtain ⟨d0, d1, d2, d3⟩ := sp.four
    have hsl := sp.blk.lt
    have p0 : (0 : Int) ≤ (a : Int) := by omega
    by_cases hlt : a < t
    · have p1 : (a : Int) < (t : Int) := by omega
      obtain ⟨x, hx⟩ : ∃ x, x = ws.getD a 0#64 := ⟨_, rfl⟩
      obtain ⟨m, rfl⟩ : ∃ m, n = m + 1 := ⟨n - 1, by omega⟩
      have hal : a < ws.length := by have := HSp.out.2.2.1; omega
      have hHd := sphead_in wr Bs s g v ws b t e sp a hba hlt (by have := HSp.out.2.2.2; omega) hal
      have hxe : ws[a] = x := by rw [hx, List.getD_eq_getElem?_getD, List.getElem?_eq_getElem hal]; rfl
      rw [hxe] at hHd
      unfold foundN at e3 e4
      rw [if_pos hlt, ← hx] at e3 e4
      by_cases hg : goodX x (t - a) = true
      · rw [if_pos hg] at e3 e4
        obtain ⟨hv, hP64, hB1024, hsx, hsz, hroom⟩ := head_of hg
        rw [hv] at hHd
        have HHd := Lib.hid hHd
        obtain ⟨P, hP⟩ : ∃ P, P = P0 x := ⟨_, rfl⟩
        obtain ⟨nb, hn⟩ : ∃ P, P = B0 x := ⟨_, rfl⟩
        obtain ⟨sz, hszz⟩ : ∃ P, P = szX x := ⟨_, rfl⟩
        rw [← hP, ← hn] at HHd hsz
        rw [← hszz] at hsz hroom e3 e4
        have hs1 : 1 ≤ sz := by rw [hszz, hsx]; omega
        have HSz := Lib.hid (fun W => size_c (P : Int) (nb : Int) false 0 W)
        rw [hsz] at HSz
        obtain ⟨rA, rc, e0, _⟩ := e1.row.form
        obtain ⟨np, hnp⟩ : ∃ np, np = pd.length := ⟨_, rfl⟩
        rw [← hnp] at e0
        subst e0
        have hpl : pd.length ≤ 8192 := by
          have h1 := congrArg List.length e3
          have h2 := found_len ws t (t + 1) b
          rw [HF.out.1, ← h1] at h2
          have := HSp.out.2.2.2
          have := HSp.out.2.2.1
          simp at h2
          omega
        have HE := Lib.hid (And.intro e1 (And.intro e2 (And.intro e3 (And.intro e4 (And.intro e5 (And.intro e6 (And.intro hx (And.intro hszz hpl))))))))
        have z1 : (sz : Int) ≤ (t : Int) - (a : Int) := by omega
        have z2 : (1 : Int) ≤ (sz : Int) := by omega
        clear hHd e1 e2 e3 e4 e5 e6 hS hx hxe hg sp hv hsx hsz hP hn hszz hnp hpl hroom
        go_wp2_with fail
        refine Calls.mono HHd.out ?_
        rintro r w3 ⟨rfl, b3⟩
        have H3 := Lib.hid b3
        clear b3 d0 d1 d2 d3
        go_wp2_with fail
        obtain ⟨Hb, hHb⟩ : ∃ H, H = w3.heap.size := ⟨_, rfl⟩
        obtain ⟨w4, hw4⟩ : ∃ w3', w3' = w3.alloc (.cells #[.int .i64 (P : Int), .int .i64 (nb : Int), .bool false, .int .i64 0] 111) := ⟨_, rfl⟩
        have hbk : Bk w4 Hb 111 #[.int .i64 (P : Int), .int .i64 (nb : Int), .bool false, .int .i64 0] := by rw [hw4, hHb]; exact Bk.new w3 _ _
        have b34 : Below w3.heap.size w3 w4 := by rw [hw4]; exact Gw.alloc w3 _
        rw [← hw4, ← hHb]
        have b4 := H3.out.trans (b34.mono H3.out.size)
        have h4 := HE.out.1.below b4
        have sp4 := HSp.out.1.below (HE.out.2.2.2.2.2.1.trans (b4.mono HE.out.2.2.2.2.2.1.size))
        have d2 := sp4.four.2.2.1
        have hs4 := sp4.blk.lt
        obtain ⟨g0, g1, g2, g3⟩ := hbk.four
        have hHl := hbk.lt
        have HBk := Lib.hid (And.intro hbk (And.intro (show Hb ≠ Xb ∧ Hb ≠ mb ∧ (∀ k, (Value.slice rA np rc).ownBlock = some k → k ≠ Hb) from by
          have l := (HE.out.1.below H3.out).lts
          exact ⟨by omega, by omega, fun k hk e => by have := (l.2.2.1 k hk).2; omega⟩) b4))
        clear hw4 hHb b34 hbk h4 sp4 b4
        refine lo5c _ _ _ Hb s a t (P : Int) (nb : Int) (sz : Int) false hHl hs4 g0 g1 g2 g3 d2 p1 tI p0 (decide_eq_false (by omega)) HSz rfl ?_ ?_ ?_ ?_ ?_
        · rfl
        · rfl
        · rfl
        · rfl
        intro vals w5 hG h43
        unfold IsV at h43
        simp only [putD, Act.put, List.setIfInBounds_toArray, List.set_cons_zero, List.set_cons_succ, h43]
        have hb5 := HBk.out.2.2.trans (hG.mono HBk.out.2.2.size)
        have h5 := HE.out.1.below hb5
        have H5 := Lib.hid (And.intro h5 (And.intro hb5 (HBk.out.1.below hG HBk.out.1.lt)))
        obtain ⟨c0, c1, c2, c3⟩ := h5.four
        have hXl := h5.blk.lt
        have HO := Lib.hid h5.row
        have HLn := Lib.hid (show pd.length + [a].length ≤ 4294967296 by have := HE.out.2.2.2.2.2.2.2.2; simp; omega)
        have HBs := Lib.hid h5.lts.2.2.2.2
        clear hG h43 hb5 h5 g0 g1 g2 g3 d2 hs4 hHl
        go_wp2_with (at_builtin; refine wp_app oneI iN_one rfl (.tmp 51) (.tmp 53) rfl w.heap.size _ pd rfl (HO.out.alloc _) (some ⟨w5.heap.size, 0, none⟩) 1 1 [a] rfl rfl (w5.heap.size + 1) (rdN_new w5 a) HLn.out (by decide) (Nat.le_trans HBs.out (Gw.alloc w5 _).size) ?_; intro v6 w6 ho6 hb6 hg6 hv6; obtain ⟨A6, c6, e6, _⟩ := ho6.form; obtain ⟨n6, hn6⟩ : ∃ n, n = (pd ++ [a]).length := ⟨_, rfl⟩; rw [← hn6] at e6; subst e6; clear hn6; have hk6 := (H5.out.1.blk.alloc (.cells #[.int .i64 (a : Int)] 3)).grownK hg6 (fun e => (H5.out.1.ap Xb (.inl rfl)).1 e.symm); have HK := Lib.hid (And.intro ho6 (And.intro (show World.grownBy (w5.alloc (.cells #[.int .i64 (a : Int)] 3)) w6 (Value.slice rA np rc).ownBlock from hg6) (show (Value.slice A6 n6 c6).ownBlock = (Value.slice rA np rc).ownBlock ∨ (Value.slice A6 n6 c6).ownBlock = some (w5.alloc (.cells #[.int .i64 (a : Int)] 3)).heap.size from hv6))); have j1 := hk6.cell 1; have jf := hk6.free 1; have jX := hk6.lt; clear ho6 hb6 hg6 hv6 hk6 c0 c1 c2 c3)
        have hpl := H5.out.1.place HK.out.1 HK.out.2.1 HK.out.2.2 _ rfl
        obtain ⟨q1, q2, q3, q4, q5, q6, q7⟩ := hpl
        have hK6 := (Kept.alloc (fun k => k = Xb ∨ (Value.slice rA np rc).ownBlock = some k) w5 (.cells #[.int .i64 (a : Int)] 3)).trans (((Kept.grown HK.out.2.1).more (S' := fun k => k = Xb ∨ (Value.slice rA np rc).ownBlock = some k) (fun k hk => .inr hk)).trans ((Kept.set w6 Xb 1 (.slice A6 n6 c6)).more (S' := fun k => k = Xb ∨ (Value.slice rA np rc).ownBlock = some k) (fun k hk => .inl hk)))
        obtain ⟨w7, hw7⟩ : ∃ w7, w7 = w6.setCell ⟨Xb, 1, none⟩ (.slice A6 n6 c6) := ⟨_, rfl⟩
        rw [← hw7] at q1 q2 q3 q4 q7 hK6 ⊢
        have hbk7 := hK6.bk H5.out.2.2 (fun h => h.elim (fun h => HBk.out.2.1.1 h) (fun h => HBk.out.2.1.2.2 _ h rfl))
        have H7 := Lib.hid (And.intro q1 (And.intro q2 (And.intro q3 (And.intro q4 (And.intro q5 (And.intro q6 (And.intro q7 hbk7)))))))
        have x2 := q1.cell 2
        have x2l := q1.lt
        obtain ⟨g0, g1, g2, g3⟩ := hbk7.four
        have hHl := hbk7.lt
        clear hw7 q1 q2 q3 q4 q5 q6 q7 hK6 hbk7 j1 jf jX hXl
        refine lo8 _ _ _ Hb Xb mb a (P : Int) (nb : Int) (sz : Int) hHl x2l g0 g1 g2 g3 x2 HSz rfl ?_ ?_ ?_ ?_
        · rfl
        · rfl
        · rfl
        intro vals8 w8 hG8 h60 h61 h63
        unfold IsV at h60 h61 h63
        simp only [putD, Act.put, List.setIfInBounds_toArray, List.set_cons_zero, List.set_cons_succ, h60, h61, h63]
        have H8 := Lib.hid hG8
        have HM8 := Lib.hid (H7.out.2.2.1.kept (Kept.of_below hG8 (fun _ => False)) (fun _ _ f => f))
        have HWF := Lib.hid (show (Lit.int .i64 (a : Int)).wf = true ∧ (Lit.int .i64 (sz : Int)).wf = true ∧ (sizR ws pd).length ≤ 1000000 from ⟨by simp [Lit.wf, IntKind.min, IntKind.max, IntKind.signed, IntKind.bits]; omega, by simp [Lit.wf, IntKind.min, IntKind.max, IntKind.signed, IntKind.bits]; omega, by have := HE.out.2.2.2.2.2.2.2.2; unfold sizR; simp; omega⟩)
        clear hG8 h60 h61 h63 g0 g1 g2 g3 hHl x2 x2l
        go_wp2_with (refine wp_put_is (b := mb) (l := sizR ws pd) rfl (.tmp 60) (.tmp 61) (.tmp 63) rfl rfl HM8.out (a : Int) (sz : Int) rfl rfl HWF.out.1 HWF.out.2.1 HWF.out.2.2 ?_; intro w9 hm9 hk9; have hb9 := hk9.bk (H7.out.2.2.2.2.2.2.2.below H8.out H7.out.2.2.2.2.2.2.2.lt) (fun h => by injection h with h; exact HBk.out.2.1.2.1 h.symm); obtain ⟨g0, g1, g2, g3⟩ := hb9.four; have hHl := hb9.lt; have H9 := Lib.hid (And.intro hm9 hk9); clear hm9 hk9 hb9)
        refine Calls.mono (HSz.out w9) ?_
        rintro r w10 ⟨rfl, b10⟩
        have HN : Hid (∃ rv pd n, LkAt w10 w.heap.size Xb s mb rv (.slice none 0 0) ws pd [] ∧ (∀ y ∈ pd, y < a + sz) ∧ pd ++ (foundN ws t n (a + sz)).1 = F.1 ∧ (foundN ws t n (a + sz)).2 = F.2 ∧ t + 1 ≤ a + sz + n ∧ Below w.heap.size w w10) := by
          obtain ⟨q1, q2, q3, q4, q5, q6, q7, q8⟩ := H7.out
          obtain ⟨e1, e2, e3, e4, e5, e6, hx, hszz, hpl⟩ := HE.out
          obtain ⟨hm9, hk9⟩ := H9.out
          have hnX : ¬ (some mb = some Xb) := fun h => by injection h with h; exact e1.ne h.symm
          have hm9' : MapIs w9 (some mb) (sizR ws (pd ++ [a])) := by
            rw [← sizR_snoc ws pd a e2, ← hx, ← hszz]
            exact hm9
          have b8 := H8.out
          have hB8 : w.heap.size ≤ w8.heap.size := by have := e6.size; have := H5.out.2.1.size; have := q7.size; have := b8.size; omega
          have hL : LkAt w9 w.heap.size Xb s mb (.slice A6 n6 c6) (.slice none 0 0) ws (pd ++ [a]) [] := ⟨hk9.bk (q1.below b8 q1.lt) hnX, hk9.ow (q2.below b8) (fun k hk e => by injection e with e; exact (q5 mb (.inr rfl)).1 (e ▸ hk)), hm9', FR.nil _ _, e1.ne, q5, q6, e1.BX⟩
          refine Lib.hid ⟨_, pd ++ [a], m, hL.below b10, fun y hy => ?_, by rw [List.append_assoc]; exact e3, e4, by omega, ?_⟩
          · rcases List.mem_append.1 hy with h | h
            · have := e2 y h; omega
            · rw [List.mem_singleton.1 h]; omega
          · have h7 : Below w.heap.size w w7 := (e6.trans (H5.out.2.1.mono e6.size)).trans q7
            have h8 := h7.trans (b8.mono h7.size)
            have h9 := h8.trans (hk9.below h8.size (fun k hk => by injection hk with hk; rw [← hk]; exact e1.BX.2))
            exact h9.trans (b10.mono h9.size)
        have zt : a + sz ≤ t := by omega
        have zb : b ≤ a + sz := by omega
        obtain ⟨nx, hnx⟩ : ∃ nx, nx = a + sz := ⟨_, rfl⟩
        rw [← hnx] at HN zt zb
        have z4 : (a : Int) + (sz : Int) = (nx : Int) := by omega
        have z5 : (nx : Int) ≤ 8192 := by omega
        have z6 : a < nx := by omega
        clear b10 g0 g1 g2 g3 hHl hnx
        go_wp2_with fail
        go_roundw
        case rel => first | exact ⟨nx, by go_num, zb, zt, HN⟩ | ((repeat apply Exists.intro); refine ⟨?_, rfl⟩; exact ⟨nx, by go_num, zb, zt, HN⟩)
        case measure => simp [Go.RowKit.intOf]; omega
      · rw [if_neg hg] at e3 e4
        by_cases hok : okU x = false
        · rw [unV_no hok] at hHd
          have HHd := Lib.hid hHd
          have HE := Lib.hid (And.intro e1 (And.intro (show pd = F.1 from by rw [← e3]; exact (List.append_nil _).symm) (And.intro (show F.2 = some a from e4.symm) e6)))
          clear hHd e1 e2 e3 e4 e5 e6 hS hx hxe hok hg sp
          go_wp2_with fail
          refine Calls.mono HHd.out ?_
          rintro r w3 ⟨rfl, b3⟩
          have H3 := Lib.hid b3
          clear b3 d0 d1 d2 d3
          go_wp2_with fail
          obtain ⟨Hb, hHb⟩ : ∃ H, H = w3.heap.size := ⟨_, rfl⟩
          obtain ⟨w4, hw4⟩ : ∃ w3', w3' = w3.alloc (.cells #[.int .i64 0, .int .i64 0, .bool false, .int .i64 0] 111) := ⟨_, rfl⟩
          have b34 : Below w3.heap.size w3 w4 := by rw [hw4]; exact Gw.alloc w3 _
          rw [← hw4, ← hHb]
          have H4 := Lib.hid (H3.out.trans (b34.mono H3.out.size))
          clear hw4 hHb b34
          refine lo5a _ _ _ Hb 2 (by decide) ?_ ?_ ?_
          · rfl
          · rfl
          intro vals w5 hG h43
          unfold IsV at h43
          simp only [putD, Act.put, List.setIfInBounds_toArray, List.set_cons_zero, List.set_cons_succ, h43]
          have hb5 := H4.out.trans (hG.mono H4.out.size)
          have HT := Lib.hid (tell_c w5 (HE.out.1.below hb5) (Nat.zero_le _) a headS)
          have H5 := Lib.hid hb5
          unfold headS at HT
          clear hG h43 hb5
          go_wp2_with fail
          refine Calls.mono HT.out ?_
          rintro r w6 ⟨rfl, lv', h6, k6, n6⟩
          have H6 := Lib.hid (And.intro h6 k6)
          clear h6 k6 n6
          go_wp2_with fail
          go_ret
          obtain ⟨e1, hp, hb, e6⟩ := HE.out
          refine ⟨Xb, mb, rv, lv', rfl, ?_, ?_⟩
          · rw [← hp, hb]
            exact H6.out.1
          · have h5 := e6.trans (H5.out.mono e6.size)
            exact h5.trans (H6.out.2.below h5.size (fun k hk => hk.elim (fun h => by rw [h]; exact e1.BX.1) (fun h => by cases h)))
        · have hok : okU x = true := by simpa using hok
          by_cases hmv : fM x = true
          · rw [unV_yes hok, hmv] at hHd
            obtain ⟨xP, hxP⟩ : ∃ z, z = fP x := ⟨_, rfl⟩
            obtain ⟨xB, hxB⟩ : ∃ z, z = fB x := ⟨_, rfl⟩
            obtain ⟨xT, hxT⟩ : ∃ z, z = fT x := ⟨_, rfl⟩
            rw [← hxP, ← hxB, ← hxT] at hHd
            clear hxP hxB hxT hmv
            have HHd := Lib.hid hHd
            have HE := Lib.hid (And.intro e1 (And.intro (show pd = F.1 from by rw [← e3]; exact (List.append_nil _).symm) (And.intro (show F.2 = some a from e4.symm) e6)))
            clear hHd e1 e2 e3 e4 e5 e6 hS hx hxe hok hg sp
            go_wp2_with fail
            refine Calls.mono HHd.out ?_
            rintro r w3 ⟨rfl, b3⟩
            have H3 := Lib.hid b3
            clear b3 d0 d1 d2 d3
            go_wp2_with fail
            obtain ⟨Hb, hHb⟩ : ∃ H, H = w3.heap.size := ⟨_, rfl⟩
            obtain ⟨w4, hw4⟩ : ∃ w3', w3' = w3.alloc (.cells #[.int .i64 (xP : Int), .int .i64 (xB : Int), .bool true, .int .i64 (xT : Int)] 111) := ⟨_, rfl⟩
            have hbk : Bk w4 Hb 111 #[.int .i64 (xP : Int), .int .i64 (xB : Int), .bool true, .int .i64 (xT : Int)] := by rw [hw4, hHb]; exact Bk.new w3 _ _
            have b34 : Below w3.heap.size w3 w4 := by rw [hw4]; exact Gw.alloc w3 _
            rw [← hw4, ← hHb]
            have H4 := Lib.hid (H3.out.trans (b34.mono H3.out.size))
            have b4 := H4.out
            have sp4 := HSp.out.1.below (HE.out.2.2.2.trans (b4.mono HE.out.2.2.2.size))
            have d2 := sp4.four.2.2.1
            have hs4 := sp4.blk.lt
            obtain ⟨g0, g1, g2, g3⟩ := hbk.four
            have hHl := hbk.lt
            clear hw4 hHb b34 hbk b4 sp4
            refine lo5b _ _ _ Hb hHl g2 ?_ ?_ ?_ ?_
            · rfl
            · rfl
            · rfl
            intro vals w5 hG h43
            unfold IsV at h43
            simp only [putD, Act.put, List.setIfInBounds_toArray, List.set_cons_zero, List.set_cons_succ, h43]
            have hb5 := H4.out.trans (hG.mono H4.out.size)
            have HT := Lib.hid (tell_c w5 (HE.out.1.below hb5) (Nat.zero_le _) a headS)
            have H5 := Lib.hid hb5
            unfold headS at HT
            clear hG h43 hb5 g0 g1 g2 g3 hHl d2 hs4
            go_wp2_with fail
            refine Calls.mono HT.out ?_
            rintro r w6 ⟨rfl, lv', h6, k6, n6⟩
            have H6 := Lib.hid (And.intro h6 k6)
            clear h6 k6 n6
            go_wp2_with fail
            go_ret
            obtain ⟨e1, hp, hb, e6⟩ := HE.out
            refine ⟨Xb, mb, rv, lv', rfl, ?_, ?_⟩
            · rw [← hp, hb]
              exact H6.out.1
            · have h5 := e6.trans (H5.out.mono e6.size)
              exact h5.trans (H6.out.2.below h5.size (fun k hk => hk.elim (fun h => by rw [h]; exact e1.BX.1) (fun h => by cases h)))
          · have hmv : fM x = false := by simpa using hmv
            obtain ⟨P, nb, n1, n2, n3, n4, n5, n6, n7⟩ := head_nums hok hmv
            rw [unV_yes hok, hmv, n1, n2, n3] at hHd
            obtain ⟨sz, hszz⟩ : ∃ z, z = szX x := ⟨_, rfl⟩
            rw [← hszz] at n7 n6
            have hbig : t - a < sz := by
              rw [hszz]
              have h1 : ¬ szX x ≤ t - a := fun h => hg (by unfold goodX; rw [hok, hmv, decide_eq_true h]; rfl)
              omega
            have z1 : (t : Int) - (a : Int) < (sz : Int) := by omega
            have z2 : (sz : Int) ≤ 1000 := by omega
            have HSz := Lib.hid (fun W => size_c (P : Int) (nb : Int) false 0 W)
            rw [n7] at HSz
            clear n1 n2 n3 n4 n5 n6 n7 hszz hbig hmv
            have HHd := Lib.hid hHd
            have HE := Lib.hid (And.intro e1 (And.intro (show pd = F.1 from by rw [← e3]; exact (List.append_nil _).symm) (And.intro (show F.2 = some a from e4.symm) e6)))
            clear hHd e1 e2 e3 e4 e5 e6 hS hx hxe hok hg sp
            go_wp2_with fail
            refine Calls.mono HHd.out ?_
            rintro r w3 ⟨rfl, b3⟩
            have H3 := Lib.hid b3
            clear b3 d0 d1 d2 d3
            go_wp2_with fail
            obtain ⟨Hb, hHb⟩ : ∃ H, H = w3.heap.size := ⟨_, rfl⟩
            obtain ⟨w4, hw4⟩ : ∃ w3', w3' = w3.alloc (.cells #[.int .i64 (P : Int), .int .i64 (nb : Int), .bool false, .int .i64 0] 111) := ⟨_, rfl⟩
            have hbk : Bk w4 Hb 111 #[.int .i64 (P : Int), .int .i64 (nb : Int), .bool false, .int .i64 0] := by rw [hw4, hHb]; exact Bk.new w3 _ _
            have b34 : Below w3.heap.size w3 w4 := by rw [hw4]; exact Gw.alloc w3 _
            rw [← hw4, ← hHb]
            have H4 := Lib.hid (H3.out.trans (b34.mono H3.out.size))
            have b4 := H4.out
            have sp4 := HSp.out.1.below (HE.out.2.2.2.trans (b4.mono HE.out.2.2.2.size))
            have d2 := sp4.four.2.2.1
            have hs4 := sp4.blk.lt
            obtain ⟨g0, g1, g2, g3⟩ := hbk.four
            have hHl := hbk.lt
            clear hw4 hHb b34 hbk b4 sp4
            refine lo5c _ _ _ Hb s a t (P : Int) (nb : Int) (sz : Int) true hHl hs4 g0 g1 g2 g3 d2 p1 tI p0 (decide_eq_true (by omega)) HSz rfl ?_ ?_ ?_ ?_ ?_
            · rfl
            · rfl
            · rfl
            · rfl
            intro vals w5 hG h43
            unfold IsV at h43
            simp only [putD, Act.put, List.setIfInBounds_toArray, List.set_cons_zero, List.set_cons_succ, h43]
            have hb5 := H4.out.trans (hG.mono H4.out.size)
            have HT := Lib.hid (tell_c w5 (HE.out.1.below hb5) (Nat.zero_le _) a headS)
            have H5 := Lib.hid hb5
            unfold headS at HT
            clear hG h43 hb5 g0 g1 g2 g3 hHl d2 hs4
            go_wp2_with fail
            refine Calls.mono HT.out ?_
            rintro r w6 ⟨rfl, lv', h6, k6, n6⟩
            have H6 := Lib.hid (And.intro h6 k6)
            clear h6 k6 n6
            go_wp2_with fail
            go_ret
            obtain ⟨e1, hp, hb, e6⟩ := HE.out
            refine ⟨Xb, mb, rv, lv', rfl, ?_, ?_⟩
            · rw [← hp, hb]
              exact H6.out.1
            · have h5 := e6.trans (H5.out.mono e6.size)
              exact h5.trans (H6.out.2.below h5.size (fun k hk => hk.elim (fun h => by rw [h]; exact e1.BX.1) (fun h => by cases h)))
    · have p1 : ¬ (a : Int) < (t : Int) := by omega
      have hF2 : foundN ws t n a = ([], none) := by
        cases n with
        | zero => rfl
        | succ m => unfold foundN; rw [if_neg hlt]
      rw [hF2] at e3 e4
      have HE := Lib.hid (And.intro e1 (And.intro (show pd = F.1 from by rw [← e3]; exact (List.append_nil _).symm) (And.intro (show F.2 = none from e4.symm) e6)))
      clear e1 e2 e3 e4 e5 e6 hS hF2 sp
      go_wp2_with fail
      go_ret
      obtain ⟨e1, hp, hb, e6⟩ := HE.out
      refine ⟨Xb, mb, rv, .slice none 0 0, rfl, ?_, e6⟩
      rw [← hp, hb]
      exact e1
end
end Go.Proofs.Ytaminpfgkegibaa
/- check.looked.name: the name at a place. Conditions: lengths. -/
namespace Go.Proofs.Ytaminpfgkegibaa
set_option linter.unusedVariables false
set_option linter.unusedSimpArgs false
open Go.RowKit Go.Maps
set_option maxHeartbeats 2000000
set_option maxRecDepth 100000
theorem nmA (Q : Exit → Act → World → Prop) (a0 : Act) (w : World) (q r : Nat) (arr ar2 : Array Value) (st : ByteArray) (y : Bool) (hs : arr.size = 32) (hs2 : ar2.size = 32) (hq : Bk w q 147 arr) (hr : Bk w r 147 ar2) (HST : Hid (∀ W, Calls Try.prog 81 #[.agg arr] W (RetP (.string st) W))) (HEQ : Hid (∀ W, (Op.equalIn 10000 147 (.agg ar2) (.agg arr)).run Try.prog W = .ok y W)) (hsz : a0.tmps.size = 43) (sl7 : a0.tmps.getD 7 undef = .int .i64 0) (sl8 : a0.tmps.getD 8 undef = .pointer (some ⟨q, 0, none⟩)) (sl9 : a0.tmps.getD 9 undef = .pointer (some ⟨r, 0, none⟩))
    (fin : ∀ (vals : Nat → Value) (w1 : World), Below w.heap.size w w1 → (IsV (.string st)) (vals 9) w1 → (IsV (.bool y)) (vals 10) w1 → Q .normal (putD vals [34, 35, 36, 37, 38, 39, 40, 41, 42, 4, 5] 0 a0) w1) :
    (Code.region 6 (regIn Try.f51 6) true).wp Try.prog Q a0 w := by
  refine region_by (G := fun w w1 => Below w.heap.size w w1) [IsV (.agg arr),
    IsV (.string st),
    IsV (.int .i64 0),
    IsV (.bool true),
    IsV (.bool true),
    IsV (.agg ar2),
    IsV (.agg arr),
    IsV (.bool y),
    IsV (.bool y),
    IsV (.string st),
    IsV (.bool y)]
    [34, 35, 36, 37, 38, 39, 40, 41, 42, 4, 5] (by kernel_rfl) (Gw.drew _) Gw.trans (by rw [hsz]; kernel_rfl) (by kernel_rfl) ?_ ?_ ?_
  · intro f hf
    simp only [List.mem_cons, List.not_mem_nil, or_false] at hf
    rcases hf with rfl | rfl | rfl | rfl | rfl | rfl | rfl | rfl | rfl | rfl | rfl <;> intro v a b h g <;> first | exact IsV.mono h
  · refine ⟨?_, ?_, ?_, ?_, ?_, ?_, ?_, ?_, ?_, ?_, ?_, trivial⟩
    · refine owes_v (Go.Op.load 147 (Go.Operand.tmp 8)) 147 [] (by kernel_rfl) (by kernel_rfl) (by kernel_rfl) rfl fun vals w1 ρ hG hF hρ hcst hfun => ?_
      have e8 : ρ (.tmp 8) = .pointer (some ⟨q, 0, none⟩) := ((hρ 8).trans (slotO [] (by kernel_rfl))).trans sl8
      clear hρ hF hcst hfun sl7 sl8 sl9 fin
      exact opv_ldNm e8 (hq.below hG hq.lt) hs
    · refine owes_v (Go.Op.call { callee := Go.Callee.value (Go.Operand.func 81), args := #[Go.Operand.tmp 34], argTypes := #[147] }) 9 [0] (by kernel_rfl) (by kernel_rfl) (by kernel_rfl) rfl fun vals w1 ρ hG hF hρ hcst hfun => ?_
      have e34 : ρ (.tmp 34) = .agg arr := ((hρ 34).trans (slotJ [0] (by rw [hsz]; decide) (by kernel_rfl))).trans (hF 0 (by decide))
      clear hρ hF hcst sl7 sl8 sl9 fin
      exact opv_enter (by go_simp <;> rfl) (of_ret (HST.out w1))
    · exact owes_mv 7 (by kernel_rfl) (by kernel_rfl) (by kernel_rfl) sl7 (fun _ => rfl)
    · refine owes_v (Go.Op.binOp Go.BinOp.eql 30 (Go.Operand.tmp 36) (Go.Operand.const (Go.Value.int Go.IntKind.i64 0)) 30) 4 [2] (by kernel_rfl) (by kernel_rfl) (by kernel_rfl) rfl fun vals w1 ρ hG hF hρ hcst hfun => ?_
      have e36 : ρ (.tmp 36) = .int .i64 0 := ((hρ 36).trans (slotJ [2] (by rw [hsz]; decide) (by kernel_rfl))).trans (hF 2 (by decide))
      clear hρ hF hfun sl7 sl8 sl9 fin
      exact opv_val (by go_simp <;> rfl) ⟨gw_self _, rfl⟩
    · exact owes_mvj 3 37 (by kernel_rfl) (by kernel_rfl) (by kernel_rfl) (by kernel_rfl) (by rw [hsz]; decide) (fun v w h => h)
    · refine owes_vt 4 true (Go.Op.load 147 (Go.Operand.tmp 9)) 147 [] (by kernel_rfl) (by kernel_rfl) (by kernel_rfl) (fun _ _ h => h) (by rw [hsz]; kernel_rfl) (by kernel_rfl) rfl fun vals w1 ρ hG hF hρ hcst hfun => ?_
      have e9 : ρ (.tmp 9) = .pointer (some ⟨r, 0, none⟩) := ((hρ 9).trans (slotO [] (by kernel_rfl))).trans sl9
      clear hρ hF hcst hfun sl7 sl8 sl9 fin
      exact opv_ldNm e9 (hr.below hG hr.lt) hs2
    · refine owes_vt 4 true (Go.Op.load 147 (Go.Operand.tmp 8)) 147 [] (by kernel_rfl) (by kernel_rfl) (by kernel_rfl) (fun _ _ h => h) (by rw [hsz]; kernel_rfl) (by kernel_rfl) rfl fun vals w1 ρ hG hF hρ hcst hfun => ?_
      have e8 : ρ (.tmp 8) = .pointer (some ⟨q, 0, none⟩) := ((hρ 8).trans (slotO [] (by kernel_rfl))).trans sl8
      clear hρ hF hcst hfun sl7 sl8 sl9 fin
      exact opv_ldNm e8 (hq.below hG hq.lt) hs
    · refine owes_vt 4 true (Go.Op.binOp Go.BinOp.eql 147 (Go.Operand.tmp 39) (Go.Operand.tmp 40) 147) 4 [5, 6] (by kernel_rfl) (by kernel_rfl) (by kernel_rfl) (fun _ _ h => h) (by rw [hsz]; kernel_rfl) (by kernel_rfl) rfl fun vals w1 ρ hG hF hρ hcst hfun => ?_
      have e39 : ρ (.tmp 39) = .agg ar2 := ((hρ 39).trans (slotJ [5, 6] (by rw [hsz]; decide) (by kernel_rfl))).trans (hF 5 (by decide))
      have e40 : ρ (.tmp 40) = .agg arr := ((hρ 40).trans (slotJ [5, 6] (by rw [hsz]; decide) (by kernel_rfl))).trans (hF 6 (by decide))
      have k := HEQ.out w1
      clear hρ hF hcst hfun sl7 sl8 sl9 fin
      exact opv_val (by go_simp <;> rfl) ⟨gw_self _, rfl⟩
    · refine owes_v (Go.Op.pick (Go.Operand.tmp 38) (Go.Operand.tmp 41) (Go.Operand.const (Go.Value.bool false))) 4 [4, 7] (by kernel_rfl) (by kernel_rfl) (by kernel_rfl) rfl fun vals w1 ρ hG hF hρ hcst hfun => ?_
      have e38 : ρ (.tmp 38) = .bool true := ((hρ 38).trans (slotJ [4, 7] (by rw [hsz]; decide) (by kernel_rfl))).trans (hF 4 (by decide))
      have e41 : ρ (.tmp 41) = .bool y := ((hρ 41).trans (slotJ [4, 7] (by rw [hsz]; decide) (by kernel_rfl))).trans (hF 7 (by decide))
      clear hρ hF hfun sl7 sl8 sl9 fin
      exact opv_val (by go_simp <;> rfl) ⟨gw_self _, rfl⟩
    · exact owes_mvj 1 35 (by kernel_rfl) (by kernel_rfl) (by kernel_rfl) (by kernel_rfl) (by rw [hsz]; decide) (fun v w h => h)
    · exact owes_mvj 8 42 (by kernel_rfl) (by kernel_rfl) (by kernel_rfl) (by kernel_rfl) (by rw [hsz]; decide) (fun v w h => h)
  · intro vals w1 hG hF
    exact fin vals w1 hG (hF 9 (by decide +kernel)) (hF 10 (by decide +kernel))
theorem nmB (Q : Exit → Act → World → Prop) (a0 : Act) (w : World) (q r : Nat) (er : Int) (arr : Array Value) (st : ByteArray) (her : ¬ er = 0) (hs : arr.size = 32) (hq : Bk w q 147 arr) (HST : Hid (∀ W, Calls Try.prog 81 #[.agg arr] W (RetP (.string st) W))) (hsz : a0.tmps.size = 43) (sl7 : a0.tmps.getD 7 undef = .int .i64 er) (sl8 : a0.tmps.getD 8 undef = .pointer (some ⟨q, 0, none⟩))
    (fin : ∀ (vals : Nat → Value) (w1 : World), Below w.heap.size w w1 → (IsV (.string st)) (vals 9) w1 → (IsV (.bool false)) (vals 10) w1 → Q .normal (putD vals [34, 35, 36, 37, 38, 39, 40, 41, 42, 4, 5] 0 a0) w1) :
    (Code.region 6 (regIn Try.f51 6) true).wp Try.prog Q a0 w := by
  refine region_by (G := fun w w1 => Below w.heap.size w w1) [IsV (.agg arr),
    IsV (.string st),
    IsV (.int .i64 er),
    IsV (.bool false),
    IsV (.bool false),
    IsV undef,
    IsV undef,
    IsV undef,
    IsV (.bool false),
    IsV (.string st),
    IsV (.bool false)]
    [34, 35, 36, 37, 38, 39, 40, 41, 42, 4, 5] (by kernel_rfl) (Gw.drew _) Gw.trans (by rw [hsz]; kernel_rfl) (by kernel_rfl) ?_ ?_ ?_
  · intro f hf
    simp only [List.mem_cons, List.not_mem_nil, or_false] at hf
    rcases hf with rfl | rfl | rfl | rfl | rfl | rfl | rfl | rfl | rfl | rfl | rfl <;> intro v a b h g <;> first | exact IsV.mono h
  · refine ⟨?_, ?_, ?_, ?_, ?_, ?_, ?_, ?_, ?_, ?_, ?_, trivial⟩
    · refine owes_v (Go.Op.load 147 (Go.Operand.tmp 8)) 147 [] (by kernel_rfl) (by kernel_rfl) (by kernel_rfl) rfl fun vals w1 ρ hG hF hρ hcst hfun => ?_
      have e8 : ρ (.tmp 8) = .pointer (some ⟨q, 0, none⟩) := ((hρ 8).trans (slotO [] (by kernel_rfl))).trans sl8
      clear hρ hF hcst hfun sl7 sl8 fin
      exact opv_ldNm e8 (hq.below hG hq.lt) hs
    · refine owes_v (Go.Op.call { callee := Go.Callee.value (Go.Operand.func 81), args := #[Go.Operand.tmp 34], argTypes := #[147] }) 9 [0] (by kernel_rfl) (by kernel_rfl) (by kernel_rfl) rfl fun vals w1 ρ hG hF hρ hcst hfun => ?_
      have e34 : ρ (.tmp 34) = .agg arr := ((hρ 34).trans (slotJ [0] (by rw [hsz]; decide) (by kernel_rfl))).trans (hF 0 (by decide))
      clear hρ hF hcst sl7 sl8 fin
      exact opv_enter (by go_simp <;> rfl) (of_ret (HST.out w1))
    · exact owes_mv 7 (by kernel_rfl) (by kernel_rfl) (by kernel_rfl) sl7 (fun _ => rfl)
    · refine owes_v (Go.Op.binOp Go.BinOp.eql 30 (Go.Operand.tmp 36) (Go.Operand.const (Go.Value.int Go.IntKind.i64 0)) 30) 4 [2] (by kernel_rfl) (by kernel_rfl) (by kernel_rfl) rfl fun vals w1 ρ hG hF hρ hcst hfun => ?_
      have e36 : ρ (.tmp 36) = .int .i64 er := ((hρ 36).trans (slotJ [2] (by rw [hsz]; decide) (by kernel_rfl))).trans (hF 2 (by decide))
      clear hρ hF hfun sl7 sl8 fin
      exact opv_val (by go_simp <;> rfl) ⟨gw_self _, rfl⟩
    · exact owes_mvj 3 37 (by kernel_rfl) (by kernel_rfl) (by kernel_rfl) (by kernel_rfl) (by rw [hsz]; decide) (fun v w h => h)
    · exact owes_no 4 false true (by decide) (by kernel_rfl) (by kernel_rfl) (fun _ _ h => h) (by rw [hsz]; kernel_rfl) (fun _ => rfl)
    · exact owes_no 4 false true (by decide) (by kernel_rfl) (by kernel_rfl) (fun _ _ h => h) (by rw [hsz]; kernel_rfl) (fun _ => rfl)
    · exact owes_no 4 false true (by decide) (by kernel_rfl) (by kernel_rfl) (fun _ _ h => h) (by rw [hsz]; kernel_rfl) (fun _ => rfl)
    · refine owes_v (Go.Op.pick (Go.Operand.tmp 38) (Go.Operand.tmp 41) (Go.Operand.const (Go.Value.bool false))) 4 [4, 7] (by kernel_rfl) (by kernel_rfl) (by kernel_rfl) rfl fun vals w1 ρ hG hF hρ hcst hfun => ?_
      have e38 : ρ (.tmp 38) = .bool false := ((hρ 38).trans (slotJ [4, 7] (by rw [hsz]; decide) (by kernel_rfl))).trans (hF 4 (by decide))
      have e41 : ρ (.tmp 41) = undef := ((hρ 41).trans (slotJ [4, 7] (by rw [hsz]; decide) (by kernel_rfl))).trans (hF 7 (by decide))
      clear hρ hF hfun sl7 sl8 fin
      exact opv_val (by go_simp <;> rfl) ⟨gw_self _, rfl⟩
    · exact owes_mvj 1 35 (by kernel_rfl) (by kernel_rfl) (by kernel_rfl) (by kernel_rfl) (by rw [hsz]; decide) (fun v w h => h)
    · exact owes_mvj 8 42 (by kernel_rfl) (by kernel_rfl) (by kernel_rfl) (by kernel_rfl) (by rw [hsz]; decide) (fun v w h => h)
  · intro vals w1 hG hF
    exact fin vals w1 hG (hF 9 (by decide +kernel)) (hF 10 (by decide +kernel))
end Go.Proofs.Ytaminpfgkegibaa
/- check.looked.name and roots. Conditions: lengths. -/
namespace Go.Proofs.Ytaminpfgkegibaa
set_option linter.unusedVariables false
set_option linter.unusedSimpArgs false
open Go.RowKit Go.Maps
set_option maxHeartbeats 4000000
set_option maxRecDepth 100000
section
variable {wB : World} {B Bs Xb s g mb : Nat} {v rv lv : Value} {ws : List (BitVec 64)} {b t e : Nat} {p : List Nat} {fs : List (Nat × ByteArray)}
theorem name_c (w : World) (hS : SpAt w Bs s g v ws b t e) (h : LkAt w B Xb s mb rv lv ws p fs) (hw : ws.length ≤ 8192) (i a : Nat) (ha : a = 2 + 5 * i) (hi : a + 4 ≤ ws.length) :
    Calls Try.prog 51 #[.pointer (some ⟨Xb, 0, none⟩), .int .i64 (a : Int)] w (RetP (.tuple #[.string (nmS ws i), .bool (nmOk (nmAt ws i))]) w) := by
  obtain ⟨c0, c1, c2, c3⟩ := h.four
  have hX := h.blk.lt
  obtain ⟨d0, d1, d2, d3⟩ := hS.four
  have hsl := hS.blk.lt
  obtain ⟨k, hk⟩ : ∃ k, k = nmAt ws i := ⟨_, rfl⟩
  have hkw : nW k := by rw [hk]; exact nmAt_w ws i
  have HBy := Lib.hid (bytes_k (xs := k) (a := 8 * a) (n := 32) (by rw [hk, ha]; rfl) (by omega) (by omega) hS.mem)
  have hst : nmS ws i = strB (cutN k) := by unfold nmS; rw [hk]
  obtain ⟨st, hs0⟩ : ∃ st, st = strB (cutN k) := ⟨_, rfl⟩
  rw [hst, ← hk, ← hs0]
  have HST := Lib.hid (fun W => string_c W k hkw)
  have hcl := cut_len32 k hkw
  have q1 : (a : Int) * 8 = ((8 * a : Nat) : Int) := by omega
  obtain ⟨a8, ha8⟩ : ∃ a8, a8 = 8 * a := ⟨_, rfl⟩
  have hkl : k.length = 32 := hkw
  rw [← ha8] at q1 HBy
  rw [← hs0] at HST
  have q2 : (a8 : Int) ≤ 65536 := by omega
  have q3 : (0 : Int) ≤ (a8 : Int) := by omega
  have q4 : (a : Int) ≤ 8192 := by omega
  have q5 : (0 : Int) ≤ (a : Int) := by omega
  have hone := nC_one k
  have hsz := nC_size hkw
  obtain ⟨za, hza⟩ : ∃ za, za = nC zN := ⟨_, rfl⟩
  have hzero := zeroN
  rw [← hza] at hzero
  have HZS := Lib.hid (show za.size = 32 from by rw [hza]; exact nC_size zN_w)
  have HZO := Lib.hid (show za.all (·.oneCell') = true from by rw [hza]; exact nC_one zN)
  unfold nV at HST
  have HKW := Lib.hid hkw
  have HKL := Lib.hid hkl
  obtain ⟨arr, harr⟩ : ∃ arr, arr = nC k := ⟨_, rfl⟩
  rw [← harr] at hone hsz HST
  have HA := Lib.hid harr
  have HS32 := Lib.hid hsz
  have HONE := Lib.hid hone
  -- what Fix answers
  have hfix : ∃ (er : Int) (ar2 : Array Value) (y : Bool), (∀ W, Calls Try.prog 80 #[.string st] W (RetP (.tuple #[.agg ar2, .int .i64 er]) W)) ∧ ar2.size = 32 ∧ ar2.all (·.oneCell') = true ∧ ((er = 0 ∧ (∀ W, (Op.equalIn 10000 147 (.agg ar2) (.agg arr)).run Try.prog W = .ok y W) ∧ nmOk k = y) ∨ (¬ er = 0 ∧ nmOk k = false)) := by
    by_cases hg : goodN (cutN k)
    · refine ⟨0, nC (padNm (cutN k)), decide (padNm (cutN k) = k), fun W => by rw [hs0]; exact fix_ok (cutN k) W hg, nC_size (padNm_w hcl), nC_one _, .inl ⟨rfl, ?_, ?_⟩⟩
      · rw [harr]; exact eqN (padNm (cutN k)) k (padNm_w hcl) hkw
      · unfold nmOk
        by_cases he : padNm (cutN k) = k
        · rw [decide_eq_true ⟨hg, he⟩, decide_eq_true he]
        · rw [decide_eq_false (fun h => he h.2), decide_eq_false he]
    · exact ⟨4, nC zN, false, fun W => by rw [hs0]; exact fix_bad (cutN k) W hg, nC_size zN_w, nC_one _, .inr ⟨by decide, decide_eq_false (fun h => hg h.1)⟩⟩
  obtain ⟨er, ar2, y, hf1, hf2, hf3, hf4⟩ := hfix
  obtain ⟨ok, hok⟩ : ∃ ok, ok = nmOk k := ⟨_, rfl⟩
  rw [← hok] at hf4 ⊢
  have HFX := Lib.hid hf1
  have HF2 := Lib.hid hf2
  have HF3 := Lib.hid hf3
  have HF4 := Lib.hid hf4
  have HW0 := Lib.hid (Below.refl w.heap.size w)
  clear hS h hw ha hi hk hkw hst hs0 hcl ha8 hkl hza harr hone hsz hf1 hf2 hf3 hf4 hok
  go_enter Try.func51, Try.ntmps51
  go_wp2_with fail
  refine Calls.mono HBy.out ?_
  rintro r w1 ⟨u, rfl, b1, A, c, rfl, hrd⟩
  rw [HKL.out]
  have HB1 := Lib.hid b1
  have HR1 := Lib.hid hrd
  obtain ⟨ad, rfl⟩ : ∃ ad, A = some ad := by
    obtain ⟨ad, had, _, _⟩ := hrd 0 (by rw [HKL.out]; decide)
    exact ⟨ad, had⟩
  clear b1 hrd d0 d1 d2 d3 c0 c1 c2 c3 hX hsl HBy
  have HQ1 := Lib.hid (Bk.new w1 147 za)
  have HW1 := Lib.hid (HB1.out.trans ((Gw.alloc w1 (.cells za 147)).mono HB1.out.size))
  have harr0 := arrN (some ad) c
  go_wp2_with (first
    | (refine wp_loadRd rfl _ rfl ad rfl k HR1.out HKW.out ?_; rw [← HA.out])
    | (refine wp_storeN rfl _ _ rfl w1.heap.size arr rfl rfl 147 za HQ1.out HS32.out HZS.out HONE.out ?_; intro w2 k2 b2 o2; have HK2 := Lib.hid k2; have HW2 := Lib.hid (HW1.out.trans (b2 w.heap.size HB1.out.size)); clear k2 b2 o2)
    | (refine wp_loadG rfl _ rfl w1.heap.size rfl 147 arr HK2.out HS32.out ?_))
  obtain ⟨q, hq⟩ : ∃ q, q = w1.heap.size := ⟨_, rfl⟩
  rw [← hq] at HK2 ⊢
  clear hq HQ1 HW1 harr0
  refine Calls.mono (HST.out w2) ?_
  rintro r w3 ⟨rfl, b3⟩
  have HK3 := Lib.hid (HK2.out.below b3 HK2.out.lt)
  have HW3 := Lib.hid (HW2.out.trans (b3.mono HW2.out.size))
  clear b3
  go_wp2_with fail
  refine Calls.mono (HFX.out w3) ?_
  rintro r w4 ⟨rfl, b4⟩
  have HK4 := Lib.hid (HK3.out.below b4 HK3.out.lt)
  have HW4 := Lib.hid (HW3.out.trans (b4.mono HW3.out.size))
  clear b4
  have HQ4 := Lib.hid (Bk.new w4 147 za)
  have HK4a := Lib.hid (HK4.out.alloc (.cells za 147))
  have HW4a := Lib.hid (HW4.out.trans ((Gw.alloc w4 (.cells za 147)).mono HW4.out.size))
  have HLt := Lib.hid (show q ≠ w4.heap.size ∧ w.heap.size ≤ w4.heap.size from ⟨by have := HK4.out.lt; omega, HW4.out.size⟩)
  go_wp2_with (refine wp_storeN rfl _ _ rfl w4.heap.size ar2 rfl rfl 147 za HQ4.out HF2.out HZS.out HF3.out ?_; intro w5 k5 b5 o5; have HR5 := Lib.hid k5; have HK5 := Lib.hid (show Bk w5 q 147 arr from (o5 _ HLt.out.1).trans HK4a.out); have HW5 := Lib.hid (HW4a.out.trans (b5 w.heap.size HLt.out.2)); clear k5 b5 o5)
  obtain ⟨r, hr⟩ : ∃ r, r = w4.heap.size := ⟨_, rfl⟩
  rw [← hr] at HR5 ⊢
  clear hr HQ4 HK4a HW4a HLt HK4 HW4 HK3 HW3 HK2 HW2
  rcases HF4.out with ⟨rfl, heq, hy⟩ | ⟨hne, hy⟩
  · have HEQ := Lib.hid heq
    subst hy
    clear heq
    refine nmA _ _ _ q r arr ar2 st ok HS32.out HF2.out HK5.out HR5.out HST HEQ rfl ?_ ?_ ?_ ?_
    · rfl
    · rfl
    · rfl
    intro vals w6 hG h4 h5
    unfold IsV at h4 h5
    simp only [putD, Act.put, List.setIfInBounds_toArray, List.set_cons_zero, List.set_cons_succ, h4, h5]
    have HW6 := Lib.hid (HW5.out.trans (hG.mono HW5.out.size))
    clear hG h4 h5
    go_wp2_with fail
    go_ret2
    exact ⟨rfl, HW6.out⟩
  · subst hy
    refine nmB _ _ _ q r er arr st hne HS32.out HK5.out HST rfl ?_ ?_ ?_
    · rfl
    · rfl
    intro vals w6 hG h4 h5
    unfold IsV at h4 h5
    simp only [putD, Act.put, List.setIfInBounds_toArray, List.set_cons_zero, List.set_cons_succ, h4, h5]
    have HW6 := Lib.hid (HW5.out.trans (hG.mono HW5.out.size))
    clear hG h4 h5
    go_wp2_with fail
    go_ret2
    exact ⟨rfl, HW6.out⟩
end
end Go.Proofs.Ytaminpfgkegibaa
/- A row of findings (loamref17.Finding) as a list; append; at. Conditions: lengths. -/
namespace Go.Proofs.Ytaminpfgkegibaa
set_option linter.unusedVariables false
set_option linter.unusedSimpArgs false
open Go.RowKit Go.Maps
set_option maxHeartbeats 400000
set_option maxRecDepth 100000
theorem rinfoF : (Try.prog.info? 76).map (fun i => (i.zero, i.size, i.bytes)) = some (some (.agg #[.int .i64 0, .string ⟨#[]⟩]), 2, 24) := by kernel_rfl
/-- A row of pairs of one's own. -/
def rFR (w : World) (base : Nat) (v : Value) (l : List (Nat × ByteArray)) : Prop := w.ownsRow base 76 2 v l.length (flatF l)
/-- A slice's address reads as pairs. -/
def rRdF (w : World) (A : Option Addr) (l : List (Nat × ByteArray)) : Prop := ∀ j u, (flatF l)[j]? = some u → ∃ a, A = some a ∧ w.cell? (a.add j) = some u
section
variable {w w' : World} {base : Nat} {v : Value} {l : List (Nat × ByteArray)} {S : Nat → Prop}
theorem rFR.kept (h : rFR w base v l) (hk : Kept S w w') (hn : ∀ k, v.ownBlock = some k → ¬ S k) : rFR w' base v l := hk.rowF h hn
theorem rFR.below (h : rFR w base v l) (hb : Below w.heap.size w w') : rFR w' base v l := h.kept (Kept.of_below hb (fun _ => False)) (fun _ _ f => f)
theorem rFR.nil (w : World) (base : Nat) : rFR w base (.slice none 0 0) [] := ⟨rfl, .inl ⟨rfl, rfl⟩⟩
theorem rFR.form (h : rFR w base v l) : (v = .slice none 0 0 ∧ l = []) ∨ ∃ q c, v = .slice (some ⟨q, 0, none⟩) l.length c ∧ l.length ≤ c ∧ c ≤ maxLen ∧ base ≤ q ∧ q < w.heap.size := by
  rcases h.2 with ⟨e, hn⟩ | ⟨q, cap, cur, e, hB, hh, hc, hm, _⟩
  · exact .inl ⟨e, List.eq_nil_of_length_eq_zero hn⟩
  · exact .inr ⟨q, cap, e, hc, hm, hB, (Array.getElem?_eq_some_iff.1 hh).1⟩
theorem rFR.slice_ (h : rFR w base v l) : ∃ A c, v = .slice A l.length c ∧ l.length ≤ c ∧ c ≤ maxLen := by
  rcases h.form with ⟨rfl, rfl⟩ | ⟨q, c, rfl, h1, h2, _⟩
  · exact ⟨none, 0, rfl, Nat.le_refl _, by simp [maxLen]⟩
  · exact ⟨_, c, rfl, h1, h2⟩
theorem rFR.lt (h : rFR w base v l) : ∀ k, v.ownBlock = some k → base ≤ k ∧ k < w.heap.size := fun k hk => World.ownsRow.lt h k hk
theorem rFR.rdf {A : Option Addr} {n c : Nat} (h : rFR w base (.slice A n c) l) : rRdF w A l := by
  intro j u hu
  rcases h.form with ⟨e, rfl⟩ | ⟨q, c', e, _⟩
  · cases hu
  · injection e with e1 e2 e3
    subst e1
    exact ⟨_, rfl, World.ownsRow.cells h rfl j u hu⟩
theorem rRdF.pre {A : Option Addr} (h : rRdF w A l) (k : Nat) : rRdF w A (l.take k) := by
  intro j u hu
  refine h j u ?_
  have e : flatF l = flatF (l.take k) ++ flatF (l.drop k) := by rw [← flatF_app, List.take_append_drop]
  rw [e, List.getElem?_append_left (List.getElem?_eq_some_iff.1 hu).1]
  exact hu
/-- The cells of element j. -/
theorem rFR.at_ {A : Option Addr} {n c : Nat} (h : rFR w base (.slice A n c) l) (j : Nat) (hj : j < l.length) : ∃ q, A = some ⟨q, 0, none⟩ ∧ base ≤ q ∧ q < w.heap.size ∧ w.cell? ⟨q, j * 2, none⟩ = some (.int .i64 (l[j].1 : Int)) ∧ w.cell? ⟨q, j * 2 + 1, none⟩ = some (.string l[j].2) := by
  rcases h.form with ⟨e, rfl⟩ | ⟨q, c', e, _, _, h1, h2⟩
  · exact absurd hj (by simp)
  · injection e with e1 e2 e3
    subst e1
    obtain ⟨f1, f2⟩ := flatF_at l j hj
    have c1 := World.ownsRow.cells h rfl _ _ f1
    have c2 := World.ownsRow.cells h rfl _ _ f2
    refine ⟨q, rfl, h1, h2, ?_, ?_⟩
    · rw [add_off] at c1; rw [← c1]; congr 2; omega
    · rw [add_off] at c2; rw [← c2]; congr 2; omega
variable {ops : Array Oper} {rest : List Oper} {o : Oper} {a : Act} {Q : Exit → Act → World → Prop}
/-- append of pairs to a row of one's own. -/
theorem rwp_appF (hgd : o.guard = none) (s x : Operand)
    (ho : o.op = .call { callee := .builtin .append, args := #[s, x], argTypes := #[34, 34] })
    (hs : a.eval s = v) (hown : rFR w base v l)
    (A : Option Addr) (m c : Nat) (ys : List (Nat × ByteArray)) (hx : a.eval x = .slice A m c) (hm : m = ys.length) (hr : rRdF w A ys)
    (h63 : l.length + ys.length ≤ 100000) (hbase : base ≤ w.heap.size)
    (h : ∀ v' w', rFR w' base v' (l ++ ys) → Below base w w' → w.grownBy w' v.ownBlock → (v'.ownBlock = v.ownBlock ∨ v'.ownBlock = some w.heap.size) → wpList Try.prog ops Q rest (a.put o.dst v') w') : wpList Try.prog ops Q (o :: rest) a w := by
  subst hm
  obtain ⟨i, hi, hz, hsize, hbytes⟩ := info_parts rinfoF
  have hu := Try.underlying34
  have hbel : ∀ (v' : Value) (w' : World), w.grownBy w' v.ownBlock → Below base w w' := fun v' w' hg => (Below.refl _ _).grown hg hbase (fun k hk => (World.ownsRow.lt hown k hk).1)
  refine wpList_plain hgd fun K hK => ?_
  rcases A with _ | ad
  · have h0 : ys = [] := by
      cases ys with
      | nil => rfl
      | cons p ys =>
        obtain ⟨a, e, _⟩ := hr 0 (.int .i64 (p.1 : Int)) rfl
        cases e
    subst h0
    have hrun : (Builtin.append_ #[34, 34] o.type #[v, .slice none 0 c]).run Try.prog w = .ok v w := by
      rcases hown.2 with ⟨rfl, hn⟩ | ⟨g, cap, cur, rfl, _, _, hnc, _⟩
      · simp [Builtin.append_, run_underlying hu, sizeOf, typeInfo, hi, Builtin.lenOf, Builtin.firstCells]
      · simp [Builtin.append_, run_underlying hu, sizeOf, typeInfo, hi, Builtin.lenOf, Builtin.firstCells, hnc, storeCells]
    unfold Oper.wp execOp
    simp only [ho, resolve, invoke, builtin, Sem.run_bind, Sem.run_pure, Result.andThen_ok, List.map_toArray, List.map_cons, List.map_nil, hs, hx, List.length_nil, hrun]
    exact hK _ _ (h v w (by simpa using hown) (Below.refl _ _) (World.grownBy.refl w _) (.inl rfl))
  · obtain ⟨v', w', hrun, h2, h3, _, h5⟩ := run_append_own_at (P := Try.prog) w base 34 o.type 76 i _ 2 24 hu hi hz hsize hbytes rfl (by decide) v l.length (flatF l) hown ad ys.length c (flatF ys) (flatF_len ys)
      (fun j u hj => by
        obtain ⟨a, e, hc⟩ := hr j u hj
        injection e with e
        subst e
        exact hc) (flatF_one ys) (by unfold maxLen; omega) (by omega) hbase
    unfold Oper.wp execOp
    simp only [ho, resolve, invoke, builtin, Sem.run_bind, Sem.run_pure, Result.andThen_ok, List.map_toArray, List.map_cons, List.map_nil, hs, hx, hrun]
    refine hK _ _ (h v' w' ?_ (hbel v' w' h3) h3 h5)
    unfold rFR
    rw [List.length_append, flatF_app]
    exact h2
theorem rrdF_bk {w : World} {k : Nat} (a : Nat) (s : ByteArray) (hb : Bk w k 76 #[.int .i64 (a : Int), .string s]) : rRdF w (some ⟨k, 0, none⟩) [(a, s)] := by
  intro j u hu
  refine ⟨_, rfl, ?_⟩
  have hj : j < 2 := (List.getElem?_eq_some_iff.1 hu).1
  rw [add_off, Nat.zero_add]
  rcases (show j = 0 ∨ j = 1 by omega) with rfl | rfl
  · have : u = .int .i64 (a : Int) := by injection hu with hu; exact hu.symm
    rw [this]; exact hb.cell 0
  · have : u = .string s := by injection hu with hu; exact hu.symm
    rw [this]; exact hb.cell 1
theorem rrdF_new (w : World) (a : Nat) (s : ByteArray) : rRdF (w.alloc (.cells #[.int .i64 (a : Int), .string s] 76)) (some ⟨w.heap.size, 0, none⟩) [(a, s)] := rrdF_bk a s (Bk.new w _ _)
end
end Go.Proofs.Ytaminpfgkegibaa
/- The document's Found and Space: the regions. Conditions: lengths. -/
namespace Go.Proofs.Ytaminpfgkegibaa
set_option linter.unusedVariables false
set_option linter.unusedSimpArgs false
open Go.RowKit Go.Maps
set_option maxHeartbeats 4000000
set_option maxRecDepth 100000
/-- A new row of one finding. -/
def PFv (la B : Nat) (v : Value) (w : World) : Prop := ∃ q, v = .slice (some ⟨q, 0, none⟩) 1 1 ∧ B ≤ q ∧ Bk w q 76 #[.int .i64 (la : Int), .string ⟨#[112, 97, 100]⟩]
theorem PFv.mono {la B : Nat} {v : Value} {a b : World} (h : PFv la B v a) (g : Below a.heap.size a b) : PFv la B v b := by
  obtain ⟨q, e, hq, h⟩ := h
  exact ⟨q, e, hq, h.below g h.lt⟩
theorem rs15 (Q : Exit → Act → World → Prop) (a0 : Act) (w : World) (H R i a N : Nat) (adp : Addr) (pA : Option Addr) (pc : Nat) (P n : Int) (r : Bool) (hH : H < w.heap.size) (g0 : w.cell? ⟨H, 0, none⟩ = some (.int .i64 P)) (g1 : w.cell? ⟨H, 1, none⟩ = some (.int .i64 n)) (g2 : w.cell? ⟨H, 2, none⟩ = some (.bool false)) (g3 : w.cell? ⟨H, 3, none⟩ = some (.int .i64 0)) (hpA : pA = some adp) (hlt : (adp.add i).block < w.heap.size) (cp : w.cell? (adp.add i) = some (.int .i64 (a : Int))) (q0 : (0 : Int) ≤ (i : Int)) (q1 : (i : Int) < (N : Int)) (hp : Hid (∀ W, Below w.heap.size w W → Calls Try.prog 36 #[.pointer (some ⟨R, 0, none⟩), .int .i64 (a : Int), .agg #[.int .i64 P, .int .i64 n, .bool false, .int .i64 0]] W (RetP (.bool r) W))) (hsz : a0.tmps.size = 102) (sl8 : a0.tmps.getD 8 undef = .slice pA N pc) (sl10 : a0.tmps.getD 10 undef = .pointer (some ⟨R, 0, none⟩)) (sl11 : a0.tmps.getD 11 undef = .int .i64 (i : Int)) (sl12 : a0.tmps.getD 12 undef = .pointer (some ⟨H, 0, none⟩))
    (fin : ∀ (vals : Nat → Value) (w1 : World), Below w.heap.size w w1 → (IsV (.bool r)) (vals 6) w1 → Q .normal (putD vals [82, 83, 84, 85, 86, 87, 88] 0 a0) w1) :
    (Code.region 15 (regIn Try.f15 15) true).wp Try.prog Q a0 w := by
  refine region_by (G := fun w w1 => Below w.heap.size w w1) [IsV (.pointer (some ⟨R, 0, none⟩)),
    IsV (.slice pA N pc),
    IsV (.int .i64 (i : Int)),
    IsV (.pointer (some (adp.add i))),
    IsV (.int .i64 (a : Int)),
    IsV (.agg #[.int .i64 P, .int .i64 n, .bool false, .int .i64 0]),
    IsV (.bool r)]
    [82, 83, 84, 85, 86, 87, 88] (by kernel_rfl) (Gw.drew _) Gw.trans (by rw [hsz]; kernel_rfl) (by kernel_rfl) ?_ ?_ ?_
  · intro f hf
    simp only [List.mem_cons, List.not_mem_nil, or_false] at hf
    rcases hf with rfl | rfl | rfl | rfl | rfl | rfl | rfl <;> intro v a b h g <;> first | exact IsV.mono h
  · refine ⟨?_, ?_, ?_, ?_, ?_, ?_, ?_, trivial⟩
    · exact owes_mv 10 (by kernel_rfl) (by kernel_rfl) (by kernel_rfl) sl10 (fun _ => rfl)
    · exact owes_mv 8 (by kernel_rfl) (by kernel_rfl) (by kernel_rfl) sl8 (fun _ => rfl)
    · exact owes_mv 11 (by kernel_rfl) (by kernel_rfl) (by kernel_rfl) sl11 (fun _ => rfl)
    · refine owes_v (Go.Op.indexAddr 69 (Go.Operand.tmp 83) (Go.Operand.tmp 84)) 0 [1, 2] (by kernel_rfl) (by kernel_rfl) (by kernel_rfl) rfl fun vals w1 ρ hG hF hρ hcst hfun => ?_
      have e83 : ρ (.tmp 83) = .slice pA N pc := ((hρ 83).trans (slotJ [1, 2] (by rw [hsz]; decide) (by kernel_rfl))).trans (hF 1 (by decide))
      have e84 : ρ (.tmp 84) = .int .i64 (i : Int) := ((hρ 84).trans (slotJ [1, 2] (by rw [hsz]; decide) (by kernel_rfl))).trans (hF 2 (by decide))
      subst hpA
      clear hρ hF hcst hfun sl8 sl10 sl11 sl12 fin
      exact opv_val (by go_simp <;> rfl) ⟨gw_self _, rfl⟩
    · refine owes_v (Go.Op.load 3 (Go.Operand.tmp 85)) 3 [3] (by kernel_rfl) (by kernel_rfl) (by kernel_rfl) rfl fun vals w1 ρ hG hF hρ hcst hfun => ?_
      have e85 : ρ (.tmp 85) = .pointer (some (adp.add i)) := ((hρ 85).trans (slotJ [3] (by rw [hsz]; decide) (by kernel_rfl))).trans (hF 3 (by decide))
      have k := (hG.cell (p := adp.add i) hlt).trans cp
      clear hρ hF hcst hfun sl8 sl10 sl11 sl12 fin
      exact opv_val (by go_simp <;> rfl) ⟨gw_self _, rfl⟩
    · refine owes_v (Go.Op.load 88 (Go.Operand.tmp 12)) 88 [] (by kernel_rfl) (by kernel_rfl) (by kernel_rfl) rfl fun vals w1 ρ hG hF hρ hcst hfun => ?_
      have e12 : ρ (.tmp 12) = .pointer (some ⟨H, 0, none⟩) := ((hρ 12).trans (slotO [] (by kernel_rfl))).trans sl12
      have k0 := (hG.cell (p := ⟨H, 0, none⟩) hH).trans g0; have k1 := (hG.cell (p := ⟨H, 1, none⟩) hH).trans g1; have k2 := (hG.cell (p := ⟨H, 2, none⟩) hH).trans g2; have k3 := (hG.cell (p := ⟨H, 3, none⟩) hH).trans g3
      clear hρ hF hcst hfun sl8 sl10 sl11 sl12 fin
      exact opv_val (by go_simp <;> rfl) ⟨gw_self _, rfl⟩
    · refine owes_v (Go.Op.call { callee := Go.Callee.value (Go.Operand.func 36), args := #[Go.Operand.tmp 82, Go.Operand.tmp 86, Go.Operand.tmp 87], argTypes := #[39, 3, 88] }) 4 [0, 4, 5] (by kernel_rfl) (by kernel_rfl) (by kernel_rfl) rfl fun vals w1 ρ hG hF hρ hcst hfun => ?_
      have e82 : ρ (.tmp 82) = .pointer (some ⟨R, 0, none⟩) := ((hρ 82).trans (slotJ [0, 4, 5] (by rw [hsz]; decide) (by kernel_rfl))).trans (hF 0 (by decide))
      have e86 : ρ (.tmp 86) = .int .i64 (a : Int) := ((hρ 86).trans (slotJ [0, 4, 5] (by rw [hsz]; decide) (by kernel_rfl))).trans (hF 4 (by decide))
      have e87 : ρ (.tmp 87) = .agg #[.int .i64 P, .int .i64 n, .bool false, .int .i64 0] := ((hρ 87).trans (slotJ [0, 4, 5] (by rw [hsz]; decide) (by kernel_rfl))).trans (hF 5 (by decide))
      clear hρ hF hcst sl8 sl10 sl11 sl12 fin
      exact opv_enter (by go_simp <;> rfl) (of_ret (hp.out w1 hG))
  · intro vals w1 hG hF
    exact fin vals w1 hG (hF 6 (by decide +kernel))
theorem rs16 (Q : Exit → Act → World → Prop) (a0 : Act) (w : World) (H i a N sz la : Nat) (adp : Addr) (pA : Option Addr) (pc : Nat) (P n : Int) (ov : Value) (hH : H < w.heap.size) (g0 : w.cell? ⟨H, 0, none⟩ = some (.int .i64 P)) (g1 : w.cell? ⟨H, 1, none⟩ = some (.int .i64 n)) (g2 : w.cell? ⟨H, 2, none⟩ = some (.bool false)) (g3 : w.cell? ⟨H, 3, none⟩ = some (.int .i64 0)) (hpA : pA = some adp) (hlt : (adp.add i).block < w.heap.size) (cp : w.cell? (adp.add i) = some (.int .i64 (a : Int))) (q0 : (0 : Int) ≤ (i : Int)) (q1 : (i : Int) < (N : Int)) (z1 : (a : Int) + (sz : Int) - 1 = (la : Int)) (z2 : (a : Int) ≤ 8192) (z3 : (sz : Int) ≤ 8192) (z4 : (0 : Int) ≤ (a : Int)) (z5 : (1 : Int) ≤ (sz : Int)) (hp : Hid (∀ W, Calls Try.prog 37 #[.agg #[.int .i64 P, .int .i64 n, .bool false, .int .i64 0]] W (RetP (.int .i64 (sz : Int)) W))) (hsz : a0.tmps.size = 102) (sl7 : a0.tmps.getD 7 undef = ov) (sl8 : a0.tmps.getD 8 undef = .slice pA N pc) (sl11 : a0.tmps.getD 11 undef = .int .i64 (i : Int)) (sl12 : a0.tmps.getD 12 undef = .pointer (some ⟨H, 0, none⟩))
    (fin : ∀ (vals : Nat → Value) (w1 : World), Below w.heap.size w w1 → (IsV (ov)) (vals 0) w1 → (PFv la w.heap.size) (vals 10) w1 → wpList Try.prog #[{ dst := some 100, op := Go.Op.call { callee := Go.Callee.builtin Go.Builtin.append, args := #[Go.Operand.tmp 89, Go.Operand.tmp 99], argTypes := #[34, 34] }, type := 34, pos := "", after := #[], guard := none }] (SpineQ (putD vals [89, 90, 91, 92, 93, 94, 95, 96, 97, 98, 99] 0 a0).defers (fun _ => True) (fun a w => wpList Try.prog #[{ dst := some 7, op := Go.Op.assign (Go.Operand.tmp 100), type := 34, pos := "", after := #[], guard := none }] Q [{ dst := some 7, op := Go.Op.assign (Go.Operand.tmp 100), type := 34, pos := "", after := #[], guard := none }] a w)) [{ dst := some 100, op := Go.Op.call { callee := Go.Callee.builtin Go.Builtin.append, args := #[Go.Operand.tmp 89, Go.Operand.tmp 99], argTypes := #[34, 34] }, type := 34, pos := "", after := #[], guard := none }] (putD vals [89, 90, 91, 92, 93, 94, 95, 96, 97, 98, 99] 0 a0) w1) :
    (Code.region 16 (regIn Try.f15 16) true).wp Try.prog Q a0 w := by
  refine region_by_tail2 (m := 11) (G := fun w w1 => Below w.heap.size w w1) [IsV (ov),
    IsV (.slice pA N pc),
    IsV (.int .i64 (i : Int)),
    IsV (.pointer (some (adp.add i))),
    IsV (.int .i64 (a : Int)),
    IsV (.agg #[.int .i64 P, .int .i64 n, .bool false, .int .i64 0]),
    IsV (.int .i64 (sz : Int)),
    IsV (.int .i64 ((a : Int) + (sz : Int))),
    IsV (.int .i64 (la : Int)),
    IsV (.agg #[.int .i64 (la : Int), .string ⟨#[112, 97, 100]⟩]),
    PFv la w.heap.size]
    [89, 90, 91, 92, 93, 94, 95, 96, 97, 98, 99] (by kernel_rfl) (Gw.drew _) Gw.trans (by rw [hsz]; kernel_rfl) (by kernel_rfl) ?_ ?_ ?_
  · intro f hf
    simp only [List.mem_cons, List.not_mem_nil, or_false] at hf
    rcases hf with rfl | rfl | rfl | rfl | rfl | rfl | rfl | rfl | rfl | rfl | rfl <;> intro v a b h g <;> first | exact IsV.mono h | exact PFv.mono h g
  · refine ⟨?_, ?_, ?_, ?_, ?_, ?_, ?_, ?_, ?_, ?_, ?_, trivial⟩
    · exact owes_mv 7 (by kernel_rfl) (by kernel_rfl) (by kernel_rfl) sl7 (fun _ => rfl)
    · exact owes_mv 8 (by kernel_rfl) (by kernel_rfl) (by kernel_rfl) sl8 (fun _ => rfl)
    · exact owes_mv 11 (by kernel_rfl) (by kernel_rfl) (by kernel_rfl) sl11 (fun _ => rfl)
    · refine owes_v (Go.Op.indexAddr 69 (Go.Operand.tmp 90) (Go.Operand.tmp 91)) 0 [1, 2] (by kernel_rfl) (by kernel_rfl) (by kernel_rfl) rfl fun vals w1 ρ hG hF hρ hcst hfun => ?_
      have e90 : ρ (.tmp 90) = .slice pA N pc := ((hρ 90).trans (slotJ [1, 2] (by rw [hsz]; decide) (by kernel_rfl))).trans (hF 1 (by decide))
      have e91 : ρ (.tmp 91) = .int .i64 (i : Int) := ((hρ 91).trans (slotJ [1, 2] (by rw [hsz]; decide) (by kernel_rfl))).trans (hF 2 (by decide))
      subst hpA
      clear hρ hF hcst hfun sl7 sl8 sl11 sl12 fin
      exact opv_val (by go_simp <;> rfl) ⟨gw_self _, rfl⟩
    · refine owes_v (Go.Op.load 3 (Go.Operand.tmp 92)) 3 [3] (by kernel_rfl) (by kernel_rfl) (by kernel_rfl) rfl fun vals w1 ρ hG hF hρ hcst hfun => ?_
      have e92 : ρ (.tmp 92) = .pointer (some (adp.add i)) := ((hρ 92).trans (slotJ [3] (by rw [hsz]; decide) (by kernel_rfl))).trans (hF 3 (by decide))
      have k := (hG.cell (p := adp.add i) hlt).trans cp
      clear hρ hF hcst hfun sl7 sl8 sl11 sl12 fin
      exact opv_val (by go_simp <;> rfl) ⟨gw_self _, rfl⟩
    · refine owes_v (Go.Op.load 88 (Go.Operand.tmp 12)) 88 [] (by kernel_rfl) (by kernel_rfl) (by kernel_rfl) rfl fun vals w1 ρ hG hF hρ hcst hfun => ?_
      have e12 : ρ (.tmp 12) = .pointer (some ⟨H, 0, none⟩) := ((hρ 12).trans (slotO [] (by kernel_rfl))).trans sl12
      have k0 := (hG.cell (p := ⟨H, 0, none⟩) hH).trans g0; have k1 := (hG.cell (p := ⟨H, 1, none⟩) hH).trans g1; have k2 := (hG.cell (p := ⟨H, 2, none⟩) hH).trans g2; have k3 := (hG.cell (p := ⟨H, 3, none⟩) hH).trans g3
      clear hρ hF hcst hfun sl7 sl8 sl11 sl12 fin
      exact opv_val (by go_simp <;> rfl) ⟨gw_self _, rfl⟩
    · refine owes_v (Go.Op.call { callee := Go.Callee.value (Go.Operand.func 37), args := #[Go.Operand.tmp 94], argTypes := #[88] }) 3 [5] (by kernel_rfl) (by kernel_rfl) (by kernel_rfl) rfl fun vals w1 ρ hG hF hρ hcst hfun => ?_
      have e94 : ρ (.tmp 94) = .agg #[.int .i64 P, .int .i64 n, .bool false, .int .i64 0] := ((hρ 94).trans (slotJ [5] (by rw [hsz]; decide) (by kernel_rfl))).trans (hF 5 (by decide))
      clear hρ hF hcst sl7 sl8 sl11 sl12 fin
      exact opv_enter (by go_simp <;> rfl) (of_ret (hp.out w1))
    · refine owes_v (Go.Op.binOp Go.BinOp.add 3 (Go.Operand.tmp 93) (Go.Operand.tmp 95) 3) 3 [4, 6] (by kernel_rfl) (by kernel_rfl) (by kernel_rfl) rfl fun vals w1 ρ hG hF hρ hcst hfun => ?_
      have e93 : ρ (.tmp 93) = .int .i64 (a : Int) := ((hρ 93).trans (slotJ [4, 6] (by rw [hsz]; decide) (by kernel_rfl))).trans (hF 4 (by decide))
      have e95 : ρ (.tmp 95) = .int .i64 (sz : Int) := ((hρ 95).trans (slotJ [4, 6] (by rw [hsz]; decide) (by kernel_rfl))).trans (hF 6 (by decide))
      have kw0 : IntKind.i64.wrap (((a : Int) + (sz : Int))) = ((a : Int) + (sz : Int)) := wrapIn (by omega) (by omega)
      clear hρ hF hcst hfun sl7 sl8 sl11 sl12 fin
      exact opv_val (by go_simp <;> rfl) ⟨gw_self _, rfl⟩
    · refine owes_v (Go.Op.binOp Go.BinOp.sub 3 (Go.Operand.tmp 96) (Go.Operand.const (Go.Value.int Go.IntKind.i64 1)) 3) 3 [7] (by kernel_rfl) (by kernel_rfl) (by kernel_rfl) rfl fun vals w1 ρ hG hF hρ hcst hfun => ?_
      have e96 : ρ (.tmp 96) = .int .i64 ((a : Int) + (sz : Int)) := ((hρ 96).trans (slotJ [7] (by rw [hsz]; decide) (by kernel_rfl))).trans (hF 7 (by decide))
      have kw0 : IntKind.i64.wrap ((la : Int)) = (la : Int) := wrapIn (by omega) (by omega)
      clear hρ hF hfun sl7 sl8 sl11 sl12 fin
      exact opv_val (by go_simp <;> rfl) ⟨gw_self _, rfl⟩
    · refine owes_v (Go.Op.build 76 #[(0, Go.Operand.tmp 97), (1, Go.Operand.const (Go.Value.string { data := #[112, 97, 100] }))]) 76 [8] (by kernel_rfl) (by kernel_rfl) (by kernel_rfl) rfl fun vals w1 ρ hG hF hρ hcst hfun => ?_
      have e97 : ρ (.tmp 97) = .int .i64 (la : Int) := ((hρ 97).trans (slotJ [8] (by rw [hsz]; decide) (by kernel_rfl))).trans (hF 8 (by decide))
      clear hρ hF hfun sl7 sl8 sl11 sl12 fin
      exact opv_val (by go_simp <;> rfl) ⟨gw_self _, rfl⟩
    · refine owes_v (Go.Op.buildSlice 34 1 #[(0, Go.Operand.tmp 98)]) 34 [9] (by kernel_rfl) (by kernel_rfl) (by kernel_rfl) rfl fun vals w1 ρ hG hF hρ hcst hfun => ?_
      have e98 : ρ (.tmp 98) = .agg #[.int .i64 (la : Int), .string ⟨#[112, 97, 100]⟩] := ((hρ 98).trans (slotJ [9] (by rw [hsz]; decide) (by kernel_rfl))).trans (hF 9 (by decide))
      clear hρ hF hcst hfun sl7 sl8 sl11 sl12 fin
      exact opv_val (by go_simp <;> rfl) ⟨Gw.alloc _ _, ⟨_, rfl, hG.size, Bk.new w1 _ _⟩⟩
  · intro vals w1 hG hF
    exact next_spine2 (by kernel_rfl) (by kernel_rfl) (by kernel_rfl) (by kernel_rfl) (by kernel_rfl) (by kernel_rfl) (fin vals w1 hG (hF 0 (by decide +kernel)) (hF 10 (by decide +kernel)))
end Go.Proofs.Ytaminpfgkegibaa
/- The document's Found; regions of its Space. Conditions: right objects. -/
namespace Go.Proofs.Ytaminpfgkegibaa
set_option linter.unusedVariables false
set_option linter.unusedSimpArgs false
open Go.RowKit Go.Maps
set_option maxHeartbeats 4000000
set_option maxRecDepth 100000
end Go.Proofs.Ytaminpfgkegibaa
