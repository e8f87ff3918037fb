/- Texts joined: ImL. -/
import Derived.Test.YtkkjnahjmomjgaaWa9
/- Encode's answer told by its error; ImageBack's regions. No conditions. -/
namespace Go.Proofs.Ytkkjnahjmomjgaa
set_option linter.unusedVariables false
set_option linter.unusedSimpArgs false
open Go.RowKit Go.Maps
set_option maxHeartbeats 8000000
set_option maxRecDepth 100000
theorem ck_nn {g : Gv} : 0 ≤ ckG g ∧ ckG g ≤ 4 := by
  have hn : ∀ (N : Nat) (x : Nv), 0 ≤ ckNode N x ∧ ckNode N x ≤ 4 := fun N x => by
    unfold ckNode
    split
    · split <;> omega
    · omega
  have hns : ∀ (N : Nat) (l : List Nv), 0 ≤ ckNodes N l ∧ ckNodes N l ≤ 4 := fun N l => by
    induction l with
    | nil => exact ⟨by unfold ckNodes; omega, by unfold ckNodes; omega⟩
    | cons x r ih =>
      unfold ckNodes
      split
      · exact ih
      · exact hn N x
  have hrs : ∀ (N : Nat) (l : List Rv) (s : ByteArray), 0 ≤ ckRoots N s l ∧ ckRoots N s l ≤ 4 := fun N l => by
    induction l with
    | nil => intro s; exact ⟨by unfold ckRoots; omega, by unfold ckRoots; omega⟩
    | cons x r ih =>
      intro s
      unfold ckRoots
      split
      · split
        · exact ih _
        · omega
      · omega
  unfold ckG
  split
  · split
    · omega
    · exact hrs _ _ _
  · exact hns _ _
theorem err_nn (g : Gv) : 0 ≤ errG g ∧ errG g ≤ 4 := by
  unfold errG
  split
  · split <;> omega
  · exact ck_nn
/-- Encode's answer, told by its error. -/
def EncE (g : Gv) (w : World) (r : Ending) (w' : World) : Prop :=
  ∃ A n c, r = .returned (.tuple #[.slice A n c, .int .i64 (errG g)]) ∧ Below w.heap.size w w' ∧ (errG g = 0 → ckG g = 0 ∧ endL g.n (2 + 5 * g.r.length) ≤ 8192 ∧ n = (encW g.n g.r).length ∧ n ≤ c ∧ Rd u64v w' w'.heap.size A (encW g.n g.r)) ∧ (errG g ≠ 0 → A = none ∧ n = 0 ∧ c = 0)
theorem encX_e {g : Gv} {w w' : World} {r : Ending} (h : EncX g w r w') : EncE g w r w' := by
  rcases h with ⟨hne, rfl, b⟩ | ⟨hck, hend, v, rfl, how, b⟩
  · exact ⟨none, 0, 0, rfl, b, fun h => absurd h hne, fun _ => ⟨rfl, rfl, rfl⟩⟩
  · have e0 : errG g = 0 := by
      unfold errG
      rw [if_pos hck, if_neg (by omega)]
    obtain ⟨A, c, rfl, hc⟩ := how.form
    exact ⟨A, _, c, by rw [e0], b, fun _ => ⟨hck, hend, rfl, hc, how.rd⟩, fun h => absurd e0 h⟩
theorem ib11a (Q : Exit → Act → World → Prop) (a0 : Act) (w : World) (f : Int) (hf : ¬ f = 3) (hsz : a0.tmps.size = 71) (sl7 : a0.tmps.getD 7 undef = .int .i64 f)
    (fin : ∀ (vals : Nat → Value) (w1 : World), Below w.heap.size w w1 → (IsV (.bool true)) (vals 14) w1 → Q .normal (putD vals [38, 39, 40, 41, 42, 43, 44, 45, 46, 47, 48, 49, 50, 51, 2] 0 a0) w1) :
    (Code.region 11 (regIn Try.f3 11) true).wp Try.prog Q a0 w := by
  refine region_by (G := fun w w1 => Below w.heap.size w w1) [IsV (.int .i64 f),
    IsV (.bool true),
    IsV (.bool true),
    IsV undef,
    IsV undef,
    IsV undef,
    IsV (.bool true),
    IsV (.bool true),
    IsV undef,
    IsV undef,
    IsV undef,
    IsV undef,
    IsV undef,
    IsV (.bool true),
    IsV (.bool true)]
    [38, 39, 40, 41, 42, 43, 44, 45, 46, 47, 48, 49, 50, 51, 2] (by kernel_rfl) (Gw.drew _) Gw.trans (by rw [hsz]; kernel_rfl) (by kernel_rfl) ?_ ?_ ?_
  · intro f hf
    simp only [List.mem_cons, List.not_mem_nil, or_false] at hf
    rcases hf with rfl | rfl | rfl | rfl | rfl | rfl | rfl | rfl | rfl | rfl | rfl | rfl | rfl | rfl | rfl <;> intro v a b h g <;> first | exact IsV.mono h
  · refine ⟨?_, ?_, ?_, ?_, ?_, ?_, ?_, ?_, ?_, ?_, ?_, ?_, ?_, ?_, ?_, trivial⟩
    · exact owes_mv 7 (by kernel_rfl) (by kernel_rfl) (by kernel_rfl) sl7 (fun _ => rfl)
    · refine owes_v (Go.Op.binOp Go.BinOp.neq 3 (Go.Operand.tmp 38) (Go.Operand.const (Go.Value.int Go.IntKind.i64 3)) 3) 4 [0] (by kernel_rfl) (by kernel_rfl) (by kernel_rfl) rfl fun vals w1 ρ hG hF hρ hcst hfun => ?_
      have e38 : ρ (.tmp 38) = .int .i64 f := ((hρ 38).trans (slotJ [0] (by rw [hsz]; decide) (by kernel_rfl))).trans (hF 0 (by decide))
      clear hρ hF hfun sl7 fin
      exact opv_val (by go_simp <;> rfl) ⟨gw_self _, rfl⟩
    · exact owes_mvj 1 39 (by kernel_rfl) (by kernel_rfl) (by kernel_rfl) (by kernel_rfl) (by rw [hsz]; decide) (fun v w h => h)
    · exact owes_no 2 true false (by decide) (by kernel_rfl) (by kernel_rfl) (fun _ _ h => h) (by rw [hsz]; kernel_rfl) (fun _ => rfl)
    · exact owes_no 2 true false (by decide) (by kernel_rfl) (by kernel_rfl) (fun _ _ h => h) (by rw [hsz]; kernel_rfl) (fun _ => rfl)
    · exact owes_no 2 true false (by decide) (by kernel_rfl) (by kernel_rfl) (fun _ _ h => h) (by rw [hsz]; kernel_rfl) (fun _ => rfl)
    · refine owes_v (Go.Op.pick (Go.Operand.tmp 40) (Go.Operand.const (Go.Value.bool true)) (Go.Operand.tmp 43)) 4 [2, 5] (by kernel_rfl) (by kernel_rfl) (by kernel_rfl) rfl fun vals w1 ρ hG hF hρ hcst hfun => ?_
      have e40 : ρ (.tmp 40) = .bool true := ((hρ 40).trans (slotJ [2, 5] (by rw [hsz]; decide) (by kernel_rfl))).trans (hF 2 (by decide))
      have e43 : ρ (.tmp 43) = undef := ((hρ 43).trans (slotJ [2, 5] (by rw [hsz]; decide) (by kernel_rfl))).trans (hF 5 (by decide))
      clear hρ hF hfun sl7 fin
      exact opv_val (by go_simp <;> rfl) ⟨gw_self _, rfl⟩
    · exact owes_mvj 6 44 (by kernel_rfl) (by kernel_rfl) (by kernel_rfl) (by kernel_rfl) (by rw [hsz]; decide) (fun v w h => h)
    · exact owes_no 7 true false (by decide) (by kernel_rfl) (by kernel_rfl) (fun _ _ h => h) (by rw [hsz]; kernel_rfl) (fun _ => rfl)
    · exact owes_no 7 true false (by decide) (by kernel_rfl) (by kernel_rfl) (fun _ _ h => h) (by rw [hsz]; kernel_rfl) (fun _ => rfl)
    · exact owes_no 7 true false (by decide) (by kernel_rfl) (by kernel_rfl) (fun _ _ h => h) (by rw [hsz]; kernel_rfl) (fun _ => rfl)
    · exact owes_no 7 true false (by decide) (by kernel_rfl) (by kernel_rfl) (fun _ _ h => h) (by rw [hsz]; kernel_rfl) (fun _ => rfl)
    · exact owes_no 7 true false (by decide) (by kernel_rfl) (by kernel_rfl) (fun _ _ h => h) (by rw [hsz]; kernel_rfl) (fun _ => rfl)
    · refine owes_v (Go.Op.pick (Go.Operand.tmp 45) (Go.Operand.const (Go.Value.bool true)) (Go.Operand.tmp 50)) 4 [7, 12] (by kernel_rfl) (by kernel_rfl) (by kernel_rfl) rfl fun vals w1 ρ hG hF hρ hcst hfun => ?_
      have e45 : ρ (.tmp 45) = .bool true := ((hρ 45).trans (slotJ [7, 12] (by rw [hsz]; decide) (by kernel_rfl))).trans (hF 7 (by decide))
      have e50 : ρ (.tmp 50) = undef := ((hρ 50).trans (slotJ [7, 12] (by rw [hsz]; decide) (by kernel_rfl))).trans (hF 12 (by decide))
      clear hρ hF hfun sl7 fin
      exact opv_val (by go_simp <;> rfl) ⟨gw_self _, rfl⟩
    · exact owes_mvj 13 51 (by kernel_rfl) (by kernel_rfl) (by kernel_rfl) (by kernel_rfl) (by rw [hsz]; decide) (fun v w h => h)
  · intro vals w1 hG hF
    exact fin vals w1 hG (hF 14 (by decide +kernel))
theorem ib11b (Q : Exit → Act → World → Prop) (a0 : Act) (w : World) (X : Nat) (gx : Gv) (A A2 : Option Addr) (N M a1 a2 : Nat) (ck : Int) (hck : ¬ ck = 0) (hx : Hid (GBx w X gx (.slice A N a1) (.slice A2 M a2))) (hc : Hid (∀ W, Below w.heap.size w W → Calls Try.prog 13 #[.agg #[.slice A N a1, .slice A2 M a2]] W (RetP (.int .i64 ck) W))) (hsz : a0.tmps.size = 71) (sl3 : a0.tmps.getD 3 undef = .pointer (some ⟨X, 0, none⟩)) (sl7 : a0.tmps.getD 7 undef = .int .i64 3)
    (fin : ∀ (vals : Nat → Value) (w1 : World), Below w.heap.size w w1 → (IsV (.bool true)) (vals 14) w1 → Q .normal (putD vals [38, 39, 40, 41, 42, 43, 44, 45, 46, 47, 48, 49, 50, 51, 2] 0 a0) w1) :
    (Code.region 11 (regIn Try.f3 11) true).wp Try.prog Q a0 w := by
  refine region_by (G := fun w w1 => Below w.heap.size w w1) [IsV (.int .i64 3),
    IsV (.bool false),
    IsV (.bool false),
    IsV (.agg #[.slice A N a1, .slice A2 M a2]),
    IsV (.int .i64 ck),
    IsV (.bool true),
    IsV (.bool true),
    IsV (.bool true),
    IsV undef,
    IsV undef,
    IsV undef,
    IsV undef,
    IsV undef,
    IsV (.bool true),
    IsV (.bool true)]
    [38, 39, 40, 41, 42, 43, 44, 45, 46, 47, 48, 49, 50, 51, 2] (by kernel_rfl) (Gw.drew _) Gw.trans (by rw [hsz]; kernel_rfl) (by kernel_rfl) ?_ ?_ ?_
  · intro f hf
    simp only [List.mem_cons, List.not_mem_nil, or_false] at hf
    rcases hf with rfl | rfl | rfl | rfl | rfl | rfl | rfl | rfl | rfl | rfl | rfl | rfl | rfl | rfl | rfl <;> intro v a b h g <;> first | exact IsV.mono h
  · refine ⟨?_, ?_, ?_, ?_, ?_, ?_, ?_, ?_, ?_, ?_, ?_, ?_, ?_, ?_, ?_, trivial⟩
    · exact owes_mv 7 (by kernel_rfl) (by kernel_rfl) (by kernel_rfl) sl7 (fun _ => rfl)
    · refine owes_v (Go.Op.binOp Go.BinOp.neq 3 (Go.Operand.tmp 38) (Go.Operand.const (Go.Value.int Go.IntKind.i64 3)) 3) 4 [0] (by kernel_rfl) (by kernel_rfl) (by kernel_rfl) rfl fun vals w1 ρ hG hF hρ hcst hfun => ?_
      have e38 : ρ (.tmp 38) = .int .i64 3 := ((hρ 38).trans (slotJ [0] (by rw [hsz]; decide) (by kernel_rfl))).trans (hF 0 (by decide))
      clear hρ hF hfun sl3 sl7 fin
      exact opv_val (by go_simp <;> rfl) ⟨gw_self _, rfl⟩
    · exact owes_mvj 1 39 (by kernel_rfl) (by kernel_rfl) (by kernel_rfl) (by kernel_rfl) (by rw [hsz]; decide) (fun v w h => h)
    · refine owes_vt 2 false (Go.Op.load 31 (Go.Operand.tmp 3)) 31 [] (by kernel_rfl) (by kernel_rfl) (by kernel_rfl) (fun _ _ h => h) (by rw [hsz]; kernel_rfl) (by kernel_rfl) rfl fun vals w1 ρ hG hF hρ hcst hfun => ?_
      have e3 : ρ (.tmp 3) = .pointer (some ⟨X, 0, none⟩) := ((hρ 3).trans (slotO [] (by kernel_rfl))).trans sl3
      obtain ⟨d0, d1, _⟩ := hx.out w1 hG
      clear hρ hF hcst hfun sl3 sl7 fin
      exact opv_val (by go_simp <;> rfl) ⟨gw_self _, rfl⟩
    · refine owes_vt 2 false (Go.Op.call { callee := Go.Callee.value (Go.Operand.func 13), args := #[Go.Operand.tmp 41], argTypes := #[31] }) 3 [3] (by kernel_rfl) (by kernel_rfl) (by kernel_rfl) (fun _ _ h => h) (by rw [hsz]; kernel_rfl) (by kernel_rfl) rfl fun vals w1 ρ hG hF hρ hcst hfun => ?_
      have e41 : ρ (.tmp 41) = .agg #[.slice A N a1, .slice A2 M a2] := ((hρ 41).trans (slotJ [3] (by rw [hsz]; decide) (by kernel_rfl))).trans (hF 3 (by decide))
      clear hρ hF hcst sl3 sl7 fin
      exact opv_enter (by go_simp <;> rfl) (of_ret (hc.out w1 hG))
    · refine owes_vt 2 false (Go.Op.binOp Go.BinOp.neq 3 (Go.Operand.tmp 42) (Go.Operand.const (Go.Value.int Go.IntKind.i64 0)) 3) 4 [4] (by kernel_rfl) (by kernel_rfl) (by kernel_rfl) (fun _ _ h => h) (by rw [hsz]; kernel_rfl) (by kernel_rfl) rfl fun vals w1 ρ hG hF hρ hcst hfun => ?_
      have e42 : ρ (.tmp 42) = .int .i64 ck := ((hρ 42).trans (slotJ [4] (by rw [hsz]; decide) (by kernel_rfl))).trans (hF 4 (by decide))
      clear hρ hF hfun sl3 sl7 fin
      exact opv_val (by go_simp <;> rfl) ⟨gw_self _, rfl⟩
    · refine owes_v (Go.Op.pick (Go.Operand.tmp 40) (Go.Operand.const (Go.Value.bool true)) (Go.Operand.tmp 43)) 4 [2, 5] (by kernel_rfl) (by kernel_rfl) (by kernel_rfl) rfl fun vals w1 ρ hG hF hρ hcst hfun => ?_
      have e40 : ρ (.tmp 40) = .bool false := ((hρ 40).trans (slotJ [2, 5] (by rw [hsz]; decide) (by kernel_rfl))).trans (hF 2 (by decide))
      have e43 : ρ (.tmp 43) = .bool true := ((hρ 43).trans (slotJ [2, 5] (by rw [hsz]; decide) (by kernel_rfl))).trans (hF 5 (by decide))
      clear hρ hF hfun sl3 sl7 fin
      exact opv_val (by go_simp <;> rfl) ⟨gw_self _, rfl⟩
    · exact owes_mvj 6 44 (by kernel_rfl) (by kernel_rfl) (by kernel_rfl) (by kernel_rfl) (by rw [hsz]; decide) (fun v w h => h)
    · exact owes_no 7 true false (by decide) (by kernel_rfl) (by kernel_rfl) (fun _ _ h => h) (by rw [hsz]; kernel_rfl) (fun _ => rfl)
    · exact owes_no 7 true false (by decide) (by kernel_rfl) (by kernel_rfl) (fun _ _ h => h) (by rw [hsz]; kernel_rfl) (fun _ => rfl)
    · exact owes_no 7 true false (by decide) (by kernel_rfl) (by kernel_rfl) (fun _ _ h => h) (by rw [hsz]; kernel_rfl) (fun _ => rfl)
    · exact owes_no 7 true false (by decide) (by kernel_rfl) (by kernel_rfl) (fun _ _ h => h) (by rw [hsz]; kernel_rfl) (fun _ => rfl)
    · exact owes_no 7 true false (by decide) (by kernel_rfl) (by kernel_rfl) (fun _ _ h => h) (by rw [hsz]; kernel_rfl) (fun _ => rfl)
    · refine owes_v (Go.Op.pick (Go.Operand.tmp 45) (Go.Operand.const (Go.Value.bool true)) (Go.Operand.tmp 50)) 4 [7, 12] (by kernel_rfl) (by kernel_rfl) (by kernel_rfl) rfl fun vals w1 ρ hG hF hρ hcst hfun => ?_
      have e45 : ρ (.tmp 45) = .bool true := ((hρ 45).trans (slotJ [7, 12] (by rw [hsz]; decide) (by kernel_rfl))).trans (hF 7 (by decide))
      have e50 : ρ (.tmp 50) = undef := ((hρ 50).trans (slotJ [7, 12] (by rw [hsz]; decide) (by kernel_rfl))).trans (hF 12 (by decide))
      clear hρ hF hfun sl3 sl7 fin
      exact opv_val (by go_simp <;> rfl) ⟨gw_self _, rfl⟩
    · exact owes_mvj 13 51 (by kernel_rfl) (by kernel_rfl) (by kernel_rfl) (by kernel_rfl) (by rw [hsz]; decide) (fun v w h => h)
  · intro vals w1 hG hF
    exact fin vals w1 hG (hF 14 (by decide +kernel))
theorem ib11c (Q : Exit → Act → World → Prop) (a0 : Act) (w : World) (X G : Nat) (gx g : Gv) (A A2 B B2 : Option Addr) (N M K L a1 a2 b1 b2 : Nat) (nd : Int) (hx : Hid (GBx w X gx (.slice A N a1) (.slice A2 M a2))) (hg : Hid (GBx w G g (.slice B K b1) (.slice B2 L b2))) (hc : Hid (∀ W, Below w.heap.size w W → Calls Try.prog 13 #[.agg #[.slice A N a1, .slice A2 M a2]] W (RetP (.int .i64 0) W))) (hn : Hid (∀ W, Below w.heap.size w W → Calls Try.prog 15 #[.agg #[.slice A N a1, .slice A2 M a2]] W (RetP (.int .i64 nd) W))) (hn2 : Hid (∀ W, Below w.heap.size w W → Calls Try.prog 14 #[.agg #[.slice B K b1, .slice B2 L b2]] W (RetP (.int .i64 nd) W))) (hnn : (nd == nd) = true) (hsz : a0.tmps.size = 71) (sl1 : a0.tmps.getD 1 undef = .pointer (some ⟨G, 0, none⟩)) (sl3 : a0.tmps.getD 3 undef = .pointer (some ⟨X, 0, none⟩)) (sl7 : a0.tmps.getD 7 undef = .int .i64 3)
    (fin : ∀ (vals : Nat → Value) (w1 : World), Below w.heap.size w w1 → (IsV (.bool true)) (vals 14) w1 → Q .normal (putD vals [38, 39, 40, 41, 42, 43, 44, 45, 46, 47, 48, 49, 50, 51, 2] 0 a0) w1) :
    (Code.region 11 (regIn Try.f3 11) true).wp Try.prog Q a0 w := by
  refine region_by (G := fun w w1 => Below w.heap.size w w1) [IsV (.int .i64 3),
    IsV (.bool false),
    IsV (.bool false),
    IsV (.agg #[.slice A N a1, .slice A2 M a2]),
    IsV (.int .i64 0),
    IsV (.bool false),
    IsV (.bool false),
    IsV (.bool false),
    IsV (.agg #[.slice B K b1, .slice B2 L b2]),
    IsV (.int .i64 nd),
    IsV (.agg #[.slice A N a1, .slice A2 M a2]),
    IsV (.int .i64 nd),
    IsV (.bool true),
    IsV (.bool true),
    IsV (.bool true)]
    [38, 39, 40, 41, 42, 43, 44, 45, 46, 47, 48, 49, 50, 51, 2] (by kernel_rfl) (Gw.drew _) Gw.trans (by rw [hsz]; kernel_rfl) (by kernel_rfl) ?_ ?_ ?_
  · intro f hf
    simp only [List.mem_cons, List.not_mem_nil, or_false] at hf
    rcases hf with rfl | rfl | rfl | rfl | rfl | rfl | rfl | rfl | rfl | rfl | rfl | rfl | rfl | rfl | rfl <;> intro v a b h g <;> first | exact IsV.mono h
  · refine ⟨?_, ?_, ?_, ?_, ?_, ?_, ?_, ?_, ?_, ?_, ?_, ?_, ?_, ?_, ?_, trivial⟩
    · exact owes_mv 7 (by kernel_rfl) (by kernel_rfl) (by kernel_rfl) sl7 (fun _ => rfl)
    · refine owes_v (Go.Op.binOp Go.BinOp.neq 3 (Go.Operand.tmp 38) (Go.Operand.const (Go.Value.int Go.IntKind.i64 3)) 3) 4 [0] (by kernel_rfl) (by kernel_rfl) (by kernel_rfl) rfl fun vals w1 ρ hG hF hρ hcst hfun => ?_
      have e38 : ρ (.tmp 38) = .int .i64 3 := ((hρ 38).trans (slotJ [0] (by rw [hsz]; decide) (by kernel_rfl))).trans (hF 0 (by decide))
      clear hρ hF hfun sl1 sl3 sl7 fin
      exact opv_val (by go_simp <;> rfl) ⟨gw_self _, rfl⟩
    · exact owes_mvj 1 39 (by kernel_rfl) (by kernel_rfl) (by kernel_rfl) (by kernel_rfl) (by rw [hsz]; decide) (fun v w h => h)
    · refine owes_vt 2 false (Go.Op.load 31 (Go.Operand.tmp 3)) 31 [] (by kernel_rfl) (by kernel_rfl) (by kernel_rfl) (fun _ _ h => h) (by rw [hsz]; kernel_rfl) (by kernel_rfl) rfl fun vals w1 ρ hG hF hρ hcst hfun => ?_
      have e3 : ρ (.tmp 3) = .pointer (some ⟨X, 0, none⟩) := ((hρ 3).trans (slotO [] (by kernel_rfl))).trans sl3
      obtain ⟨d0, d1, _⟩ := hx.out w1 hG
      clear hρ hF hcst hfun sl1 sl3 sl7 fin
      exact opv_val (by go_simp <;> rfl) ⟨gw_self _, rfl⟩
    · refine owes_vt 2 false (Go.Op.call { callee := Go.Callee.value (Go.Operand.func 13), args := #[Go.Operand.tmp 41], argTypes := #[31] }) 3 [3] (by kernel_rfl) (by kernel_rfl) (by kernel_rfl) (fun _ _ h => h) (by rw [hsz]; kernel_rfl) (by kernel_rfl) rfl fun vals w1 ρ hG hF hρ hcst hfun => ?_
      have e41 : ρ (.tmp 41) = .agg #[.slice A N a1, .slice A2 M a2] := ((hρ 41).trans (slotJ [3] (by rw [hsz]; decide) (by kernel_rfl))).trans (hF 3 (by decide))
      clear hρ hF hcst sl1 sl3 sl7 fin
      exact opv_enter (by go_simp <;> rfl) (of_ret (hc.out w1 hG))
    · refine owes_vt 2 false (Go.Op.binOp Go.BinOp.neq 3 (Go.Operand.tmp 42) (Go.Operand.const (Go.Value.int Go.IntKind.i64 0)) 3) 4 [4] (by kernel_rfl) (by kernel_rfl) (by kernel_rfl) (fun _ _ h => h) (by rw [hsz]; kernel_rfl) (by kernel_rfl) rfl fun vals w1 ρ hG hF hρ hcst hfun => ?_
      have e42 : ρ (.tmp 42) = .int .i64 0 := ((hρ 42).trans (slotJ [4] (by rw [hsz]; decide) (by kernel_rfl))).trans (hF 4 (by decide))
      clear hρ hF hfun sl1 sl3 sl7 fin
      exact opv_val (by go_simp <;> rfl) ⟨gw_self _, rfl⟩
    · refine owes_v (Go.Op.pick (Go.Operand.tmp 40) (Go.Operand.const (Go.Value.bool true)) (Go.Operand.tmp 43)) 4 [2, 5] (by kernel_rfl) (by kernel_rfl) (by kernel_rfl) rfl fun vals w1 ρ hG hF hρ hcst hfun => ?_
      have e40 : ρ (.tmp 40) = .bool false := ((hρ 40).trans (slotJ [2, 5] (by rw [hsz]; decide) (by kernel_rfl))).trans (hF 2 (by decide))
      have e43 : ρ (.tmp 43) = .bool false := ((hρ 43).trans (slotJ [2, 5] (by rw [hsz]; decide) (by kernel_rfl))).trans (hF 5 (by decide))
      clear hρ hF hfun sl1 sl3 sl7 fin
      exact opv_val (by go_simp <;> rfl) ⟨gw_self _, rfl⟩
    · exact owes_mvj 6 44 (by kernel_rfl) (by kernel_rfl) (by kernel_rfl) (by kernel_rfl) (by rw [hsz]; decide) (fun v w h => h)
    · refine owes_vt 7 false (Go.Op.load 25 (Go.Operand.tmp 1)) 25 [] (by kernel_rfl) (by kernel_rfl) (by kernel_rfl) (fun _ _ h => h) (by rw [hsz]; kernel_rfl) (by kernel_rfl) rfl fun vals w1 ρ hG hF hρ hcst hfun => ?_
      have e1 : ρ (.tmp 1) = .pointer (some ⟨G, 0, none⟩) := ((hρ 1).trans (slotO [] (by kernel_rfl))).trans sl1
      obtain ⟨d0, d1, _⟩ := hg.out w1 hG
      clear hρ hF hcst hfun sl1 sl3 sl7 fin
      exact opv_val (by go_simp <;> rfl) ⟨gw_self _, rfl⟩
    · refine owes_vt 7 false (Go.Op.call { callee := Go.Callee.value (Go.Operand.func 14), args := #[Go.Operand.tmp 46], argTypes := #[25] }) 3 [8] (by kernel_rfl) (by kernel_rfl) (by kernel_rfl) (fun _ _ h => h) (by rw [hsz]; kernel_rfl) (by kernel_rfl) rfl fun vals w1 ρ hG hF hρ hcst hfun => ?_
      have e46 : ρ (.tmp 46) = .agg #[.slice B K b1, .slice B2 L b2] := ((hρ 46).trans (slotJ [8] (by rw [hsz]; decide) (by kernel_rfl))).trans (hF 8 (by decide))
      clear hρ hF hcst sl1 sl3 sl7 fin
      exact opv_enter (by go_simp <;> rfl) (of_ret (hn2.out w1 hG))
    · refine owes_vt 7 false (Go.Op.load 31 (Go.Operand.tmp 3)) 31 [] (by kernel_rfl) (by kernel_rfl) (by kernel_rfl) (fun _ _ h => h) (by rw [hsz]; kernel_rfl) (by kernel_rfl) rfl fun vals w1 ρ hG hF hρ hcst hfun => ?_
      have e3 : ρ (.tmp 3) = .pointer (some ⟨X, 0, none⟩) := ((hρ 3).trans (slotO [] (by kernel_rfl))).trans sl3
      obtain ⟨d0, d1, _⟩ := hx.out w1 hG
      clear hρ hF hcst hfun sl1 sl3 sl7 fin
      exact opv_val (by go_simp <;> rfl) ⟨gw_self _, rfl⟩
    · refine owes_vt 7 false (Go.Op.call { callee := Go.Callee.value (Go.Operand.func 15), args := #[Go.Operand.tmp 48], argTypes := #[31] }) 3 [10] (by kernel_rfl) (by kernel_rfl) (by kernel_rfl) (fun _ _ h => h) (by rw [hsz]; kernel_rfl) (by kernel_rfl) rfl fun vals w1 ρ hG hF hρ hcst hfun => ?_
      have e48 : ρ (.tmp 48) = .agg #[.slice A N a1, .slice A2 M a2] := ((hρ 48).trans (slotJ [10] (by rw [hsz]; decide) (by kernel_rfl))).trans (hF 10 (by decide))
      clear hρ hF hcst sl1 sl3 sl7 fin
      exact opv_enter (by go_simp <;> rfl) (of_ret (hn.out w1 hG))
    · refine owes_vt 7 false (Go.Op.binOp Go.BinOp.eql 3 (Go.Operand.tmp 47) (Go.Operand.tmp 49) 3) 4 [9, 11] (by kernel_rfl) (by kernel_rfl) (by kernel_rfl) (fun _ _ h => h) (by rw [hsz]; kernel_rfl) (by kernel_rfl) rfl fun vals w1 ρ hG hF hρ hcst hfun => ?_
      have e47 : ρ (.tmp 47) = .int .i64 nd := ((hρ 47).trans (slotJ [9, 11] (by rw [hsz]; decide) (by kernel_rfl))).trans (hF 9 (by decide))
      have e49 : ρ (.tmp 49) = .int .i64 nd := ((hρ 49).trans (slotJ [9, 11] (by rw [hsz]; decide) (by kernel_rfl))).trans (hF 11 (by decide))
      have k := hnn
      clear hρ hF hcst hfun sl1 sl3 sl7 fin
      exact opv_val (by go_simp <;> rfl) ⟨gw_self _, rfl⟩
    · refine owes_v (Go.Op.pick (Go.Operand.tmp 45) (Go.Operand.const (Go.Value.bool true)) (Go.Operand.tmp 50)) 4 [7, 12] (by kernel_rfl) (by kernel_rfl) (by kernel_rfl) rfl fun vals w1 ρ hG hF hρ hcst hfun => ?_
      have e45 : ρ (.tmp 45) = .bool false := ((hρ 45).trans (slotJ [7, 12] (by rw [hsz]; decide) (by kernel_rfl))).trans (hF 7 (by decide))
      have e50 : ρ (.tmp 50) = .bool true := ((hρ 50).trans (slotJ [7, 12] (by rw [hsz]; decide) (by kernel_rfl))).trans (hF 12 (by decide))
      clear hρ hF hfun sl1 sl3 sl7 fin
      exact opv_val (by go_simp <;> rfl) ⟨gw_self _, rfl⟩
    · exact owes_mvj 13 51 (by kernel_rfl) (by kernel_rfl) (by kernel_rfl) (by kernel_rfl) (by rw [hsz]; decide) (fun v w h => h)
  · intro vals w1 hG hF
    exact fin vals w1 hG (hF 14 (by decide +kernel))
end Go.Proofs.Ytkkjnahjmomjgaa
