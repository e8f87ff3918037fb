/- What the functions of package geom answer, by numbers alone. No conditions but on the numbers. -/
import Derived.Test.YtjdifejnnkplaaaRegV
import Derived.Test.YtjdifejnnkplaaaBitsA
import Derived.LoopTactic
namespace Go.Proofs.Ytjdifejnnkplaaa
set_option linter.unusedVariables false
set_option linter.unusedSimpArgs false
open Go.RowKit
def oneG (s n : Int) : Int := (n * 8 + s - 1) / s + (n + 32 - 1) / 32
def totG (s l n : Int) : Int := 2 + l + 2 * oneG s n
def gV (s l n : Int) : Value := .agg #[.int .i64 s, .int .i64 l, .int .i64 n]
def inG (s l n : Int) : Prop := (64 ≤ s ∧ s ≤ 1024 ∧ s % 8 = 0) ∧ 8 ≤ l ∧ l ≤ 1024 ∧ 64 ≤ n ∧ n ≤ 8192
instance (s l n : Int) : Decidable (inG s l n) := by unfold inG; infer_instance
def okG (s l n : Int) : Bool := decide (inG s l n ∧ totG s l n ≤ 16384)
theorem of_ret {P : Program} {f : FuncId} {args : Array Value} {v : Value} {w : World} (h : Calls P f args w (RetP v w)) : Calls P f args w fun e w2 => ∃ u, e = .returned u ∧ Below w.heap.size w w2 ∧ IsV v u w2 :=
  h.mono fun _ _ h => ⟨_, h.1, h.2, rfl⟩
theorem part_bd (s n : Int) (h1 : 64 ≤ s) (h2 : s ≤ 1024) (h3 : 64 ≤ n) (h4 : n ≤ 8192) : 0 ≤ (n * 8 + s - 1) / s ∧ (n * 8 + s - 1) / s ≤ 1100 := by
  refine ⟨Int.ediv_nonneg (by omega) (by omega), ?_⟩
  have : (n * 8 + s - 1) / s < 1101 := Int.ediv_lt_of_lt_mul (by omega) (by omega)
  omega
theorem oneG_bd (s n : Int) (h1 : 64 ≤ s) (h2 : s ≤ 1024) (h3 : 64 ≤ n) (h4 : n ≤ 8192) : 0 ≤ oneG s n ∧ oneG s n ≤ 1400 := by
  obtain ⟨a, b⟩ := part_bd s n h1 h2 h3 h4
  unfold oneG
  omega
set_option maxHeartbeats 400000
theorem parts_c (n k : Int) (w : World) (h1 : 0 ≤ n) (h2 : n ≤ 1048576) (h3 : 1 ≤ k) (h4 : k ≤ 1048576) : Calls Try.prog 41 #[.int .i64 n, .int .i64 k] w (RetP (.int .i64 ((n + k - 1) / k)) w) := by
  go_enter Try.func41, Try.ntmps41
  go_wp2
  go_ret
  exact ret_i rfl (gw_self _)
theorem inSpace_r (Q : Exit → Act → World → Prop) (a0 : Act) (w : World) (g : Nat) (s l n : Int) (hb : Bk w g 24 #[.int .i64 s, .int .i64 l, .int .i64 n]) (h1 : 64 ≤ s) (h2 : s ≤ 1024) (h3 : 64 ≤ n) (h4 : n ≤ 8192) (hsz : a0.tmps.size = 13) (sl1 : a0.tmps.getD 1 undef = .pointer (some ⟨g, 0, none⟩))
    (fin : ∀ (vals : Nat → Value) (w1 : World), Below w.heap.size w w1 → (IsV (.int .i64 (oneG s n))) (vals 10) w1 → Q .normal (putD vals [3, 4, 5, 6, 7, 8, 9, 10, 11, 12, 2] 0 a0) w1) :
    (Code.region 1 (regIn Try.f38 1) true).wp Try.prog Q a0 w := by
  refine region_by (G := fun w w1 => Below w.heap.size w w1) [IsV (.pointer (some ⟨g, 2, none⟩)),
    IsV (.int .i64 n),
    IsV (.int .i64 (n * 8)),
    IsV (.pointer (some ⟨g, 0, none⟩)),
    IsV (.int .i64 s),
    IsV (.int .i64 ((n * 8 + s - 1) / s)),
    IsV (.pointer (some ⟨g, 2, none⟩)),
    IsV (.int .i64 n),
    IsV (.int .i64 ((n + 32 - 1) / 32)),
    IsV (.int .i64 (oneG s n)),
    IsV (.int .i64 (oneG s n))]
    [3, 4, 5, 6, 7, 8, 9, 10, 11, 12, 2] (by kernel_rfl) (Gw.drew _) Gw.trans (by rw [hsz]; kernel_rfl) (by kernel_rfl) ?_ ?_ ?_
  · intro f hf
    simp only [List.mem_cons, List.not_mem_nil, or_false] at hf
    rcases hf with rfl | rfl | rfl | rfl | rfl | rfl | rfl | rfl | rfl | rfl | rfl <;> intro v a b h g <;> first | exact IsV.mono h
  · refine ⟨?_, ?_, ?_, ?_, ?_, ?_, ?_, ?_, ?_, ?_, ?_, trivial⟩
    · refine owes_v (Go.Op.fieldAddr 24 (Go.Operand.tmp 1) 2) 0 [] (by kernel_rfl) (by kernel_rfl) (by kernel_rfl) rfl fun vals w1 ρ hG hF hρ hcst hfun => ?_
      have e1 : ρ (.tmp 1) = .pointer (some ⟨g, 0, none⟩) := ((hρ 1).trans (slotO [] (by kernel_rfl))).trans sl1
      clear hρ hF hcst hfun sl1 fin
      exact opv_val (by go_simp <;> rfl) ⟨gw_self _, rfl⟩
    · refine owes_v (Go.Op.load 3 (Go.Operand.tmp 3)) 3 [0] (by kernel_rfl) (by kernel_rfl) (by kernel_rfl) rfl fun vals w1 ρ hG hF hρ hcst hfun => ?_
      have e3 : ρ (.tmp 3) = .pointer (some ⟨g, 2, none⟩) := ((hρ 3).trans (slotJ [0] (by rw [hsz]; decide) (by kernel_rfl))).trans (hF 0 (by decide))
      have k := ((hb.below hG hb.lt).three).2.2
      clear hρ hF hcst hfun sl1 fin
      exact opv_val (by go_simp <;> rfl) ⟨gw_self _, rfl⟩
    · refine owes_v (Go.Op.binOp Go.BinOp.mul 3 (Go.Operand.tmp 4) (Go.Operand.const (Go.Value.int Go.IntKind.i64 8)) 3) 3 [1] (by kernel_rfl) (by kernel_rfl) (by kernel_rfl) rfl fun vals w1 ρ hG hF hρ hcst hfun => ?_
      have e4 : ρ (.tmp 4) = .int .i64 n := ((hρ 4).trans (slotJ [1] (by rw [hsz]; decide) (by kernel_rfl))).trans (hF 1 (by decide))
      have kw0 : IntKind.i64.wrap (n * 8) = n * 8 := wrapIn (by omega) (by omega)
      clear hρ hF hfun sl1 fin
      exact opv_val (by go_simp <;> rfl) ⟨gw_self _, rfl⟩
    · refine owes_v (Go.Op.fieldAddr 24 (Go.Operand.tmp 1) 0) 0 [] (by kernel_rfl) (by kernel_rfl) (by kernel_rfl) rfl fun vals w1 ρ hG hF hρ hcst hfun => ?_
      have e1 : ρ (.tmp 1) = .pointer (some ⟨g, 0, none⟩) := ((hρ 1).trans (slotO [] (by kernel_rfl))).trans sl1
      clear hρ hF hcst hfun sl1 fin
      exact opv_val (by go_simp <;> rfl) ⟨gw_self _, rfl⟩
    · refine owes_v (Go.Op.load 3 (Go.Operand.tmp 6)) 3 [3] (by kernel_rfl) (by kernel_rfl) (by kernel_rfl) rfl fun vals w1 ρ hG hF hρ hcst hfun => ?_
      have e6 : ρ (.tmp 6) = .pointer (some ⟨g, 0, none⟩) := ((hρ 6).trans (slotJ [3] (by rw [hsz]; decide) (by kernel_rfl))).trans (hF 3 (by decide))
      have k := ((hb.below hG hb.lt).three).1
      clear hρ hF hcst hfun sl1 fin
      exact opv_val (by go_simp <;> rfl) ⟨gw_self _, rfl⟩
    · refine owes_v (Go.Op.call { callee := Go.Callee.value (Go.Operand.func 41), args := #[Go.Operand.tmp 5, Go.Operand.tmp 7], argTypes := #[3, 3] }) 3 [2, 4] (by kernel_rfl) (by kernel_rfl) (by kernel_rfl) rfl fun vals w1 ρ hG hF hρ hcst hfun => ?_
      have e5 : ρ (.tmp 5) = .int .i64 (n * 8) := ((hρ 5).trans (slotJ [2, 4] (by rw [hsz]; decide) (by kernel_rfl))).trans (hF 2 (by decide))
      have e7 : ρ (.tmp 7) = .int .i64 s := ((hρ 7).trans (slotJ [2, 4] (by rw [hsz]; decide) (by kernel_rfl))).trans (hF 4 (by decide))
      clear hρ hF hcst sl1 fin
      exact opv_enter (by go_simp <;> rfl) (of_ret (parts_c (n * 8) s w1 (by omega) (by omega) (by omega) (by omega)))
    · refine owes_v (Go.Op.fieldAddr 24 (Go.Operand.tmp 1) 2) 0 [] (by kernel_rfl) (by kernel_rfl) (by kernel_rfl) rfl fun vals w1 ρ hG hF hρ hcst hfun => ?_
      have e1 : ρ (.tmp 1) = .pointer (some ⟨g, 0, none⟩) := ((hρ 1).trans (slotO [] (by kernel_rfl))).trans sl1
      clear hρ hF hcst hfun sl1 fin
      exact opv_val (by go_simp <;> rfl) ⟨gw_self _, rfl⟩
    · refine owes_v (Go.Op.load 3 (Go.Operand.tmp 9)) 3 [6] (by kernel_rfl) (by kernel_rfl) (by kernel_rfl) rfl fun vals w1 ρ hG hF hρ hcst hfun => ?_
      have e9 : ρ (.tmp 9) = .pointer (some ⟨g, 2, none⟩) := ((hρ 9).trans (slotJ [6] (by rw [hsz]; decide) (by kernel_rfl))).trans (hF 6 (by decide))
      have k := ((hb.below hG hb.lt).three).2.2
      clear hρ hF hcst hfun sl1 fin
      exact opv_val (by go_simp <;> rfl) ⟨gw_self _, rfl⟩
    · refine owes_v (Go.Op.call { callee := Go.Callee.value (Go.Operand.func 41), args := #[Go.Operand.tmp 10, Go.Operand.const (Go.Value.int Go.IntKind.i64 32)], argTypes := #[3, 3] }) 3 [7] (by kernel_rfl) (by kernel_rfl) (by kernel_rfl) rfl fun vals w1 ρ hG hF hρ hcst hfun => ?_
      have e10 : ρ (.tmp 10) = .int .i64 n := ((hρ 10).trans (slotJ [7] (by rw [hsz]; decide) (by kernel_rfl))).trans (hF 7 (by decide))
      clear hρ hF sl1 fin
      exact opv_enter (by go_simp <;> rfl) (of_ret (parts_c n 32 w1 (by omega) (by omega) (by omega) (by omega)))
    · refine owes_v (Go.Op.binOp Go.BinOp.add 3 (Go.Operand.tmp 8) (Go.Operand.tmp 11) 3) 3 [5, 8] (by kernel_rfl) (by kernel_rfl) (by kernel_rfl) rfl fun vals w1 ρ hG hF hρ hcst hfun => ?_
      have e8 : ρ (.tmp 8) = .int .i64 ((n * 8 + s - 1) / s) := ((hρ 8).trans (slotJ [5, 8] (by rw [hsz]; decide) (by kernel_rfl))).trans (hF 5 (by decide))
      have e11 : ρ (.tmp 11) = .int .i64 ((n + 32 - 1) / 32) := ((hρ 11).trans (slotJ [5, 8] (by rw [hsz]; decide) (by kernel_rfl))).trans (hF 8 (by decide))
      obtain ⟨q1, q2⟩ := part_bd s n h1 h2 h3 h4
      have q3 : 0 ≤ (n + 32 - 1) / 32 ∧ (n + 32 - 1) / 32 ≤ 300 := by omega
      obtain ⟨q3, q4⟩ := q3
      have kw3 : IntKind.i64.wrap ((n * 8 + s - 1) / s + (n + 32 - 1) / 32) = (n * 8 + s - 1) / s + (n + 32 - 1) / 32 := wrapIn (by omega) (by omega)
      clear hρ hF hcst hfun sl1 fin
      exact opv_val (by go_simp <;> rfl) ⟨gw_self _, rfl⟩
    · exact owes_mvj 9 12 (by kernel_rfl) (by kernel_rfl) (by kernel_rfl) (by kernel_rfl) (by rw [hsz]; decide) (fun v w h => h)
  · intro vals w1 hG hF
    exact fin vals w1 hG (hF 10 (by decide +kernel))
theorem inSpace_c (s l n : Int) (w : World) (h1 : 64 ≤ s) (h2 : s ≤ 1024) (h3 : 64 ≤ n) (h4 : n ≤ 8192) : Calls Try.prog 38 #[gV s l n] w (RetP (.int .i64 (oneG s n)) w) := by
  unfold gV
  go_enter Try.func38, Try.ntmps38
  go_wp2_with fail
  refine inSpace_r _ _ _ w.heap.size s l n (Bk.new w _ _) h1 h2 h3 h4 rfl rfl ?_
  intro vals w1 hG h5
  unfold IsV at h5
  simp only [putD, Act.put, List.setIfInBounds_toArray, List.set_cons_zero, List.set_cons_succ, h5]
  have hB : Below w.heap.size w w1 := (Gw.alloc w _).trans (hG.mono (by simp))
  clear h5 hG
  go_wp2
  go_ret
  exact ret_i rfl hB
theorem total_r (Q : Exit → Act → World → Prop) (a0 : Act) (w : World) (g : Nat) (s l n : Int) (hb : Bk w g 24 #[.int .i64 s, .int .i64 l, .int .i64 n]) (h1 : 64 ≤ s) (h2 : s ≤ 1024) (h3 : 64 ≤ n) (h4 : n ≤ 8192) (h5 : 0 ≤ l) (h6 : l ≤ 1048576) (hsz : a0.tmps.size = 10) (sl1 : a0.tmps.getD 1 undef = .pointer (some ⟨g, 0, none⟩))
    (fin : ∀ (vals : Nat → Value) (w1 : World), Below w.heap.size w w1 → (IsV (.int .i64 (totG s l n))) (vals 7) w1 → Q .normal (putD vals [3, 4, 5, 6, 7, 8, 9, 2] 0 a0) w1) :
    (Code.region 1 (regIn Try.f30 1) true).wp Try.prog Q a0 w := by
  refine region_by (G := fun w w1 => Below w.heap.size w w1) [IsV (.pointer (some ⟨g, 1, none⟩)),
    IsV (.int .i64 l),
    IsV (.int .i64 (2 + l)),
    IsV (.agg #[.int .i64 s, .int .i64 l, .int .i64 n]),
    IsV (.int .i64 (oneG s n)),
    IsV (.int .i64 (2 * oneG s n)),
    IsV (.int .i64 (totG s l n)),
    IsV (.int .i64 (totG s l n))]
    [3, 4, 5, 6, 7, 8, 9, 2] (by kernel_rfl) (Gw.drew _) Gw.trans (by rw [hsz]; kernel_rfl) (by kernel_rfl) ?_ ?_ ?_
  · intro f hf
    simp only [List.mem_cons, List.not_mem_nil, or_false] at hf
    rcases hf with rfl | rfl | rfl | rfl | rfl | rfl | rfl | rfl <;> intro v a b h g <;> first | exact IsV.mono h
  · refine ⟨?_, ?_, ?_, ?_, ?_, ?_, ?_, ?_, trivial⟩
    · refine owes_v (Go.Op.fieldAddr 24 (Go.Operand.tmp 1) 1) 0 [] (by kernel_rfl) (by kernel_rfl) (by kernel_rfl) rfl fun vals w1 ρ hG hF hρ hcst hfun => ?_
      have e1 : ρ (.tmp 1) = .pointer (some ⟨g, 0, none⟩) := ((hρ 1).trans (slotO [] (by kernel_rfl))).trans sl1
      clear hρ hF hcst hfun sl1 fin
      exact opv_val (by go_simp <;> rfl) ⟨gw_self _, rfl⟩
    · refine owes_v (Go.Op.load 3 (Go.Operand.tmp 3)) 3 [0] (by kernel_rfl) (by kernel_rfl) (by kernel_rfl) rfl fun vals w1 ρ hG hF hρ hcst hfun => ?_
      have e3 : ρ (.tmp 3) = .pointer (some ⟨g, 1, none⟩) := ((hρ 3).trans (slotJ [0] (by rw [hsz]; decide) (by kernel_rfl))).trans (hF 0 (by decide))
      have k := ((hb.below hG hb.lt).three).2.1
      clear hρ hF hcst hfun sl1 fin
      exact opv_val (by go_simp <;> rfl) ⟨gw_self _, rfl⟩
    · refine owes_v (Go.Op.binOp Go.BinOp.add 3 (Go.Operand.const (Go.Value.int Go.IntKind.i64 2)) (Go.Operand.tmp 4) 3) 3 [1] (by kernel_rfl) (by kernel_rfl) (by kernel_rfl) rfl fun vals w1 ρ hG hF hρ hcst hfun => ?_
      have e4 : ρ (.tmp 4) = .int .i64 l := ((hρ 4).trans (slotJ [1] (by rw [hsz]; decide) (by kernel_rfl))).trans (hF 1 (by decide))
      have kw0 : IntKind.i64.wrap (2 + l) = 2 + l := wrapIn (by omega) (by omega)
      clear hρ hF hfun sl1 fin
      exact opv_val (by go_simp <;> rfl) ⟨gw_self _, rfl⟩
    · refine owes_v (Go.Op.load 24 (Go.Operand.tmp 1)) 24 [] (by kernel_rfl) (by kernel_rfl) (by kernel_rfl) rfl fun vals w1 ρ hG hF hρ hcst hfun => ?_
      have e1 : ρ (.tmp 1) = .pointer (some ⟨g, 0, none⟩) := ((hρ 1).trans (slotO [] (by kernel_rfl))).trans sl1
      obtain ⟨k1, k2, k3⟩ := (hb.below hG hb.lt).three
      clear hρ hF hcst hfun sl1 fin
      exact opv_val (by go_simp <;> rfl) ⟨gw_self _, rfl⟩
    · refine owes_v (Go.Op.call { callee := Go.Callee.value (Go.Operand.func 38), args := #[Go.Operand.tmp 6], argTypes := #[24] }) 3 [3] (by kernel_rfl) (by kernel_rfl) (by kernel_rfl) rfl fun vals w1 ρ hG hF hρ hcst hfun => ?_
      have e6 : ρ (.tmp 6) = .agg #[.int .i64 s, .int .i64 l, .int .i64 n] := ((hρ 6).trans (slotJ [3] (by rw [hsz]; decide) (by kernel_rfl))).trans (hF 3 (by decide))
      clear hρ hF hcst sl1 fin
      exact opv_enter (by go_simp <;> rfl) (of_ret (inSpace_c s l n w1 h1 h2 h3 h4))
    · refine owes_v (Go.Op.binOp Go.BinOp.mul 3 (Go.Operand.const (Go.Value.int Go.IntKind.i64 2)) (Go.Operand.tmp 7) 3) 3 [4] (by kernel_rfl) (by kernel_rfl) (by kernel_rfl) rfl fun vals w1 ρ hG hF hρ hcst hfun => ?_
      have e7 : ρ (.tmp 7) = .int .i64 (oneG s n) := ((hρ 7).trans (slotJ [4] (by rw [hsz]; decide) (by kernel_rfl))).trans (hF 4 (by decide))
      obtain ⟨q1, q2⟩ := oneG_bd s n h1 h2 h3 h4
      have kw1 : IntKind.i64.wrap (2 * oneG s n) = 2 * oneG s n := wrapIn (by omega) (by omega)
      clear hρ hF hfun sl1 fin
      exact opv_val (by go_simp <;> rfl) ⟨gw_self _, rfl⟩
    · refine owes_v (Go.Op.binOp Go.BinOp.add 3 (Go.Operand.tmp 5) (Go.Operand.tmp 8) 3) 3 [2, 5] (by kernel_rfl) (by kernel_rfl) (by kernel_rfl) rfl fun vals w1 ρ hG hF hρ hcst hfun => ?_
      have e5 : ρ (.tmp 5) = .int .i64 (2 + l) := ((hρ 5).trans (slotJ [2, 5] (by rw [hsz]; decide) (by kernel_rfl))).trans (hF 2 (by decide))
      have e8 : ρ (.tmp 8) = .int .i64 (2 * oneG s n) := ((hρ 8).trans (slotJ [2, 5] (by rw [hsz]; decide) (by kernel_rfl))).trans (hF 5 (by decide))
      obtain ⟨q1, q2⟩ := oneG_bd s n h1 h2 h3 h4
      have kw1 : IntKind.i64.wrap (2 + l + 2 * oneG s n) = 2 + l + 2 * oneG s n := wrapIn (by omega) (by omega)
      clear hρ hF hcst hfun sl1 fin
      exact opv_val (by go_simp <;> rfl) ⟨gw_self _, rfl⟩
    · exact owes_mvj 6 9 (by kernel_rfl) (by kernel_rfl) (by kernel_rfl) (by kernel_rfl) (by rw [hsz]; decide) (fun v w h => h)
  · intro vals w1 hG hF
    exact fin vals w1 hG (hF 7 (by decide +kernel))
theorem total_c (s l n : Int) (w : World) (h1 : 64 ≤ s) (h2 : s ≤ 1024) (h3 : 64 ≤ n) (h4 : n ≤ 8192) (h5 : 0 ≤ l) (h6 : l ≤ 1048576) : Calls Try.prog 30 #[gV s l n] w (RetP (.int .i64 (totG s l n)) w) := by
  unfold gV
  go_enter Try.func30, Try.ntmps30
  go_wp2_with fail
  refine total_r _ _ _ w.heap.size s l n (Bk.new w _ _) h1 h2 h3 h4 h5 h6 rfl rfl ?_
  intro vals w1 hG h5
  unfold IsV at h5
  simp only [putD, Act.put, List.setIfInBounds_toArray, List.set_cons_zero, List.set_cons_succ, h5]
  have hB : Below w.heap.size w w1 := (Gw.alloc w _).trans (hG.mono (by simp))
  clear h5 hG
  go_wp2
  go_ret
  exact ret_i rfl hB
def chkG (s l n : Int) : Int := if okG s l n then 0 else 1
theorem okG_no {s l n : Int} (h : ¬ inG s l n) : okG s l n = false := by
  unfold okG; rw [decide_eq_false_iff_not]; exact fun h2 => h h2.1
theorem check_c (s l n : Int) (w : World) : Calls Try.prog 18 #[gV s l n] w (RetP (.int .i64 (chkG s l n)) w) := by
  unfold gV
  by_cases h : inG s l n
  · obtain ⟨⟨h1, h2, h3⟩, h4, h5, h6, h7⟩ := h
    have t1 : decide (s < 64) = false := by simp; omega
    have t2 : decide (1024 < s) = false := by simp; omega
    have t3 : (s % 8 != 0) = false := by simp; omega
    have t4 : decide (l < 8) = false := by simp; omega
    have t5 : decide (1024 < l) = false := by simp; omega
    have t6 : decide (n < 64) = false := by simp; omega
    have t7 : decide (8192 < n) = false := by simp; omega
    have hin : inG s l n := ⟨⟨h1, h2, h3⟩, h4, h5, h6, h7⟩
    have HIN := Lib.hid hin
    clear hin h3
    by_cases ht : totG s l n ≤ 16384
    · have hc : chkG s l n = 0 := by unfold chkG okG; rw [decide_eq_true (⟨HIN.out, ht⟩ : inG s l n ∧ totG s l n ≤ 16384)]; rfl
      rw [hc]
      have t8 : decide (16384 < totG s l n) = false := by simp; omega
      clear hc
      go_enter Try.func18, Try.ntmps18
      go_wp2_with fail
      refine (total_c s l n _ h1 h2 h6 h7 (by omega) (by omega)).mono ?_
      rintro e w1 ⟨rfl, hb1⟩
      go_wp2_with fail
      go_ret
      exact ret_i rfl ((Gw.alloc w _).trans (hb1.mono (by simp)))
    · have hc : chkG s l n = 1 := by unfold chkG okG; rw [decide_eq_false (fun h : inG s l n ∧ totG s l n ≤ 16384 => ht h.2)]; rfl
      rw [hc]
      have t8 : decide (16384 < totG s l n) = true := by simp; omega
      clear hc
      go_enter Try.func18, Try.ntmps18
      go_wp2_with fail
      refine (total_c s l n _ h1 h2 h6 h7 (by omega) (by omega)).mono ?_
      rintro e w1 ⟨rfl, hb1⟩
      go_wp2_with fail
      go_ret
      exact ret_i rfl ((Gw.alloc w _).trans (hb1.mono (by simp)))
  · have hc : chkG s l n = 1 := by unfold chkG; rw [okG_no h]; rfl
    rw [hc]
    have h' : ¬ ((64 ≤ s ∧ s ≤ 1024 ∧ s % 8 = 0) ∧ 8 ≤ l ∧ l ≤ 1024 ∧ 64 ≤ n ∧ n ≤ 8192) := h
    clear hc h
    by_cases ha : 64 ≤ s ∧ s ≤ 1024
    · obtain ⟨ha1, ha2⟩ := ha
      have t1 : decide (s < 64) = false := by simp; omega
      have t2 : decide (1024 < s) = false := by simp; omega
      by_cases h8 : s % 8 = 0
      · have t3 : (s % 8 != 0) = false := by simp; omega
        have hq : l < 8 ∨ 1024 < l ∨ n < 64 ∨ 8192 < n := by omega
        clear h' h8
        go_enter Try.func18, Try.ntmps18
        go_wp2_with fail
        all_goals first
          | (exfalso; omega)
          | (go_ret; exact ret_i rfl (Gw.alloc w _))
      · have t3 : (s % 8 != 0) = true := by simp; omega
        clear h' h8
        go_enter Try.func18, Try.ntmps18
        go_wp2_with fail
        go_ret
        exact ret_i rfl (Gw.alloc w _)
    · have hq : s < 64 ∨ 1024 < s := by omega
      clear h' ha
      rcases hq with hq | hq
      · have t1 : decide (s < 64) = true := by simp; omega
        go_enter Try.func18, Try.ntmps18
        go_wp2_with fail
        go_ret
        exact ret_i rfl (Gw.alloc w _)
      · have t1 : decide (s < 64) = false := by simp; omega
        have t2 : decide (1024 < s) = true := by simp; omega
        go_enter Try.func18, Try.ntmps18
        go_wp2_with fail
        go_ret
        exact ret_i rfl (Gw.alloc w _)
end Go.Proofs.Ytjdifejnnkplaaa
