/- What the functions of loamref4 answer of a geometry that may be. Conditions: it may be. -/
import Derived.Test.YtjdifejnnkplaaaGeomE
import Derived.Test.YtjdifejnnkplaaaRegT
namespace Go.Proofs.Ytjdifejnnkplaaa
set_option linter.unusedVariables false
set_option linter.unusedSimpArgs false
open Go.RowKit
def rparts (s n : Int) : Int := (n + s / 8 - 1) / (s / 8)
theorem rparts_eq (s n : Int) (h : 64 ≤ s) (h8 : s % 8 = 0) : rparts s n = (n * 8 + s - 1) / s := by
  obtain ⟨p, rfl⟩ : ∃ p, s = 8 * p := ⟨s / 8, by omega⟩
  unfold rparts
  rw [show 8 * p / 8 = p from by omega, ← Int.ediv_ediv_of_nonneg (by omega), show (n * 8 + 8 * p - 1) / 8 = n + p - 1 from by omega]
theorem oneR (s n : Int) (h : 64 ≤ s) (h8 : s % 8 = 0) : rparts s n + (n + 31) / 32 = oneG s n := by
  rw [rparts_eq s n h h8]
  unfold oneG
  omega
theorem tdivR (a b : Int) (h : 0 ≤ a) : a.tdiv b = a / b := Int.tdiv_eq_ediv_of_nonneg h
set_option maxHeartbeats 400000
theorem rone_r (Q : Exit → Act → World → Prop) (a0 : Act) (w : World) (g : Nat) (s l n p : Int) (hb : Bk w g 35 #[.int .i64 s, .int .i64 l, .int .i64 n]) (h1 : 8 ≤ p) (h2 : p ≤ 128) (h3 : 64 ≤ n) (h4 : n ≤ 8192) (hsum : Hid ((n + p - 1) / p + (n + 31) / 32 = oneG s n)) (q1 : 0 ≤ (n + p - 1) / p) (q2 : (n + p - 1) / p ≤ 2000) (hsz : a0.tmps.size = 19) (sl1 : a0.tmps.getD 1 undef = .pointer (some ⟨g, 0, none⟩)) (sl3 : a0.tmps.getD 3 undef = .int .i64 p)
    (fin : ∀ (vals : Nat → Value) (w1 : World), Below w.heap.size w w1 → (IsV (.int .i64 (oneG s n))) (vals 12) w1 → Q .normal (putD vals [7, 8, 9, 10, 11, 12, 13, 14, 15, 16, 17, 18, 2] 0 a0) w1) :
    (Code.region 2 (regIn Try.f37 2) true).wp Try.prog Q a0 w := by
  refine region_by (G := fun w w1 => Below w.heap.size w w1) [IsV (.pointer (some ⟨g, 2, none⟩)),
    IsV (.int .i64 n),
    IsV (.int .i64 p),
    IsV (.int .i64 (n + p)),
    IsV (.int .i64 (n + p - 1)),
    IsV (.int .i64 p),
    IsV (.int .i64 ((n + p - 1) / p)),
    IsV (.pointer (some ⟨g, 2, none⟩)),
    IsV (.int .i64 n),
    IsV (.int .i64 (n + 31)),
    IsV (.int .i64 ((n + 31) / 32)),
    IsV (.int .i64 (oneG s n)),
    IsV (.int .i64 (oneG s n))]
    [7, 8, 9, 10, 11, 12, 13, 14, 15, 16, 17, 18, 2] (by kernel_rfl) (Gw.drew _) Gw.trans (by rw [hsz]; kernel_rfl) (by kernel_rfl) ?_ ?_ ?_
  · intro f hf
    simp only [List.mem_cons, List.not_mem_nil, or_false] at hf
    rcases hf with rfl | rfl | rfl | rfl | rfl | rfl | rfl | rfl | rfl | rfl | rfl | rfl | rfl <;> intro v a b h g <;> first | exact IsV.mono h
  · refine ⟨?_, ?_, ?_, ?_, ?_, ?_, ?_, ?_, ?_, ?_, ?_, ?_, ?_, trivial⟩
    · refine owes_v (Go.Op.fieldAddr 35 (Go.Operand.tmp 1) 2) 0 [] (by kernel_rfl) (by kernel_rfl) (by kernel_rfl) rfl fun vals w1 ρ hG hF hρ hcst hfun => ?_
      have e1 : ρ (.tmp 1) = .pointer (some ⟨g, 0, none⟩) := ((hρ 1).trans (slotO [] (by kernel_rfl))).trans sl1
      clear hρ hF hcst hfun sl1 sl3 fin
      exact opv_val (by go_simp <;> rfl) ⟨gw_self _, rfl⟩
    · refine owes_v (Go.Op.load 3 (Go.Operand.tmp 7)) 3 [0] (by kernel_rfl) (by kernel_rfl) (by kernel_rfl) rfl fun vals w1 ρ hG hF hρ hcst hfun => ?_
      have e7 : ρ (.tmp 7) = .pointer (some ⟨g, 2, none⟩) := ((hρ 7).trans (slotJ [0] (by rw [hsz]; decide) (by kernel_rfl))).trans (hF 0 (by decide))
      have k := ((hb.below hG hb.lt).three).2.2
      clear hρ hF hcst hfun sl1 sl3 fin
      exact opv_val (by go_simp <;> rfl) ⟨gw_self _, rfl⟩
    · exact owes_mv 3 (by kernel_rfl) (by kernel_rfl) (by kernel_rfl) sl3 (fun _ => rfl)
    · refine owes_v (Go.Op.binOp Go.BinOp.add 3 (Go.Operand.tmp 8) (Go.Operand.tmp 9) 3) 3 [1, 2] (by kernel_rfl) (by kernel_rfl) (by kernel_rfl) rfl fun vals w1 ρ hG hF hρ hcst hfun => ?_
      have e8 : ρ (.tmp 8) = .int .i64 n := ((hρ 8).trans (slotJ [1, 2] (by rw [hsz]; decide) (by kernel_rfl))).trans (hF 1 (by decide))
      have e9 : ρ (.tmp 9) = .int .i64 p := ((hρ 9).trans (slotJ [1, 2] (by rw [hsz]; decide) (by kernel_rfl))).trans (hF 2 (by decide))
      have kw0 : IntKind.i64.wrap (n + p) = n + p := wrapIn (by omega) (by omega)
      clear hρ hF hcst hfun sl1 sl3 fin
      exact opv_val (by go_simp <;> rfl) ⟨gw_self _, rfl⟩
    · refine owes_v (Go.Op.binOp Go.BinOp.sub 3 (Go.Operand.tmp 10) (Go.Operand.const (Go.Value.int Go.IntKind.i64 1)) 3) 3 [3] (by kernel_rfl) (by kernel_rfl) (by kernel_rfl) rfl fun vals w1 ρ hG hF hρ hcst hfun => ?_
      have e10 : ρ (.tmp 10) = .int .i64 (n + p) := ((hρ 10).trans (slotJ [3] (by rw [hsz]; decide) (by kernel_rfl))).trans (hF 3 (by decide))
      have kw0 : IntKind.i64.wrap (n + p - 1) = n + p - 1 := wrapIn (by omega) (by omega)
      clear hρ hF hfun sl1 sl3 fin
      exact opv_val (by go_simp <;> rfl) ⟨gw_self _, rfl⟩
    · exact owes_mv 3 (by kernel_rfl) (by kernel_rfl) (by kernel_rfl) sl3 (fun _ => rfl)
    · refine owes_v (Go.Op.binOp Go.BinOp.quo 3 (Go.Operand.tmp 11) (Go.Operand.tmp 12) 3) 3 [4, 5] (by kernel_rfl) (by kernel_rfl) (by kernel_rfl) rfl fun vals w1 ρ hG hF hρ hcst hfun => ?_
      have e11 : ρ (.tmp 11) = .int .i64 (n + p - 1) := ((hρ 11).trans (slotJ [4, 5] (by rw [hsz]; decide) (by kernel_rfl))).trans (hF 4 (by decide))
      have e12 : ρ (.tmp 12) = .int .i64 p := ((hρ 12).trans (slotJ [4, 5] (by rw [hsz]; decide) (by kernel_rfl))).trans (hF 5 (by decide))
      have d0 : p ≠ 0 := by omega
      have d1 : (p == 0) = false := by simp; omega
      have d3 := tdivR (n + p - 1) p (by omega)
      have kw3 : IntKind.i64.wrap ((n + p - 1) / p) = (n + p - 1) / p := wrapIn (by omega) (by omega)
      clear hρ hF hcst hfun sl1 sl3 fin
      exact opv_val (by go_simp <;> rfl) ⟨gw_self _, rfl⟩
    · refine owes_v (Go.Op.fieldAddr 35 (Go.Operand.tmp 1) 2) 0 [] (by kernel_rfl) (by kernel_rfl) (by kernel_rfl) rfl fun vals w1 ρ hG hF hρ hcst hfun => ?_
      have e1 : ρ (.tmp 1) = .pointer (some ⟨g, 0, none⟩) := ((hρ 1).trans (slotO [] (by kernel_rfl))).trans sl1
      clear hρ hF hcst hfun sl1 sl3 fin
      exact opv_val (by go_simp <;> rfl) ⟨gw_self _, rfl⟩
    · refine owes_v (Go.Op.load 3 (Go.Operand.tmp 14)) 3 [7] (by kernel_rfl) (by kernel_rfl) (by kernel_rfl) rfl fun vals w1 ρ hG hF hρ hcst hfun => ?_
      have e14 : ρ (.tmp 14) = .pointer (some ⟨g, 2, none⟩) := ((hρ 14).trans (slotJ [7] (by rw [hsz]; decide) (by kernel_rfl))).trans (hF 7 (by decide))
      have k := ((hb.below hG hb.lt).three).2.2
      clear hρ hF hcst hfun sl1 sl3 fin
      exact opv_val (by go_simp <;> rfl) ⟨gw_self _, rfl⟩
    · refine owes_v (Go.Op.binOp Go.BinOp.add 3 (Go.Operand.tmp 15) (Go.Operand.const (Go.Value.int Go.IntKind.i64 31)) 3) 3 [8] (by kernel_rfl) (by kernel_rfl) (by kernel_rfl) rfl fun vals w1 ρ hG hF hρ hcst hfun => ?_
      have e15 : ρ (.tmp 15) = .int .i64 n := ((hρ 15).trans (slotJ [8] (by rw [hsz]; decide) (by kernel_rfl))).trans (hF 8 (by decide))
      have kw0 : IntKind.i64.wrap (n + 31) = n + 31 := wrapIn (by omega) (by omega)
      clear hρ hF hfun sl1 sl3 fin
      exact opv_val (by go_simp <;> rfl) ⟨gw_self _, rfl⟩
    · refine owes_v (Go.Op.binOp Go.BinOp.quo 3 (Go.Operand.tmp 16) (Go.Operand.const (Go.Value.int Go.IntKind.i64 32)) 3) 3 [9] (by kernel_rfl) (by kernel_rfl) (by kernel_rfl) rfl fun vals w1 ρ hG hF hρ hcst hfun => ?_
      have e16 : ρ (.tmp 16) = .int .i64 (n + 31) := ((hρ 16).trans (slotJ [9] (by rw [hsz]; decide) (by kernel_rfl))).trans (hF 9 (by decide))
      have d3 := tdivR (n + 31) 32 (by omega)
      have kw1 : IntKind.i64.wrap ((n + 31) / 32) = (n + 31) / 32 := wrapIn (by omega) (by omega)
      clear hρ hF hfun sl1 sl3 fin
      exact opv_val (by go_simp <;> rfl) ⟨gw_self _, rfl⟩
    · refine owes_v (Go.Op.binOp Go.BinOp.add 3 (Go.Operand.tmp 13) (Go.Operand.tmp 17) 3) 3 [6, 10] (by kernel_rfl) (by kernel_rfl) (by kernel_rfl) rfl fun vals w1 ρ hG hF hρ hcst hfun => ?_
      have e13 : ρ (.tmp 13) = .int .i64 ((n + p - 1) / p) := ((hρ 13).trans (slotJ [6, 10] (by rw [hsz]; decide) (by kernel_rfl))).trans (hF 6 (by decide))
      have e17 : ρ (.tmp 17) = .int .i64 ((n + 31) / 32) := ((hρ 17).trans (slotJ [6, 10] (by rw [hsz]; decide) (by kernel_rfl))).trans (hF 10 (by decide))
      have kw0 : IntKind.i64.wrap ((n + p - 1) / p + (n + 31) / 32) = (n + p - 1) / p + (n + 31) / 32 := wrapIn (by omega) (by omega)
      clear hρ hF hcst hfun sl1 sl3 fin
      exact opv_val (by go_simp <;> rfl) ⟨gw_self _, by show Value.int .i64 _ = Value.int .i64 _; rw [hsum.out]⟩
    · exact owes_mvj 11 18 (by kernel_rfl) (by kernel_rfl) (by kernel_rfl) (by kernel_rfl) (by rw [hsz]; decide) (fun v w h => h)
  · intro vals w1 hG hF
    exact fin vals w1 hG (hF 12 (by decide +kernel))
structure InB (s l n : Int) : Prop where
  s1 : 64 ≤ s
  s2 : s ≤ 1024
  s8 : s % 8 = 0
  l1 : 8 ≤ l
  l2 : l ≤ 1024
  n1 : 64 ≤ n
  n2 : n ≤ 8192
theorem OkG.inb {s l n : Int} (h : OkG s l n) : InB s l n := ⟨h.s1, h.s2, h.s8, h.l1, h.l2, h.n1, h.n2⟩
theorem part_bdR {l : Int} (s n : Int) (h : InB s l n) : 0 ≤ rparts s n ∧ rparts s n ≤ 1100 := by
  rw [rparts_eq s n h.s1 h.s8]
  exact part_bd s n h.s1 h.s2 h.n1 h.n2
theorem rone_c (s l n : Int) (w : World) (h : InB s l n) : Calls Try.prog 37 #[gV s l n] w (RetP (.int .i64 (oneG s n)) w) := by
  have h1 := h.s1
  have h2 := h.s2
  have h8 := h.s8
  have h3 := h.n1
  have h4 := h.n2
  obtain ⟨q1, q2⟩ := part_bdR s n h
  have HS := Lib.hid (oneR s n h.s1 h.s8)
  unfold rparts at HS q1 q2
  have hp : s / 8 = s / 8 := rfl
  obtain ⟨p, hp⟩ : ∃ p, p = s / 8 := ⟨_, rfl⟩
  have d3 : s.tdiv 8 = p := by rw [tdivR s 8 (by omega), hp]
  rw [← hp] at HS q1 q2
  have hp1 : 8 ≤ p := by omega
  have hp2 : p ≤ 128 := by omega
  have HP : Hid (s / 8 = p) := Lib.hid hp.symm
  unfold gV at *
  clear h h8 hp
  go_enter Try.func37, Try.ntmps37
  go_wp2_with fail
  refine rone_r _ _ _ w.heap.size s l n p (Bk.new w _ _) hp1 hp2 h3 h4 HS q1 (by omega) rfl rfl (by first | rfl | (show Value.int .i64 _ = _; rw [HP.out])) ?_
  intro vals w1 hG h5
  unfold IsV at h5
  simp only [putD, Act.put, List.setIfInBounds_toArray, List.set_cons_zero, List.set_cons_succ, h5]
  have hB : Below w.heap.size w w1 := (Gw.alloc w _).trans (hG.mono (by simp))
  clear h5 hG
  go_wp2
  go_ret
  exact ret_i rfl hB
theorem rsec_r (Q : Exit → Act → World → Prop) (a0 : Act) (w : World) (g : Nat) (s l n : Int) (hb : Bk w g 35 #[.int .i64 s, .int .i64 l, .int .i64 n]) (og : InB s l n) (q1 : 0 ≤ oneG s n) (q2 : oneG s n ≤ 1400) (q3 : 8 ≤ l) (q4 : l ≤ 1024) (hsz : a0.tmps.size = 10) (sl1 : a0.tmps.getD 1 undef = .pointer (some ⟨g, 0, none⟩))
    (fin : ∀ (vals : Nat → Value) (w1 : World), Below w.heap.size w w1 → (IsV (.int .i64 (totG s l n))) (vals 7) w1 → Q .normal (putD vals [3, 4, 5, 6, 7, 8, 9, 2] 0 a0) w1) :
    (Code.region 1 (regIn Try.f29 1) true).wp Try.prog Q a0 w := by
  refine region_by (G := fun w w1 => Below w.heap.size w w1) [IsV (.pointer (some ⟨g, 1, none⟩)),
    IsV (.int .i64 l),
    IsV (.int .i64 (2 + l)),
    IsV (gV s l n),
    IsV (.int .i64 (oneG s n)),
    IsV (.int .i64 (2 * oneG s n)),
    IsV (.int .i64 (totG s l n)),
    IsV (.int .i64 (totG s l n))]
    [3, 4, 5, 6, 7, 8, 9, 2] (by kernel_rfl) (Gw.drew _) Gw.trans (by rw [hsz]; kernel_rfl) (by kernel_rfl) ?_ ?_ ?_
  · intro f hf
    simp only [List.mem_cons, List.not_mem_nil, or_false] at hf
    rcases hf with rfl | rfl | rfl | rfl | rfl | rfl | rfl | rfl <;> intro v a b h g <;> first | exact IsV.mono h
  · refine ⟨?_, ?_, ?_, ?_, ?_, ?_, ?_, ?_, trivial⟩
    · refine owes_v (Go.Op.fieldAddr 35 (Go.Operand.tmp 1) 1) 0 [] (by kernel_rfl) (by kernel_rfl) (by kernel_rfl) rfl fun vals w1 ρ hG hF hρ hcst hfun => ?_
      have e1 : ρ (.tmp 1) = .pointer (some ⟨g, 0, none⟩) := ((hρ 1).trans (slotO [] (by kernel_rfl))).trans sl1
      clear hρ hF hcst hfun sl1 fin
      exact opv_val (by go_simp <;> rfl) ⟨gw_self _, rfl⟩
    · refine owes_v (Go.Op.load 3 (Go.Operand.tmp 3)) 3 [0] (by kernel_rfl) (by kernel_rfl) (by kernel_rfl) rfl fun vals w1 ρ hG hF hρ hcst hfun => ?_
      have e3 : ρ (.tmp 3) = .pointer (some ⟨g, 1, none⟩) := ((hρ 3).trans (slotJ [0] (by rw [hsz]; decide) (by kernel_rfl))).trans (hF 0 (by decide))
      have k := ((hb.below hG hb.lt).three).2.1
      clear hρ hF hcst hfun sl1 fin
      exact opv_val (by go_simp <;> rfl) ⟨gw_self _, rfl⟩
    · refine owes_v (Go.Op.binOp Go.BinOp.add 3 (Go.Operand.const (Go.Value.int Go.IntKind.i64 2)) (Go.Operand.tmp 4) 3) 3 [1] (by kernel_rfl) (by kernel_rfl) (by kernel_rfl) rfl fun vals w1 ρ hG hF hρ hcst hfun => ?_
      have e4 : ρ (.tmp 4) = .int .i64 l := ((hρ 4).trans (slotJ [1] (by rw [hsz]; decide) (by kernel_rfl))).trans (hF 1 (by decide))
      have kw0 : IntKind.i64.wrap (2 + l) = 2 + l := wrapIn (by omega) (by omega)
      clear hρ hF hfun sl1 fin
      exact opv_val (by go_simp <;> rfl) ⟨gw_self _, rfl⟩
    · refine owes_v (Go.Op.load 35 (Go.Operand.tmp 1)) 35 [] (by kernel_rfl) (by kernel_rfl) (by kernel_rfl) rfl fun vals w1 ρ hG hF hρ hcst hfun => ?_
      have e1 : ρ (.tmp 1) = .pointer (some ⟨g, 0, none⟩) := ((hρ 1).trans (slotO [] (by kernel_rfl))).trans sl1
      obtain ⟨k1, k2, k3⟩ := (hb.below hG hb.lt).three
      clear hρ hF hcst hfun sl1 fin
      exact opv_val (by go_simp <;> rfl) ⟨gw_self _, rfl⟩
    · refine owes_v (Go.Op.call { callee := Go.Callee.value (Go.Operand.func 37), args := #[Go.Operand.tmp 6], argTypes := #[35] }) 3 [3] (by kernel_rfl) (by kernel_rfl) (by kernel_rfl) rfl fun vals w1 ρ hG hF hρ hcst hfun => ?_
      have e6 : ρ (.tmp 6) = gV s l n := ((hρ 6).trans (slotJ [3] (by rw [hsz]; decide) (by kernel_rfl))).trans (hF 3 (by decide))
      clear hρ hF hcst sl1 fin
      exact opv_enter (by go_simp <;> rfl) (of_ret (rone_c s l n w1 og))
    · refine owes_v (Go.Op.binOp Go.BinOp.mul 3 (Go.Operand.const (Go.Value.int Go.IntKind.i64 2)) (Go.Operand.tmp 7) 3) 3 [4] (by kernel_rfl) (by kernel_rfl) (by kernel_rfl) rfl fun vals w1 ρ hG hF hρ hcst hfun => ?_
      have e7 : ρ (.tmp 7) = .int .i64 (oneG s n) := ((hρ 7).trans (slotJ [4] (by rw [hsz]; decide) (by kernel_rfl))).trans (hF 4 (by decide))
      have kw0 : IntKind.i64.wrap (2 * oneG s n) = 2 * oneG s n := wrapIn (by omega) (by omega)
      clear hρ hF hfun sl1 fin
      exact opv_val (by go_simp <;> rfl) ⟨gw_self _, rfl⟩
    · refine owes_v (Go.Op.binOp Go.BinOp.add 3 (Go.Operand.tmp 5) (Go.Operand.tmp 8) 3) 3 [2, 5] (by kernel_rfl) (by kernel_rfl) (by kernel_rfl) rfl fun vals w1 ρ hG hF hρ hcst hfun => ?_
      have e5 : ρ (.tmp 5) = .int .i64 (2 + l) := ((hρ 5).trans (slotJ [2, 5] (by rw [hsz]; decide) (by kernel_rfl))).trans (hF 2 (by decide))
      have e8 : ρ (.tmp 8) = .int .i64 (2 * oneG s n) := ((hρ 8).trans (slotJ [2, 5] (by rw [hsz]; decide) (by kernel_rfl))).trans (hF 5 (by decide))
      have kw0 : IntKind.i64.wrap (2 + l + 2 * oneG s n) = 2 + l + 2 * oneG s n := wrapIn (by omega) (by omega)
      clear hρ hF hcst hfun sl1 fin
      exact opv_val (by go_simp <;> rfl) ⟨gw_self _, rfl⟩
    · exact owes_mvj 6 9 (by kernel_rfl) (by kernel_rfl) (by kernel_rfl) (by kernel_rfl) (by rw [hsz]; decide) (fun v w h => h)
  · intro vals w1 hG hF
    exact fin vals w1 hG (hF 7 (by decide +kernel))
theorem rsec_c (s l n : Int) (w : World) (h : InB s l n) : Calls Try.prog 29 #[gV s l n] w (RetP (.int .i64 (totG s l n)) w) := by
  have q3 := h.l1
  have q4 := h.l2
  obtain ⟨q1, q2⟩ := oneG_bd s n h.s1 h.s2 h.n1 h.n2
  have HO := Lib.hid h
  unfold gV at *
  clear h
  go_enter Try.func29, Try.ntmps29
  go_wp2_with fail
  refine rsec_r _ _ _ w.heap.size s l n (Bk.new w _ _) HO.out q1 q2 q3 q4 rfl rfl ?_
  intro vals w1 hG h5
  unfold IsV at h5
  simp only [putD, Act.put, List.setIfInBounds_toArray, List.set_cons_zero, List.set_cons_succ, h5]
  have hB : Below w.heap.size w w1 := (Gw.alloc w _).trans (hG.mono (by simp))
  clear h5 hG
  go_wp2
  go_ret
  exact ret_i rfl hB
end Go.Proofs.Ytjdifejnnkplaaa
