/- What Word, Check, Owner of loamref4 and the helpers of loamlaw4 answer. Conditions: as named. -/
import Derived.Test.YtgdgajieekkmdaaGeomR
namespace Go.Proofs.Ytgdgajieekkmdaa
set_option linter.unusedVariables false
set_option linter.unusedSimpArgs false
open Go.RowKit
theorem wordP (s k : Int) (h : 64 ≤ s) (h8 : s % 8 = 0) : k / (s / 8) = k * 8 / s ∧ 8 * (k % (s / 8)) = k * 8 % s := by
  obtain ⟨p, rfl⟩ : ∃ p, s = 8 * p := ⟨s / 8, by omega⟩
  rw [show 8 * p / 8 = p from by omega, show k * 8 = 8 * k from by omega, Int.mul_ediv_mul_of_pos k p (by omega), Int.mul_emod_mul_of_pos k p (by omega)]
  exact ⟨rfl, rfl⟩
theorem fldR (x y : Int) (w : World) : (Instr.field 52 (.agg #[.int .i64 x, .int .i64 y]) 0).run Try.prog w = .ok (.int .i64 x) w := by kernel_rfl
theorem rspace_p (s l n i a b : Int) (w : World) (h : OkG s l n) (hs : spcG s l n i = (a, b)) : Calls Try.prog 36 #[gV s l n, .int .i64 i] w (RetP (.agg #[.int .i64 a, .int .i64 b]) w) := by
  have h := rspace_c s l n i w h
  rw [hs] at h
  exact h
set_option maxHeartbeats 400000
theorem rword_r (Q : Exit → Act → World → Prop) (a0 : Act) (w : World) (g : Nat) (s l n i k a b p x y : Int) (hb : Bk w g 37 #[.int .i64 s, .int .i64 l, .int .i64 n]) (og : OkG s l n) (hs : Hid (spcG s l n i = (a, b))) (h1 : 8 ≤ p) (h2 : p ≤ 128) (h3 : 0 ≤ k) (h4 : k ≤ 8192) (h5 : 0 ≤ a) (h6 : a ≤ 100000) (hx : Hid (k / p = x)) (hy : Hid (8 * (k % p) = y)) (x1 : 0 ≤ x) (x2 : x ≤ 2000) (y1 : 0 ≤ k % p) (y2 : k % p ≤ 2000) (hsz : a0.tmps.size = 40) (sl1 : a0.tmps.getD 1 undef = .int .i64 i) (sl2 : a0.tmps.getD 2 undef = .int .i64 k) (sl3 : a0.tmps.getD 3 undef = .pointer (some ⟨g, 0, none⟩)) (sl8 : a0.tmps.getD 8 undef = .int .i64 p)
    (fin : ∀ (vals : Nat → Value) (w1 : World), Below w.heap.size w w1 → (IsV (.int .i64 (a + x))) (vals 12) w1 → (IsV (.int .i64 y)) (vals 13) w1 → Q .normal (putD vals [28, 29, 30, 31, 32, 33, 34, 35, 36, 37, 38, 39, 6, 7] 0 a0) w1) :
    (Code.region 4 (regIn Try.f28 4) true).wp Try.prog Q a0 w := by
  refine region_by (G := fun w w1 => Below w.heap.size w w1) [IsV (gV s l n),
    IsV (.int .i64 i),
    IsV (.agg #[.int .i64 a, .int .i64 b]),
    IsV (.int .i64 a),
    IsV (.int .i64 k),
    IsV (.int .i64 p),
    IsV (.int .i64 x),
    IsV (.int .i64 (a + x)),
    IsV (.int .i64 k),
    IsV (.int .i64 p),
    IsV (.int .i64 (k % p)),
    IsV (.int .i64 y),
    IsV (.int .i64 (a + x)),
    IsV (.int .i64 y)]
    [28, 29, 30, 31, 32, 33, 34, 35, 36, 37, 38, 39, 6, 7] (by kernel_rfl) (Gw.drew _) Gw.trans (by rw [hsz]; kernel_rfl) (by kernel_rfl) ?_ ?_ ?_
  · intro f hf
    simp only [List.mem_cons, List.not_mem_nil, or_false] at hf
    rcases hf with rfl | rfl | rfl | rfl | rfl | rfl | rfl | rfl | rfl | rfl | rfl | rfl | rfl | rfl <;> intro v a b h g <;> first | exact IsV.mono h
  · refine ⟨?_, ?_, ?_, ?_, ?_, ?_, ?_, ?_, ?_, ?_, ?_, ?_, ?_, ?_, trivial⟩
    · refine owes_v (Go.Op.load 37 (Go.Operand.tmp 3)) 37 [] (by kernel_rfl) (by kernel_rfl) (by kernel_rfl) rfl fun vals w1 ρ hG hF hρ hcst hfun => ?_
      have e3 : ρ (.tmp 3) = .pointer (some ⟨g, 0, none⟩) := ((hρ 3).trans (slotO [] (by kernel_rfl))).trans sl3
      obtain ⟨k1, k2, k3⟩ := (hb.below hG hb.lt).three
      clear hρ hF hcst hfun sl1 sl2 sl3 sl8 fin
      exact opv_val (by go_simp <;> rfl) ⟨gw_self _, rfl⟩
    · exact owes_mv 1 (by kernel_rfl) (by kernel_rfl) (by kernel_rfl) sl1 (fun _ => rfl)
    · refine owes_v (Go.Op.call { callee := Go.Callee.value (Go.Operand.func 36), args := #[Go.Operand.tmp 28, Go.Operand.tmp 29], argTypes := #[37, 3] }) 52 [0, 1] (by kernel_rfl) (by kernel_rfl) (by kernel_rfl) rfl fun vals w1 ρ hG hF hρ hcst hfun => ?_
      have e28 : ρ (.tmp 28) = gV s l n := ((hρ 28).trans (slotJ [0, 1] (by rw [hsz]; decide) (by kernel_rfl))).trans (hF 0 (by decide))
      have e29 : ρ (.tmp 29) = .int .i64 i := ((hρ 29).trans (slotJ [0, 1] (by rw [hsz]; decide) (by kernel_rfl))).trans (hF 1 (by decide))
      clear hρ hF hcst sl1 sl2 sl3 sl8 fin
      exact opv_enter (by go_simp <;> rfl) (of_ret (rspace_p s l n i a b w1 og hs.out))
    · refine owes_v (Go.Op.field 52 (Go.Operand.tmp 30) 0) 3 [2] (by kernel_rfl) (by kernel_rfl) (by kernel_rfl) rfl fun vals w1 ρ hG hF hρ hcst hfun => ?_
      have e30 : ρ (.tmp 30) = .agg #[.int .i64 a, .int .i64 b] := ((hρ 30).trans (slotJ [2] (by rw [hsz]; decide) (by kernel_rfl))).trans (hF 2 (by decide))
      have z := fldR a b
      clear hρ hF hcst hfun sl1 sl2 sl3 sl8 fin
      exact opv_val (by go_simp <;> rfl) ⟨gw_self _, rfl⟩
    · exact owes_mv 2 (by kernel_rfl) (by kernel_rfl) (by kernel_rfl) sl2 (fun _ => rfl)
    · exact owes_mv 8 (by kernel_rfl) (by kernel_rfl) (by kernel_rfl) sl8 (fun _ => rfl)
    · refine owes_v (Go.Op.binOp Go.BinOp.quo 3 (Go.Operand.tmp 32) (Go.Operand.tmp 33) 3) 3 [4, 5] (by kernel_rfl) (by kernel_rfl) (by kernel_rfl) rfl fun vals w1 ρ hG hF hρ hcst hfun => ?_
      have e32 : ρ (.tmp 32) = .int .i64 k := ((hρ 32).trans (slotJ [4, 5] (by rw [hsz]; decide) (by kernel_rfl))).trans (hF 4 (by decide))
      have e33 : ρ (.tmp 33) = .int .i64 p := ((hρ 33).trans (slotJ [4, 5] (by rw [hsz]; decide) (by kernel_rfl))).trans (hF 5 (by decide))
      have d0 : p ≠ 0 := by omega
      have d1 : (p == 0) = false := by simp; omega
      have d3 : IntKind.i64.wrap (k.tdiv p) = x := by rw [tdivR k p (by omega), hx.out]; exact wrapIn (by omega) (by omega)
      clear hρ hF hcst hfun sl1 sl2 sl3 sl8 fin
      exact opv_val (by go_simp <;> rfl) ⟨gw_self _, rfl⟩
    · refine owes_v (Go.Op.binOp Go.BinOp.add 3 (Go.Operand.tmp 31) (Go.Operand.tmp 34) 3) 3 [3, 6] (by kernel_rfl) (by kernel_rfl) (by kernel_rfl) rfl fun vals w1 ρ hG hF hρ hcst hfun => ?_
      have e31 : ρ (.tmp 31) = .int .i64 a := ((hρ 31).trans (slotJ [3, 6] (by rw [hsz]; decide) (by kernel_rfl))).trans (hF 3 (by decide))
      have e34 : ρ (.tmp 34) = .int .i64 x := ((hρ 34).trans (slotJ [3, 6] (by rw [hsz]; decide) (by kernel_rfl))).trans (hF 6 (by decide))
      have kw0 : IntKind.i64.wrap (a + x) = a + x := wrapIn (by omega) (by omega)
      clear hρ hF hcst hfun sl1 sl2 sl3 sl8 fin
      exact opv_val (by go_simp <;> rfl) ⟨gw_self _, rfl⟩
    · exact owes_mv 2 (by kernel_rfl) (by kernel_rfl) (by kernel_rfl) sl2 (fun _ => rfl)
    · exact owes_mv 8 (by kernel_rfl) (by kernel_rfl) (by kernel_rfl) sl8 (fun _ => rfl)
    · refine owes_v (Go.Op.binOp Go.BinOp.rem 3 (Go.Operand.tmp 36) (Go.Operand.tmp 37) 3) 3 [8, 9] (by kernel_rfl) (by kernel_rfl) (by kernel_rfl) rfl fun vals w1 ρ hG hF hρ hcst hfun => ?_
      have e36 : ρ (.tmp 36) = .int .i64 k := ((hρ 36).trans (slotJ [8, 9] (by rw [hsz]; decide) (by kernel_rfl))).trans (hF 8 (by decide))
      have e37 : ρ (.tmp 37) = .int .i64 p := ((hρ 37).trans (slotJ [8, 9] (by rw [hsz]; decide) (by kernel_rfl))).trans (hF 9 (by decide))
      have d0 : p ≠ 0 := by omega
      have d1 : (p == 0) = false := by simp; omega
      have d3 : k.tmod p = k % p := Int.tmod_eq_emod_of_nonneg h3
      clear hρ hF hcst hfun sl1 sl2 sl3 sl8 fin
      exact opv_val (by go_simp <;> rfl) ⟨gw_self _, rfl⟩
    · refine owes_v (Go.Op.binOp Go.BinOp.mul 3 (Go.Operand.const (Go.Value.int Go.IntKind.i64 8)) (Go.Operand.tmp 38) 3) 3 [10] (by kernel_rfl) (by kernel_rfl) (by kernel_rfl) rfl fun vals w1 ρ hG hF hρ hcst hfun => ?_
      have e38 : ρ (.tmp 38) = .int .i64 (k % p) := ((hρ 38).trans (slotJ [10] (by rw [hsz]; decide) (by kernel_rfl))).trans (hF 10 (by decide))
      have d3 : IntKind.i64.wrap (8 * (k % p)) = y := by rw [hy.out]; have := hy.out; exact wrapIn (by omega) (by omega)
      clear hρ hF hfun sl1 sl2 sl3 sl8 fin
      exact opv_val (by go_simp <;> rfl) ⟨gw_self _, rfl⟩
    · exact owes_mvj 7 35 (by kernel_rfl) (by kernel_rfl) (by kernel_rfl) (by kernel_rfl) (by rw [hsz]; decide) (fun v w h => h)
    · exact owes_mvj 11 39 (by kernel_rfl) (by kernel_rfl) (by kernel_rfl) (by kernel_rfl) (by rw [hsz]; decide) (fun v w h => h)
  · intro vals w1 hG hF
    exact fin vals w1 hG (hF 12 (by decide +kernel)) (hF 13 (by decide +kernel))
theorem rword_c (s l n i k : Int) (w : World) (h : OkG s l n) : Calls Try.prog 28 #[gV s l n, .int .i64 i, .int .i64 k] w (RetP (.tuple #[.int .i64 (wordG s l n i k).1, .int .i64 (wordG s l n i k).2]) w) := by
  have q1 := h.s1
  have q2 := h.s2
  have q3 := h.n1
  have q4 := h.n2
  have HO := Lib.hid h
  by_cases hc : (i = 0 ∨ i = 1) ∧ 0 ≤ k ∧ k < n
  · obtain ⟨hi, hk1, hk2⟩ := hc
    have e : wordG s l n i k = ((spcG s l n i).1 + k * 8 / s, k * 8 % s) := if_pos ⟨hi, hk1, hk2⟩
    have hbd : 0 ≤ (spcG s l n i).1 ∧ (spcG s l n i).1 ≤ 3000 := by
      have q5 := h.l1
      have q6 := h.l2
      have q7 := oneG_bd s n h.s1 h.s2 h.n1 h.n2
      unfold spcG
      rcases hi with rfl | rfl <;> simp <;> omega
    obtain ⟨w1, w2⟩ := wordP s k q1 h.s8
    obtain ⟨p, hp⟩ : ∃ p, p = s / 8 := ⟨_, rfl⟩
    obtain ⟨a, ha⟩ : ∃ a, a = (spcG s l n i).1 := ⟨_, rfl⟩
    obtain ⟨b, hb⟩ : ∃ b, b = (spcG s l n i).2 := ⟨_, rfl⟩
    obtain ⟨x, hx⟩ : ∃ x, x = k * 8 / s := ⟨_, rfl⟩
    obtain ⟨y, hy⟩ : ∃ y, y = k * 8 % s := ⟨_, rfl⟩
    have hp1 : 8 ≤ p := by omega
    have hp2 : p ≤ 128 := by omega
    have x1 : 0 ≤ x := by rw [hx]; exact Int.ediv_nonneg (by omega) (by omega)
    have x2 : x ≤ 2000 := by
      have : k * 8 / s < 1100 := Int.ediv_lt_of_lt_mul (by omega) (by omega)
      omega
    have HE : Hid ((wordG s l n i k) = (a + x, y)) := Lib.hid (by rw [e, ha, hx, hy])
    have HS : Hid (spcG s l n i = (a, b)) := Lib.hid (by rw [ha, hb])
    rw [← hp, ← hx] at w1
    rw [← hp, ← hy] at w2
    have HX := Lib.hid w1
    have HY := Lib.hid w2
    have HP : Hid (s / 8 = p) := Lib.hid hp.symm
    have d3 : s.tdiv 8 = p := by rw [tdivR s 8 (by omega), hp]
    have y1 : 0 ≤ k % p := Int.emod_nonneg _ (by omega)
    have y2 : k % p ≤ 2000 := by have := Int.emod_lt_of_pos k (show 0 < p by omega); omega
    rw [← ha] at hbd
    obtain ⟨b1, b2⟩ := hbd
    rw [HE.out]
    have t1 : decide (k < 0) = false := by simp; omega
    have t2 : decide (n ≤ k) = false := by simp; omega
    unfold gV at *
    clear h e w1 w2 hp ha hb hx hy HE
    rcases hi with rfl | rfl
    all_goals
      go_enter Try.func28, Try.ntmps28
      go_wp2_with fail
      refine rword_r _ _ _ w.heap.size s l n _ k a b p x y (Bk.new w _ _) HO.out HS hp1 hp2 hk1 (by omega) b1 (by omega) HX HY x1 x2 y1 y2 rfl rfl rfl rfl (by first | rfl | (show Value.int .i64 _ = _; rw [HP.out])) ?_
      intro vals w1 hG h6 h7
      unfold IsV at h6 h7
      simp only [putD, Act.put, List.setIfInBounds_toArray, List.set_cons_zero, List.set_cons_succ, h6, h7]
      have hB : Below w.heap.size w w1 := (Gw.alloc w _).trans (hG.mono (by simp))
      clear h6 h7 hG
      go_wp2
      go_ret2
      exact ⟨rfl, hB⟩
  · have e : wordG s l n i k = (0, 0) := if_neg hc
    rw [e]
    have hq : (i ≠ 0 ∧ i ≠ 1) ∨ ((i = 0 ∨ i = 1) ∧ (k < 0 ∨ n ≤ k)) := by omega
    unfold gV at *
    clear e hc h
    rcases hq with ⟨i1, i2⟩ | ⟨hi, hk⟩
    · have t1 : (i != 0) = true := by simp; omega
      have t2 : (i != 1) = true := by simp; omega
      go_enter Try.func28, Try.ntmps28
      go_wp2
      go_ret2
      exact ⟨rfl, Gw.alloc _ _⟩
    · rcases hi with rfl | rfl
      all_goals
        go_enter Try.func28, Try.ntmps28
        go_wp2
        all_goals first
          | (exfalso; omega)
          | (go_ret2; exact ⟨rfl, Gw.alloc _ _⟩)
theorem of_c (s l n : Int) (w : World) : Calls Try.prog 24 #[gV s l n] w (RetP (gV s l n) w) := by
  unfold gV
  go_enter Try.func24, Try.ntmps24
  go_wp2
  exact bodyPost_ret (v := .agg #[.int .i64 s, .int .i64 l, .int .i64 n]) (by simp [results, Try.results24, go_sem]) rfl ⟨rfl, (by repeat (first | with_reducible assumption | with_reducible exact Below.refl _ _ | with_reducible apply bdN | with_reducible apply Below.drew | with_reducible refine Below.alloc ?_ (by simp) _ | with_reducible refine Below.setCell ?_ (by simp) _))⟩
theorem same_c (p : Int × Int) (w : World) : Calls Try.prog 32 #[plV p, plV p] w (RetP (.bool true) w) := by
  obtain ⟨a, b⟩ := p
  unfold plV
  go_enter Try.func32, Try.ntmps32
  go_wp2
  go_ret
  exact ret_b rfl (by repeat (first | with_reducible assumption | with_reducible exact Below.refl _ _ | with_reducible apply bdN | with_reducible apply Below.drew | with_reducible refine Below.alloc ?_ (by simp) _ | with_reducible refine Below.setCell ?_ (by simp) _))
end Go.Proofs.Ytgdgajieekkmdaa
