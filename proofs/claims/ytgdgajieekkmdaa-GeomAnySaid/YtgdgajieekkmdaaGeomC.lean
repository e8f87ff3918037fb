/- What geom.Word answers of a geometry that may be. Conditions: it may be. -/
import Derived.Test.YtgdgajieekkmdaaGeomB
namespace Go.Proofs.Ytgdgajieekkmdaa
set_option linter.unusedVariables false
set_option linter.unusedSimpArgs false
open Go.RowKit
def wordG (s l n i k : Int) : Int × Int := if (i = 0 ∨ i = 1) ∧ 0 ≤ k ∧ k < n then ((spcG s l n i).1 + k * 8 / s, k * 8 % s) else (0, 0)
theorem tdiv_in (a b : Int) (h : 0 ≤ a) : a.tdiv b = a / b := Int.tdiv_eq_ediv_of_nonneg h
theorem tmod_in (a b : Int) (h : 0 ≤ a) : a.tmod b = a % b := Int.tmod_eq_emod_of_nonneg h
theorem quo_in (a b : Int) (h : 0 ≤ a) (h2 : a ≤ 1000000) (h3 : 64 ≤ b) : IntKind.i64.wrap (a / b) = a / b := by
  have q1 := Int.ediv_nonneg (a := a) (b := b) h (by omega)
  have q2 : a / b < 1000001 := Int.ediv_lt_of_lt_mul (by omega) (by omega)
  exact wrapIn (by omega) (by omega)
theorem rem_in (a b : Int) (h : 0 ≤ a) (h2 : a ≤ 1000000) (h3 : 64 ≤ b) : IntKind.i64.wrap (a % b) = a % b := by
  have q1 := Int.emod_nonneg a (b := b) (by omega)
  have q2 := Int.emod_lt_of_pos a (b := b) (by omega)
  have q4 := Int.mul_ediv_add_emod a b
  have q5 := Int.mul_nonneg (show 0 ≤ b by omega) (Int.ediv_nonneg (a := a) (b := b) h (by omega))
  exact wrapIn (by omega) (by omega)
set_option maxHeartbeats 400000
theorem word_r (Q : Exit → Act → World → Prop) (a0 : Act) (w : World) (g h : Nat) (s l n a b k : Int) (hb : Bk w g 36 #[.int .i64 s, .int .i64 l, .int .i64 n]) (hp : Bk w h 46 #[.int .i64 a, .int .i64 b]) (h1 : 64 ≤ s) (h2 : s ≤ 1024) (h3 : 0 ≤ k) (h4 : k ≤ 8192) (h5 : 0 ≤ a) (h6 : a ≤ 100000) (hsz : a0.tmps.size = 39) (sl3 : a0.tmps.getD 3 undef = .pointer (some ⟨g, 0, none⟩)) (sl8 : a0.tmps.getD 8 undef = .pointer (some ⟨h, 0, none⟩)) (sl9 : a0.tmps.getD 9 undef = .int .i64 (k * 8))
    (fin : ∀ (vals : Nat → Value) (w1 : World), Below w.heap.size w w1 → (IsV (.int .i64 (a + k * 8 / s))) (vals 11) w1 → (IsV (.int .i64 (k * 8 % s))) (vals 12) w1 → Q .normal (putD vals [28, 29, 30, 31, 32, 33, 34, 35, 36, 37, 38, 6, 7] 0 a0) w1) :
    (Code.region 5 (regIn Try.f27 5) true).wp Try.prog Q a0 w := by
  refine region_by (G := fun w w1 => Below w.heap.size w w1) [IsV (.pointer (some ⟨h, 0, none⟩)),
    IsV (.int .i64 a),
    IsV (.int .i64 (k * 8)),
    IsV (.pointer (some ⟨g, 0, none⟩)),
    IsV (.int .i64 s),
    IsV (.int .i64 (k * 8 / s)),
    IsV (.int .i64 (a + k * 8 / s)),
    IsV (.int .i64 (k * 8)),
    IsV (.pointer (some ⟨g, 0, none⟩)),
    IsV (.int .i64 s),
    IsV (.int .i64 (k * 8 % s)),
    IsV (.int .i64 (a + k * 8 / s)),
    IsV (.int .i64 (k * 8 % s))]
    [28, 29, 30, 31, 32, 33, 34, 35, 36, 37, 38, 6, 7] (by kernel_rfl) (Gw.drew _) Gw.trans (by rw [hsz]; kernel_rfl) (by kernel_rfl) ?_ ?_ ?_
  · intro f hf
    simp only [List.mem_cons, List.not_mem_nil, or_false] at hf
    rcases hf with rfl | rfl | rfl | rfl | rfl | rfl | rfl | rfl | rfl | rfl | rfl | rfl | rfl <;> intro v a b h g <;> first | exact IsV.mono h
  · refine ⟨?_, ?_, ?_, ?_, ?_, ?_, ?_, ?_, ?_, ?_, ?_, ?_, ?_, trivial⟩
    · refine owes_v (Go.Op.fieldAddr 46 (Go.Operand.tmp 8) 0) 0 [] (by kernel_rfl) (by kernel_rfl) (by kernel_rfl) rfl fun vals w1 ρ hG hF hρ hcst hfun => ?_
      have e8 : ρ (.tmp 8) = .pointer (some ⟨h, 0, none⟩) := ((hρ 8).trans (slotO [] (by kernel_rfl))).trans sl8
      clear hρ hF hcst hfun sl3 sl8 sl9 fin
      exact opv_val (by go_simp <;> rfl) ⟨gw_self _, rfl⟩
    · refine owes_v (Go.Op.load 3 (Go.Operand.tmp 28)) 3 [0] (by kernel_rfl) (by kernel_rfl) (by kernel_rfl) rfl fun vals w1 ρ hG hF hρ hcst hfun => ?_
      have e28 : ρ (.tmp 28) = .pointer (some ⟨h, 0, none⟩) := ((hρ 28).trans (slotJ [0] (by rw [hsz]; decide) (by kernel_rfl))).trans (hF 0 (by decide))
      obtain ⟨k1, k2⟩ := (hp.below hG hp.lt).two
      clear hρ hF hcst hfun sl3 sl8 sl9 fin
      exact opv_val (by go_simp <;> rfl) ⟨gw_self _, rfl⟩
    · exact owes_mv 9 (by kernel_rfl) (by kernel_rfl) (by kernel_rfl) sl9 (fun _ => rfl)
    · refine owes_v (Go.Op.fieldAddr 36 (Go.Operand.tmp 3) 0) 0 [] (by kernel_rfl) (by kernel_rfl) (by kernel_rfl) rfl fun vals w1 ρ hG hF hρ hcst hfun => ?_
      have e3 : ρ (.tmp 3) = .pointer (some ⟨g, 0, none⟩) := ((hρ 3).trans (slotO [] (by kernel_rfl))).trans sl3
      clear hρ hF hcst hfun sl3 sl8 sl9 fin
      exact opv_val (by go_simp <;> rfl) ⟨gw_self _, rfl⟩
    · refine owes_v (Go.Op.load 3 (Go.Operand.tmp 31)) 3 [3] (by kernel_rfl) (by kernel_rfl) (by kernel_rfl) rfl fun vals w1 ρ hG hF hρ hcst hfun => ?_
      have e31 : ρ (.tmp 31) = .pointer (some ⟨g, 0, none⟩) := ((hρ 31).trans (slotJ [3] (by rw [hsz]; decide) (by kernel_rfl))).trans (hF 3 (by decide))
      obtain ⟨k1, k2, k3⟩ := (hb.below hG hb.lt).three
      clear hρ hF hcst hfun sl3 sl8 sl9 fin
      exact opv_val (by go_simp <;> rfl) ⟨gw_self _, rfl⟩
    · refine owes_v (Go.Op.binOp Go.BinOp.quo 3 (Go.Operand.tmp 30) (Go.Operand.tmp 32) 3) 3 [2, 4] (by kernel_rfl) (by kernel_rfl) (by kernel_rfl) rfl fun vals w1 ρ hG hF hρ hcst hfun => ?_
      have e30 : ρ (.tmp 30) = .int .i64 (k * 8) := ((hρ 30).trans (slotJ [2, 4] (by rw [hsz]; decide) (by kernel_rfl))).trans (hF 2 (by decide))
      have e32 : ρ (.tmp 32) = .int .i64 s := ((hρ 32).trans (slotJ [2, 4] (by rw [hsz]; decide) (by kernel_rfl))).trans (hF 4 (by decide))
      have d0 : s ≠ 0 := by omega
      have d1 : (s == 0) = false := by simp; omega
      have d2 := quo_in (k * 8) s (by omega) (by omega) h1
      have d3 := tdiv_in (k * 8) s (by omega)
      clear hρ hF hcst hfun sl3 sl8 sl9 fin
      exact opv_val (by go_simp <;> rfl) ⟨gw_self _, rfl⟩
    · refine owes_v (Go.Op.binOp Go.BinOp.add 3 (Go.Operand.tmp 29) (Go.Operand.tmp 33) 3) 3 [1, 5] (by kernel_rfl) (by kernel_rfl) (by kernel_rfl) rfl fun vals w1 ρ hG hF hρ hcst hfun => ?_
      have e29 : ρ (.tmp 29) = .int .i64 a := ((hρ 29).trans (slotJ [1, 5] (by rw [hsz]; decide) (by kernel_rfl))).trans (hF 1 (by decide))
      have e33 : ρ (.tmp 33) = .int .i64 (k * 8 / s) := ((hρ 33).trans (slotJ [1, 5] (by rw [hsz]; decide) (by kernel_rfl))).trans (hF 5 (by decide))
      have q1 := Int.ediv_nonneg (a := k * 8) (b := s) (by omega) (by omega)
      have q2 : k * 8 / s < 1100 := Int.ediv_lt_of_lt_mul (by omega) (by omega)
      have kw2 : IntKind.i64.wrap (a + k * 8 / s) = a + k * 8 / s := wrapIn (by omega) (by omega)
      clear hρ hF hcst hfun sl3 sl8 sl9 fin
      exact opv_val (by go_simp <;> rfl) ⟨gw_self _, rfl⟩
    · exact owes_mv 9 (by kernel_rfl) (by kernel_rfl) (by kernel_rfl) sl9 (fun _ => rfl)
    · refine owes_v (Go.Op.fieldAddr 36 (Go.Operand.tmp 3) 0) 0 [] (by kernel_rfl) (by kernel_rfl) (by kernel_rfl) rfl fun vals w1 ρ hG hF hρ hcst hfun => ?_
      have e3 : ρ (.tmp 3) = .pointer (some ⟨g, 0, none⟩) := ((hρ 3).trans (slotO [] (by kernel_rfl))).trans sl3
      clear hρ hF hcst hfun sl3 sl8 sl9 fin
      exact opv_val (by go_simp <;> rfl) ⟨gw_self _, rfl⟩
    · refine owes_v (Go.Op.load 3 (Go.Operand.tmp 36)) 3 [8] (by kernel_rfl) (by kernel_rfl) (by kernel_rfl) rfl fun vals w1 ρ hG hF hρ hcst hfun => ?_
      have e36 : ρ (.tmp 36) = .pointer (some ⟨g, 0, none⟩) := ((hρ 36).trans (slotJ [8] (by rw [hsz]; decide) (by kernel_rfl))).trans (hF 8 (by decide))
      obtain ⟨k1, k2, k3⟩ := (hb.below hG hb.lt).three
      clear hρ hF hcst hfun sl3 sl8 sl9 fin
      exact opv_val (by go_simp <;> rfl) ⟨gw_self _, rfl⟩
    · refine owes_v (Go.Op.binOp Go.BinOp.rem 3 (Go.Operand.tmp 35) (Go.Operand.tmp 37) 3) 3 [7, 9] (by kernel_rfl) (by kernel_rfl) (by kernel_rfl) rfl fun vals w1 ρ hG hF hρ hcst hfun => ?_
      have e35 : ρ (.tmp 35) = .int .i64 (k * 8) := ((hρ 35).trans (slotJ [7, 9] (by rw [hsz]; decide) (by kernel_rfl))).trans (hF 7 (by decide))
      have e37 : ρ (.tmp 37) = .int .i64 s := ((hρ 37).trans (slotJ [7, 9] (by rw [hsz]; decide) (by kernel_rfl))).trans (hF 9 (by decide))
      have d0 : s ≠ 0 := by omega
      have d1 : (s == 0) = false := by simp; omega
      have d2 := rem_in (k * 8) s (by omega) (by omega) h1
      have d3 := tmod_in (k * 8) s (by omega)
      clear hρ hF hcst hfun sl3 sl8 sl9 fin
      exact opv_val (by go_simp <;> rfl) ⟨gw_self _, rfl⟩
    · exact owes_mvj 6 34 (by kernel_rfl) (by kernel_rfl) (by kernel_rfl) (by kernel_rfl) (by rw [hsz]; decide) (fun v w h => h)
    · exact owes_mvj 10 38 (by kernel_rfl) (by kernel_rfl) (by kernel_rfl) (by kernel_rfl) (by rw [hsz]; decide) (fun v w h => h)
  · intro vals w1 hG hF
    exact fin vals w1 hG (hF 11 (by decide +kernel)) (hF 12 (by decide +kernel))
theorem word_c (s l n i k : Int) (w : World) (h : OkG s l n) : Calls Try.prog 27 #[gV s l n, .int .i64 i, .int .i64 k] w (RetP (.tuple #[.int .i64 (wordG s l n i k).1, .int .i64 (wordG s l n i k).2]) w) := by
  have HS := Lib.hid (fun w => space_c s l n i w h)
  obtain ⟨q1, q2⟩ := oneG_bd s n h.s1 h.s2 h.n1 h.n2
  have q3 := h.l1
  have q4 := h.l2
  have q5 := h.n1
  have q6 := h.n2
  have q7 := h.s1
  have q8 := h.s2
  have hbd : (i = 0 ∨ i = 1) → 10 ≤ (spcG s l n i).1 ∧ (spcG s l n i).1 ≤ 3000 := by
    intro hi
    unfold spcG
    rcases hi with rfl | rfl
    · simp; omega
    · simp; omega
  have hno : ¬ (i = 0 ∨ i = 1) → spcG s l n i = (0, 0) := by
    intro hi
    unfold spcG
    rw [if_neg (fun h => hi (.inl h)), if_neg (fun h => hi (.inr h))]
  by_cases hi : i = 0 ∨ i = 1
  · obtain ⟨a1, a2⟩ := hbd hi
    have e0 : ((spcG s l n i).1 == 0) = false := by simp; omega
    have HE : Hid (wordG s l n i k = if 0 ≤ k ∧ k < n then ((spcG s l n i).1 + k * 8 / s, k * 8 % s) else (0, 0)) := Lib.hid (by unfold wordG; simp [hi])
    rw [HE.out]
    clear hbd hno HE
    obtain ⟨a, ha⟩ : ∃ a, a = (spcG s l n i).1 := ⟨_, rfl⟩
    obtain ⟨b, hb⟩ : ∃ b, b = (spcG s l n i).2 := ⟨_, rfl⟩
    have HS2 : Hid (∀ w, Calls Try.prog 35 #[gV s l n, .int .i64 i] w (RetP (.agg #[.int .i64 a, .int .i64 b]) w)) := Lib.hid (by rw [ha, hb]; exact HS.out)
    rw [← ha] at a1 a2 e0 ⊢
    clear ha hb HS hi h
    unfold gV at *
    by_cases hk : 0 ≤ k ∧ k < n
    · obtain ⟨hk1, hk2⟩ := hk
      rw [if_pos ⟨hk1, hk2⟩]
      have t1 : decide (k < 0) = false := by simp; omega
      have t2 : decide (n ≤ k) = false := by simp; omega
      go_enter Try.func27, Try.ntmps27
      go_wp2_with fail
      refine Calls.mono (HS2.out _) ?_
      rintro e w1 ⟨rfl, hb1⟩
      obtain ⟨hk, hB1⟩ := boxed hb1
      obtain ⟨c1, c2, c3⟩ := hk.three
      have hz : w.heap.size < w1.heap.size := hk.lt
      have hkk := hk.alloc (.cells #[.int .i64 a, .int .i64 b] 46)
      have hpp := Bk.new w1 46 #[.int .i64 a, .int .i64 b]
      have hB2 := hB1.alloc hB1.size (.cells #[.int .i64 a, .int .i64 b] 46)
      clear hb1 hk
      go_wp2_with fail
      refine word_r _ _ _ w.heap.size w1.heap.size s l n a b k hkk hpp q7 q8 hk1 (by omega) (by omega) (by omega) rfl rfl rfl rfl ?_
      intro vals w2 hG h6 h7
      unfold IsV at h6 h7
      simp only [putD, Act.put, List.setIfInBounds_toArray, List.set_cons_zero, List.set_cons_succ, h6, h7]
      have hB3 := hB2.trans (hG.mono (by have := hB1.size; simp; omega))
      clear h6 h7 hG
      go_wp2
      go_ret2
      exact ⟨rfl, hB3⟩
    · rw [if_neg hk]
      have hq : k < 0 ∨ n ≤ k := by omega
      clear hk
      go_enter Try.func27, Try.ntmps27
      go_wp2_with fail
      refine Calls.mono (HS2.out _) ?_
      rintro e w1 ⟨rfl, hb1⟩
      obtain ⟨hk, hB1⟩ := boxed hb1
      obtain ⟨c1, c2, c3⟩ := hk.three
      have hz : w.heap.size < w1.heap.size := hk.lt
      have hB2 := hB1.alloc hB1.size (.cells #[.int .i64 a, .int .i64 b] 46)
      clear hb1 hk
      go_wp2_with fail
      all_goals first
        | (exfalso; omega)
        | (go_ret2; exact ⟨rfl, hB2⟩)
  · have e := hno hi
    have e2 : wordG s l n i k = (0, 0) := by unfold wordG; rw [if_neg (fun h => hi h.1)]
    rw [e2]
    have HS2 : Hid (∀ w, Calls Try.prog 35 #[gV s l n, .int .i64 i] w (RetP (.agg #[.int .i64 0, .int .i64 0]) w)) := Lib.hid (by have h2 := HS.out; rw [e] at h2; exact h2)
    clear e e2 hno hbd hi HS h
    unfold gV at *
    go_enter Try.func27, Try.ntmps27
    go_wp2_with fail
    refine Calls.mono (HS2.out _) ?_
    rintro e w1 ⟨rfl, hb1⟩
    obtain ⟨hk, hB1⟩ := boxed hb1
    obtain ⟨c1, c2, c3⟩ := hk.three
    have hz : w.heap.size < w1.heap.size := hk.lt
    have hB2 := hB1.alloc hB1.size (.cells #[.int .i64 0, .int .i64 0] 46)
    clear hb1 hk
    go_wp2_with fail
    all_goals first
      | (exfalso; omega)
      | (go_ret2; exact ⟨rfl, hB2⟩)
end Go.Proofs.Ytgdgajieekkmdaa
