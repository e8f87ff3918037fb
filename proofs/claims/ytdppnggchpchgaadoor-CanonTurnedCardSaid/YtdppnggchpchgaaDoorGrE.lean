/- slices.Equal at numbers and roots. Conditions: lengths. -/
import Derived.Test.YtdppnggchpchgaaDoorGrD
import Derived.Test.YtdppnggchpchgaaDoorRegT
namespace Go.Proofs.YtdppnggchpchgaaDoor
set_option linter.unusedVariables false
set_option linter.unusedSimpArgs false
open Go.RowKit
set_option maxHeartbeats 1000000
set_option maxRecDepth 100000
theorem eqi_r (Q : Exit → Act → World → Prop) (a0 : Act) (w : World) (a b : Addr) (N c c2 i : Nat) (x y : Int) (r : Bool) (ha : a.block < w.heap.size) (hb : b.block < w.heap.size) (h1 : w.cell? (a.add i) = some (.int .i64 x)) (h2 : w.cell? (b.add i) = some (.int .i64 y)) (hr : (x != y) = r) (p1 : (0 : Int) ≤ (i : Int)) (p2 : (i : Int) < (N : Int)) (hsz : a0.tmps.size = 26) (sl0 : a0.tmps.getD 0 undef = .slice (some a) N c) (sl1 : a0.tmps.getD 1 undef = .slice (some b) N c2) (sl5 : a0.tmps.getD 5 undef = .int .i64 i)
    (fin : ∀ (vals : Nat → Value) (w1 : World), Below w.heap.size w w1 → (IsV (.bool r)) (vals 8) w1 → Q .normal (putD vals [16, 17, 18, 19, 20, 21, 22, 23, 24] 0 a0) w1) :
    (Code.region 6 (regIn Tryd.f46 6) true).wp Tryd.prog Q a0 w := by
  refine region_by (G := fun w w1 => Below w.heap.size w w1) [IsV (.slice (some a) N c),
    IsV (.int .i64 i),
    IsV (.pointer (some (a.add i))),
    IsV (.int .i64 x),
    IsV (.slice (some b) N c2),
    IsV (.int .i64 i),
    IsV (.pointer (some (b.add i))),
    IsV (.int .i64 y),
    IsV (.bool r)]
    [16, 17, 18, 19, 20, 21, 22, 23, 24] (by kernel_rfl) (Gw.drew _) Gw.trans (by rw [hsz]; kernel_rfl) (by kernel_rfl) ?_ ?_ ?_
  · intro f hf
    simp only [List.mem_cons, List.not_mem_nil, or_false] at hf
    rcases hf with rfl | rfl | rfl | rfl | rfl | rfl | rfl | rfl | rfl <;> intro v a b h g <;> first | exact IsV.mono h
  · refine ⟨?_, ?_, ?_, ?_, ?_, ?_, ?_, ?_, ?_, trivial⟩
    · exact owes_mv 0 (by kernel_rfl) (by kernel_rfl) (by kernel_rfl) sl0 (fun _ => rfl)
    · exact owes_mv 5 (by kernel_rfl) (by kernel_rfl) (by kernel_rfl) sl5 (fun _ => rfl)
    · refine owes_v (Go.Op.indexAddr 40 (Go.Operand.tmp 16) (Go.Operand.tmp 17)) 0 [0, 1] (by kernel_rfl) (by kernel_rfl) (by kernel_rfl) rfl fun vals w1 ρ hG hF hρ hcst hfun => ?_
      have e16 : ρ (.tmp 16) = .slice (some a) N c := ((hρ 16).trans (slotJ [0, 1] (by rw [hsz]; decide) (by kernel_rfl))).trans (hF 0 (by decide))
      have e17 : ρ (.tmp 17) = .int .i64 i := ((hρ 17).trans (slotJ [0, 1] (by rw [hsz]; decide) (by kernel_rfl))).trans (hF 1 (by decide))
      clear hρ hF hcst hfun sl0 sl1 sl5 fin
      exact opv_val (by go_simp <;> rfl) ⟨gw_self _, rfl⟩
    · refine owes_v (Go.Op.load 3 (Go.Operand.tmp 18)) 3 [2] (by kernel_rfl) (by kernel_rfl) (by kernel_rfl) rfl fun vals w1 ρ hG hF hρ hcst hfun => ?_
      have e18 : ρ (.tmp 18) = .pointer (some (a.add i)) := ((hρ 18).trans (slotJ [2] (by rw [hsz]; decide) (by kernel_rfl))).trans (hF 2 (by decide))
      have k := (hG.cell (p := a.add i) (by rw [add_block]; exact ha)).trans h1
      clear hρ hF hcst hfun sl0 sl1 sl5 fin
      exact opv_val (by go_simp <;> rfl) ⟨gw_self _, rfl⟩
    · exact owes_mv 1 (by kernel_rfl) (by kernel_rfl) (by kernel_rfl) sl1 (fun _ => rfl)
    · exact owes_mv 5 (by kernel_rfl) (by kernel_rfl) (by kernel_rfl) sl5 (fun _ => rfl)
    · refine owes_v (Go.Op.indexAddr 40 (Go.Operand.tmp 20) (Go.Operand.tmp 21)) 0 [4, 5] (by kernel_rfl) (by kernel_rfl) (by kernel_rfl) rfl fun vals w1 ρ hG hF hρ hcst hfun => ?_
      have e20 : ρ (.tmp 20) = .slice (some b) N c2 := ((hρ 20).trans (slotJ [4, 5] (by rw [hsz]; decide) (by kernel_rfl))).trans (hF 4 (by decide))
      have e21 : ρ (.tmp 21) = .int .i64 i := ((hρ 21).trans (slotJ [4, 5] (by rw [hsz]; decide) (by kernel_rfl))).trans (hF 5 (by decide))
      clear hρ hF hcst hfun sl0 sl1 sl5 fin
      exact opv_val (by go_simp <;> rfl) ⟨gw_self _, rfl⟩
    · refine owes_v (Go.Op.load 3 (Go.Operand.tmp 22)) 3 [6] (by kernel_rfl) (by kernel_rfl) (by kernel_rfl) rfl fun vals w1 ρ hG hF hρ hcst hfun => ?_
      have e22 : ρ (.tmp 22) = .pointer (some (b.add i)) := ((hρ 22).trans (slotJ [6] (by rw [hsz]; decide) (by kernel_rfl))).trans (hF 6 (by decide))
      have k := (hG.cell (p := b.add i) (by rw [add_block]; exact hb)).trans h2
      clear hρ hF hcst hfun sl0 sl1 sl5 fin
      exact opv_val (by go_simp <;> rfl) ⟨gw_self _, rfl⟩
    · refine owes_v (Go.Op.binOp Go.BinOp.neq 3 (Go.Operand.tmp 19) (Go.Operand.tmp 23) 3) 4 [3, 7] (by kernel_rfl) (by kernel_rfl) (by kernel_rfl) rfl fun vals w1 ρ hG hF hρ hcst hfun => ?_
      have e19 : ρ (.tmp 19) = .int .i64 x := ((hρ 19).trans (slotJ [3, 7] (by rw [hsz]; decide) (by kernel_rfl))).trans (hF 3 (by decide))
      have e23 : ρ (.tmp 23) = .int .i64 y := ((hρ 23).trans (slotJ [3, 7] (by rw [hsz]; decide) (by kernel_rfl))).trans (hF 7 (by decide))
      clear hρ hF hcst hfun sl0 sl1 sl5 fin
      exact opv_val (by go_simp <;> first | rfl | exact hr | rw [hr]) ⟨gw_self _, rfl⟩
  · intro vals w1 hG hF
    exact fin vals w1 hG (hF 8 (by decide +kernel))
theorem take_eq_succ {α : Type} {xs ys : List α} {k : Nat} (h1 : k < xs.length) (h2 : k < ys.length) (h : xs.take k = ys.take k) (e : xs[k] = ys[k]) : xs.take (k + 1) = ys.take (k + 1) := by
  rw [List.take_succ_eq_append_getElem h1, List.take_succ_eq_append_getElem h2, h, e]
theorem eqi_c (w : World) (A A2 : Option Addr) (c c2 : Nat) (xs ys : List Int) (hr : Rd iV w w.heap.size A xs) (hr2 : Rd iV w w.heap.size A2 ys) (hl : xs.length ≤ 1000000) : Calls Tryd.prog 46 #[.slice A xs.length c, .slice A2 ys.length c2] w (RetP (.bool (decide (xs = ys))) w) := by
  obtain ⟨N, hN⟩ : ∃ N, N = xs.length := ⟨_, rfl⟩
  obtain ⟨M, hM⟩ : ∃ M, M = ys.length := ⟨_, rfl⟩
  have HN := Lib.hid (And.intro hN hM)
  have HR := Lib.hid hr
  have HR2 := Lib.hid hr2
  have q3 : (N : Int) ≤ 1000000 := by omega
  rw [← hN, ← hM]
  by_cases he : N = M
  · subst he
    have HNe := Lib.hid (And.intro hN hM)
    clear hN hM hr hr2 hl HN
    obtain ⟨R, hRR⟩ : ∃ R, R = decide (xs = ys) := ⟨_, rfl⟩
    have HRR := Lib.hid hRR
    rw [← hRR]
    clear hRR
    go_enter Tryd.func46, Tryd.ntmps46
    go_wp2_with fail
    go_loopw [13] (fun i wr => ∃ k : Nat, k ≤ N ∧ i = .int .i64 k ∧ Hid (xs.take k = ys.take k) ∧ Below w.heap.size w wr) (fun i _ => N - (intOf i).toNat)
    case atStart => exact ⟨0, by omega, rfl, Lib.hid rfl, Below.refl _ _⟩
    case round =>
      obtain ⟨k, hk, rfl, ht, hB⟩ := hrel
      by_cases hlt : k < N
      · have p1 : (0 : Int) ≤ (k : Int) := by omega
        have p2 : (k : Int) < (N : Int) := by omega
        have h1 : k < xs.length := by rw [← HNe.out.1]; exact hlt
        have h2 : k < ys.length := by rw [← HNe.out.2]; exact hlt
        obtain ⟨ad, rfl, hadb, hcl⟩ := (HR.out.below hB) k h1
        obtain ⟨ad2, rfl, hadb2, hcl2⟩ := (HR2.out.below hB) k h2
        obtain ⟨x, hx⟩ : ∃ y, y = xs[k] := ⟨_, rfl⟩
        obtain ⟨y, hy⟩ : ∃ y, y = ys[k] := ⟨_, rfl⟩
        rw [← hx] at hcl
        rw [← hy] at hcl2
        unfold iV at hcl hcl2
        have hsz := hB.size
        have HS := Lib.hid (fun Q a0 r hr => eqi_r Q a0 wr ad ad2 N c c2 k x y r (by omega) (by omega) hcl hcl2 hr p1 p2)
        by_cases hxy : x = y
        · have hrf : (x != y) = false := by simp [hxy]
          have HT := Lib.hid (take_eq_succ h1 h2 ht.out (by rw [← hx, ← hy, hxy]))
          clear hx hy hadb hadb2 hcl hcl2 h1 h2 hsz hxy
          go_wp2_with fail
          refine HS.out _ _ false hrf rfl rfl rfl rfl ?_
          intro vals w4 hG h24
          unfold IsV at h24
          simp only [putD, Act.put, List.setIfInBounds_toArray, List.set_cons_zero, List.set_cons_succ, h24]
          have HB4 := Lib.hid (hB.trans (hG.mono hB.size))
          clear h24 hG HS hrf
          go_wp2_with fail
          go_roundw
          case rel => exact ⟨k + 1, by omega, by go_num, HT, HB4.out⟩
          case measure => (first | (simp [intOf]; done) | (simp [intOf]; omega))
        · have hrf : (x != y) = true := by simp [hxy]
          have hne : R = false := by
            rw [HRR.out, decide_eq_false_iff_not]
            intro e
            subst e
            exact hxy (hx.trans hy.symm)
          have HNE := Lib.hid hne
          clear hx hy hadb hadb2 hcl hcl2 h1 h2 hsz hxy hne
          go_wp2_with fail
          refine HS.out _ _ true hrf rfl rfl rfl rfl ?_
          intro vals w4 hG h24
          unfold IsV at h24
          simp only [putD, Act.put, List.setIfInBounds_toArray, List.set_cons_zero, List.set_cons_succ, h24]
          have HB4 := Lib.hid (hB.trans (hG.mono hB.size))
          clear h24 hG HS hrf
          go_wp2_with fail
          go_ret
          rw [HNE.out]
          exact ⟨rfl, HB4.out⟩
      · have hre : R = true := by
          rw [HRR.out, decide_eq_true_iff]
          have := ht.out
          rwa [show k = xs.length by rw [← HNe.out.1]; omega, List.take_length, show xs.length = ys.length by rw [← HNe.out.1, HNe.out.2], List.take_length] at this
        have HRE := Lib.hid hre
        clear hre
        go_wp2_with fail
        go_ret
        rw [HRE.out]
        exact ⟨rfl, hB⟩
  · have hne : decide (xs = ys) = false := by
      rw [decide_eq_false_iff_not]
      intro e
      exact he (by rw [hN, hM, e])
    rw [hne]
    have t1 : ((N : Int) != (M : Int)) = true := by simp; omega
    clear hN hM hr hr2 hl he hne HN HR HR2
    go_enter Tryd.func46, Tryd.ntmps46
    go_wp2_with fail
    go_ret
    exact ⟨rfl, Below.refl _ _⟩
end Go.Proofs.YtdppnggchpchgaaDoor
