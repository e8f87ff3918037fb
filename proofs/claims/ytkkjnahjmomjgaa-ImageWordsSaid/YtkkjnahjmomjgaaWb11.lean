/- Texts joined: GrE ImH DcG GrF EqlB GrG ImK GtCz. -/
import Derived.Test.YtkkjnahjmomjgaaWb10
import Derived.Test.YtkkjnahjmomjgaaGrD
import Derived.Test.YtkkjnahjmomjgaaRegT
import Derived.Test.YtkkjnahjmomjgaaMmA
import Derived.Test.YtkkjnahjmomjgaaStr
import Derived.Lib.SmallJoins
import Derived.Test.YtkkjnahjmomjgaaCrcD
import Derived.Test.YtkkjnahjmomjgaaGtZ
/- slices.Equal at numbers and roots. Conditions: lengths. -/
namespace Go.Proofs.Ytkkjnahjmomjgaa
set_option linter.unusedVariables false
set_option linter.unusedSimpArgs false
open Go.RowKit
set_option maxHeartbeats 1000000
set_option maxRecDepth 100000
theorem eqi_r (Q : Exit → Act → World → Prop) (a0 : Act) (w : World) (a b : Addr) (N c c2 i : Nat) (x y : Int) (r : Bool) (ha : a.block < w.heap.size) (hb : b.block < w.heap.size) (h1 : w.cell? (a.add i) = some (.int .i64 x)) (h2 : w.cell? (b.add i) = some (.int .i64 y)) (hr : (x != y) = r) (p1 : (0 : Int) ≤ (i : Int)) (p2 : (i : Int) < (N : Int)) (hsz : a0.tmps.size = 26) (sl0 : a0.tmps.getD 0 undef = .slice (some a) N c) (sl1 : a0.tmps.getD 1 undef = .slice (some b) N c2) (sl5 : a0.tmps.getD 5 undef = .int .i64 i)
    (fin : ∀ (vals : Nat → Value) (w1 : World), Below w.heap.size w w1 → (IsV (.bool r)) (vals 8) w1 → Q .normal (putD vals [16, 17, 18, 19, 20, 21, 22, 23, 24] 0 a0) w1) :
    (Code.region 6 (regIn Try.f78 6) true).wp Try.prog Q a0 w := by
  refine region_by (G := fun w w1 => Below w.heap.size w w1) [IsV (.slice (some a) N c),
    IsV (.int .i64 i),
    IsV (.pointer (some (a.add i))),
    IsV (.int .i64 x),
    IsV (.slice (some b) N c2),
    IsV (.int .i64 i),
    IsV (.pointer (some (b.add i))),
    IsV (.int .i64 y),
    IsV (.bool r)]
    [16, 17, 18, 19, 20, 21, 22, 23, 24] (by kernel_rfl) (Gw.drew _) Gw.trans (by rw [hsz]; kernel_rfl) (by kernel_rfl) ?_ ?_ ?_
  · intro f hf
    simp only [List.mem_cons, List.not_mem_nil, or_false] at hf
    rcases hf with rfl | rfl | rfl | rfl | rfl | rfl | rfl | rfl | rfl <;> intro v a b h g <;> first | exact IsV.mono h
  · refine ⟨?_, ?_, ?_, ?_, ?_, ?_, ?_, ?_, ?_, trivial⟩
    · exact owes_mv 0 (by kernel_rfl) (by kernel_rfl) (by kernel_rfl) sl0 (fun _ => rfl)
    · exact owes_mv 5 (by kernel_rfl) (by kernel_rfl) (by kernel_rfl) sl5 (fun _ => rfl)
    · refine owes_v (Go.Op.indexAddr 49 (Go.Operand.tmp 16) (Go.Operand.tmp 17)) 0 [0, 1] (by kernel_rfl) (by kernel_rfl) (by kernel_rfl) rfl fun vals w1 ρ hG hF hρ hcst hfun => ?_
      have e16 : ρ (.tmp 16) = .slice (some a) N c := ((hρ 16).trans (slotJ [0, 1] (by rw [hsz]; decide) (by kernel_rfl))).trans (hF 0 (by decide))
      have e17 : ρ (.tmp 17) = .int .i64 i := ((hρ 17).trans (slotJ [0, 1] (by rw [hsz]; decide) (by kernel_rfl))).trans (hF 1 (by decide))
      clear hρ hF hcst hfun sl0 sl1 sl5 fin
      exact opv_val (by go_simp <;> rfl) ⟨gw_self _, rfl⟩
    · refine owes_v (Go.Op.load 3 (Go.Operand.tmp 18)) 3 [2] (by kernel_rfl) (by kernel_rfl) (by kernel_rfl) rfl fun vals w1 ρ hG hF hρ hcst hfun => ?_
      have e18 : ρ (.tmp 18) = .pointer (some (a.add i)) := ((hρ 18).trans (slotJ [2] (by rw [hsz]; decide) (by kernel_rfl))).trans (hF 2 (by decide))
      have k := (hG.cell (p := a.add i) (by rw [add_block]; exact ha)).trans h1
      clear hρ hF hcst hfun sl0 sl1 sl5 fin
      exact opv_val (by go_simp <;> rfl) ⟨gw_self _, rfl⟩
    · exact owes_mv 1 (by kernel_rfl) (by kernel_rfl) (by kernel_rfl) sl1 (fun _ => rfl)
    · exact owes_mv 5 (by kernel_rfl) (by kernel_rfl) (by kernel_rfl) sl5 (fun _ => rfl)
    · refine owes_v (Go.Op.indexAddr 49 (Go.Operand.tmp 20) (Go.Operand.tmp 21)) 0 [4, 5] (by kernel_rfl) (by kernel_rfl) (by kernel_rfl) rfl fun vals w1 ρ hG hF hρ hcst hfun => ?_
      have e20 : ρ (.tmp 20) = .slice (some b) N c2 := ((hρ 20).trans (slotJ [4, 5] (by rw [hsz]; decide) (by kernel_rfl))).trans (hF 4 (by decide))
      have e21 : ρ (.tmp 21) = .int .i64 i := ((hρ 21).trans (slotJ [4, 5] (by rw [hsz]; decide) (by kernel_rfl))).trans (hF 5 (by decide))
      clear hρ hF hcst hfun sl0 sl1 sl5 fin
      exact opv_val (by go_simp <;> rfl) ⟨gw_self _, rfl⟩
    · refine owes_v (Go.Op.load 3 (Go.Operand.tmp 22)) 3 [6] (by kernel_rfl) (by kernel_rfl) (by kernel_rfl) rfl fun vals w1 ρ hG hF hρ hcst hfun => ?_
      have e22 : ρ (.tmp 22) = .pointer (some (b.add i)) := ((hρ 22).trans (slotJ [6] (by rw [hsz]; decide) (by kernel_rfl))).trans (hF 6 (by decide))
      have k := (hG.cell (p := b.add i) (by rw [add_block]; exact hb)).trans h2
      clear hρ hF hcst hfun sl0 sl1 sl5 fin
      exact opv_val (by go_simp <;> rfl) ⟨gw_self _, rfl⟩
    · refine owes_v (Go.Op.binOp Go.BinOp.neq 3 (Go.Operand.tmp 19) (Go.Operand.tmp 23) 3) 4 [3, 7] (by kernel_rfl) (by kernel_rfl) (by kernel_rfl) rfl fun vals w1 ρ hG hF hρ hcst hfun => ?_
      have e19 : ρ (.tmp 19) = .int .i64 x := ((hρ 19).trans (slotJ [3, 7] (by rw [hsz]; decide) (by kernel_rfl))).trans (hF 3 (by decide))
      have e23 : ρ (.tmp 23) = .int .i64 y := ((hρ 23).trans (slotJ [3, 7] (by rw [hsz]; decide) (by kernel_rfl))).trans (hF 7 (by decide))
      clear hρ hF hcst hfun sl0 sl1 sl5 fin
      exact opv_val (by go_simp <;> first | rfl | exact hr | rw [hr]) ⟨gw_self _, rfl⟩
  · intro vals w1 hG hF
    exact fin vals w1 hG (hF 8 (by decide +kernel))
theorem take_eq_succ {α : Type} {xs ys : List α} {k : Nat} (h1 : k < xs.length) (h2 : k < ys.length) (h : xs.take k = ys.take k) (e : xs[k] = ys[k]) : xs.take (k + 1) = ys.take (k + 1) := by
  rw [List.take_succ_eq_append_getElem h1, List.take_succ_eq_append_getElem h2, h, e]
theorem eqi_c (w : World) (A A2 : Option Addr) (c c2 : Nat) (xs ys : List Int) (hr : Rd iV w w.heap.size A xs) (hr2 : Rd iV w w.heap.size A2 ys) (hl : xs.length ≤ 1000000) : Calls Try.prog 78 #[.slice A xs.length c, .slice A2 ys.length c2] w (RetP (.bool (decide (xs = ys))) w) := by
  obtain ⟨N, hN⟩ : ∃ N, N = xs.length := ⟨_, rfl⟩
  obtain ⟨M, hM⟩ : ∃ M, M = ys.length := ⟨_, rfl⟩
  have HN := Lib.hid (And.intro hN hM)
  have HR := Lib.hid hr
  have HR2 := Lib.hid hr2
  have q3 : (N : Int) ≤ 1000000 := by omega
  rw [← hN, ← hM]
  by_cases he : N = M
  · subst he
    have HNe := Lib.hid (And.intro hN hM)
    clear hN hM hr hr2 hl HN
    obtain ⟨R, hRR⟩ : ∃ R, R = decide (xs = ys) := ⟨_, rfl⟩
    have HRR := Lib.hid hRR
    rw [← hRR]
    clear hRR
    go_enter Try.func78, Try.ntmps78
    go_wp2_with fail
    go_loopw [13] (fun i wr => ∃ k : Nat, k ≤ N ∧ i = .int .i64 k ∧ Hid (xs.take k = ys.take k) ∧ Below w.heap.size w wr) (fun i _ => N - (Go.RowKit.intOf i).toNat)
    case atStart => exact ⟨0, by omega, rfl, Lib.hid rfl, Below.refl _ _⟩
    case round =>
      obtain ⟨k, hk, rfl, ht, hB⟩ := hrel
      by_cases hlt : k < N
      · have p1 : (0 : Int) ≤ (k : Int) := by omega
        have p2 : (k : Int) < (N : Int) := by omega
        have h1 : k < xs.length := by rw [← HNe.out.1]; exact hlt
        have h2 : k < ys.length := by rw [← HNe.out.2]; exact hlt
        obtain ⟨ad, rfl, hadb, hcl⟩ := (HR.out.below hB) k h1
        obtain ⟨ad2, rfl, hadb2, hcl2⟩ := (HR2.out.below hB) k h2
        obtain ⟨x, hx⟩ : ∃ y, y = xs[k] := ⟨_, rfl⟩
        obtain ⟨y, hy⟩ : ∃ y, y = ys[k] := ⟨_, rfl⟩
        rw [← hx] at hcl
        rw [← hy] at hcl2
        unfold iV at hcl hcl2
        have hsz := hB.size
        have HS := Lib.hid (fun Q a0 r hr => eqi_r Q a0 wr ad ad2 N c c2 k x y r (by omega) (by omega) hcl hcl2 hr p1 p2)
        by_cases hxy : x = y
        · have hrf : (x != y) = false := by simp [hxy]
          have HT := Lib.hid (take_eq_succ h1 h2 ht.out (by rw [← hx, ← hy, hxy]))
          clear hx hy hadb hadb2 hcl hcl2 h1 h2 hsz hxy
          go_wp2_with fail
          refine HS.out _ _ false hrf rfl rfl rfl rfl ?_
          intro vals w4 hG h24
          unfold IsV at h24
          simp only [putD, Act.put, List.setIfInBounds_toArray, List.set_cons_zero, List.set_cons_succ, h24]
          have HB4 := Lib.hid (hB.trans (hG.mono hB.size))
          clear h24 hG HS hrf
          go_wp2_with fail
          go_roundw
          case rel => exact ⟨k + 1, by omega, by go_num, HT, HB4.out⟩
          case measure => (first | (simp [Go.RowKit.intOf]; done) | (simp [Go.RowKit.intOf]; omega))
        · have hrf : (x != y) = true := by simp [hxy]
          have hne : R = false := by
            rw [HRR.out, decide_eq_false_iff_not]
            intro e
            subst e
            exact hxy (hx.trans hy.symm)
          have HNE := Lib.hid hne
          clear hx hy hadb hadb2 hcl hcl2 h1 h2 hsz hxy hne
          go_wp2_with fail
          refine HS.out _ _ true hrf rfl rfl rfl rfl ?_
          intro vals w4 hG h24
          unfold IsV at h24
          simp only [putD, Act.put, List.setIfInBounds_toArray, List.set_cons_zero, List.set_cons_succ, h24]
          have HB4 := Lib.hid (hB.trans (hG.mono hB.size))
          clear h24 hG HS hrf
          go_wp2_with fail
          go_ret
          rw [HNE.out]
          exact ⟨rfl, HB4.out⟩
      · have hre : R = true := by
          rw [HRR.out, decide_eq_true_iff]
          have := ht.out
          rwa [show k = xs.length by rw [← HNe.out.1]; omega, List.take_length, show xs.length = ys.length by rw [← HNe.out.1, HNe.out.2], List.take_length] at this
        have HRE := Lib.hid hre
        clear hre
        go_wp2_with fail
        go_ret
        rw [HRE.out]
        exact ⟨rfl, hB⟩
  · have hne : decide (xs = ys) = false := by
      rw [decide_eq_false_iff_not]
      intro e
      exact he (by rw [hN, hM, e])
    rw [hne]
    have t1 : ((N : Int) != (M : Int)) = true := by simp; omega
    clear hN hM hr hr2 hl he hne HN HR HR2
    go_enter Try.func78, Try.ntmps78
    go_wp2_with fail
    go_ret
    exact ⟨rfl, Below.refl _ _⟩
end Go.Proofs.Ytkkjnahjmomjgaa
/- slices.Equal at words; loamlaw23.words. Conditions: lengths. -/
namespace Go.Proofs.Ytkkjnahjmomjgaa
set_option linter.unusedVariables false
set_option linter.unusedSimpArgs false
open Go.RowKit
set_option maxHeartbeats 1000000
set_option maxRecDepth 100000
theorem equ_r (Q : Exit → Act → World → Prop) (a0 : Act) (w : World) (a b : Addr) (N c c2 i : Nat) (x y : BitVec 64) (r : Bool) (ha : a.block < w.heap.size) (hb : b.block < w.heap.size) (h1 : w.cell? (a.add i) = some (.int .u64 (U64 x))) (h2 : w.cell? (b.add i) = some (.int .u64 (U64 y))) (hr : (U64 x != U64 y) = r) (p1 : (0 : Int) ≤ (i : Int)) (p2 : (i : Int) < (N : Int)) (hsz : a0.tmps.size = 26) (sl0 : a0.tmps.getD 0 undef = .slice (some a) N c) (sl1 : a0.tmps.getD 1 undef = .slice (some b) N c2) (sl5 : a0.tmps.getD 5 undef = .int .i64 i)
    (fin : ∀ (vals : Nat → Value) (w1 : World), Below w.heap.size w w1 → (IsV (.bool r)) (vals 8) w1 → Q .normal (putD vals [16, 17, 18, 19, 20, 21, 22, 23, 24] 0 a0) w1) :
    (Code.region 6 (regIn Try.f39 6) true).wp Try.prog Q a0 w := by
  refine region_by (G := fun w w1 => Below w.heap.size w w1) [IsV (.slice (some a) N c),
    IsV (.int .i64 i),
    IsV (.pointer (some (a.add i))),
    IsV (.int .u64 (U64 x)),
    IsV (.slice (some b) N c2),
    IsV (.int .i64 i),
    IsV (.pointer (some (b.add i))),
    IsV (.int .u64 (U64 y)),
    IsV (.bool r)]
    [16, 17, 18, 19, 20, 21, 22, 23, 24] (by kernel_rfl) (Gw.drew _) Gw.trans (by rw [hsz]; kernel_rfl) (by kernel_rfl) ?_ ?_ ?_
  · intro f hf
    simp only [List.mem_cons, List.not_mem_nil, or_false] at hf
    rcases hf with rfl | rfl | rfl | rfl | rfl | rfl | rfl | rfl | rfl <;> intro v a b h g <;> first | exact IsV.mono h
  · refine ⟨?_, ?_, ?_, ?_, ?_, ?_, ?_, ?_, ?_, trivial⟩
    · exact owes_mv 0 (by kernel_rfl) (by kernel_rfl) (by kernel_rfl) sl0 (fun _ => rfl)
    · exact owes_mv 5 (by kernel_rfl) (by kernel_rfl) (by kernel_rfl) sl5 (fun _ => rfl)
    · refine owes_v (Go.Op.indexAddr 33 (Go.Operand.tmp 16) (Go.Operand.tmp 17)) 0 [0, 1] (by kernel_rfl) (by kernel_rfl) (by kernel_rfl) rfl fun vals w1 ρ hG hF hρ hcst hfun => ?_
      have e16 : ρ (.tmp 16) = .slice (some a) N c := ((hρ 16).trans (slotJ [0, 1] (by rw [hsz]; decide) (by kernel_rfl))).trans (hF 0 (by decide))
      have e17 : ρ (.tmp 17) = .int .i64 i := ((hρ 17).trans (slotJ [0, 1] (by rw [hsz]; decide) (by kernel_rfl))).trans (hF 1 (by decide))
      clear hρ hF hcst hfun sl0 sl1 sl5 fin
      exact opv_val (by go_simp <;> rfl) ⟨gw_self _, rfl⟩
    · refine owes_v (Go.Op.load 57 (Go.Operand.tmp 18)) 57 [2] (by kernel_rfl) (by kernel_rfl) (by kernel_rfl) rfl fun vals w1 ρ hG hF hρ hcst hfun => ?_
      have e18 : ρ (.tmp 18) = .pointer (some (a.add i)) := ((hρ 18).trans (slotJ [2] (by rw [hsz]; decide) (by kernel_rfl))).trans (hF 2 (by decide))
      have k := (hG.cell (p := a.add i) (by rw [add_block]; exact ha)).trans h1
      clear hρ hF hcst hfun sl0 sl1 sl5 fin
      exact opv_val (by go_simp <;> rfl) ⟨gw_self _, rfl⟩
    · exact owes_mv 1 (by kernel_rfl) (by kernel_rfl) (by kernel_rfl) sl1 (fun _ => rfl)
    · exact owes_mv 5 (by kernel_rfl) (by kernel_rfl) (by kernel_rfl) sl5 (fun _ => rfl)
    · refine owes_v (Go.Op.indexAddr 33 (Go.Operand.tmp 20) (Go.Operand.tmp 21)) 0 [4, 5] (by kernel_rfl) (by kernel_rfl) (by kernel_rfl) rfl fun vals w1 ρ hG hF hρ hcst hfun => ?_
      have e20 : ρ (.tmp 20) = .slice (some b) N c2 := ((hρ 20).trans (slotJ [4, 5] (by rw [hsz]; decide) (by kernel_rfl))).trans (hF 4 (by decide))
      have e21 : ρ (.tmp 21) = .int .i64 i := ((hρ 21).trans (slotJ [4, 5] (by rw [hsz]; decide) (by kernel_rfl))).trans (hF 5 (by decide))
      clear hρ hF hcst hfun sl0 sl1 sl5 fin
      exact opv_val (by go_simp <;> rfl) ⟨gw_self _, rfl⟩
    · refine owes_v (Go.Op.load 57 (Go.Operand.tmp 22)) 57 [6] (by kernel_rfl) (by kernel_rfl) (by kernel_rfl) rfl fun vals w1 ρ hG hF hρ hcst hfun => ?_
      have e22 : ρ (.tmp 22) = .pointer (some (b.add i)) := ((hρ 22).trans (slotJ [6] (by rw [hsz]; decide) (by kernel_rfl))).trans (hF 6 (by decide))
      have k := (hG.cell (p := b.add i) (by rw [add_block]; exact hb)).trans h2
      clear hρ hF hcst hfun sl0 sl1 sl5 fin
      exact opv_val (by go_simp <;> rfl) ⟨gw_self _, rfl⟩
    · refine owes_v (Go.Op.binOp Go.BinOp.neq 57 (Go.Operand.tmp 19) (Go.Operand.tmp 23) 57) 4 [3, 7] (by kernel_rfl) (by kernel_rfl) (by kernel_rfl) rfl fun vals w1 ρ hG hF hρ hcst hfun => ?_
      have e19 : ρ (.tmp 19) = .int .u64 (U64 x) := ((hρ 19).trans (slotJ [3, 7] (by rw [hsz]; decide) (by kernel_rfl))).trans (hF 3 (by decide))
      have e23 : ρ (.tmp 23) = .int .u64 (U64 y) := ((hρ 23).trans (slotJ [3, 7] (by rw [hsz]; decide) (by kernel_rfl))).trans (hF 7 (by decide))
      clear hρ hF hcst hfun sl0 sl1 sl5 fin
      exact opv_val (by go_simp <;> first | rfl | exact hr | rw [hr]) ⟨gw_self _, rfl⟩
  · intro vals w1 hG hF
    exact fin vals w1 hG (hF 8 (by decide +kernel))
theorem equ_c (w : World) (A A2 : Option Addr) (c c2 : Nat) (xs ys : List (BitVec 64)) (hr : Rd u64v w w.heap.size A xs) (hr2 : Rd u64v w w.heap.size A2 ys) (hl : xs.length ≤ 1000000) : Calls Try.prog 39 #[.slice A xs.length c, .slice A2 ys.length c2] w (RetP (.bool (decide (xs = ys))) w) := by
  obtain ⟨N, hN⟩ : ∃ N, N = xs.length := ⟨_, rfl⟩
  obtain ⟨M, hM⟩ : ∃ M, M = ys.length := ⟨_, rfl⟩
  have HN := Lib.hid (And.intro hN hM)
  have HR := Lib.hid hr
  have HR2 := Lib.hid hr2
  have q3 : (N : Int) ≤ 1000000 := by omega
  rw [← hN, ← hM]
  by_cases he : N = M
  · subst he
    have HNe := Lib.hid (And.intro hN hM)
    clear hN hM hr hr2 hl HN
    obtain ⟨R, hRR⟩ : ∃ R, R = decide (xs = ys) := ⟨_, rfl⟩
    have HRR := Lib.hid hRR
    rw [← hRR]
    clear hRR
    go_enter Try.func39, Try.ntmps39
    go_wp2_with fail
    go_loopw [13] (fun i wr => ∃ k : Nat, k ≤ N ∧ i = .int .i64 k ∧ Hid (xs.take k = ys.take k) ∧ Below w.heap.size w wr) (fun i _ => N - (Go.RowKit.intOf i).toNat)
    case atStart => exact ⟨0, by omega, rfl, Lib.hid rfl, Below.refl _ _⟩
    case round =>
      obtain ⟨k, hk, rfl, ht, hB⟩ := hrel
      by_cases hlt : k < N
      · have p1 : (0 : Int) ≤ (k : Int) := by omega
        have p2 : (k : Int) < (N : Int) := by omega
        have h1 : k < xs.length := by rw [← HNe.out.1]; exact hlt
        have h2 : k < ys.length := by rw [← HNe.out.2]; exact hlt
        obtain ⟨ad, rfl, hadb, hcl⟩ := (HR.out.below hB) k h1
        obtain ⟨ad2, rfl, hadb2, hcl2⟩ := (HR2.out.below hB) k h2
        obtain ⟨x, hx⟩ : ∃ y, y = xs[k] := ⟨_, rfl⟩
        obtain ⟨y, hy⟩ : ∃ y, y = ys[k] := ⟨_, rfl⟩
        rw [← hx] at hcl
        rw [← hy] at hcl2
        unfold u64v at hcl hcl2
        have hsz := hB.size
        have HS := Lib.hid (fun Q a0 r hr => equ_r Q a0 wr ad ad2 N c c2 k x y r (by omega) (by omega) hcl hcl2 hr p1 p2)
        by_cases hxy : x = y
        · have hrf : (U64 x != U64 y) = false := by rw [hxy]; simp
          have HT := Lib.hid (take_eq_succ h1 h2 ht.out (by rw [← hx, ← hy, hxy]))
          clear hx hy hadb hadb2 hcl hcl2 h1 h2 hsz hxy
          go_wp2_with fail
          refine HS.out _ _ false hrf rfl rfl rfl rfl ?_
          intro vals w4 hG h24
          unfold IsV at h24
          simp only [putD, Act.put, List.setIfInBounds_toArray, List.set_cons_zero, List.set_cons_succ, h24]
          have HB4 := Lib.hid (hB.trans (hG.mono hB.size))
          clear h24 hG HS hrf
          go_wp2_with fail
          go_roundw
          case rel => exact ⟨k + 1, by omega, by go_num, HT, HB4.out⟩
          case measure => (first | (simp [Go.RowKit.intOf]; done) | (simp [Go.RowKit.intOf]; omega))
        · have hrf : (U64 x != U64 y) = true := by rw [bne_iff_ne]; exact fun e => hxy (U64_inj e)
          have hne : R = false := by
            rw [HRR.out, decide_eq_false_iff_not]
            intro e
            subst e
            exact hxy (hx.trans hy.symm)
          have HNE := Lib.hid hne
          clear hx hy hadb hadb2 hcl hcl2 h1 h2 hsz hxy hne
          go_wp2_with fail
          refine HS.out _ _ true hrf rfl rfl rfl rfl ?_
          intro vals w4 hG h24
          unfold IsV at h24
          simp only [putD, Act.put, List.setIfInBounds_toArray, List.set_cons_zero, List.set_cons_succ, h24]
          have HB4 := Lib.hid (hB.trans (hG.mono hB.size))
          clear h24 hG HS hrf
          go_wp2_with fail
          go_ret
          rw [HNE.out]
          exact ⟨rfl, HB4.out⟩
      · have hre : R = true := by
          rw [HRR.out, decide_eq_true_iff]
          have := ht.out
          rwa [show k = xs.length by rw [← HNe.out.1]; omega, List.take_length, show xs.length = ys.length by rw [← HNe.out.1, HNe.out.2], List.take_length] at this
        have HRE := Lib.hid hre
        clear hre
        go_wp2_with fail
        go_ret
        rw [HRE.out]
        exact ⟨rfl, hB⟩
  · have hne : decide (xs = ys) = false := by
      rw [decide_eq_false_iff_not]
      intro e
      exact he (by rw [hN, hM, e])
    rw [hne]
    have t1 : ((N : Int) != (M : Int)) = true := by simp; omega
    clear hN hM hr hr2 hl he hne HN HR HR2
    go_enter Try.func39, Try.ntmps39
    go_wp2_with fail
    go_ret
    exact ⟨rfl, Below.refl _ _⟩
theorem wd6 (Q : Exit → Act → World → Prop) (a0 : Act) (w : World) (a b : Addr) (N c c2 i : Nat) (x y : BitVec 64) (r : Bool) (ha : a.block < w.heap.size) (hb : b.block < w.heap.size) (h1 : w.cell? (a.add i) = some (.int .u64 (U64 x))) (h2 : w.cell? (b.add i) = some (.int .u64 (U64 y))) (hr : (U64 x != U64 y) = r) (p1 : (0 : Int) ≤ (i : Int)) (p2 : (i : Int) < (N : Int)) (hsz : a0.tmps.size = 26) (sl0 : a0.tmps.getD 0 undef = .slice (some a) N c) (sl1 : a0.tmps.getD 1 undef = .slice (some b) N c2) (sl5 : a0.tmps.getD 5 undef = .int .i64 i)
    (fin : ∀ (vals : Nat → Value) (w1 : World), Below w.heap.size w w1 → (IsV (.bool r)) (vals 8) w1 → Q .normal (putD vals [17, 18, 19, 20, 21, 22, 23, 24, 25] 0 a0) w1) :
    (Code.region 6 (regIn Try.f12 6) true).wp Try.prog Q a0 w := by
  refine region_by (G := fun w w1 => Below w.heap.size w w1) [IsV (.slice (some a) N c),
    IsV (.int .i64 i),
    IsV (.pointer (some (a.add i))),
    IsV (.int .u64 (U64 x)),
    IsV (.slice (some b) N c2),
    IsV (.int .i64 i),
    IsV (.pointer (some (b.add i))),
    IsV (.int .u64 (U64 y)),
    IsV (.bool r)]
    [17, 18, 19, 20, 21, 22, 23, 24, 25] (by kernel_rfl) (Gw.drew _) Gw.trans (by rw [hsz]; kernel_rfl) (by kernel_rfl) ?_ ?_ ?_
  · intro f hf
    simp only [List.mem_cons, List.not_mem_nil, or_false] at hf
    rcases hf with rfl | rfl | rfl | rfl | rfl | rfl | rfl | rfl | rfl <;> intro v a b h g <;> first | exact IsV.mono h
  · refine ⟨?_, ?_, ?_, ?_, ?_, ?_, ?_, ?_, ?_, trivial⟩
    · exact owes_mv 0 (by kernel_rfl) (by kernel_rfl) (by kernel_rfl) sl0 (fun _ => rfl)
    · exact owes_mv 5 (by kernel_rfl) (by kernel_rfl) (by kernel_rfl) sl5 (fun _ => rfl)
    · refine owes_v (Go.Op.indexAddr 33 (Go.Operand.tmp 17) (Go.Operand.tmp 18)) 0 [0, 1] (by kernel_rfl) (by kernel_rfl) (by kernel_rfl) rfl fun vals w1 ρ hG hF hρ hcst hfun => ?_
      have e17 : ρ (.tmp 17) = .slice (some a) N c := ((hρ 17).trans (slotJ [0, 1] (by rw [hsz]; decide) (by kernel_rfl))).trans (hF 0 (by decide))
      have e18 : ρ (.tmp 18) = .int .i64 i := ((hρ 18).trans (slotJ [0, 1] (by rw [hsz]; decide) (by kernel_rfl))).trans (hF 1 (by decide))
      clear hρ hF hcst hfun sl0 sl1 sl5 fin
      exact opv_val (by go_simp <;> rfl) ⟨gw_self _, rfl⟩
    · refine owes_v (Go.Op.load 57 (Go.Operand.tmp 19)) 57 [2] (by kernel_rfl) (by kernel_rfl) (by kernel_rfl) rfl fun vals w1 ρ hG hF hρ hcst hfun => ?_
      have e19 : ρ (.tmp 19) = .pointer (some (a.add i)) := ((hρ 19).trans (slotJ [2] (by rw [hsz]; decide) (by kernel_rfl))).trans (hF 2 (by decide))
      have k := (hG.cell (p := a.add i) (by rw [add_block]; exact ha)).trans h1
      clear hρ hF hcst hfun sl0 sl1 sl5 fin
      exact opv_val (by go_simp <;> rfl) ⟨gw_self _, rfl⟩
    · exact owes_mv 1 (by kernel_rfl) (by kernel_rfl) (by kernel_rfl) sl1 (fun _ => rfl)
    · exact owes_mv 5 (by kernel_rfl) (by kernel_rfl) (by kernel_rfl) sl5 (fun _ => rfl)
    · refine owes_v (Go.Op.indexAddr 33 (Go.Operand.tmp 21) (Go.Operand.tmp 22)) 0 [4, 5] (by kernel_rfl) (by kernel_rfl) (by kernel_rfl) rfl fun vals w1 ρ hG hF hρ hcst hfun => ?_
      have e21 : ρ (.tmp 21) = .slice (some b) N c2 := ((hρ 21).trans (slotJ [4, 5] (by rw [hsz]; decide) (by kernel_rfl))).trans (hF 4 (by decide))
      have e22 : ρ (.tmp 22) = .int .i64 i := ((hρ 22).trans (slotJ [4, 5] (by rw [hsz]; decide) (by kernel_rfl))).trans (hF 5 (by decide))
      clear hρ hF hcst hfun sl0 sl1 sl5 fin
      exact opv_val (by go_simp <;> rfl) ⟨gw_self _, rfl⟩
    · refine owes_v (Go.Op.load 57 (Go.Operand.tmp 23)) 57 [6] (by kernel_rfl) (by kernel_rfl) (by kernel_rfl) rfl fun vals w1 ρ hG hF hρ hcst hfun => ?_
      have e23 : ρ (.tmp 23) = .pointer (some (b.add i)) := ((hρ 23).trans (slotJ [6] (by rw [hsz]; decide) (by kernel_rfl))).trans (hF 6 (by decide))
      have k := (hG.cell (p := b.add i) (by rw [add_block]; exact hb)).trans h2
      clear hρ hF hcst hfun sl0 sl1 sl5 fin
      exact opv_val (by go_simp <;> rfl) ⟨gw_self _, rfl⟩
    · refine owes_v (Go.Op.binOp Go.BinOp.neq 57 (Go.Operand.tmp 20) (Go.Operand.tmp 24) 57) 4 [3, 7] (by kernel_rfl) (by kernel_rfl) (by kernel_rfl) rfl fun vals w1 ρ hG hF hρ hcst hfun => ?_
      have e20 : ρ (.tmp 20) = .int .u64 (U64 x) := ((hρ 20).trans (slotJ [3, 7] (by rw [hsz]; decide) (by kernel_rfl))).trans (hF 3 (by decide))
      have e24 : ρ (.tmp 24) = .int .u64 (U64 y) := ((hρ 24).trans (slotJ [3, 7] (by rw [hsz]; decide) (by kernel_rfl))).trans (hF 7 (by decide))
      clear hρ hF hcst hfun sl0 sl1 sl5 fin
      exact opv_val (by go_simp <;> first | rfl | exact hr | rw [hr]) ⟨gw_self _, rfl⟩
  · intro vals w1 hG hF
    exact fin vals w1 hG (hF 8 (by decide +kernel))
theorem words23_c (w : World) (A A2 : Option Addr) (c c2 : Nat) (xs ys : List (BitVec 64)) (hr : Rd u64v w w.heap.size A xs) (hr2 : Rd u64v w w.heap.size A2 ys) (hl : xs.length ≤ 1000000) (hl2 : ys.length ≤ 1000000) : Calls Try.prog 12 #[.slice A xs.length c, .slice A2 ys.length c2] w (RetP (.bool (decide (xs = ys))) w) := by
  obtain ⟨N, hN⟩ : ∃ N, N = xs.length := ⟨_, rfl⟩
  obtain ⟨M, hM⟩ : ∃ M, M = ys.length := ⟨_, rfl⟩
  have HR := Lib.hid hr
  have HR2 := Lib.hid hr2
  have q3 : (N : Int) ≤ 1000000 := by omega
  have q4 : (M : Int) ≤ 1000000 := by omega
  rw [← hN, ← hM]
  by_cases he : N = M
  · subst he
    have HNe := Lib.hid (And.intro hN hM)
    obtain ⟨R, hRR⟩ : ∃ R, R = decide (xs = ys) := ⟨_, rfl⟩
    have HRR := Lib.hid hRR
    rw [← hRR]
    clear hRR hN hM hr hr2 hl hl2
    go_enter Try.func12, Try.ntmps12
    go_wp2_with fail
    go_loopw [5] (fun i wr => ∃ k : Nat, k ≤ N ∧ i = .int .i64 k ∧ Hid (xs.take k = ys.take k) ∧ Below w.heap.size w wr) (fun i _ => N - (Go.RowKit.intOf i).toNat)
    case atStart => exact ⟨0, by omega, rfl, Lib.hid rfl, Below.refl _ _⟩
    case round =>
      obtain ⟨k, hk, rfl, ht, hB⟩ := hrel
      by_cases hlt : k < N
      · have p1 : (0 : Int) ≤ (k : Int) := by omega
        have p2 : (k : Int) < (N : Int) := by omega
        have h1 : k < xs.length := by rw [← HNe.out.1]; exact hlt
        have h2 : k < ys.length := by rw [← HNe.out.2]; exact hlt
        obtain ⟨ad, rfl, hadb, hcl⟩ := (HR.out.below hB) k h1
        obtain ⟨ad2, rfl, hadb2, hcl2⟩ := (HR2.out.below hB) k h2
        obtain ⟨x, hx⟩ : ∃ y, y = xs[k] := ⟨_, rfl⟩
        obtain ⟨y, hy⟩ : ∃ y, y = ys[k] := ⟨_, rfl⟩
        rw [← hx] at hcl
        rw [← hy] at hcl2
        unfold u64v at hcl hcl2
        have hsz := hB.size
        have HS := Lib.hid (fun Q a0 r hr => wd6 Q a0 wr ad ad2 N c c2 k x y r (by omega) (by omega) hcl hcl2 hr p1 p2)
        by_cases hxy : x = y
        · have hrf : (U64 x != U64 y) = false := by rw [hxy]; simp
          have HT := Lib.hid (take_eq_succ h1 h2 ht.out (by rw [← hx, ← hy, hxy]))
          clear hx hy hadb hadb2 hcl hcl2 h1 h2 hsz hxy
          go_wp2_with fail
          refine HS.out _ _ false hrf rfl rfl rfl rfl ?_
          intro vals w4 hG h25
          unfold IsV at h25
          simp only [putD, Act.put, List.setIfInBounds_toArray, List.set_cons_zero, List.set_cons_succ, h25]
          have HB4 := Lib.hid (hB.trans (hG.mono hB.size))
          clear h25 hG HS hrf
          go_wp2_with fail
          go_roundw
          case rel => exact ⟨k + 1, by omega, by go_num, HT, HB4.out⟩
          case measure => (first | (simp [Go.RowKit.intOf]; done) | (simp [Go.RowKit.intOf]; omega))
        · have hrf : (U64 x != U64 y) = true := by rw [bne_iff_ne]; exact fun e => hxy (U64_inj e)
          have hne : R = false := by
            rw [HRR.out, decide_eq_false_iff_not]
            intro e
            subst e
            exact hxy (hx.trans hy.symm)
          have HNE := Lib.hid hne
          clear hx hy hadb hadb2 hcl hcl2 h1 h2 hsz hxy hne
          go_wp2_with fail
          refine HS.out _ _ true hrf rfl rfl rfl rfl ?_
          intro vals w4 hG h25
          unfold IsV at h25
          simp only [putD, Act.put, List.setIfInBounds_toArray, List.set_cons_zero, List.set_cons_succ, h25]
          have HB4 := Lib.hid (hB.trans (hG.mono hB.size))
          clear h25 hG HS hrf
          go_wp2_with fail
          go_ret
          rw [HNE.out]
          exact ⟨rfl, HB4.out⟩
      · have hre : R = true := by
          rw [HRR.out, decide_eq_true_iff]
          have := ht.out
          rwa [show k = xs.length by rw [← HNe.out.1]; omega, List.take_length, show xs.length = ys.length by rw [← HNe.out.1, HNe.out.2], List.take_length] at this
        have HRE := Lib.hid hre
        clear hre
        go_wp2_with fail
        go_ret
        rw [HRE.out]
        exact ⟨rfl, hB⟩
  · have hne : decide (xs = ys) = false := by
      rw [decide_eq_false_iff_not]
      intro e
      exact he (by rw [hN, hM, e])
    rw [hne]
    have t1 : ((N : Int) != (M : Int)) = true := by simp; omega
    clear hN hM hr hr2 hl he hne HR HR2
    go_enter Try.func12, Try.ntmps12
    go_wp2_with fail
    go_ret
    exact ⟨rfl, Below.refl _ _⟩
end Go.Proofs.Ytkkjnahjmomjgaa
/- image.Decode. Conditions: at most 8192 words. -/
namespace Go.Proofs.Ytkkjnahjmomjgaa
set_option linter.unusedVariables false
set_option linter.unusedSimpArgs false
open Go.RowKit Go.Maps
set_option maxHeartbeats 8000000
set_option maxRecDepth 100000
theorem read_same {g : Gv} {ws : List (BitVec 64)} {l : List Nat} (h1 : objF ws ws.length (ws.length + 1) (2 + 5 * nR ws) = some l) (h2 : g.n.map normN = l.map (dNode ws l)) (h3 : g.r = (List.range (nR ws)).map (dRoot ws l)) {g' : Gv} (h : ckG g' = 0) (ht : endL g'.n (2 + 5 * g'.r.length) ≤ 8192) (e : encW g'.n g'.r = ws) : g.n.map normN = g'.n.map normN ∧ g.r = g'.r := by
  obtain ⟨r1, r2, r3, r4, r5⟩ := enc_read h ht
  obtain ⟨d1, d2⟩ := dec_enc h ht
  rw [e] at r2 r4 d1 d2
  rw [r2, r4] at h1
  injection h1 with h1
  rw [← h1] at h2 h3
  rw [r2] at h3
  exact ⟨h2.trans d1, h3.trans d2⟩
theorem normN_len {x y : Nv} (h : normN x = normN y) : x.ps.length = y.ps.length ∧ x.bs.length = y.bs.length := by
  unfold normN at h
  injection h with _ _ _ _ h1 h2
  exact ⟨by rw [h1], by rw [h2]⟩
theorem read_small {g : Gv} {ws : List (BitVec 64)} {l : List Nat} {b : Nat} (h8 : ws.length ≤ 8192) (h1 : objF ws ws.length (ws.length + 1) b = some l) (h2 : g.n.map normN = l.map (dNode ws l)) (h3 : g.r.length ≤ 100000) : g.Small := by
  have hl := objF_len _ _ _ h1
  have hn : g.n.length = l.length := by
    have h := congrArg List.length h2
    rwa [List.length_map, List.length_map] at h
  refine ⟨by omega, by omega, fun x hx => ?_⟩
  have hm : normN x ∈ l.map (dNode ws l) := by rw [← h2]; exact List.mem_map_of_mem hx
  obtain ⟨a, ha, e⟩ := List.mem_map.1 hm
  obtain ⟨_, _, hg⟩ := objF_mem _ _ _ h1 a ha
  obtain ⟨_, hP, hB, _, _, _⟩ := head_of hg
  have e2 : normN x = normN (dNode ws l a) := e.symm
  obtain ⟨l1, l2⟩ := normN_len e2
  rw [l1, l2]
  unfold dNode bytesM
  simp only [List.length_map, List.length_range]
  omega
def DecW (ws : List (BitVec 64)) (w : World) (r : Ending) (w' : World) : Prop :=
  (r = .returned (.tuple #[.agg #[.slice none 0 0, .slice none 0 0], .int .i64 2]) ∧ Below w.heap.size w w' ∧ BadW ws) ∨
  (∃ g : Gv, r = .returned (.tuple #[g.v, .int .i64 0]) ∧ g.At w' w'.heap.size ∧ ckG g = 0 ∧ endL g.n (2 + 5 * g.r.length) ≤ 8192 ∧ encW g.n g.r = ws ∧ Below w.heap.size w w' ∧ NOwn w' w.heap.size g.vn g.n ∧ ROwn w' w.heap.size g.vr g.r)
theorem decode_c (w : World) (A : Option Addr) (c : Nat) (ws : List (BitVec 64)) (hr : Rd u64v w w.heap.size A ws) (h8 : ws.length ≤ 8192) :
    Calls Try.prog 16 #[.slice A ws.length c] w (DecW ws w) := by
  obtain ⟨E, hE⟩ : ∃ E, E = DecW ws w := ⟨_, rfl⟩
  rw [← hE]
  have HE := Lib.hid hE
  have HRe := Lib.hid (fun W (b : Below w.heap.size w W) => read_c W A c ws ((hr.below b).more b.size) h8)
  have HX := Lib.hid (And.intro hr h8)
  obtain ⟨n, hn⟩ : ∃ n, n = ws.length := ⟨_, rfl⟩
  rw [← hn] at HRe ⊢
  have HN := Lib.hid hn
  clear hE hr h8 hn
  go_enter Try.func16, Try.ntmps16
  go_wp2_with fail
  obtain ⟨Rb, hRb⟩ : ∃ R, R = w.heap.size := ⟨_, rfl⟩
  obtain ⟨w1, hw1⟩ : ∃ W, W = w.alloc (.cells #[.slice none 0 0, .slice none 0 0] 25) := ⟨_, rfl⟩
  have hbk : Bk w1 Rb 25 #[.slice none 0 0, .slice none 0 0] := by rw [hw1, hRb]; exact Bk.new w _ _
  have b1 : Below w.heap.size w w1 := by rw [hw1]; exact Gw.alloc w _
  rw [← hw1, ← hRb]
  have HFr := Lib.hid (Nat.le_of_eq hRb.symm)
  have H1 := Lib.hid (And.intro hbk b1)
  clear hw1 hRb hbk b1
  refine Calls.mono (HRe.out w1 H1.out.2) ?_
  rintro r w2 (⟨er, her, rfl, b2, hbad⟩ | ⟨g, l, rfl, hgat, ho, hgn, hgr, hbl, b2, hno, hro⟩)
  · have H2 := Lib.hid (show Bk w2 Rb 25 #[.slice none 0 0, .slice none 0 0] ∧ Below w.heap.size w w2 from ⟨H1.out.1.below b2 H1.out.1.lt, H1.out.2.trans (b2.mono H1.out.2.size)⟩)
    have HBad := Lib.hid hbad
    have e1 : (er != 0) = true := by simpa using her
    clear b2 H1 HRe her hbad
    obtain ⟨q0, q1⟩ := H2.out.1.two
    have hRl := H2.out.1.lt
    have hfr0 := H2.out.1.free 0
    have hfr1 := H2.out.1.free 1
    go_wp2_with fail
    obtain ⟨V, hV⟩ : ∃ V, V = (((w2.setCell ⟨Rb, 0, none⟩ (.slice none 0 0)).setCell ⟨Rb, 1, none⟩ (.slice none 0 0)).alloc (.cells #[.slice none 0 0, .slice none 0 0] 25)) := ⟨_, rfl⟩
    have kR : Bk V Rb 25 #[.slice none 0 0, .slice none 0 0] := by rw [hV]; exact (two_set H2.out.1).alloc _
    have kB : Below w.heap.size w V := by rw [hV]; have kB0 := two_below (a' := .slice none 0 0) (b' := .slice none 0 0) H2.out.2 HFr.out; exact kB0.alloc kB0.size _
    have hl := run_loadVar_row (P := Try.prog) V Rb 25 25 #[.slice none 0 0, .slice none 0 0] (0, 0) _ kR Try.underlying25 rfl (by kernel_rfl)
    rw [← hV]
    clear hV q0 q1 hRl hfr0 hfr1
    refine bodyPost_ret (res2 (p := 2) (u := 3) (by kernel_rfl) hl rfl rfl) rfl ?_
    rw [HE.out]
    exact .inl ⟨rfl, kB, HBad.out⟩
  · have hsm : g.Small := read_small HX.out.2 ho hgn (by rw [hgr, List.length_map, List.length_range]; have := HX.out.2; omega)
    have H2 := Lib.hid (show Bk w2 Rb 25 #[.slice none 0 0, .slice none 0 0] ∧ Below w.heap.size w w2 from ⟨H1.out.1.below b2 H1.out.1.lt, H1.out.2.trans (b2.mono H1.out.2.size)⟩)
    have HG := Lib.hid (And.intro hgat (And.intro ho (And.intro hgn (And.intro hgr hsm))))
    have HOw := Lib.hid (show NOwn w2 w1.heap.size g.vn g.n ∧ ROwn w2 w1.heap.size g.vr g.r ∧ Rb < w1.heap.size ∧ w.heap.size ≤ w1.heap.size from ⟨hno, hro, H1.out.1.lt, H1.out.2.size⟩)
    have HEn := Lib.hid (fun W (b : Below w2.heap.size w2 W) => iencode_c W g (hgat.up b) hsm)
    clear b2 H1 HRe hgat ho hgn hgr hbl hsm hno hro
    obtain ⟨gA, gc, gA2, gc2, gns, grs⟩ := g
    obtain ⟨gN, hgN⟩ : ∃ z, z = gns.length := ⟨_, rfl⟩
    obtain ⟨gM, hgM⟩ : ∃ z, z = grs.length := ⟨_, rfl⟩
    have HGN := Lib.hid (And.intro hgN hgM)
    unfold Gv.v Gv.vn Gv.vr at HEn ⊢
    simp only at HEn ⊢
    rw [← hgN, ← hgM] at HEn ⊢
    clear hgN hgM
    go_wp2_with fail
    obtain ⟨Gb, hGb⟩ : ∃ G, G = w2.heap.size := ⟨_, rfl⟩
    obtain ⟨w3, hw3⟩ : ∃ W, W = w2.alloc (.cells #[.slice gA gN gc, .slice gA2 gM gc2] 25) := ⟨_, rfl⟩
    have hbk : Bk w3 Gb 25 #[.slice gA gN gc, .slice gA2 gM gc2] := by rw [hw3, hGb]; exact Bk.new w2 _ _
    have b3 : Below w2.heap.size w2 w3 := by rw [hw3]; exact Gw.alloc w2 _
    rw [← hw3, ← hGb]
    have H3 := Lib.hid (show Bk w3 Gb 25 #[.slice gA gN gc, .slice gA2 gM gc2] ∧ Bk w3 Rb 25 #[.slice none 0 0, .slice none 0 0] ∧ Below w.heap.size w w3 ∧ Below w2.heap.size w2 w3 ∧ Rb ≠ Gb from
      ⟨hbk, H2.out.1.below b3 H2.out.1.lt, H2.out.2.trans (b3.mono H2.out.2.size), b3, by have := H2.out.1.lt; omega⟩)
    clear hw3 hGb hbk b3
    refine Calls.mono (HEn.out w3 H3.out.2.2.2.1) ?_
    rintro r w4 (⟨hne, rfl, b4⟩ | ⟨hck, hend, v, rfl, how, b4⟩)
    · have H4 := Lib.hid (show Bk w4 Rb 25 #[.slice none 0 0, .slice none 0 0] ∧ Below w.heap.size w w4 from ⟨H3.out.2.1.below b4 H3.out.2.1.lt, H3.out.2.2.1.trans (b4.mono H3.out.2.2.1.size)⟩)
      have HBad := Lib.hid (show BadW ws from fun g' k1 k2 e => by
        obtain ⟨s1, s2⟩ := read_same (g := ⟨gA, gc, gA2, gc2, gns, grs⟩) HG.out.2.1 HG.out.2.2.1 HG.out.2.2.2.1 k1 k2 e
        obtain ⟨_, s3, s4⟩ := enc_same (g := ⟨gA, gc, gA2, gc2, gns, grs⟩) s1 s2
        apply hne
        unfold errG
        rw [s3, s4, if_pos k1, if_neg (by omega)])
      obtain ⟨er, her⟩ : ∃ er, er = errG ⟨gA, gc, gA2, gc2, gns, grs⟩ := ⟨_, rfl⟩
      rw [← her] at hne ⊢
      have e1 : (er != 0) = true := by simpa using hne
      clear b4 H3 HEn hne her
      obtain ⟨q0, q1⟩ := H4.out.1.two
      have hRl := H4.out.1.lt
      have hfr0 := H4.out.1.free 0
      have hfr1 := H4.out.1.free 1
      go_wp2_with fail
      obtain ⟨V, hV⟩ : ∃ V, V = ((w4.setCell ⟨Rb, 0, none⟩ (.slice none 0 0)).setCell ⟨Rb, 1, none⟩ (.slice none 0 0)) := ⟨_, rfl⟩
      have kR : Bk V Rb 25 #[.slice none 0 0, .slice none 0 0] := by rw [hV]; exact two_set H4.out.1
      have kB : Below w.heap.size w V := by rw [hV]; exact two_below H4.out.2 HFr.out
      have hl := run_loadVar_row (P := Try.prog) V Rb 25 25 #[.slice none 0 0, .slice none 0 0] (0, 0) _ kR Try.underlying25 rfl (by kernel_rfl)
      rw [← hV]
      clear hV q0 q1 hRl hfr0 hfr1
      refine bodyPost_ret (res2 (p := 2) (u := 3) (by kernel_rfl) hl rfl rfl) rfl ?_
      rw [HE.out]
      exact .inl ⟨rfl, kB, HBad.out⟩
    · obtain ⟨vA, vc, ev, _⟩ := how.form
      obtain ⟨vn, hvn⟩ : ∃ z, z = (encW gns grs).length := ⟨_, rfl⟩
      simp only at ev hck hend
      rw [ev] at how
      have HEq := Lib.hid (fun W (b : Below w4.heap.size w4 W) => equ_c W vA A vc c (encW gns grs) ws ((how.rd.below b).more b.size) (((HX.out.1.below (H3.out.2.2.1.trans (b4.mono H3.out.2.2.1.size))).more (Nat.le_trans H3.out.2.2.1.size b4.size)).below b |>.more b.size) (by
        have hl := encW_len gns grs (fun r hr => (goodS_size ((ckG_ok hck).2.2 r hr).1).2)
        omega))
      rw [← hvn] at ev
      rw [← hvn, ← HN.out] at HEq
      subst ev
      have H4 := Lib.hid (show Bk w4 Rb 25 #[.slice none 0 0, .slice none 0 0] ∧ Below w.heap.size w w4 ∧ Bk w4 Gb 25 #[.slice gA gN gc, .slice gA2 gM gc2] ∧ Below w2.heap.size w2 w4 from ⟨H3.out.2.1.below b4 H3.out.2.1.lt, H3.out.2.2.1.trans (b4.mono H3.out.2.2.1.size), H3.out.1.below b4 H3.out.1.lt, H3.out.2.2.2.1.trans (b4.mono H3.out.2.2.2.1.size)⟩)
      have HCk := Lib.hid (And.intro hck hend)
      clear how b4 HEn hvn hck hend
      by_cases he : encW gns grs = ws
      · have HEq1 := Lib.hid (fun W (b : Below w4.heap.size w4 W) => show Calls Try.prog 39 #[.slice vA vn vc, .slice A n c] W (RetP (.bool true) W) from by have h := HEq.out W b; rw [decide_eq_true he] at h; exact h)
        have HEe := Lib.hid he
        clear HEq he
        go_wp2_with fail
        refine Calls.mono (HEq1.out w4 (Below.refl _ _)) ?_
        rintro r w5 ⟨rfl, b5⟩
        have H5 := Lib.hid (show Bk w5 Rb 25 #[.slice none 0 0, .slice none 0 0] ∧ Below w.heap.size w w5 ∧ Bk w5 Gb 25 #[.slice gA gN gc, .slice gA2 gM gc2] ∧ Below w2.heap.size w2 w5 from ⟨H4.out.1.below b5 H4.out.1.lt, H4.out.2.1.trans (b5.mono H4.out.2.1.size), H4.out.2.2.1.below b5 H4.out.2.2.1.lt, H4.out.2.2.2.trans (b5.mono H4.out.2.2.2.size)⟩)
        clear b5 H4 HEq1
        obtain ⟨g0, g1⟩ := H5.out.2.2.1.two
        have hGl := H5.out.2.2.1.lt
        obtain ⟨q0, q1⟩ := H5.out.1.two
        have hRl := H5.out.1.lt
        have hfr0 := H5.out.1.free 0
        have hfr1 := H5.out.1.free 1
        have hne := H3.out.2.2.2.2
        go_wp2_with fail
        obtain ⟨V, hV⟩ : ∃ V, V = ((w5.setCell ⟨Rb, 0, none⟩ (.slice gA gN gc)).setCell ⟨Rb, 1, none⟩ (.slice gA2 gM gc2)) := ⟨_, rfl⟩
        have kR : Bk V Rb 25 #[.slice gA gN gc, .slice gA2 gM gc2] := by rw [hV]; exact two_set H5.out.1
        have kK : Kept (fun j => j = Rb) w5 V := by
          rw [hV]
          exact (Kept.set w5 Rb 0 _).trans (Kept.set _ Rb 1 _)
        have kB : Below w.heap.size w V := by rw [hV]; exact two_below H5.out.2.1 HFr.out
        have hl := run_loadVar_row (P := Try.prog) V Rb 25 25 #[.slice gA gN gc, .slice gA2 gM gc2] (0, 0) _ kR Try.underlying25 rfl (by kernel_rfl)
        rw [← hV]
        clear hV q0 q1 hRl hfr0 hfr1 g0 g1 hGl
        refine bodyPost_ret (res2 (p := 2) (u := 3) (by kernel_rfl) hl rfl rfl) rfl ?_
        rw [HE.out]
        have hN5 : NOwn w5 w1.heap.size (.slice gA gN gc) gns := by
          have h := HOw.out.1
          rw [HGN.out.1]
          exact h.below H5.out.2.2.2
        have hR5 : ROwn w5 w1.heap.size (.slice gA2 gM gc2) grs := by
          have h := HOw.out.2.1
          rw [HGN.out.2]
          exact h.below H5.out.2.2.2
        have hNV : NOwn V w1.heap.size (.slice gA gN gc) gns := by
          refine hN5.grown (q := Rb) ⟨kK.os, kK.tape, kK.output, kK.size, fun j hj hn => kK.block j hj (fun e => hn (by rw [e]))⟩ (fun hm => ?_)
          have := blks_ge hN5 Rb hm
          have := HOw.out.2.2.1
          omega
        have hRV : ROwn V w1.heap.size (.slice gA2 gM gc2) grs := kK.rowF hR5 (fun j hj hh => by have h9 := (World.ownsRow.lt hR5 j hj).1; have := HOw.out.2.2.1; omega)
        obtain ⟨r1, r2, r3⟩ := hNV.rows
        obtain ⟨t1, t2, t3⟩ := hRV.rows
        refine .inr ⟨⟨gA, gc, gA2, gc2, gns, grs⟩, ?_, ⟨r1, t1, r3, t3⟩, HCk.out.1, HCk.out.2, HEe.out, kB, ?_, ?_⟩
        · show _ = Ending.returned (.tuple #[.agg #[.slice gA gns.length gc, .slice gA2 grs.length gc2], .int .i64 0])
          rw [← HGN.out.1, ← HGN.out.2]
          rfl
        · show NOwn V w.heap.size (.slice gA gns.length gc) gns
          rw [← r2]
          exact hNV.mono HOw.out.2.2.2
        · show ROwn V w.heap.size (.slice gA2 grs.length gc2) grs
          rw [← t2]
          exact hRV.mono HOw.out.2.2.2
      · have HEq1 := Lib.hid (fun W (b : Below w4.heap.size w4 W) => show Calls Try.prog 39 #[.slice vA vn vc, .slice A n c] W (RetP (.bool false) W) from by have h := HEq.out W b; rw [decide_eq_false he] at h; exact h)
        have HBad := Lib.hid (show BadW ws from fun g' k1 k2 e => by
          obtain ⟨s1, s2⟩ := read_same (g := ⟨gA, gc, gA2, gc2, gns, grs⟩) HG.out.2.1 HG.out.2.2.1 HG.out.2.2.2.1 k1 k2 e
          obtain ⟨s3, _, _⟩ := enc_same (g := ⟨gA, gc, gA2, gc2, gns, grs⟩) s1 s2
          exact he (s3.trans e))
        clear HEq he
        go_wp2_with fail
        refine Calls.mono (HEq1.out w4 (Below.refl _ _)) ?_
        rintro r w5 ⟨rfl, b5⟩
        have H5 := Lib.hid (show Bk w5 Rb 25 #[.slice none 0 0, .slice none 0 0] ∧ Below w.heap.size w w5 from ⟨H4.out.1.below b5 H4.out.1.lt, H4.out.2.1.trans (b5.mono H4.out.2.1.size)⟩)
        clear b5 H4 HEq1
        obtain ⟨q0, q1⟩ := H5.out.1.two
        have hRl := H5.out.1.lt
        have hfr0 := H5.out.1.free 0
        have hfr1 := H5.out.1.free 1
        go_wp2_with fail
        obtain ⟨V, hV⟩ : ∃ V, V = ((w5.setCell ⟨Rb, 0, none⟩ (.slice none 0 0)).setCell ⟨Rb, 1, none⟩ (.slice none 0 0)) := ⟨_, rfl⟩
        have kR : Bk V Rb 25 #[.slice none 0 0, .slice none 0 0] := by rw [hV]; exact two_set H5.out.1
        have kB : Below w.heap.size w V := by rw [hV]; exact two_below H5.out.2 HFr.out
        have hl := run_loadVar_row (P := Try.prog) V Rb 25 25 #[.slice none 0 0, .slice none 0 0] (0, 0) _ kR Try.underlying25 rfl (by kernel_rfl)
        rw [← hV]
        clear hV q0 q1 hRl hfr0 hfr1
        refine bodyPost_ret (res2 (p := 2) (u := 3) (by kernel_rfl) hl rfl rfl) rfl ?_
        rw [HE.out]
        exact .inl ⟨rfl, kB, HBad.out⟩
end Go.Proofs.Ytkkjnahjmomjgaa
/- slices.Equal at roots. Conditions: lengths. -/
namespace Go.Proofs.Ytkkjnahjmomjgaa
set_option linter.unusedVariables false
set_option linter.unusedSimpArgs false
open Go.RowKit
set_option maxHeartbeats 1000000
set_option maxRecDepth 100000
def Rv.m (r : Rv) : ByteArray × Int := (r.s, r.t)
theorem Rv.m_inj {a b : Rv} (h : a.m = b.m) : a = b := by
  cases a; cases b; simp [Rv.m] at h; rw [h.1, h.2]
def sameR (xs ys : List Rv) : Bool := decide (xs.map Rv.m = ys.map Rv.m)
theorem map_inj {α β : Type} {f : α → β} (hf : ∀ a b, f a = f b → a = b) : ∀ {xs ys : List α}, xs.map f = ys.map f → xs = ys
  | [], [], _ => rfl
  | x :: xs, y :: ys, h => by
    simp only [List.map_cons, List.cons.injEq] at h
    rw [hf _ _ h.1, map_inj hf h.2]
theorem sameR_iff {xs ys : List Rv} : sameR xs ys = true ↔ xs = ys := by
  unfold sameR
  rw [decide_eq_true_iff]
  exact ⟨map_inj (fun _ _ => Rv.m_inj), fun e => by rw [e]⟩
theorem sameR_no {xs ys : List Rv} : sameR xs ys = false ↔ ¬ xs = ys := by
  rw [← sameR_iff]; simp
theorem listB_inj {s u : ByteArray} (e : s.toList = u.toList) : s = u := by
  rw [ByteArray.toList_eq, ByteArray.toList_eq] at e
  exact ByteArray.ext (Array.toList_inj.1 e)
theorem eqRt (s u : ByteArray) (x y : Int) (W : World) : (Op.equalIn 10000 56 (.agg #[.string s, .int .i64 x]) (.agg #[.string u, .int .i64 y])).run Try.prog W = .ok (decide (s = u) && decide (x = y)) W := by
  by_cases h1 : s = u <;> by_cases h2 : x = y
  all_goals go_simp
  exact fun e => h1 (listB_inj e)
theorem eqr_r (Q : Exit → Act → World → Prop) (a0 : Act) (w : World) (a b : Addr) (N c c2 i : Nat) (s u : ByteArray) (x y : Int) (r : Bool) (ha : a.block < w.heap.size) (hb : b.block < w.heap.size) (h1 : w.cell? (a.add (i * 2)) = some (.string s)) (h12 : w.cell? ⟨(a.add (i * 2)).block, (a.add (i * 2)).off + 1, none⟩ = some (.int .i64 x)) (h2 : w.cell? (b.add (i * 2)) = some (.string u)) (h22 : w.cell? ⟨(b.add (i * 2)).block, (b.add (i * 2)).off + 1, none⟩ = some (.int .i64 y)) (hr : (!(decide (s = u) && decide (x = y))) = r) (p1 : (0 : Int) ≤ (i : Int)) (p2 : (i : Int) < (N : Int)) (hsz : a0.tmps.size = 26) (sl0 : a0.tmps.getD 0 undef = .slice (some a) N c) (sl1 : a0.tmps.getD 1 undef = .slice (some b) N c2) (sl5 : a0.tmps.getD 5 undef = .int .i64 i)
    (fin : ∀ (vals : Nat → Value) (w1 : World), Below w.heap.size w w1 → (IsV (.bool r)) (vals 8) w1 → Q .normal (putD vals [16, 17, 18, 19, 20, 21, 22, 23, 24] 0 a0) w1) :
    (Code.region 6 (regIn Try.f40 6) true).wp Try.prog Q a0 w := by
  refine region_by (G := fun w w1 => Below w.heap.size w w1) [IsV (.slice (some a) N c),
    IsV (.int .i64 i),
    IsV (.pointer (some (a.add (i * 2)))),
    IsV (.agg #[.string s, .int .i64 x]),
    IsV (.slice (some b) N c2),
    IsV (.int .i64 i),
    IsV (.pointer (some (b.add (i * 2)))),
    IsV (.agg #[.string u, .int .i64 y]),
    IsV (.bool r)]
    [16, 17, 18, 19, 20, 21, 22, 23, 24] (by kernel_rfl) (Gw.drew _) Gw.trans (by rw [hsz]; kernel_rfl) (by kernel_rfl) ?_ ?_ ?_
  · intro f hf
    simp only [List.mem_cons, List.not_mem_nil, or_false] at hf
    rcases hf with rfl | rfl | rfl | rfl | rfl | rfl | rfl | rfl | rfl <;> intro v a b h g <;> first | exact IsV.mono h
  · refine ⟨?_, ?_, ?_, ?_, ?_, ?_, ?_, ?_, ?_, trivial⟩
    · exact owes_mv 0 (by kernel_rfl) (by kernel_rfl) (by kernel_rfl) sl0 (fun _ => rfl)
    · exact owes_mv 5 (by kernel_rfl) (by kernel_rfl) (by kernel_rfl) sl5 (fun _ => rfl)
    · refine owes_v (Go.Op.indexAddr 23 (Go.Operand.tmp 16) (Go.Operand.tmp 17)) 0 [0, 1] (by kernel_rfl) (by kernel_rfl) (by kernel_rfl) rfl fun vals w1 ρ hG hF hρ hcst hfun => ?_
      have e16 : ρ (.tmp 16) = .slice (some a) N c := ((hρ 16).trans (slotJ [0, 1] (by rw [hsz]; decide) (by kernel_rfl))).trans (hF 0 (by decide))
      have e17 : ρ (.tmp 17) = .int .i64 i := ((hρ 17).trans (slotJ [0, 1] (by rw [hsz]; decide) (by kernel_rfl))).trans (hF 1 (by decide))
      clear hρ hF hcst hfun sl0 sl1 sl5 fin
      exact opv_val (by go_simp <;> rfl) ⟨gw_self _, rfl⟩
    · refine owes_v (Go.Op.load 56 (Go.Operand.tmp 18)) 56 [2] (by kernel_rfl) (by kernel_rfl) (by kernel_rfl) rfl fun vals w1 ρ hG hF hρ hcst hfun => ?_
      have e18 : ρ (.tmp 18) = .pointer (some (a.add (i * 2))) := ((hρ 18).trans (slotJ [2] (by rw [hsz]; decide) (by kernel_rfl))).trans (hF 2 (by decide))
      have k := (hG.cell (p := a.add (i * 2)) (by rw [add_block]; exact ha)).trans h1
      have k2 := (hG.cell (p := ⟨(a.add (i * 2)).block, (a.add (i * 2)).off + 1, none⟩) (by show (a.add (i * 2)).block < _; rw [add_block]; exact ha)).trans h12
      clear hρ hF hcst hfun sl0 sl1 sl5 fin
      exact opv_val (by go_simp <;> rfl) ⟨gw_self _, rfl⟩
    · exact owes_mv 1 (by kernel_rfl) (by kernel_rfl) (by kernel_rfl) sl1 (fun _ => rfl)
    · exact owes_mv 5 (by kernel_rfl) (by kernel_rfl) (by kernel_rfl) sl5 (fun _ => rfl)
    · refine owes_v (Go.Op.indexAddr 23 (Go.Operand.tmp 20) (Go.Operand.tmp 21)) 0 [4, 5] (by kernel_rfl) (by kernel_rfl) (by kernel_rfl) rfl fun vals w1 ρ hG hF hρ hcst hfun => ?_
      have e20 : ρ (.tmp 20) = .slice (some b) N c2 := ((hρ 20).trans (slotJ [4, 5] (by rw [hsz]; decide) (by kernel_rfl))).trans (hF 4 (by decide))
      have e21 : ρ (.tmp 21) = .int .i64 i := ((hρ 21).trans (slotJ [4, 5] (by rw [hsz]; decide) (by kernel_rfl))).trans (hF 5 (by decide))
      clear hρ hF hcst hfun sl0 sl1 sl5 fin
      exact opv_val (by go_simp <;> rfl) ⟨gw_self _, rfl⟩
    · refine owes_v (Go.Op.load 56 (Go.Operand.tmp 22)) 56 [6] (by kernel_rfl) (by kernel_rfl) (by kernel_rfl) rfl fun vals w1 ρ hG hF hρ hcst hfun => ?_
      have e22 : ρ (.tmp 22) = .pointer (some (b.add (i * 2))) := ((hρ 22).trans (slotJ [6] (by rw [hsz]; decide) (by kernel_rfl))).trans (hF 6 (by decide))
      have k := (hG.cell (p := b.add (i * 2)) (by rw [add_block]; exact hb)).trans h2
      have k2 := (hG.cell (p := ⟨(b.add (i * 2)).block, (b.add (i * 2)).off + 1, none⟩) (by show (b.add (i * 2)).block < _; rw [add_block]; exact hb)).trans h22
      clear hρ hF hcst hfun sl0 sl1 sl5 fin
      exact opv_val (by go_simp <;> rfl) ⟨gw_self _, rfl⟩
    · refine owes_v (Go.Op.binOp Go.BinOp.neq 56 (Go.Operand.tmp 19) (Go.Operand.tmp 23) 56) 4 [3, 7] (by kernel_rfl) (by kernel_rfl) (by kernel_rfl) rfl fun vals w1 ρ hG hF hρ hcst hfun => ?_
      have e19 : ρ (.tmp 19) = .agg #[.string s, .int .i64 x] := ((hρ 19).trans (slotJ [3, 7] (by rw [hsz]; decide) (by kernel_rfl))).trans (hF 3 (by decide))
      have e23 : ρ (.tmp 23) = .agg #[.string u, .int .i64 y] := ((hρ 23).trans (slotJ [3, 7] (by rw [hsz]; decide) (by kernel_rfl))).trans (hF 7 (by decide))
      have q := eqRt s u x y
      clear hρ hF hcst hfun sl0 sl1 sl5 fin
      exact opv_val (by go_simp <;> first | rfl | exact hr | rw [hr]) ⟨gw_self _, rfl⟩
  · intro vals w1 hG hF
    exact fin vals w1 hG (hF 8 (by decide +kernel))
theorem eqr_c (w : World) (A A2 : Option Addr) (c c2 : Nat) (xs ys : List Rv) (hr : RoRow w w.heap.size A xs) (hr2 : RoRow w w.heap.size A2 ys) (hl : xs.length ≤ 1000000) : Calls Try.prog 40 #[.slice A xs.length c, .slice A2 ys.length c2] w (RetP (.bool (sameR xs ys)) w) := by
  obtain ⟨N, hN⟩ : ∃ N, N = xs.length := ⟨_, rfl⟩
  obtain ⟨M, hM⟩ : ∃ M, M = ys.length := ⟨_, rfl⟩
  have HN := Lib.hid (And.intro hN hM)
  have HR := Lib.hid hr
  have HR2 := Lib.hid hr2
  have q3 : (N : Int) ≤ 1000000 := by omega
  rw [← hN, ← hM]
  by_cases he : N = M
  · subst he
    have HNe := Lib.hid (And.intro hN hM)
    clear hN hM hr hr2 hl HN
    obtain ⟨R, hRR⟩ : ∃ R, R = sameR xs ys := ⟨_, rfl⟩
    have HRR := Lib.hid hRR
    rw [← hRR]
    clear hRR
    go_enter Try.func40, Try.ntmps40
    go_wp2_with fail
    go_loopw [13] (fun i wr => ∃ k : Nat, k ≤ N ∧ i = .int .i64 k ∧ Hid (xs.take k = ys.take k) ∧ Below w.heap.size w wr) (fun i _ => N - (Go.RowKit.intOf i).toNat)
    case atStart => exact ⟨0, by omega, rfl, Lib.hid rfl, Below.refl _ _⟩
    case round =>
      obtain ⟨k, hk, rfl, ht, hB⟩ := hrel
      by_cases hlt : k < N
      · have p1 : (0 : Int) ≤ (k : Int) := by omega
        have p2 : (k : Int) < (N : Int) := by omega
        have h1 : k < xs.length := by rw [← HNe.out.1]; exact hlt
        have h2 : k < ys.length := by rw [← HNe.out.2]; exact hlt
        obtain ⟨x, hx⟩ : ∃ y, y = xs[k] := ⟨_, rfl⟩
        obtain ⟨y, hy⟩ : ∃ y, y = ys[k] := ⟨_, rfl⟩
        obtain ⟨ad, rfl, hadb, hcl, hcl'⟩ : ∃ ad, A = some ad ∧ ad.block < w.heap.size ∧ wr.cell? (ad.add (k * 2)) = some (.string x.s) ∧ wr.cell? ⟨(ad.add (k * 2)).block, (ad.add (k * 2)).off + 1, none⟩ = some (.int .i64 x.t) := by
          obtain ⟨ad, e, h3, h1, h2⟩ := (HR.out.below hB) k h1
          exact ⟨ad, e, h3, by rw [hx]; exact h1, by rw [hx]; exact h2⟩
        obtain ⟨ad2, rfl, hadb2, hcl2, hcl2'⟩ : ∃ ad, A2 = some ad ∧ ad.block < w.heap.size ∧ wr.cell? (ad.add (k * 2)) = some (.string y.s) ∧ wr.cell? ⟨(ad.add (k * 2)).block, (ad.add (k * 2)).off + 1, none⟩ = some (.int .i64 y.t) := by
          obtain ⟨ad, e, h3, h1, h2⟩ := (HR2.out.below hB) k h2
          exact ⟨ad, e, h3, by rw [hy]; exact h1, by rw [hy]; exact h2⟩
        have hsz := hB.size
        have HS := Lib.hid (fun Q a0 r hr => eqr_r Q a0 wr ad ad2 N c c2 k x.s y.s x.t y.t r (by omega) (by omega) hcl hcl' hcl2 hcl2' hr p1 p2)
        by_cases hxy : x = y
        · have hrf : (!(decide (x.s = y.s) && decide (x.t = y.t))) = false := by simp [hxy]
          have HT := Lib.hid (take_eq_succ h1 h2 ht.out (by rw [← hx, ← hy, hxy]))
          clear hx hy hadb hadb2 hcl hcl2 hcl' hcl2' h1 h2 hsz hxy
          go_wp2_with fail
          refine HS.out _ _ false hrf rfl rfl rfl rfl ?_
          intro vals w4 hG h24
          unfold IsV at h24
          simp only [putD, Act.put, List.setIfInBounds_toArray, List.set_cons_zero, List.set_cons_succ, h24]
          have HB4 := Lib.hid (hB.trans (hG.mono hB.size))
          clear h24 hG HS hrf
          go_wp2_with fail
          go_roundw
          case rel => exact ⟨k + 1, by omega, by go_num, HT, HB4.out⟩
          case measure => (first | (simp [Go.RowKit.intOf]; done) | (simp [Go.RowKit.intOf]; omega))
        · have hrf : (!(decide (x.s = y.s) && decide (x.t = y.t))) = true := by
            cases x; cases y; simp at hxy ⊢; exact (Classical.em _).elim (fun e => .inr (hxy e)) .inl
          have hne : R = false := by
            rw [HRR.out, sameR_no]
            intro e
            subst e
            exact hxy (hx.trans hy.symm)
          have HNE := Lib.hid hne
          clear hx hy hadb hadb2 hcl hcl2 hcl' hcl2' h1 h2 hsz hxy hne
          go_wp2_with fail
          refine HS.out _ _ true hrf rfl rfl rfl rfl ?_
          intro vals w4 hG h24
          unfold IsV at h24
          simp only [putD, Act.put, List.setIfInBounds_toArray, List.set_cons_zero, List.set_cons_succ, h24]
          have HB4 := Lib.hid (hB.trans (hG.mono hB.size))
          clear h24 hG HS hrf
          go_wp2_with fail
          go_ret
          rw [HNE.out]
          exact ⟨rfl, HB4.out⟩
      · have hre : R = true := by
          rw [HRR.out, sameR_iff]
          have := ht.out
          rwa [show k = xs.length by rw [← HNe.out.1]; omega, List.take_length, show xs.length = ys.length by rw [← HNe.out.1, HNe.out.2], List.take_length] at this
        have HRE := Lib.hid hre
        clear hre
        go_wp2_with fail
        go_ret
        rw [HRE.out]
        exact ⟨rfl, hB⟩
  · have hne : sameR xs ys = false := by
      rw [sameR_no]
      intro e
      exact he (by rw [hN, hM, e])
    rw [hne]
    have t1 : ((N : Int) != (M : Int)) = true := by simp; omega
    clear hN hM hr hr2 hl he hne HN HR HR2
    go_enter Try.func40, Try.ntmps40
    go_wp2_with fail
    go_ret
    exact ⟨rfl, Below.refl _ _⟩
end Go.Proofs.Ytkkjnahjmomjgaa
/- What bytes.Equal answers. No conditions. -/
namespace Go.Proofs.Ytkkjnahjmomjgaa
set_option linter.unusedVariables false
set_option linter.unusedSimpArgs false
open Go.RowKit
set_option maxRecDepth 100000
set_option maxHeartbeats 400000
theorem equal_c (A A2 : Option Addr) (c c2 : Nat) (xs ys : List (BitVec 8)) (w : World) (h1 : Rd b8 w w.heap.size A xs) (h2 : Rd b8 w w.heap.size A2 ys) : Calls Try.prog 79 #[.slice A xs.length c, .slice A2 ys.length c2] w fun e w' => e = .returned (.bool (decide (xs = ys))) ∧ w' = w := by
  have k1 := str_conv xs A c _ w h1
  have k2 := str_conv ys A2 c2 _ w h2
  have HE := Lib.hid (show ((strB xs).toList == (strB ys).toList) = decide (xs = ys) from by
    by_cases h : xs = ys
    · subst h; simp
    · have hne : ¬ (strB xs).toList = (strB ys).toList := fun e => h (strB_inj (by
        rw [ByteArray.toList_eq, ByteArray.toList_eq] at e
        exact ByteArray.ext (Array.toList_inj.1 e)))
      simp [h, hne])
  clear h1 h2
  go_enter Try.func79, Try.ntmps79
  go_wp2_with fail
  go_ret
  exact ⟨by simpa using HE.out, rfl⟩
end Go.Proofs.Ytkkjnahjmomjgaa
/- graph.sameNode, graph.Equal. Conditions: lengths. -/
namespace Go.Proofs.Ytkkjnahjmomjgaa
set_option linter.unusedVariables false
set_option linter.unusedSimpArgs false
open Go.RowKit
def Nv.m (x : Nv) : List Int × List (BitVec 8) := (x.ps, x.bs)
def sameN (x y : Nv) : Bool := decide (x.m = y.m)
def sameNs (xs ys : List Nv) : Bool := decide (xs.map Nv.m = ys.map Nv.m)
def sameG (a b : Gv) : Bool := sameR a.r b.r && sameNs a.n b.n
set_option maxHeartbeats 1000000
set_option maxRecDepth 100000
theorem sameNode_c (w : World) (x y : Nv) (hx : x.At w w.heap.size) (hy : y.At w w.heap.size) (hl : x.ps.length ≤ 1000000) : Calls Try.prog 42 #[x.v, y.v] w (RetP (.bool (sameN x y)) w) := by
  have HEi := Lib.hid (fun W (hb : Below w.heap.size w W) => eqi_c W x.A y.A x.c y.c x.ps y.ps ((hx.p.below hb).more hb.size) ((hy.p.below hb).more hb.size) hl)
  have HEb := Lib.hid (fun W (hb : Below w.heap.size w W) => equal_c x.D y.D x.d y.d x.bs y.bs W ((hx.b.below hb).more hb.size) ((hy.b.below hb).more hb.size))
  obtain ⟨A, ca, D, da, ps, bs⟩ := x
  obtain ⟨A2, ca2, D2, da2, ps2, bs2⟩ := y
  unfold sameN Nv.m Nv.v Nv.vp Nv.vd
  simp only at HEi HEb ⊢
  obtain ⟨n, hn⟩ : ∃ n, n = ps.length := ⟨_, rfl⟩
  obtain ⟨m, hm⟩ : ∃ m, m = bs.length := ⟨_, rfl⟩
  obtain ⟨n2, hn2⟩ : ∃ n, n = ps2.length := ⟨_, rfl⟩
  obtain ⟨m2, hm2⟩ : ∃ m, m = bs2.length := ⟨_, rfl⟩
  rw [← hn, ← hn2] at HEi
  rw [← hm, ← hm2] at HEb
  rw [← hn, ← hn2, ← hm, ← hm2]
  by_cases e1 : ps = ps2
  · have e2 : decide (ps = ps2) = true := by simp [e1]
    rw [e2] at HEi
    have e3 : decide ((ps, bs) = (ps2, bs2)) = decide (bs = bs2) := by simp [e1]
    rw [e3]
    clear hx hy hl hn hm hn2 hm2 e1 e2 e3
    obtain ⟨r, hr⟩ : ∃ r, r = decide (bs = bs2) := ⟨_, rfl⟩
    rw [← hr] at HEb ⊢
    clear hr
    go_enter Try.func42, Try.ntmps42
    go_wp2_with fail
    refine Calls.mono (HEi.out _ (by repeat (first | with_reducible assumption | with_reducible exact Below.refl _ _ | with_reducible apply bdN | with_reducible apply Below.drew | with_reducible refine Below.alloc ?_ (by simp) _ | with_reducible refine Below.setCell ?_ (by simp) _))) ?_
    rintro r1 w1 ⟨rfl, b1⟩
    have hb := Lib.hid (boxed2 (k := 0) b1)
    obtain ⟨k1, k2, k3⟩ := hb.out
    have c0 := k1.two.2
    have c1 := k2.two.2
    have K3 := Lib.hid k3
    clear b1 k1 k2 k3 hb
    go_wp2_with fail
    refine Calls.mono (HEb.out _ K3.out) ?_
    rintro r2 w2 ⟨rfl, rfl⟩
    go_wp2_with fail
    go_ret
    exact ⟨rfl, K3.out⟩
  · have e2 : decide (ps = ps2) = false := by simp [e1]
    rw [e2] at HEi
    have e3 : decide ((ps, bs) = (ps2, bs2)) = false := by simp [e1]
    rw [e3]
    clear hx hy hl hn hm hn2 hm2 e1 e2 e3
    go_enter Try.func42, Try.ntmps42
    go_wp2_with fail
    refine Calls.mono (HEi.out _ (by repeat (first | with_reducible assumption | with_reducible exact Below.refl _ _ | with_reducible apply bdN | with_reducible apply Below.drew | with_reducible refine Below.alloc ?_ (by simp) _ | with_reducible refine Below.setCell ?_ (by simp) _))) ?_
    rintro r1 w1 ⟨rfl, b1⟩
    have hb := Lib.hid (boxed2 (k := 0) b1)
    have K3 := Lib.hid hb.out.2.2
    clear b1 hb
    go_wp2_with fail
    go_ret
    exact ⟨rfl, K3.out⟩
theorem sameNs_iff {xs ys : List Nv} : sameNs xs ys = true ↔ xs.map Nv.m = ys.map Nv.m := by unfold sameNs; exact decide_eq_true_iff
theorem sameNs_no {xs ys : List Nv} : sameNs xs ys = false ↔ ¬ xs.map Nv.m = ys.map Nv.m := by unfold sameNs; exact decide_eq_false_iff_not
theorem eqf_c (w : World) (A A2 : Option Addr) (c c2 : Nat) (xs ys : List Nv) (hr : NRow w w.heap.size A xs) (hr2 : NRow w w.heap.size A2 ys) (hl : xs.length ≤ 1000000) (hs : ∀ x ∈ xs, x.ps.length ≤ 1000000) : Calls Try.prog 41 #[.slice A xs.length c, .slice A2 ys.length c2, .func (.func 42) #[] #[]] w (RetP (.bool (sameNs xs ys)) w) := by
  obtain ⟨N, hN⟩ : ∃ N, N = xs.length := ⟨_, rfl⟩
  obtain ⟨M, hM⟩ : ∃ M, M = ys.length := ⟨_, rfl⟩
  have HN := Lib.hid (And.intro hN hM)
  have HR := Lib.hid hr
  have HR2 := Lib.hid hr2
  have HSm := Lib.hid hs
  have q3 : (N : Int) ≤ 1000000 := by omega
  rw [← hN, ← hM]
  by_cases he : N = M
  · subst he
    have HNe := Lib.hid (And.intro hN hM)
    clear hN hM hr hr2 hl HN hs
    obtain ⟨R, hRR⟩ : ∃ R, R = sameNs xs ys := ⟨_, rfl⟩
    have HRR := Lib.hid hRR
    rw [← hRR]
    clear hRR
    go_enter Try.func41, Try.ntmps41
    go_wp2_with fail
    go_loopw [17] (fun i wr => ∃ k : Nat, k ≤ N ∧ i = .int .i64 k ∧ Hid ((xs.map Nv.m).take k = (ys.map Nv.m).take k) ∧ Below w.heap.size w wr) (fun i _ => N - (Go.RowKit.intOf i).toNat)
    case atStart => exact ⟨0, by omega, rfl, Lib.hid rfl, Below.refl _ _⟩
    case round =>
      obtain ⟨k, hk, rfl, ht, hB⟩ := hrel
      by_cases hlt : k < N
      · have p1 : (0 : Int) ≤ (k : Int) := by omega
        have p2 : (k : Int) < (N : Int) := by omega
        have h1 : k < xs.length := by rw [← HNe.out.1]; exact hlt
        have h2 : k < ys.length := by rw [← HNe.out.2]; exact hlt
        obtain ⟨x, hx⟩ : ∃ y, y = xs[k] := ⟨_, rfl⟩
        obtain ⟨y, hy⟩ : ∃ y, y = ys[k] := ⟨_, rfl⟩
        obtain ⟨ad, rfl, hcl, hcl', hxa⟩ : ∃ ad, A = some ad ∧ wr.cell? (ad.add (k * 2)) = some x.vp ∧ wr.cell? ⟨(ad.add (k * 2)).block, (ad.add (k * 2)).off + 1, none⟩ = some x.vd ∧ x.At wr wr.heap.size := by
          obtain ⟨ad, e, h3, h1, h2, h4⟩ := (HR.out.below hB) k h1
          exact ⟨ad, e, by rw [hx]; exact h1, by rw [hx]; exact h2, by rw [hx]; exact h4.more hB.size⟩
        obtain ⟨ad2, rfl, hcl2, hcl2', hya⟩ : ∃ ad, A2 = some ad ∧ wr.cell? (ad.add (k * 2)) = some y.vp ∧ wr.cell? ⟨(ad.add (k * 2)).block, (ad.add (k * 2)).off + 1, none⟩ = some y.vd ∧ y.At wr wr.heap.size := by
          obtain ⟨ad, e, h3, h1, h2, h4⟩ := (HR2.out.below hB) k h2
          exact ⟨ad, e, by rw [hy]; exact h1, by rw [hy]; exact h2, by rw [hy]; exact h4.more hB.size⟩
        have hsz := hB.size
        have hxl := HSm.out x (by rw [hx]; exact List.getElem_mem _)
        have HC := Lib.hid (fun W (hb : Below wr.heap.size wr W) => sameNode_c W x y (hxa.up hb) (hya.up hb) hxl)
        have hnx : sameN x y = true → (xs.map Nv.m).take (k + 1) = (ys.map Nv.m).take (k + 1) := fun e => by
          refine take_eq_succ (by simpa using h1) (by simpa using h2) ht.out ?_
          rw [List.getElem_map, List.getElem_map, ← hx, ← hy]
          exact decide_eq_true_iff.1 e
        have hno : sameN x y = false → R = false := fun e => by
          rw [HRR.out, sameNs_no]
          intro e2
          have e3 : (xs.map Nv.m)[k]? = (ys.map Nv.m)[k]? := by rw [e2]
          rw [List.getElem?_map, List.getElem?_map, List.getElem?_eq_getElem h1, List.getElem?_eq_getElem h2, ← hx, ← hy] at e3
          exact decide_eq_false_iff_not.1 e (by simpa using e3)
        have HNX := Lib.hid (And.intro hnx hno)
        obtain ⟨r, hr⟩ : ∃ r, r = sameN x y := ⟨_, rfl⟩
        rw [← hr] at HC HNX
        obtain ⟨xA, xc, xD, xd, xps, xbs⟩ := x
        obtain ⟨yA, yc, yD, yd, yps, ybs⟩ := y
        unfold Nv.v Nv.vp Nv.vd at HC
        unfold Nv.vp at hcl hcl2
        unfold Nv.vd at hcl' hcl2'
        simp only at HC hcl hcl2 hcl' hcl2'
        obtain ⟨n1, hn1⟩ : ∃ n, n = xps.length := ⟨_, rfl⟩
        obtain ⟨n2, hn2⟩ : ∃ n, n = xbs.length := ⟨_, rfl⟩
        obtain ⟨n3, hn3⟩ : ∃ n, n = yps.length := ⟨_, rfl⟩
        obtain ⟨n4, hn4⟩ : ∃ n, n = ybs.length := ⟨_, rfl⟩
        rw [← hn1, ← hn2, ← hn3, ← hn4] at HC
        rw [← hn1] at hcl
        rw [← hn2] at hcl'
        rw [← hn3] at hcl2
        rw [← hn4] at hcl2'
        have hlad := cell_lt hcl2
        have hlad' : (ad2.add (k * 2)).block < wr.heap.size := hlad
        have HBB := Lib.hid hB
        clear hx hy h1 h2 hnx hno hr hxa hya hxl hn1 hn2 hn3 hn4 hB ht hlad
        cases r with
        | true =>
          have HNT := Lib.hid (HNX.out.1 rfl)
          go_wp2_with fail
          refine Calls.mono (HC.out _ (by repeat (first | with_reducible assumption | with_reducible exact Below.refl _ _ | with_reducible apply bdN | with_reducible apply Below.drew | with_reducible refine Below.alloc ?_ (by simp) _ | with_reducible refine Below.setCell ?_ (by simp) _))) ?_
          rintro r1 w1 ⟨rfl, b1⟩
          have HB4 := Lib.hid (HBB.out.trans ((boxed2 (k := 0) b1).2.2.mono hsz))
          clear b1 HC
          go_wp2_with fail
          go_roundw
          case rel => exact ⟨k + 1, by omega, by go_num, HNT, HB4.out⟩
          case measure => (first | (simp [Go.RowKit.intOf]; done) | (simp [Go.RowKit.intOf]; omega))
        | false =>
          have HNE := Lib.hid (HNX.out.2 rfl)
          go_wp2_with fail
          refine Calls.mono (HC.out _ (by repeat (first | with_reducible assumption | with_reducible exact Below.refl _ _ | with_reducible apply bdN | with_reducible apply Below.drew | with_reducible refine Below.alloc ?_ (by simp) _ | with_reducible refine Below.setCell ?_ (by simp) _))) ?_
          rintro r1 w1 ⟨rfl, b1⟩
          have HB4 := Lib.hid (HBB.out.trans ((boxed2 (k := 0) b1).2.2.mono hsz))
          clear b1 HC
          go_wp2_with fail
          go_ret
          rw [HNE.out]
          exact ⟨rfl, HB4.out⟩
      · have hre : R = true := by
          rw [HRR.out, sameNs_iff]
          have := ht.out
          rwa [List.take_of_length_le (by rw [List.length_map, ← HNe.out.1]; omega), List.take_of_length_le (by rw [List.length_map, ← HNe.out.2]; omega)] at this
        have HRE := Lib.hid hre
        clear hre
        go_wp2_with fail
        go_ret
        rw [HRE.out]
        exact ⟨rfl, hB⟩
  · have hne : sameNs xs ys = false := by
      rw [sameNs_no]
      intro e
      have := congrArg List.length e
      rw [List.length_map, List.length_map] at this
      exact he (by rw [hN, hM, this])
    rw [hne]
    have t1 : ((N : Int) != (M : Int)) = true := by simp; omega
    clear hN hM hr hr2 hl he hne HN HR HR2 hs HSm
    go_enter Try.func41, Try.ntmps41
    go_wp2_with fail
    go_ret
    exact ⟨rfl, Below.refl _ _⟩
theorem equalG_c (w : World) (a b : Gv) (ha : a.At w w.heap.size) (hb : b.At w w.heap.size) (hs : a.Small) : Calls Try.prog 17 #[a.v, b.v] w (RetP (.bool (sameG a b)) w) := by
  have HEr := Lib.hid (fun W (h : Below w.heap.size w W) => eqr_c W a.A2 b.A2 a.c2 b.c2 a.r b.r ((ha.r.below h).more h.size) ((hb.r.below h).more h.size) hs.2.1)
  have HEn := Lib.hid (fun W (h : Below w.heap.size w W) => eqf_c W a.A b.A a.c b.c a.n b.n ((ha.n.below h).more h.size) ((hb.n.below h).more h.size) hs.1 (fun x hx => (hs.2.2 x hx).1))
  obtain ⟨A, c, A2, c2, ns, rs⟩ := a
  obtain ⟨B, d, B2, d2, ms, ts⟩ := b
  unfold sameG Gv.v Gv.vn Gv.vr
  simp only at HEr HEn ⊢
  obtain ⟨n, hn⟩ : ∃ n, n = ns.length := ⟨_, rfl⟩
  obtain ⟨m, hm⟩ : ∃ m, m = rs.length := ⟨_, rfl⟩
  obtain ⟨n2, hn2⟩ : ∃ n, n = ms.length := ⟨_, rfl⟩
  obtain ⟨m2, hm2⟩ : ∃ m, m = ts.length := ⟨_, rfl⟩
  rw [← hn, ← hn2] at HEn
  rw [← hm, ← hm2] at HEr
  rw [← hn, ← hn2, ← hm, ← hm2]
  obtain ⟨r1, hr1⟩ : ∃ r, r = sameR rs ts := ⟨_, rfl⟩
  obtain ⟨r2, hr2⟩ : ∃ r, r = sameNs ns ms := ⟨_, rfl⟩
  rw [← hr1] at HEr ⊢
  rw [← hr2] at HEn ⊢
  clear ha hb hs hn hm hn2 hm2 hr1 hr2
  cases r1 with
  | true =>
    go_enter Try.func17, Try.ntmps17
    go_wp2_with fail
    refine Calls.mono (HEr.out _ (by repeat (first | with_reducible assumption | with_reducible exact Below.refl _ _ | with_reducible apply bdN | with_reducible apply Below.drew | with_reducible refine Below.alloc ?_ (by simp) _ | with_reducible refine Below.setCell ?_ (by simp) _))) ?_
    rintro r1 w1 ⟨rfl, b1⟩
    have hb := Lib.hid (boxed2 (k := 0) b1)
    obtain ⟨k1, k2, k3⟩ := hb.out
    have c0 := k1.two.1
    have c1 := k2.two.1
    have K3 := Lib.hid k3
    clear b1 k1 k2 k3 hb
    go_wp2_with fail
    refine Calls.mono (HEn.out _ K3.out) ?_
    rintro r2 w2 ⟨rfl, b2⟩
    go_wp2_with fail
    go_ret
    exact ⟨rfl, K3.out.trans (b2.mono K3.out.size)⟩
  | false =>
    go_enter Try.func17, Try.ntmps17
    go_wp2_with fail
    refine Calls.mono (HEr.out _ (by repeat (first | with_reducible assumption | with_reducible exact Below.refl _ _ | with_reducible apply bdN | with_reducible apply Below.drew | with_reducible refine Below.alloc ?_ (by simp) _ | with_reducible refine Below.setCell ?_ (by simp) _))) ?_
    rintro r1 w1 ⟨rfl, b1⟩
    have hb := Lib.hid (boxed2 (k := 0) b1)
    have K3 := Lib.hid hb.out.2.2
    clear b1 hb
    go_wp2_with fail
    go_ret
    exact ⟨rfl, K3.out⟩
end Go.Proofs.Ytkkjnahjmomjgaa
/- loamlaw23.known. No conditions. -/
namespace Go.Proofs.Ytkkjnahjmomjgaa
set_option linter.unusedVariables false
set_option linter.unusedSimpArgs false
open Go.RowKit Go.Maps
set_option maxHeartbeats 4000000
set_option maxRecDepth 100000
theorem ck_small {g : Gv} (h : ckG g = 0) (ht : endL g.n (2 + 5 * g.r.length) ≤ 8192) : g.Small := by
  obtain ⟨h1, h2, _⟩ := ckG_ok h
  have hl := endL_len g.n (2 + 5 * g.r.length)
  exact ⟨by omega, by omega, fun x hx => by have := h1 x hx; omega⟩
theorem norm_m {x y : List Nv} (h : x.map normN = y.map normN) : x.map Nv.m = y.map Nv.m := by
  have e : ∀ l : List Nv, l.map Nv.m = (l.map normN).map Nv.m := fun l => by
    rw [List.map_map]
    exact List.map_congr_left fun z _ => rfl
  rw [e x, e y, h]
theorem m_norm {x y : List Nv} (h : x.map Nv.m = y.map Nv.m) : x.map normN = y.map normN := by
  have e : ∀ l : List Nv, l.map normN = (l.map Nv.m).map (fun p => (⟨none, 0, none, 0, p.1, p.2⟩ : Nv)) := fun l => by
    rw [List.map_map]
    exact List.map_congr_left fun z _ => rfl
  rw [e x, e y, h]
theorem same_norm {a b : Gv} : sameG a b = true ↔ (a.n.map normN = b.n.map normN ∧ a.r = b.r) := by
  unfold sameG
  rw [Bool.and_eq_true, sameR_iff, sameNs_iff]
  exact ⟨fun h => ⟨m_norm h.2, h.1⟩, fun h => ⟨h.2, norm_m h.1⟩⟩
def iN1 (s : Nat) : List Nv := [⟨some ⟨s, 0, none⟩, 1, some ⟨s + 1, 0, none⟩, 1, [1], [120#8]⟩]
def iR1 : List Rv := [⟨⟨#[97]⟩, 1⟩]
def iG (s : Nat) : Gv := ⟨some ⟨s + 1 + 1, 0, none⟩, 1, some ⟨s + 1 + 1 + 1, 0, none⟩, 1, iN1 s, iR1⟩
def iW (w : World) : World := (((((w.alloc (.cells #[.int .i64 1] 3)).alloc (.cells #[.int .u8 120] 5 (1, 2))).alloc
              (.cells #[.slice (some ⟨w.heap.size, 0, none⟩) 1 1, .slice (some ⟨w.heap.size + 1, 0, none⟩) 1 1] 54)).alloc
          (.cells #[.string ⟨#[97]⟩, .int .i64 1] 56)).alloc
      (.cells #[.slice (some ⟨w.heap.size + 1 + 1, 0, none⟩) 1 1, .slice (some ⟨w.heap.size + 1 + 1 + 1, 0, none⟩) 1 1] 25))
theorem at_new23 (w : World) (o : Obj) (k : Nat) (h : k = w.heap.size) : (w.alloc o).heap[k]? = some o := by subst h; exact heap_alloc_new w o
theorem at_old23 {w : World} {o x : Obj} {k : Nat} (h : w.heap[k]? = some x) : (w.alloc o).heap[k]? = some x := by
  have hl := (Array.getElem?_eq_some_iff.1 h).1
  exact (Below.heap_alloc w o k hl).trans h
theorem iW_blocks (w : World) : (iW w).heap[w.heap.size]? = some (.cells #[.int .i64 1] 3) ∧ (iW w).heap[w.heap.size + 1]? = some (.cells #[.int .u8 120] 5 (1, 2)) ∧
    (iW w).heap[w.heap.size + 1 + 1]? = some (.cells #[.slice (some ⟨w.heap.size, 0, none⟩) 1 1, .slice (some ⟨w.heap.size + 1, 0, none⟩) 1 1] 54) ∧
    (iW w).heap[w.heap.size + 1 + 1 + 1]? = some (.cells #[.string ⟨#[97]⟩, .int .i64 1] 56) ∧
    Bk (iW w) (w.heap.size + 1 + 1 + 1 + 1) 25 #[.slice (some ⟨w.heap.size + 1 + 1, 0, none⟩) 1 1, .slice (some ⟨w.heap.size + 1 + 1 + 1, 0, none⟩) 1 1] ∧ (iW w).heap.size = w.heap.size + 5 ∧ Below w.heap.size w (iW w) := by
  unfold iW
  refine ⟨at_old23 (at_old23 (at_old23 (at_old23 (at_new23 _ _ _ rfl)))), at_old23 (at_old23 (at_old23 (at_new23 _ _ _ (by simp)))), at_old23 (at_old23 (at_new23 _ _ _ (by simp))), at_old23 (at_new23 _ _ _ (by simp)), at_new23 _ _ _ (by simp), by simp, ((((Below.refl _ w |>.alloc (Nat.le_refl _) _).alloc (by simp) _).alloc (by simp; omega) _).alloc (by simp; omega) _).alloc (by simp; omega) _⟩
theorem iG_at (w : World) : (iG w.heap.size).At (iW w) (iW w).heap.size := by
  obtain ⟨b1, b2, b3, b4, b5, hz, _⟩ := iW_blocks w
  refine ⟨fun i hi => ?_, fun i hi => ?_, by show 1 ≤ 1; omega, by show 1 ≤ 1; omega⟩
  · have hi1 : i = 0 := by have h : i < 1 := hi; omega
    subst hi1
    refine ⟨⟨w.heap.size + 1 + 1, 0, none⟩, rfl, by rw [hz]; show w.heap.size + 1 + 1 < _; omega, ?_, ?_, ⟨fun j hj => ?_, fun j hj => ?_, by show 1 ≤ 1; omega, by show 1 ≤ 1; omega⟩⟩
    · rw [addr_at, cell_of_row _ _ _ _ _ _ b3]; rfl
    · rw [addr_at]; show (iW w).cell? ⟨_, 1, none⟩ = _; rw [cell_of_row _ _ _ _ _ _ b3]; rfl
    · have : j = 0 := by have h : j < 1 := hj; omega
      subst this
      exact ⟨⟨w.heap.size, 0, none⟩, rfl, by rw [hz]; show w.heap.size < _; omega, by rw [addr_at, cell_of_row _ _ _ _ _ _ b1]; rfl⟩
    · have : j = 0 := by have h : j < 1 := hj; omega
      subst this
      exact ⟨⟨w.heap.size + 1, 0, none⟩, rfl, by rw [hz]; show w.heap.size + 1 < _; omega, by rw [addr_at, cell_of_row _ _ _ _ _ _ b2]; rfl⟩
  · have hi1 : i = 0 := by have h : i < 1 := hi; omega
    subst hi1
    refine ⟨⟨w.heap.size + 1 + 1 + 1, 0, none⟩, rfl, by rw [hz]; show w.heap.size + 1 + 1 + 1 < _; omega, ?_, ?_⟩
    · rw [addr_at, cell_of_row _ _ _ _ _ _ b4]; rfl
    · rw [addr_at]; show (iW w).cell? ⟨_, 1, none⟩ = _; rw [cell_of_row _ _ _ _ _ _ b4]; rfl
theorem iG_ck (s : Nat) : ckG (iG s) = 0 := by
  have h1 : ckNodes 1 (iN1 s) = 0 := by simp [iN1, ckNodes, ckNode, okP, hasG]
  have h2 : ckRoots 1 emptyS iR1 = 0 := by decide +kernel
  unfold ckG
  have e1 : ckNodes (iG s).n.length (iG s).n = 0 := h1
  have e2 : ckRoots (iG s).n.length emptyS (iG s).r = 0 := h2
  have e3 : ¬ 64 < (iG s).r.length := by show ¬ 64 < 1; omega
  rw [if_pos e1, if_neg e3, e2]
theorem iG_end (s : Nat) : endL (iG s).n (2 + 5 * (iG s).r.length) = 10 := by
  show endL (iN1 s) 7 = 10
  simp [iN1, endL, szG]
theorem iG_enc (s : Nat) : encW (iG s).n (iG s).r = [1296125772#64, 655361#64, 97#64, 0#64, 0#64, 0#64, 8#64, 9223372036854841346#64, 8#64, 120#64] := by
  have e : encW ((iN1 s).map normN) iR1 = encW (iN1 s) iR1 := enc_norm _ _
  show encW (iN1 s) iR1 = _
  rw [← e]
  show encW [⟨none, 0, none, 0, [1], [120#8]⟩] iR1 = _
  decide +kernel
theorem iG_need (w W : World) (h : (iG w.heap.size).At W W.heap.size) : Calls Try.prog 14 #[.agg #[.slice (some ⟨w.heap.size + 1 + 1, 0, none⟩) 1 1, .slice (some ⟨w.heap.size + 1 + 1 + 1, 0, none⟩) 1 1]] W (RetP (.int .i64 10) W) := by
  have h1 := ineed_c W (iG w.heap.size) h (ck_small (iG_ck _) (by rw [iG_end]; omega))
  have e : wordsL (iG w.heap.size).n = 3 := by simp [iG, iN1, wordsL, szN, sizeH, rightH]
  rw [e] at h1
  exact h1
theorem iG_encode (w W : World) (h : (iG w.heap.size).At W W.heap.size) : Calls Try.prog 10 #[.agg #[.slice (some ⟨w.heap.size + 1 + 1, 0, none⟩) 1 1, .slice (some ⟨w.heap.size + 1 + 1 + 1, 0, none⟩) 1 1]] W (fun r w' => ∃ v, r = .returned (.tuple #[v, .int .i64 0]) ∧ Ow u64v 57 w' W.heap.size v (encW (iG w.heap.size).n (iG w.heap.size).r) ∧ Below W.heap.size W w') := by
  refine Calls.mono (iencode_c W (iG w.heap.size) h (ck_small (iG_ck _) (by rw [iG_end]; omega))) ?_
  rintro r w' (⟨hne, _⟩ | ⟨_, _, v, rfl, how, b⟩)
  · refine absurd ?_ hne
    unfold errG
    rw [if_pos (iG_ck _), if_neg (by rw [iG_end]; omega)]
  · exact ⟨v, rfl, how, b⟩
theorem ow_iU_some {w : World} {B : Nat} {v : Value} {l : List (BitVec 64)} (h : Ow u64v 57 w B v l) (hl : 0 < l.length) : ∃ q c, v = .slice (some ⟨q, 0, none⟩) l.length c ∧ B ≤ q ∧ q < w.heap.size := by
  rcases h.2 with ⟨e, hn⟩ | ⟨g, cap, cur, e, hb, hh, hc, _⟩
  · exact absurd hn (by omega)
  · exact ⟨g, cap, e, hb, (Array.getElem?_eq_some_iff.1 hh).1⟩
theorem decode_nil (W : World) : Calls Try.prog 16 #[.slice none 0 0] W (RetP (.tuple #[.agg #[.slice none 0 0, .slice none 0 0], .int .i64 2]) W) := by
  refine Calls.mono (decode_c W none 0 [] Rd.nil (by decide)) ?_
  rintro r w' (⟨rfl, b, _⟩ | ⟨g, _, _, hck, hend, e, _⟩)
  · exact ⟨rfl, b⟩
  · have h := (enc_read hck hend).1
    rw [e] at h
    exact absurd h (by decide)
theorem known23_c (w : World) : Calls Try.prog 7 #[] w (RetP (.bool true) w) := by
  have kc := Joins.run_convert_bytes_const_at (P := Try.prog) (w.alloc (.cells #[.int .i64 1] 3)) 52 5 #[.int .u8 120] 1 1 (w.heap.size + 1) (by simp) Try.underlying52 Try.underlying5
  have HB := Lib.hid (iW_blocks w)
  have HGA := Lib.hid (iG_at w)
  have HDn := Lib.hid decode_nil
  have HEn := Lib.hid (fun W h => iG_encode w W h)
  have HNd := Lib.hid (fun W h => iG_need w W h)
  go_enter Try.func7, Try.ntmps7
  go_wp2_with fail
  refine Calls.mono (HEn.out (iW w) HGA.out) ?_
  clear kc
  obtain ⟨KW, hKW⟩ : ∃ K, K = iW w := ⟨_, rfl⟩
  rw [← hKW] at HB HGA ⊢
  clear hKW
  rintro r w2 ⟨v, rfl, how, b2⟩
  obtain ⟨q, c, ev, hq1, hq2⟩ := ow_iU_some how (by rw [iG_enc]; decide)
  subst ev
  have hl10 : (encW (iG w.heap.size).n (iG w.heap.size).r).length = 10 := by rw [iG_enc]; rfl
  have HRd := Lib.hid (show Rd u64v w2 w2.heap.size (some ⟨q, 0, none⟩) (encW (iG w.heap.size).n (iG w.heap.size).r) from how.rd)
  have HCl := Lib.hid (show w2.cell? ⟨q, 0, none⟩ = some (.int .u64 1296125772) ∧ w2.cell? ⟨q, 1, none⟩ = some (.int .u64 655361) ∧ w2.cell? ⟨q, 2, none⟩ = some (.int .u64 97) ∧ w2.cell? ⟨q, 6, none⟩ = some (.int .u64 8) ∧ w2.cell? ⟨q, 8, none⟩ = some (.int .u64 8) ∧ w2.cell? ⟨q, 9, none⟩ = some (.int .u64 120) ∧ q < w2.heap.size from by
    rw [iG_enc] at how
    exact ⟨how.cell (j := 0) (by decide), how.cell (j := 1) (by decide), how.cell (j := 2) (by decide), how.cell (j := 6) (by decide), how.cell (j := 8) (by decide), how.cell (j := 9) (by decide), hq2⟩)
  have H2 := Lib.hid (show Bk w2 (w.heap.size + 1 + 1 + 1 + 1) 25 #[.slice (some ⟨w.heap.size + 1 + 1, 0, none⟩) 1 1, .slice (some ⟨w.heap.size + 1 + 1 + 1, 0, none⟩) 1 1] ∧ (iG w.heap.size).At w2 w2.heap.size ∧ Below w.heap.size w w2 from
    ⟨HB.out.2.2.2.2.1.below b2 HB.out.2.2.2.2.1.lt, HGA.out.up b2, HB.out.2.2.2.2.2.2.trans (b2.mono HB.out.2.2.2.2.2.2.size)⟩)
  have HDc := Lib.hid (fun W (b : Below w2.heap.size w2 W) => decode_c W (some ⟨q, 0, none⟩) c (encW (iG w.heap.size).n (iG w.heap.size).r) ((HRd.out.below b).more b.size) (by rw [hl10]; decide))
  rw [hl10] at HDc ⊢
  clear how b2 hq1 hq2 hl10 HGA HB HEn
  go_wp2_with fail
  refine Calls.mono (HDc.out w2 (Below.refl _ _)) ?_
  rintro r w3 (⟨_, _, hbad⟩ | ⟨h, rfl, hat, hck, hend, he, b3, _, _⟩)
  · exact absurd rfl (hbad (iG w.heap.size) (iG_ck _) (by rw [iG_end]; omega))
  · obtain ⟨s1, s2⟩ := enc_inj hck hend (iG_ck w.heap.size) (by rw [iG_end]; omega) he
    have HSm := Lib.hid (same_norm.2 ⟨s1, s2⟩)
    have HHa := Lib.hid (And.intro hat (ck_small hck hend))
    have hcl := HCl.out
    have H3 := Lib.hid (show Bk w3 (w.heap.size + 1 + 1 + 1 + 1) 25 #[.slice (some ⟨w.heap.size + 1 + 1, 0, none⟩) 1 1, .slice (some ⟨w.heap.size + 1 + 1 + 1, 0, none⟩) 1 1] ∧ (iG w.heap.size).At w3 w3.heap.size ∧ Below w.heap.size w w3 ∧ Below w2.heap.size w2 w3 from
      ⟨H2.out.1.below b3 H2.out.1.lt, H2.out.2.1.up b3, H2.out.2.2.trans (b3.mono H2.out.2.2.size), b3⟩)
    have HEq := Lib.hid (fun W (b : Below w3.heap.size w3 W) => show Calls Try.prog 17 #[h.v, (iG w.heap.size).v] W (RetP (.bool true) W) from by
      have h1 := equalG_c W h (iG w.heap.size) (HHa.out.1.up b) (H3.out.2.1.up b) HHa.out.2
      rw [HSm.out] at h1
      exact h1)
    obtain ⟨gA, gc, gA2, gc2, gns, grs⟩ := h
    obtain ⟨gN, hgN⟩ : ∃ z, z = gns.length := ⟨_, rfl⟩
    obtain ⟨gM, hgM⟩ : ∃ z, z = grs.length := ⟨_, rfl⟩
    unfold Gv.v Gv.vn Gv.vr at HEq ⊢
    simp only at HEq ⊢
    rw [← hgN, ← hgM] at HEq ⊢
    clear hat hck hend he b3 s1 s2 HSm HHa hgN hgM hcl HDc H2
    go_wp2_with fail
    obtain ⟨Hb, hHb⟩ : ∃ G, G = w3.heap.size := ⟨_, rfl⟩
    obtain ⟨w4, hw4⟩ : ∃ W, W = w3.alloc (.cells #[.slice gA gN gc, .slice gA2 gM gc2] 25) := ⟨_, rfl⟩
    have hbk : Bk w4 Hb 25 #[.slice gA gN gc, .slice gA2 gM gc2] := by rw [hw4, hHb]; exact Bk.new w3 _ _
    have b4 : Below w3.heap.size w3 w4 := by rw [hw4]; exact Gw.alloc w3 _
    rw [← hw4, ← hHb]
    have H4 := Lib.hid (And.intro hbk b4)
    clear hw4 hHb hbk b4
    refine Calls.mono (HDn.out w4) ?_
    rintro r w5 ⟨rfl, b5⟩
    have H5 := Lib.hid (show Bk w5 Hb 25 #[.slice gA gN gc, .slice gA2 gM gc2] ∧ Below w3.heap.size w3 w5 from ⟨H4.out.1.below b5 H4.out.1.lt, H4.out.2.trans (b5.mono H4.out.2.size)⟩)
    clear b5 H4
    have b25 : Below w2.heap.size w2 w5 := H3.out.2.2.2.trans (H5.out.2.mono H3.out.2.2.2.size)
    obtain ⟨d0, d1, d2, d6, d8, d9, hq⟩ := HCl.out
    have e0 := (b25.cell (p := ⟨q, 0, none⟩) hq).trans d0
    have e1 := (b25.cell (p := ⟨q, 1, none⟩) hq).trans d1
    have e2 := (b25.cell (p := ⟨q, 2, none⟩) hq).trans d2
    have e6 := (b25.cell (p := ⟨q, 6, none⟩) hq).trans d6
    have e8 := (b25.cell (p := ⟨q, 8, none⟩) hq).trans d8
    have e9 := (b25.cell (p := ⟨q, 9, none⟩) hq).trans d9
    have hq5 : q < w5.heap.size := Nat.lt_of_lt_of_le hq b25.size
    obtain ⟨x0, x1⟩ := H5.out.1.two
    have hHl := H5.out.1.lt
    have hb5 := H3.out.1.below H5.out.2 H3.out.1.lt
    obtain ⟨y0, y1⟩ := hb5.two
    have hGl := hb5.lt
    clear b25 d0 d1 d2 d6 d8 d9 hq
    have HEqA := Lib.hid (fun W (b : Below w5.heap.size w5 W) => HEq.out W (H5.out.2.trans (b.mono H5.out.2.size)))
    have HNdA := Lib.hid (fun W (b : Below w5.heap.size w5 W) => HNd.out W ((H3.out.2.1.up H5.out.2).up b))
    have HB5 := Lib.hid (show Below w.heap.size w w5 from H3.out.2.2.1.trans (H5.out.2.mono H3.out.2.2.1.size))
    have HBk := Lib.hid hb5
    clear hb5 HEq HNd
    go_wp2_with fail
    refine Calls.mono (HEqA.out _ (Gw.alloc w5 _)) ?_
    rintro r w6 ⟨rfl, b6⟩
    have b56 : Below w5.heap.size w5 w6 := (Gw.alloc w5 (.cells #[.slice none 0 0, .slice none 0 0] 25)).trans (b6.mono (Gw.alloc w5 _).size)
    have hb6 := HBk.out.below b56 HBk.out.lt
    obtain ⟨y0, y1⟩ := hb6.two
    have hGl := hb6.lt
    have HB6 := Lib.hid b56
    clear b6 b56 hb6 e0 e1 e2 e6 e8 e9
    go_wp2_with fail
    refine Calls.mono (HNdA.out w6 HB6.out) ?_
    rintro r w7 ⟨rfl, b7⟩
    have HB7 := Lib.hid (HB5.out.trans ((HB6.out.trans (b7.mono HB6.out.size)).mono HB5.out.size))
    clear b7
    go_wp2_with fail
    go_ret
    exact ⟨rfl, HB7.out⟩
end Go.Proofs.Ytkkjnahjmomjgaa
/- The reference's Equal at graphs. Conditions: lengths. -/
namespace Go.Proofs.Ytkkjnahjmomjgaa
set_option linter.unusedVariables false
set_option linter.unusedSimpArgs false
open Go.RowKit Go.Maps
set_option maxHeartbeats 4000000
set_option maxRecDepth 100000
theorem req_r (Q : Exit → Act → World → Prop) (a0 : Act) (w : World) (bx bY : Nat) (a b : Addr) (N xc yc i : Nat) (xD yD : Value) (x y : Int) (r : Bool) (hx : Hid (∀ W, Below w.heap.size w W → W.cell? ⟨bx, 0, none⟩ = some (.slice (some a) N xc) ∧ W.cell? (a.add i) = some (.int .i64 x))) (hy : Hid (∀ W, Below w.heap.size w W → W.cell? ⟨bY, 0, none⟩ = some (.slice (some b) N yc) ∧ W.cell? (b.add i) = some (.int .i64 y))) (hr : (x != y) = r) (p1 : (0 : Int) ≤ (i : Int)) (p2 : (i : Int) < (N : Int)) (hsz : a0.tmps.size = 112) (sl6 : a0.tmps.getD 6 undef = .pointer (some ⟨bx, 0, none⟩)) (sl7 : a0.tmps.getD 7 undef = .pointer (some ⟨bY, 0, none⟩)) (sl8 : a0.tmps.getD 8 undef = .int .i64 i)
    (fin : ∀ (vals : Nat → Value) (w1 : World), Below w.heap.size w w1 → (IsV (.bool r)) (vals 10) w1 → Q .normal (putD vals [66, 67, 68, 69, 70, 71, 72, 73, 74, 75, 76] 0 a0) w1) :
    (Code.region 13 (regIn Try.f19 13) true).wp Try.prog Q a0 w := by
  refine region_by (G := fun w w1 => Below w.heap.size w w1) [IsV (.pointer (some ⟨bx, 0, none⟩)),
    IsV (.slice (some a) N xc),
    IsV (.int .i64 i),
    IsV (.pointer (some (a.add i))),
    IsV (.int .i64 x),
    IsV (.pointer (some ⟨bY, 0, none⟩)),
    IsV (.slice (some b) N yc),
    IsV (.int .i64 i),
    IsV (.pointer (some (b.add i))),
    IsV (.int .i64 y),
    IsV (.bool r)]
    [66, 67, 68, 69, 70, 71, 72, 73, 74, 75, 76] (by kernel_rfl) (Gw.drew _) Gw.trans (by rw [hsz]; kernel_rfl) (by kernel_rfl) ?_ ?_ ?_
  · intro f hf
    simp only [List.mem_cons, List.not_mem_nil, or_false] at hf
    rcases hf with rfl | rfl | rfl | rfl | rfl | rfl | rfl | rfl | rfl | rfl | rfl <;> intro v a b h g <;> first | exact IsV.mono h
  · refine ⟨?_, ?_, ?_, ?_, ?_, ?_, ?_, ?_, ?_, ?_, ?_, trivial⟩
    · refine owes_v (Go.Op.fieldAddr 58 (Go.Operand.tmp 6) 0) 0 [] (by kernel_rfl) (by kernel_rfl) (by kernel_rfl) rfl fun vals w1 ρ hG hF hρ hcst hfun => ?_
      have e6 : ρ (.tmp 6) = .pointer (some ⟨bx, 0, none⟩) := ((hρ 6).trans (slotO [] (by kernel_rfl))).trans sl6
      clear hρ hF hcst hfun sl6 sl7 sl8 fin
      exact opv_val (by go_simp <;> rfl) ⟨gw_self _, rfl⟩
    · refine owes_v (Go.Op.load 49 (Go.Operand.tmp 66)) 49 [0] (by kernel_rfl) (by kernel_rfl) (by kernel_rfl) rfl fun vals w1 ρ hG hF hρ hcst hfun => ?_
      have e66 : ρ (.tmp 66) = .pointer (some ⟨bx, 0, none⟩) := ((hρ 66).trans (slotJ [0] (by rw [hsz]; decide) (by kernel_rfl))).trans (hF 0 (by decide))
      have k := (hx.out w1 hG).1
      clear hρ hF hcst hfun sl6 sl7 sl8 fin
      exact opv_val (by go_simp <;> rfl) ⟨gw_self _, rfl⟩
    · exact owes_mv 8 (by kernel_rfl) (by kernel_rfl) (by kernel_rfl) sl8 (fun _ => rfl)
    · refine owes_v (Go.Op.indexAddr 49 (Go.Operand.tmp 67) (Go.Operand.tmp 68)) 0 [1, 2] (by kernel_rfl) (by kernel_rfl) (by kernel_rfl) rfl fun vals w1 ρ hG hF hρ hcst hfun => ?_
      have e67 : ρ (.tmp 67) = .slice (some a) N xc := ((hρ 67).trans (slotJ [1, 2] (by rw [hsz]; decide) (by kernel_rfl))).trans (hF 1 (by decide))
      have e68 : ρ (.tmp 68) = .int .i64 i := ((hρ 68).trans (slotJ [1, 2] (by rw [hsz]; decide) (by kernel_rfl))).trans (hF 2 (by decide))
      clear hρ hF hcst hfun sl6 sl7 sl8 fin
      exact opv_val (by go_simp <;> rfl) ⟨gw_self _, rfl⟩
    · refine owes_v (Go.Op.load 3 (Go.Operand.tmp 69)) 3 [3] (by kernel_rfl) (by kernel_rfl) (by kernel_rfl) rfl fun vals w1 ρ hG hF hρ hcst hfun => ?_
      have e69 : ρ (.tmp 69) = .pointer (some (a.add i)) := ((hρ 69).trans (slotJ [3] (by rw [hsz]; decide) (by kernel_rfl))).trans (hF 3 (by decide))
      have k := (hx.out w1 hG).2
      clear hρ hF hcst hfun sl6 sl7 sl8 fin
      exact opv_val (by go_simp <;> rfl) ⟨gw_self _, rfl⟩
    · refine owes_v (Go.Op.fieldAddr 58 (Go.Operand.tmp 7) 0) 0 [] (by kernel_rfl) (by kernel_rfl) (by kernel_rfl) rfl fun vals w1 ρ hG hF hρ hcst hfun => ?_
      have e7 : ρ (.tmp 7) = .pointer (some ⟨bY, 0, none⟩) := ((hρ 7).trans (slotO [] (by kernel_rfl))).trans sl7
      clear hρ hF hcst hfun sl6 sl7 sl8 fin
      exact opv_val (by go_simp <;> rfl) ⟨gw_self _, rfl⟩
    · refine owes_v (Go.Op.load 49 (Go.Operand.tmp 71)) 49 [5] (by kernel_rfl) (by kernel_rfl) (by kernel_rfl) rfl fun vals w1 ρ hG hF hρ hcst hfun => ?_
      have e71 : ρ (.tmp 71) = .pointer (some ⟨bY, 0, none⟩) := ((hρ 71).trans (slotJ [5] (by rw [hsz]; decide) (by kernel_rfl))).trans (hF 5 (by decide))
      have k := (hy.out w1 hG).1
      clear hρ hF hcst hfun sl6 sl7 sl8 fin
      exact opv_val (by go_simp <;> rfl) ⟨gw_self _, rfl⟩
    · exact owes_mv 8 (by kernel_rfl) (by kernel_rfl) (by kernel_rfl) sl8 (fun _ => rfl)
    · refine owes_v (Go.Op.indexAddr 49 (Go.Operand.tmp 72) (Go.Operand.tmp 73)) 0 [6, 7] (by kernel_rfl) (by kernel_rfl) (by kernel_rfl) rfl fun vals w1 ρ hG hF hρ hcst hfun => ?_
      have e72 : ρ (.tmp 72) = .slice (some b) N yc := ((hρ 72).trans (slotJ [6, 7] (by rw [hsz]; decide) (by kernel_rfl))).trans (hF 6 (by decide))
      have e73 : ρ (.tmp 73) = .int .i64 i := ((hρ 73).trans (slotJ [6, 7] (by rw [hsz]; decide) (by kernel_rfl))).trans (hF 7 (by decide))
      clear hρ hF hcst hfun sl6 sl7 sl8 fin
      exact opv_val (by go_simp <;> rfl) ⟨gw_self _, rfl⟩
    · refine owes_v (Go.Op.load 3 (Go.Operand.tmp 74)) 3 [8] (by kernel_rfl) (by kernel_rfl) (by kernel_rfl) rfl fun vals w1 ρ hG hF hρ hcst hfun => ?_
      have e74 : ρ (.tmp 74) = .pointer (some (b.add i)) := ((hρ 74).trans (slotJ [8] (by rw [hsz]; decide) (by kernel_rfl))).trans (hF 8 (by decide))
      have k := (hy.out w1 hG).2
      clear hρ hF hcst hfun sl6 sl7 sl8 fin
      exact opv_val (by go_simp <;> rfl) ⟨gw_self _, rfl⟩
    · refine owes_v (Go.Op.binOp Go.BinOp.neq 3 (Go.Operand.tmp 70) (Go.Operand.tmp 75) 3) 4 [4, 9] (by kernel_rfl) (by kernel_rfl) (by kernel_rfl) rfl fun vals w1 ρ hG hF hρ hcst hfun => ?_
      have e70 : ρ (.tmp 70) = .int .i64 x := ((hρ 70).trans (slotJ [4, 9] (by rw [hsz]; decide) (by kernel_rfl))).trans (hF 4 (by decide))
      have e75 : ρ (.tmp 75) = .int .i64 y := ((hρ 75).trans (slotJ [4, 9] (by rw [hsz]; decide) (by kernel_rfl))).trans (hF 9 (by decide))
      clear hρ hF hcst hfun sl6 sl7 sl8 fin
      exact opv_val (by go_simp <;> first | rfl | exact hr | rw [hr]) ⟨gw_self _, rfl⟩
  · intro vals w1 hG hF
    exact fin vals w1 hG (hF 10 (by decide +kernel))
theorem reqa_r (Q : Exit → Act → World → Prop) (a0 : Act) (w : World) (bx bY : Nat) (a b : Addr) (M xc yc i : Nat) (s u : ByteArray) (hx : Hid (∀ W, Below w.heap.size w W → W.cell? ⟨bx, 1, none⟩ = some (.slice (some a) M xc) ∧ W.cell? (a.add (i * 2)) = some (.string s))) (hy : Hid (∀ W, Below w.heap.size w W → W.cell? ⟨bY, 1, none⟩ = some (.slice (some b) M yc) ∧ W.cell? (b.add (i * 2)) = some (.string u))) (hr : ¬ s.toList = u.toList) (p1 : (0 : Int) ≤ (i : Int)) (p2 : (i : Int) < (M : Int)) (hsz : a0.tmps.size = 112) (sl2 : a0.tmps.getD 2 undef = .pointer (some ⟨bx, 0, none⟩)) (sl3 : a0.tmps.getD 3 undef = .pointer (some ⟨bY, 0, none⟩)) (sl9 : a0.tmps.getD 9 undef = .int .i64 i)
    (fin : ∀ (vals : Nat → Value) (w1 : World), Below w.heap.size w w1 → (IsV (.bool true)) (vals 27) w1 → Q .normal (putD vals [84, 85, 86, 87, 88, 89, 90, 91, 92, 93, 94, 95, 96, 97, 98, 99, 100, 101, 102, 103, 104, 105, 106, 107, 108, 109, 110, 111] 0 a0) w1) :
    (Code.region 18 (regIn Try.f19 18) true).wp Try.prog Q a0 w := by
  refine region_by (G := fun w w1 => Below w.heap.size w w1) [IsV (.pointer (some ⟨bx, 1, none⟩)),
    IsV (.slice (some a) M xc),
    IsV (.int .i64 i),
    IsV (.pointer (some (a.add (i * 2)))),
    IsV (.pointer (some (a.add (i * 2)))),
    IsV (.string s),
    IsV (.pointer (some ⟨bY, 1, none⟩)),
    IsV (.slice (some b) M yc),
    IsV (.int .i64 i),
    IsV (.pointer (some (b.add (i * 2)))),
    IsV (.pointer (some (b.add (i * 2)))),
    IsV (.string u),
    IsV (.bool true),
    IsV (.bool true),
    IsV undef,
    IsV undef,
    IsV undef,
    IsV undef,
    IsV undef,
    IsV undef,
    IsV undef,
    IsV undef,
    IsV undef,
    IsV undef,
    IsV undef,
    IsV undef,
    IsV undef,
    IsV (.bool true)]
    [84, 85, 86, 87, 88, 89, 90, 91, 92, 93, 94, 95, 96, 97, 98, 99, 100, 101, 102, 103, 104, 105, 106, 107, 108, 109, 110, 111] (by kernel_rfl) (Gw.drew _) Gw.trans (by rw [hsz]; kernel_rfl) (by kernel_rfl) ?_ ?_ ?_
  · intro f hf
    simp only [List.mem_cons, List.not_mem_nil, or_false] at hf
    rcases hf with rfl | rfl | rfl | rfl | rfl | rfl | rfl | rfl | rfl | rfl | rfl | rfl | rfl | rfl | rfl | rfl | rfl | rfl | rfl | rfl | rfl | rfl | rfl | rfl | rfl | rfl | rfl | rfl <;> intro v a b h g <;> first | exact IsV.mono h
  · refine ⟨?_, ?_, ?_, ?_, ?_, ?_, ?_, ?_, ?_, ?_, ?_, ?_, ?_, ?_, ?_, ?_, ?_, ?_, ?_, ?_, ?_, ?_, ?_, ?_, ?_, ?_, ?_, ?_, trivial⟩
    · refine owes_v (Go.Op.fieldAddr 31 (Go.Operand.tmp 2) 1) 0 [] (by kernel_rfl) (by kernel_rfl) (by kernel_rfl) rfl fun vals w1 ρ hG hF hρ hcst hfun => ?_
      have e2 : ρ (.tmp 2) = .pointer (some ⟨bx, 0, none⟩) := ((hρ 2).trans (slotO [] (by kernel_rfl))).trans sl2
      clear hρ hF hcst hfun sl2 sl3 sl9 fin
      exact opv_val (by go_simp <;> rfl) ⟨gw_self _, rfl⟩
    · refine owes_v (Go.Op.load 29 (Go.Operand.tmp 84)) 29 [0] (by kernel_rfl) (by kernel_rfl) (by kernel_rfl) rfl fun vals w1 ρ hG hF hρ hcst hfun => ?_
      have e84 : ρ (.tmp 84) = .pointer (some ⟨bx, 1, none⟩) := ((hρ 84).trans (slotJ [0] (by rw [hsz]; decide) (by kernel_rfl))).trans (hF 0 (by decide))
      have k := (hx.out w1 hG).1
      clear hρ hF hcst hfun sl2 sl3 sl9 fin
      exact opv_val (by go_simp <;> rfl) ⟨gw_self _, rfl⟩
    · exact owes_mv 9 (by kernel_rfl) (by kernel_rfl) (by kernel_rfl) sl9 (fun _ => rfl)
    · refine owes_v (Go.Op.indexAddr 29 (Go.Operand.tmp 85) (Go.Operand.tmp 86)) 0 [1, 2] (by kernel_rfl) (by kernel_rfl) (by kernel_rfl) rfl fun vals w1 ρ hG hF hρ hcst hfun => ?_
      have e85 : ρ (.tmp 85) = .slice (some a) M xc := ((hρ 85).trans (slotJ [1, 2] (by rw [hsz]; decide) (by kernel_rfl))).trans (hF 1 (by decide))
      have e86 : ρ (.tmp 86) = .int .i64 i := ((hρ 86).trans (slotJ [1, 2] (by rw [hsz]; decide) (by kernel_rfl))).trans (hF 2 (by decide))
      clear hρ hF hcst hfun sl2 sl3 sl9 fin
      exact opv_val (by go_simp <;> rfl) ⟨gw_self _, rfl⟩
    · refine owes_v (Go.Op.fieldAddr 59 (Go.Operand.tmp 87) 0) 0 [3] (by kernel_rfl) (by kernel_rfl) (by kernel_rfl) rfl fun vals w1 ρ hG hF hρ hcst hfun => ?_
      have e87 : ρ (.tmp 87) = .pointer (some (a.add (i * 2))) := ((hρ 87).trans (slotJ [3] (by rw [hsz]; decide) (by kernel_rfl))).trans (hF 3 (by decide))
      clear hρ hF hcst hfun sl2 sl3 sl9 fin
      exact opv_val (by go_simp <;> rfl) ⟨gw_self _, rfl⟩
    · refine owes_v (Go.Op.load 9 (Go.Operand.tmp 88)) 9 [4] (by kernel_rfl) (by kernel_rfl) (by kernel_rfl) rfl fun vals w1 ρ hG hF hρ hcst hfun => ?_
      have e88 : ρ (.tmp 88) = .pointer (some (a.add (i * 2))) := ((hρ 88).trans (slotJ [4] (by rw [hsz]; decide) (by kernel_rfl))).trans (hF 4 (by decide))
      have k := (hx.out w1 hG).2
      clear hρ hF hcst hfun sl2 sl3 sl9 fin
      exact opv_val (by go_simp <;> rfl) ⟨gw_self _, rfl⟩
    · refine owes_v (Go.Op.fieldAddr 31 (Go.Operand.tmp 3) 1) 0 [] (by kernel_rfl) (by kernel_rfl) (by kernel_rfl) rfl fun vals w1 ρ hG hF hρ hcst hfun => ?_
      have e3 : ρ (.tmp 3) = .pointer (some ⟨bY, 0, none⟩) := ((hρ 3).trans (slotO [] (by kernel_rfl))).trans sl3
      clear hρ hF hcst hfun sl2 sl3 sl9 fin
      exact opv_val (by go_simp <;> rfl) ⟨gw_self _, rfl⟩
    · refine owes_v (Go.Op.load 29 (Go.Operand.tmp 90)) 29 [6] (by kernel_rfl) (by kernel_rfl) (by kernel_rfl) rfl fun vals w1 ρ hG hF hρ hcst hfun => ?_
      have e90 : ρ (.tmp 90) = .pointer (some ⟨bY, 1, none⟩) := ((hρ 90).trans (slotJ [6] (by rw [hsz]; decide) (by kernel_rfl))).trans (hF 6 (by decide))
      have k := (hy.out w1 hG).1
      clear hρ hF hcst hfun sl2 sl3 sl9 fin
      exact opv_val (by go_simp <;> rfl) ⟨gw_self _, rfl⟩
    · exact owes_mv 9 (by kernel_rfl) (by kernel_rfl) (by kernel_rfl) sl9 (fun _ => rfl)
    · refine owes_v (Go.Op.indexAddr 29 (Go.Operand.tmp 91) (Go.Operand.tmp 92)) 0 [7, 8] (by kernel_rfl) (by kernel_rfl) (by kernel_rfl) rfl fun vals w1 ρ hG hF hρ hcst hfun => ?_
      have e91 : ρ (.tmp 91) = .slice (some b) M yc := ((hρ 91).trans (slotJ [7, 8] (by rw [hsz]; decide) (by kernel_rfl))).trans (hF 7 (by decide))
      have e92 : ρ (.tmp 92) = .int .i64 i := ((hρ 92).trans (slotJ [7, 8] (by rw [hsz]; decide) (by kernel_rfl))).trans (hF 8 (by decide))
      clear hρ hF hcst hfun sl2 sl3 sl9 fin
      exact opv_val (by go_simp <;> rfl) ⟨gw_self _, rfl⟩
    · refine owes_v (Go.Op.fieldAddr 59 (Go.Operand.tmp 93) 0) 0 [9] (by kernel_rfl) (by kernel_rfl) (by kernel_rfl) rfl fun vals w1 ρ hG hF hρ hcst hfun => ?_
      have e93 : ρ (.tmp 93) = .pointer (some (b.add (i * 2))) := ((hρ 93).trans (slotJ [9] (by rw [hsz]; decide) (by kernel_rfl))).trans (hF 9 (by decide))
      clear hρ hF hcst hfun sl2 sl3 sl9 fin
      exact opv_val (by go_simp <;> rfl) ⟨gw_self _, rfl⟩
    · refine owes_v (Go.Op.load 9 (Go.Operand.tmp 94)) 9 [10] (by kernel_rfl) (by kernel_rfl) (by kernel_rfl) rfl fun vals w1 ρ hG hF hρ hcst hfun => ?_
      have e94 : ρ (.tmp 94) = .pointer (some (b.add (i * 2))) := ((hρ 94).trans (slotJ [10] (by rw [hsz]; decide) (by kernel_rfl))).trans (hF 10 (by decide))
      have k := (hy.out w1 hG).2
      clear hρ hF hcst hfun sl2 sl3 sl9 fin
      exact opv_val (by go_simp <;> rfl) ⟨gw_self _, rfl⟩
    · refine owes_v (Go.Op.binOp Go.BinOp.neq 9 (Go.Operand.tmp 89) (Go.Operand.tmp 95) 9) 4 [5, 11] (by kernel_rfl) (by kernel_rfl) (by kernel_rfl) rfl fun vals w1 ρ hG hF hρ hcst hfun => ?_
      have e89 : ρ (.tmp 89) = .string s := ((hρ 89).trans (slotJ [5, 11] (by rw [hsz]; decide) (by kernel_rfl))).trans (hF 5 (by decide))
      have e95 : ρ (.tmp 95) = .string u := ((hρ 95).trans (slotJ [5, 11] (by rw [hsz]; decide) (by kernel_rfl))).trans (hF 11 (by decide))
      clear hρ hF hcst hfun sl2 sl3 sl9 fin
      exact opv_val (by go_simp <;> first | rfl | exact hr) ⟨gw_self _, rfl⟩
    · exact owes_mvj 12 96 (by kernel_rfl) (by kernel_rfl) (by kernel_rfl) (by kernel_rfl) (by rw [hsz]; decide) (fun v w h => h)
    · exact owes_no 13 true false (by decide) (by kernel_rfl) (by kernel_rfl) (fun _ _ h => h) (by rw [hsz]; kernel_rfl) (fun _ => rfl)
    · exact owes_no 13 true false (by decide) (by kernel_rfl) (by kernel_rfl) (fun _ _ h => h) (by rw [hsz]; kernel_rfl) (fun _ => rfl)
    · exact owes_no 13 true false (by decide) (by kernel_rfl) (by kernel_rfl) (fun _ _ h => h) (by rw [hsz]; kernel_rfl) (fun _ => rfl)
    · exact owes_no 13 true false (by decide) (by kernel_rfl) (by kernel_rfl) (fun _ _ h => h) (by rw [hsz]; kernel_rfl) (fun _ => rfl)
    · exact owes_no 13 true false (by decide) (by kernel_rfl) (by kernel_rfl) (fun _ _ h => h) (by rw [hsz]; kernel_rfl) (fun _ => rfl)
    · exact owes_no 13 true false (by decide) (by kernel_rfl) (by kernel_rfl) (fun _ _ h => h) (by rw [hsz]; kernel_rfl) (fun _ => rfl)
    · exact owes_no 13 true false (by decide) (by kernel_rfl) (by kernel_rfl) (fun _ _ h => h) (by rw [hsz]; kernel_rfl) (fun _ => rfl)
    · exact owes_no 13 true false (by decide) (by kernel_rfl) (by kernel_rfl) (fun _ _ h => h) (by rw [hsz]; kernel_rfl) (fun _ => rfl)
    · exact owes_no 13 true false (by decide) (by kernel_rfl) (by kernel_rfl) (fun _ _ h => h) (by rw [hsz]; kernel_rfl) (fun _ => rfl)
    · exact owes_no 13 true false (by decide) (by kernel_rfl) (by kernel_rfl) (fun _ _ h => h) (by rw [hsz]; kernel_rfl) (fun _ => rfl)
    · exact owes_no 13 true false (by decide) (by kernel_rfl) (by kernel_rfl) (fun _ _ h => h) (by rw [hsz]; kernel_rfl) (fun _ => rfl)
    · exact owes_no 13 true false (by decide) (by kernel_rfl) (by kernel_rfl) (fun _ _ h => h) (by rw [hsz]; kernel_rfl) (fun _ => rfl)
    · exact owes_no 13 true false (by decide) (by kernel_rfl) (by kernel_rfl) (fun _ _ h => h) (by rw [hsz]; kernel_rfl) (fun _ => rfl)
    · refine owes_v (Go.Op.pick (Go.Operand.tmp 97) (Go.Operand.const (Go.Value.bool true)) (Go.Operand.tmp 110)) 4 [13, 26] (by kernel_rfl) (by kernel_rfl) (by kernel_rfl) rfl fun vals w1 ρ hG hF hρ hcst hfun => ?_
      have e97 : ρ (.tmp 97) = .bool true := ((hρ 97).trans (slotJ [13, 26] (by rw [hsz]; decide) (by kernel_rfl))).trans (hF 13 (by decide))
      have e110 : ρ (.tmp 110) = undef := ((hρ 110).trans (slotJ [13, 26] (by rw [hsz]; decide) (by kernel_rfl))).trans (hF 26 (by decide))
      clear hρ hF hfun sl2 sl3 sl9 fin
      exact opv_val (by go_simp <;> rfl) ⟨gw_self _, rfl⟩
  · intro vals w1 hG hF
    exact fin vals w1 hG (hF 27 (by decide +kernel))
theorem reqb_r (Q : Exit → Act → World → Prop) (a0 : Act) (w : World) (bx bY : Nat) (a b : Addr) (M xc yc i : Nat) (s : ByteArray) (x y : Int) (r : Bool) (hx : Hid (∀ W, Below w.heap.size w W → W.cell? ⟨bx, 1, none⟩ = some (.slice (some a) M xc) ∧ W.cell? (a.add (i * 2)) = some (.string s) ∧ W.cell? ⟨(a.add (i * 2)).block, (a.add (i * 2)).off + 1, none⟩ = some (.int .i64 x))) (hy : Hid (∀ W, Below w.heap.size w W → W.cell? ⟨bY, 1, none⟩ = some (.slice (some b) M yc) ∧ W.cell? (b.add (i * 2)) = some (.string s) ∧ W.cell? ⟨(b.add (i * 2)).block, (b.add (i * 2)).off + 1, none⟩ = some (.int .i64 y))) (hr : (x != y) = r) (p1 : (0 : Int) ≤ (i : Int)) (p2 : (i : Int) < (M : Int)) (hsz : a0.tmps.size = 112) (sl2 : a0.tmps.getD 2 undef = .pointer (some ⟨bx, 0, none⟩)) (sl3 : a0.tmps.getD 3 undef = .pointer (some ⟨bY, 0, none⟩)) (sl9 : a0.tmps.getD 9 undef = .int .i64 i)
    (fin : ∀ (vals : Nat → Value) (w1 : World), Below w.heap.size w w1 → (IsV (.bool r)) (vals 27) w1 → Q .normal (putD vals [84, 85, 86, 87, 88, 89, 90, 91, 92, 93, 94, 95, 96, 97, 98, 99, 100, 101, 102, 103, 104, 105, 106, 107, 108, 109, 110, 111] 0 a0) w1) :
    (Code.region 18 (regIn Try.f19 18) true).wp Try.prog Q a0 w := by
  refine region_by (G := fun w w1 => Below w.heap.size w w1) [IsV (.pointer (some ⟨bx, 1, none⟩)),
    IsV (.slice (some a) M xc),
    IsV (.int .i64 i),
    IsV (.pointer (some (a.add (i * 2)))),
    IsV (.pointer (some (a.add (i * 2)))),
    IsV (.string s),
    IsV (.pointer (some ⟨bY, 1, none⟩)),
    IsV (.slice (some b) M yc),
    IsV (.int .i64 i),
    IsV (.pointer (some (b.add (i * 2)))),
    IsV (.pointer (some (b.add (i * 2)))),
    IsV (.string s),
    IsV (.bool false),
    IsV (.bool false),
    IsV (.pointer (some ⟨bx, 1, none⟩)),
    IsV (.slice (some a) M xc),
    IsV (.int .i64 i),
    IsV (.pointer (some (a.add (i * 2)))),
    IsV (.pointer (some ⟨(a.add (i * 2)).block, (a.add (i * 2)).off + 1, none⟩)),
    IsV (.int .i64 x),
    IsV (.pointer (some ⟨bY, 1, none⟩)),
    IsV (.slice (some b) M yc),
    IsV (.int .i64 i),
    IsV (.pointer (some (b.add (i * 2)))),
    IsV (.pointer (some ⟨(b.add (i * 2)).block, (b.add (i * 2)).off + 1, none⟩)),
    IsV (.int .i64 y),
    IsV (.bool r),
    IsV (.bool r)]
    [84, 85, 86, 87, 88, 89, 90, 91, 92, 93, 94, 95, 96, 97, 98, 99, 100, 101, 102, 103, 104, 105, 106, 107, 108, 109, 110, 111] (by kernel_rfl) (Gw.drew _) Gw.trans (by rw [hsz]; kernel_rfl) (by kernel_rfl) ?_ ?_ ?_
  · intro f hf
    simp only [List.mem_cons, List.not_mem_nil, or_false] at hf
    rcases hf with rfl | rfl | rfl | rfl | rfl | rfl | rfl | rfl | rfl | rfl | rfl | rfl | rfl | rfl | rfl | rfl | rfl | rfl | rfl | rfl | rfl | rfl | rfl | rfl | rfl | rfl | rfl | rfl <;> intro v a b h g <;> first | exact IsV.mono h
  · refine ⟨?_, ?_, ?_, ?_, ?_, ?_, ?_, ?_, ?_, ?_, ?_, ?_, ?_, ?_, ?_, ?_, ?_, ?_, ?_, ?_, ?_, ?_, ?_, ?_, ?_, ?_, ?_, ?_, trivial⟩
    · refine owes_v (Go.Op.fieldAddr 31 (Go.Operand.tmp 2) 1) 0 [] (by kernel_rfl) (by kernel_rfl) (by kernel_rfl) rfl fun vals w1 ρ hG hF hρ hcst hfun => ?_
      have e2 : ρ (.tmp 2) = .pointer (some ⟨bx, 0, none⟩) := ((hρ 2).trans (slotO [] (by kernel_rfl))).trans sl2
      clear hρ hF hcst hfun sl2 sl3 sl9 fin
      exact opv_val (by go_simp <;> rfl) ⟨gw_self _, rfl⟩
    · refine owes_v (Go.Op.load 29 (Go.Operand.tmp 84)) 29 [0] (by kernel_rfl) (by kernel_rfl) (by kernel_rfl) rfl fun vals w1 ρ hG hF hρ hcst hfun => ?_
      have e84 : ρ (.tmp 84) = .pointer (some ⟨bx, 1, none⟩) := ((hρ 84).trans (slotJ [0] (by rw [hsz]; decide) (by kernel_rfl))).trans (hF 0 (by decide))
      have k := (hx.out w1 hG).1
      clear hρ hF hcst hfun sl2 sl3 sl9 fin
      exact opv_val (by go_simp <;> rfl) ⟨gw_self _, rfl⟩
    · exact owes_mv 9 (by kernel_rfl) (by kernel_rfl) (by kernel_rfl) sl9 (fun _ => rfl)
    · refine owes_v (Go.Op.indexAddr 29 (Go.Operand.tmp 85) (Go.Operand.tmp 86)) 0 [1, 2] (by kernel_rfl) (by kernel_rfl) (by kernel_rfl) rfl fun vals w1 ρ hG hF hρ hcst hfun => ?_
      have e85 : ρ (.tmp 85) = .slice (some a) M xc := ((hρ 85).trans (slotJ [1, 2] (by rw [hsz]; decide) (by kernel_rfl))).trans (hF 1 (by decide))
      have e86 : ρ (.tmp 86) = .int .i64 i := ((hρ 86).trans (slotJ [1, 2] (by rw [hsz]; decide) (by kernel_rfl))).trans (hF 2 (by decide))
      clear hρ hF hcst hfun sl2 sl3 sl9 fin
      exact opv_val (by go_simp <;> rfl) ⟨gw_self _, rfl⟩
    · refine owes_v (Go.Op.fieldAddr 59 (Go.Operand.tmp 87) 0) 0 [3] (by kernel_rfl) (by kernel_rfl) (by kernel_rfl) rfl fun vals w1 ρ hG hF hρ hcst hfun => ?_
      have e87 : ρ (.tmp 87) = .pointer (some (a.add (i * 2))) := ((hρ 87).trans (slotJ [3] (by rw [hsz]; decide) (by kernel_rfl))).trans (hF 3 (by decide))
      clear hρ hF hcst hfun sl2 sl3 sl9 fin
      exact opv_val (by go_simp <;> rfl) ⟨gw_self _, rfl⟩
    · refine owes_v (Go.Op.load 9 (Go.Operand.tmp 88)) 9 [4] (by kernel_rfl) (by kernel_rfl) (by kernel_rfl) rfl fun vals w1 ρ hG hF hρ hcst hfun => ?_
      have e88 : ρ (.tmp 88) = .pointer (some (a.add (i * 2))) := ((hρ 88).trans (slotJ [4] (by rw [hsz]; decide) (by kernel_rfl))).trans (hF 4 (by decide))
      have k := (hx.out w1 hG).2.1
      clear hρ hF hcst hfun sl2 sl3 sl9 fin
      exact opv_val (by go_simp <;> rfl) ⟨gw_self _, rfl⟩
    · refine owes_v (Go.Op.fieldAddr 31 (Go.Operand.tmp 3) 1) 0 [] (by kernel_rfl) (by kernel_rfl) (by kernel_rfl) rfl fun vals w1 ρ hG hF hρ hcst hfun => ?_
      have e3 : ρ (.tmp 3) = .pointer (some ⟨bY, 0, none⟩) := ((hρ 3).trans (slotO [] (by kernel_rfl))).trans sl3
      clear hρ hF hcst hfun sl2 sl3 sl9 fin
      exact opv_val (by go_simp <;> rfl) ⟨gw_self _, rfl⟩
    · refine owes_v (Go.Op.load 29 (Go.Operand.tmp 90)) 29 [6] (by kernel_rfl) (by kernel_rfl) (by kernel_rfl) rfl fun vals w1 ρ hG hF hρ hcst hfun => ?_
      have e90 : ρ (.tmp 90) = .pointer (some ⟨bY, 1, none⟩) := ((hρ 90).trans (slotJ [6] (by rw [hsz]; decide) (by kernel_rfl))).trans (hF 6 (by decide))
      have k := (hy.out w1 hG).1
      clear hρ hF hcst hfun sl2 sl3 sl9 fin
      exact opv_val (by go_simp <;> rfl) ⟨gw_self _, rfl⟩
    · exact owes_mv 9 (by kernel_rfl) (by kernel_rfl) (by kernel_rfl) sl9 (fun _ => rfl)
    · refine owes_v (Go.Op.indexAddr 29 (Go.Operand.tmp 91) (Go.Operand.tmp 92)) 0 [7, 8] (by kernel_rfl) (by kernel_rfl) (by kernel_rfl) rfl fun vals w1 ρ hG hF hρ hcst hfun => ?_
      have e91 : ρ (.tmp 91) = .slice (some b) M yc := ((hρ 91).trans (slotJ [7, 8] (by rw [hsz]; decide) (by kernel_rfl))).trans (hF 7 (by decide))
      have e92 : ρ (.tmp 92) = .int .i64 i := ((hρ 92).trans (slotJ [7, 8] (by rw [hsz]; decide) (by kernel_rfl))).trans (hF 8 (by decide))
      clear hρ hF hcst hfun sl2 sl3 sl9 fin
      exact opv_val (by go_simp <;> rfl) ⟨gw_self _, rfl⟩
    · refine owes_v (Go.Op.fieldAddr 59 (Go.Operand.tmp 93) 0) 0 [9] (by kernel_rfl) (by kernel_rfl) (by kernel_rfl) rfl fun vals w1 ρ hG hF hρ hcst hfun => ?_
      have e93 : ρ (.tmp 93) = .pointer (some (b.add (i * 2))) := ((hρ 93).trans (slotJ [9] (by rw [hsz]; decide) (by kernel_rfl))).trans (hF 9 (by decide))
      clear hρ hF hcst hfun sl2 sl3 sl9 fin
      exact opv_val (by go_simp <;> rfl) ⟨gw_self _, rfl⟩
    · refine owes_v (Go.Op.load 9 (Go.Operand.tmp 94)) 9 [10] (by kernel_rfl) (by kernel_rfl) (by kernel_rfl) rfl fun vals w1 ρ hG hF hρ hcst hfun => ?_
      have e94 : ρ (.tmp 94) = .pointer (some (b.add (i * 2))) := ((hρ 94).trans (slotJ [10] (by rw [hsz]; decide) (by kernel_rfl))).trans (hF 10 (by decide))
      have k := (hy.out w1 hG).2.1
      clear hρ hF hcst hfun sl2 sl3 sl9 fin
      exact opv_val (by go_simp <;> rfl) ⟨gw_self _, rfl⟩
    · refine owes_v (Go.Op.binOp Go.BinOp.neq 9 (Go.Operand.tmp 89) (Go.Operand.tmp 95) 9) 4 [5, 11] (by kernel_rfl) (by kernel_rfl) (by kernel_rfl) rfl fun vals w1 ρ hG hF hρ hcst hfun => ?_
      have e89 : ρ (.tmp 89) = .string s := ((hρ 89).trans (slotJ [5, 11] (by rw [hsz]; decide) (by kernel_rfl))).trans (hF 5 (by decide))
      have e95 : ρ (.tmp 95) = .string s := ((hρ 95).trans (slotJ [5, 11] (by rw [hsz]; decide) (by kernel_rfl))).trans (hF 11 (by decide))
      clear hρ hF hcst hfun sl2 sl3 sl9 fin
      exact opv_val (by go_simp <;> rfl) ⟨gw_self _, rfl⟩
    · exact owes_mvj 12 96 (by kernel_rfl) (by kernel_rfl) (by kernel_rfl) (by kernel_rfl) (by rw [hsz]; decide) (fun v w h => h)
    · refine owes_vt 13 false (Go.Op.fieldAddr 31 (Go.Operand.tmp 2) 1) 0 [] (by kernel_rfl) (by kernel_rfl) (by kernel_rfl) (fun _ _ h => h) (by rw [hsz]; kernel_rfl) (by kernel_rfl) rfl fun vals w1 ρ hG hF hρ hcst hfun => ?_
      have e2 : ρ (.tmp 2) = .pointer (some ⟨bx, 0, none⟩) := ((hρ 2).trans (slotO [] (by kernel_rfl))).trans sl2
      clear hρ hF hcst hfun sl2 sl3 sl9 fin
      exact opv_val (by go_simp <;> rfl) ⟨gw_self _, rfl⟩
    · refine owes_vt 13 false (Go.Op.load 29 (Go.Operand.tmp 98)) 29 [14] (by kernel_rfl) (by kernel_rfl) (by kernel_rfl) (fun _ _ h => h) (by rw [hsz]; kernel_rfl) (by kernel_rfl) rfl fun vals w1 ρ hG hF hρ hcst hfun => ?_
      have e98 : ρ (.tmp 98) = .pointer (some ⟨bx, 1, none⟩) := ((hρ 98).trans (slotJ [14] (by rw [hsz]; decide) (by kernel_rfl))).trans (hF 14 (by decide))
      have k := (hx.out w1 hG).1
      clear hρ hF hcst hfun sl2 sl3 sl9 fin
      exact opv_val (by go_simp <;> rfl) ⟨gw_self _, rfl⟩
    · refine owes_vt 13 false (Go.Op.move (Go.Operand.tmp 9)) 3 [] (by kernel_rfl) (by kernel_rfl) (by kernel_rfl) (fun _ _ h => h) (by rw [hsz]; kernel_rfl) (by kernel_rfl) rfl fun vals w1 ρ hG hF hρ hcst hfun => ?_
      have e9 : ρ (.tmp 9) = .int .i64 i := ((hρ 9).trans (slotO [] (by kernel_rfl))).trans sl9
      clear hρ hF hcst hfun sl2 sl3 sl9 fin
      exact opv_val (by go_simp <;> rfl) ⟨gw_self _, rfl⟩
    · refine owes_vt 13 false (Go.Op.indexAddr 29 (Go.Operand.tmp 99) (Go.Operand.tmp 100)) 0 [15, 16] (by kernel_rfl) (by kernel_rfl) (by kernel_rfl) (fun _ _ h => h) (by rw [hsz]; kernel_rfl) (by kernel_rfl) rfl fun vals w1 ρ hG hF hρ hcst hfun => ?_
      have e99 : ρ (.tmp 99) = .slice (some a) M xc := ((hρ 99).trans (slotJ [15, 16] (by rw [hsz]; decide) (by kernel_rfl))).trans (hF 15 (by decide))
      have e100 : ρ (.tmp 100) = .int .i64 i := ((hρ 100).trans (slotJ [15, 16] (by rw [hsz]; decide) (by kernel_rfl))).trans (hF 16 (by decide))
      clear hρ hF hcst hfun sl2 sl3 sl9 fin
      exact opv_val (by go_simp <;> rfl) ⟨gw_self _, rfl⟩
    · refine owes_vt 13 false (Go.Op.fieldAddr 59 (Go.Operand.tmp 101) 1) 0 [17] (by kernel_rfl) (by kernel_rfl) (by kernel_rfl) (fun _ _ h => h) (by rw [hsz]; kernel_rfl) (by kernel_rfl) rfl fun vals w1 ρ hG hF hρ hcst hfun => ?_
      have e101 : ρ (.tmp 101) = .pointer (some (a.add (i * 2))) := ((hρ 101).trans (slotJ [17] (by rw [hsz]; decide) (by kernel_rfl))).trans (hF 17 (by decide))
      clear hρ hF hcst hfun sl2 sl3 sl9 fin
      exact opv_val (by go_simp <;> rfl) ⟨gw_self _, rfl⟩
    · refine owes_vt 13 false (Go.Op.load 3 (Go.Operand.tmp 102)) 3 [18] (by kernel_rfl) (by kernel_rfl) (by kernel_rfl) (fun _ _ h => h) (by rw [hsz]; kernel_rfl) (by kernel_rfl) rfl fun vals w1 ρ hG hF hρ hcst hfun => ?_
      have e102 : ρ (.tmp 102) = .pointer (some ⟨(a.add (i * 2)).block, (a.add (i * 2)).off + 1, none⟩) := ((hρ 102).trans (slotJ [18] (by rw [hsz]; decide) (by kernel_rfl))).trans (hF 18 (by decide))
      have k := (hx.out w1 hG).2.2
      clear hρ hF hcst hfun sl2 sl3 sl9 fin
      exact opv_val (by go_simp <;> rfl) ⟨gw_self _, rfl⟩
    · refine owes_vt 13 false (Go.Op.fieldAddr 31 (Go.Operand.tmp 3) 1) 0 [] (by kernel_rfl) (by kernel_rfl) (by kernel_rfl) (fun _ _ h => h) (by rw [hsz]; kernel_rfl) (by kernel_rfl) rfl fun vals w1 ρ hG hF hρ hcst hfun => ?_
      have e3 : ρ (.tmp 3) = .pointer (some ⟨bY, 0, none⟩) := ((hρ 3).trans (slotO [] (by kernel_rfl))).trans sl3
      clear hρ hF hcst hfun sl2 sl3 sl9 fin
      exact opv_val (by go_simp <;> rfl) ⟨gw_self _, rfl⟩
    · refine owes_vt 13 false (Go.Op.load 29 (Go.Operand.tmp 104)) 29 [20] (by kernel_rfl) (by kernel_rfl) (by kernel_rfl) (fun _ _ h => h) (by rw [hsz]; kernel_rfl) (by kernel_rfl) rfl fun vals w1 ρ hG hF hρ hcst hfun => ?_
      have e104 : ρ (.tmp 104) = .pointer (some ⟨bY, 1, none⟩) := ((hρ 104).trans (slotJ [20] (by rw [hsz]; decide) (by kernel_rfl))).trans (hF 20 (by decide))
      have k := (hy.out w1 hG).1
      clear hρ hF hcst hfun sl2 sl3 sl9 fin
      exact opv_val (by go_simp <;> rfl) ⟨gw_self _, rfl⟩
    · refine owes_vt 13 false (Go.Op.move (Go.Operand.tmp 9)) 3 [] (by kernel_rfl) (by kernel_rfl) (by kernel_rfl) (fun _ _ h => h) (by rw [hsz]; kernel_rfl) (by kernel_rfl) rfl fun vals w1 ρ hG hF hρ hcst hfun => ?_
      have e9 : ρ (.tmp 9) = .int .i64 i := ((hρ 9).trans (slotO [] (by kernel_rfl))).trans sl9
      clear hρ hF hcst hfun sl2 sl3 sl9 fin
      exact opv_val (by go_simp <;> rfl) ⟨gw_self _, rfl⟩
    · refine owes_vt 13 false (Go.Op.indexAddr 29 (Go.Operand.tmp 105) (Go.Operand.tmp 106)) 0 [21, 22] (by kernel_rfl) (by kernel_rfl) (by kernel_rfl) (fun _ _ h => h) (by rw [hsz]; kernel_rfl) (by kernel_rfl) rfl fun vals w1 ρ hG hF hρ hcst hfun => ?_
      have e105 : ρ (.tmp 105) = .slice (some b) M yc := ((hρ 105).trans (slotJ [21, 22] (by rw [hsz]; decide) (by kernel_rfl))).trans (hF 21 (by decide))
      have e106 : ρ (.tmp 106) = .int .i64 i := ((hρ 106).trans (slotJ [21, 22] (by rw [hsz]; decide) (by kernel_rfl))).trans (hF 22 (by decide))
      clear hρ hF hcst hfun sl2 sl3 sl9 fin
      exact opv_val (by go_simp <;> rfl) ⟨gw_self _, rfl⟩
    · refine owes_vt 13 false (Go.Op.fieldAddr 59 (Go.Operand.tmp 107) 1) 0 [23] (by kernel_rfl) (by kernel_rfl) (by kernel_rfl) (fun _ _ h => h) (by rw [hsz]; kernel_rfl) (by kernel_rfl) rfl fun vals w1 ρ hG hF hρ hcst hfun => ?_
      have e107 : ρ (.tmp 107) = .pointer (some (b.add (i * 2))) := ((hρ 107).trans (slotJ [23] (by rw [hsz]; decide) (by kernel_rfl))).trans (hF 23 (by decide))
      clear hρ hF hcst hfun sl2 sl3 sl9 fin
      exact opv_val (by go_simp <;> rfl) ⟨gw_self _, rfl⟩
    · refine owes_vt 13 false (Go.Op.load 3 (Go.Operand.tmp 108)) 3 [24] (by kernel_rfl) (by kernel_rfl) (by kernel_rfl) (fun _ _ h => h) (by rw [hsz]; kernel_rfl) (by kernel_rfl) rfl fun vals w1 ρ hG hF hρ hcst hfun => ?_
      have e108 : ρ (.tmp 108) = .pointer (some ⟨(b.add (i * 2)).block, (b.add (i * 2)).off + 1, none⟩) := ((hρ 108).trans (slotJ [24] (by rw [hsz]; decide) (by kernel_rfl))).trans (hF 24 (by decide))
      have k := (hy.out w1 hG).2.2
      clear hρ hF hcst hfun sl2 sl3 sl9 fin
      exact opv_val (by go_simp <;> rfl) ⟨gw_self _, rfl⟩
    · refine owes_vt 13 false (Go.Op.binOp Go.BinOp.neq 3 (Go.Operand.tmp 103) (Go.Operand.tmp 109) 3) 4 [19, 25] (by kernel_rfl) (by kernel_rfl) (by kernel_rfl) (fun _ _ h => h) (by rw [hsz]; kernel_rfl) (by kernel_rfl) rfl fun vals w1 ρ hG hF hρ hcst hfun => ?_
      have e103 : ρ (.tmp 103) = .int .i64 x := ((hρ 103).trans (slotJ [19, 25] (by rw [hsz]; decide) (by kernel_rfl))).trans (hF 19 (by decide))
      have e109 : ρ (.tmp 109) = .int .i64 y := ((hρ 109).trans (slotJ [19, 25] (by rw [hsz]; decide) (by kernel_rfl))).trans (hF 25 (by decide))
      clear hρ hF hcst hfun sl2 sl3 sl9 fin
      exact opv_val (by go_simp <;> first | rfl | exact hr | rw [hr]) ⟨gw_self _, rfl⟩
    · refine owes_v (Go.Op.pick (Go.Operand.tmp 97) (Go.Operand.const (Go.Value.bool true)) (Go.Operand.tmp 110)) 4 [13, 26] (by kernel_rfl) (by kernel_rfl) (by kernel_rfl) rfl fun vals w1 ρ hG hF hρ hcst hfun => ?_
      have e97 : ρ (.tmp 97) = .bool false := ((hρ 97).trans (slotJ [13, 26] (by rw [hsz]; decide) (by kernel_rfl))).trans (hF 13 (by decide))
      have e110 : ρ (.tmp 110) = .bool r := ((hρ 110).trans (slotJ [13, 26] (by rw [hsz]; decide) (by kernel_rfl))).trans (hF 26 (by decide))
      clear hρ hF hfun sl2 sl3 sl9 fin
      exact opv_val (by go_simp <;> rfl) ⟨gw_self _, rfl⟩
  · intro vals w1 hG hF
    exact fin vals w1 hG (hF 27 (by decide +kernel))
theorem same_false {a b : Gv} (h : ¬ (a.r = b.r ∧ a.n.map Nv.m = b.n.map Nv.m)) : sameG a b = false := by
  cases e : sameG a b with
  | false => rfl
  | true =>
    unfold sameG at e
    rw [Bool.and_eq_true, sameR_iff, sameNs_iff] at e
    exact absurd e h
theorem same_true {a b : Gv} (h : a.r = b.r) (h2 : a.n.map Nv.m = b.n.map Nv.m) : sameG a b = true := by
  unfold sameG
  rw [Bool.and_eq_true, sameR_iff, sameNs_iff]
  exact ⟨h, h2⟩
theorem str_ne {xs ys : List (BitVec 8)} (h : ¬ xs = ys) : ¬ (strB xs).toList = (strB ys).toList := fun e => h (strB_inj (listB_inj e))
theorem req_cS (w : World) (a b : Gv) (ha : a.At w w.heap.size) (hb : b.At w w.heap.size) (hs : a.Small) : Calls Try.prog 19 #[a.v, b.v] w (RetP (.bool (sameG a b)) w) := by
  have HA := Lib.hid ha
  have HB := Lib.hid hb
  obtain ⟨R, hR⟩ : ∃ R, R = sameG a b := ⟨_, rfl⟩
  rw [← hR]
  have HR := Lib.hid hR
  have HP := Lib.hid hs.2.2
  have hsn := hs.1
  have hsr := hs.2.1
  obtain ⟨A, ca, A2, ca2, ns, rs⟩ := a
  obtain ⟨C, cc, C2, cc2, ms, us⟩ := b
  obtain ⟨N, hN⟩ : ∃ N, N = ns.length := ⟨_, rfl⟩
  obtain ⟨M, hM⟩ : ∃ M, M = rs.length := ⟨_, rfl⟩
  obtain ⟨N2, hN2⟩ : ∃ N2, N2 = ms.length := ⟨_, rfl⟩
  obtain ⟨M2, hM2⟩ : ∃ M2, M2 = us.length := ⟨_, rfl⟩
  have q0 : (N : Int) ≤ 1000000 := by rw [hN]; exact Int.ofNat_le.2 hsn
  have q1 : (M : Int) ≤ 1000000 := by rw [hM]; exact Int.ofNat_le.2 hsr
  have HN := Lib.hid (And.intro hN (And.intro hM (And.intro hN2 hM2)))
  unfold Gv.v Gv.vn Gv.vr
  simp only at HP ⊢
  rw [← hN, ← hM, ← hN2, ← hM2]
  clear ha hb hs hsn hsr hN hM hN2 hM2 hR
  go_enter Try.func19, Try.ntmps19
  by_cases hnn : N = N2
  · by_cases hmm : M = M2
    · subst hnn
      subst hmm
      go_wp2_with fail
      obtain ⟨W1, hW1⟩ : ∃ W1, W1 = (w.alloc (.cells #[.slice A N ca, .slice A2 M ca2] 31)).alloc (.cells #[.slice C N cc, .slice C2 M cc2] 31) := ⟨_, rfl⟩
      have HW1 := Lib.hid (show Bk W1 w.heap.size 31 #[.slice A N ca, .slice A2 M ca2] ∧ Bk W1 (w.heap.size + 1) 31 #[.slice C N cc, .slice C2 M cc2] ∧ Below w.heap.size w W1 from by
        rw [hW1]
        have k1 := Bk.new (w.alloc (.cells #[.slice A N ca, .slice A2 M ca2] 31)) 31 #[.slice C N cc, .slice C2 M cc2]
        simp only [World.size_alloc] at k1
        exact ⟨(Bk.new w _ _).alloc _, k1, (Gw.alloc w _).trans ((Gw.alloc _ _).mono (by simp))⟩)
      rw [← hW1]
      clear hW1
      go_loopw [5] (fun i W => ∃ k : Nat, i = .int .i64 k ∧ k ≤ N ∧ Hid ((ns.take k).map Nv.m = (ms.take k).map Nv.m) ∧ Below W1.heap.size W1 W) (fun i _ => N - (Go.RowKit.intOf i).toNat)
      case atStart => exact ⟨0, rfl, Nat.zero_le _, Lib.hid rfl, Below.refl _ _⟩
      case round =>
        obtain ⟨k, rfl, hk, ht, hB⟩ := hrel
        have HBk := Lib.hid hB
        have hb1 := HW1.out.1.below hB HW1.out.1.lt
        have hb2 := HW1.out.2.1.below hB HW1.out.2.1.lt
        have c0 := hb1.two.1
        have c1 := hb2.two.1
        have hl1 := hb1.lt
        have hl2 := hb2.lt
        have HBw := Lib.hid (show Below w.heap.size w wr from HW1.out.2.2.trans (hB.mono HW1.out.2.2.size))
        by_cases hlt : k < N
        · have hkn : k < ns.length := by rw [← HN.out.1]; exact hlt
          have hkm : k < ms.length := by rw [← HN.out.2.2.1]; exact hlt
          obtain ⟨x, hx⟩ : ∃ x, x = ns[k] := ⟨_, rfl⟩
          obtain ⟨y, hy⟩ : ∃ y, y = ms[k] := ⟨_, rfl⟩
          obtain ⟨ad, rfl, hc2, hc3, hxa⟩ : ∃ ad, A = some ad ∧ wr.cell? (ad.add (k * 2)) = some x.vp ∧ wr.cell? ⟨(ad.add (k * 2)).block, (ad.add (k * 2)).off + 1, none⟩ = some x.vd ∧ x.At wr wr.heap.size := by
            obtain ⟨ad, e, _, h1, h2, h3⟩ := (HA.out.n.below HBw.out) k hkn
            exact ⟨ad, e, by rw [hx]; exact h1, by rw [hx]; exact h2, by rw [hx]; exact h3.more HBw.out.size⟩
          obtain ⟨ae, rfl, hd2, hd3, hya⟩ : ∃ ad, C = some ad ∧ wr.cell? (ad.add (k * 2)) = some y.vp ∧ wr.cell? ⟨(ad.add (k * 2)).block, (ad.add (k * 2)).off + 1, none⟩ = some y.vd ∧ y.At wr wr.heap.size := by
            obtain ⟨ad, e, _, h1, h2, h3⟩ := (HB.out.n.below HBw.out) k hkm
            exact ⟨ad, e, by rw [hy]; exact h1, by rw [hy]; exact h2, by rw [hy]; exact h3.more HBw.out.size⟩
          have hsz := HP.out x (by rw [hx]; exact List.getElem_mem _)
          have HT := Lib.hid (show x.m = y.m → (ns.take (k + 1)).map Nv.m = (ms.take (k + 1)).map Nv.m from fun e => by
            rw [take_snoc ns k hkn, take_snoc ms k hkm, List.map_append, List.map_append, ht.out, ← hx, ← hy]; simp [e])
          have HF := Lib.hid (show ¬ x.m = y.m → R = false from fun e => by
            rw [HR.out]
            refine same_false fun h => e ?_
            have h2 := congrArg (fun l => l[k]?) h.2
            simp only [List.getElem?_map, List.getElem?_eq_getElem hkn, List.getElem?_eq_getElem hkm, Option.map_some, Option.some.injEq] at h2
            rw [hx, hy]; exact h2)
          have p1 : (0 : Int) ≤ (k : Int) := by omega
          have p2 : (k : Int) < (N : Int) := by omega
          clear hx hy hkn hkm hB ht hb1 hb2
          obtain ⟨xA, xc, xD, xd, xps, xbs⟩ := x
          obtain ⟨yA, yc, yD, yd, yps, ybs⟩ := y
          obtain ⟨xn, hxn⟩ : ∃ n, n = xps.length := ⟨_, rfl⟩
          obtain ⟨xm, hxm⟩ : ∃ n, n = xbs.length := ⟨_, rfl⟩
          obtain ⟨yn, hyn⟩ : ∃ n, n = yps.length := ⟨_, rfl⟩
          obtain ⟨ym, hym⟩ : ∃ n, n = ybs.length := ⟨_, rfl⟩
          unfold Nv.vp at hc2 hd2
          unfold Nv.vd at hc3 hd3
          unfold Nv.m at HT HF
          simp only at hc2 hc3 hd2 hd3 HT HF hsz
          rw [← hxn] at hc2 hsz
          rw [← hxm] at hc3
          rw [← hyn] at hd2
          rw [← hym] at hd3
          have hcl := cell_lt hc2
          have hcl' : (ad.add (k * 2)).block < wr.heap.size := hcl
          have hdl := cell_lt hd2
          have hdl' : (ae.add (k * 2)).block < wr.heap.size := hdl
          obtain ⟨W2, hW2⟩ : ∃ W2, W2 = (wr.alloc (.cells #[.slice xA xn xc, .slice xD xm xd] 58)).alloc (.cells #[.slice yA yn yc, .slice yD ym yd] 58) := ⟨_, rfl⟩
          have HW2 := Lib.hid (show Bk W2 wr.heap.size 58 #[.slice xA xn xc, .slice xD xm xd] ∧ Bk W2 (wr.heap.size + 1) 58 #[.slice yA yn yc, .slice yD ym yd] ∧ Below wr.heap.size wr W2 from by
            rw [hW2]
            have k1 := Bk.new (wr.alloc (.cells #[.slice xA xn xc, .slice xD xm xd] 58)) 58 #[.slice yA yn yc, .slice yD ym yd]
            simp only [World.size_alloc] at k1
            exact ⟨(Bk.new wr _ _).alloc _, k1, (Gw.alloc wr _).trans ((Gw.alloc _ _).mono (by simp))⟩)
          obtain ⟨s1, hs1⟩ : ∃ s, s = strB xbs := ⟨_, rfl⟩
          obtain ⟨s2, hs2⟩ : ∃ s, s = strB ybs := ⟨_, rfl⟩
          have k1 : (convert 52 9 (.slice xD xm xd)).run Try.prog ((wr.alloc (.cells #[.slice xA xn xc, .slice xD xm xd] 58)).alloc (.cells #[.slice yA yn yc, .slice yD ym yd] 58)) = .ok (.string s1) ((wr.alloc (.cells #[.slice xA xn xc, .slice xD xm xd] 58)).alloc (.cells #[.slice yA yn yc, .slice yD ym yd] 58)) := by
            rw [← hW2, hs1, hxm]; exact str_conv xbs xD xd _ W2 (hxa.up HW2.out.2.2).b
          have k2 : (convert 52 9 (.slice yD ym yd)).run Try.prog ((wr.alloc (.cells #[.slice xA xn xc, .slice xD xm xd] 58)).alloc (.cells #[.slice yA yn yc, .slice yD ym yd] 58)) = .ok (.string s2) ((wr.alloc (.cells #[.slice xA xn xc, .slice xD xm xd] 58)).alloc (.cells #[.slice yA yn yc, .slice yD ym yd] 58)) := by
            rw [← hW2, hs2, hym]; exact str_conv ybs yD yd _ W2 (hya.up HW2.out.2.2).b
          have HXY := Lib.hid (And.intro (hxa.up HW2.out.2.2) (hya.up HW2.out.2.2))
          have hW2' := Lib.hid hW2
          have HL := Lib.hid (And.intro hxn hyn)
          clear hxa hya hcl hdl hW2
          by_cases hn : xn = yn
          · by_cases hbb : xbs = ybs
            · have hss : s1 = s2 := by rw [hs1, hs2, hbb]
              subst hss
              subst hn
              clear hs1 hs2 hxm hym hxn hyn
              have hq1 : (xn : Int) ≤ 1000000 := by have := hsz.1; omega
              clear hsz
              go_wp2_with fail
              rw [← hW2'.out]
              clear hc2 hc3 hd2 hd3 k1 k2 hcl' hdl' c0 c1
              have HBo := Lib.hid (show Below W1.heap.size W1 W2 from HBk.out.trans (HW2.out.2.2.mono HBk.out.size))
              obtain ⟨bx, hbx⟩ : ∃ bx, bx = wr.heap.size := ⟨_, rfl⟩
              rw [← hbx] at HW2 ⊢
              clear hbx
              go_loopw [8] (fun i W => ∃ n : Nat, i = .int .i64 n ∧ n ≤ xn ∧ Hid (xps.take n = yps.take n) ∧ Below W2.heap.size W2 W) (fun i _ => xn - (Go.RowKit.intOf i).toNat)
              case atStart => exact ⟨0, rfl, Nat.zero_le _, Lib.hid rfl, Below.refl _ _⟩
              case round =>
                obtain ⟨n, rfl, hn, ht, hB⟩ := hrel
                have hb1 := HW2.out.1.below hB HW2.out.1.lt
                have hb2 := HW2.out.2.1.below hB HW2.out.2.1.lt
                have HBn := Lib.hid hB
                by_cases hln : n < xn
                · have h1 : n < xps.length := by rw [← HL.out.1]; exact hln
                  have h2 : n < yps.length := by rw [← HL.out.2]; exact hln
                  obtain ⟨x, hx⟩ : ∃ y, y = xps[n] := ⟨_, rfl⟩
                  obtain ⟨y, hy⟩ : ∃ y, y = yps[n] := ⟨_, rfl⟩
                  obtain ⟨aa, rfl, haa, hca⟩ := (HXY.out.1.p.below hB) n h1
                  obtain ⟨ab, rfl, hab, hcb⟩ := (HXY.out.2.p.below hB) n h2
                  rw [← hx] at hca
                  rw [← hy] at hcb
                  unfold iV at hca hcb
                  have HX := Lib.hid (fun (W : World) (b : Below wr.heap.size wr W) => show W.cell? ⟨bx, 0, none⟩ = some (.slice (some aa) xn xc) ∧ W.cell? (aa.add n) = some (.int .i64 x) from ⟨(hb1.below b hb1.lt).cell 0, (b.cell (cell_lt hca)).trans hca⟩)
                  have HY := Lib.hid (fun (W : World) (b : Below wr.heap.size wr W) => show W.cell? ⟨bx + 1, 0, none⟩ = some (.slice (some ab) xn yc) ∧ W.cell? (ab.add n) = some (.int .i64 y) from ⟨(hb2.below b hb2.lt).cell 0, (b.cell (cell_lt hcb)).trans hcb⟩)
                  have d0 := (HX.out wr (Below.refl _ _)).1
                  have p3 : (0 : Int) ≤ (n : Int) := by omega
                  have p4 : (n : Int) < (xn : Int) := by omega
                  by_cases hxy : x = y
                  · have hrf : (x != y) = false := by simp [hxy]
                    have HTn := Lib.hid (take_eq_succ h1 h2 ht.out (by rw [← hx, ← hy, hxy]))
                    clear hx hy haa hab hca hcb h1 h2 hxy ht hB hb1 hb2
                    go_wp2_with fail
                    refine req_r _ _ _ bx (bx + 1) aa ab xn xc yc n (.slice xD xm xd) (.slice yD ym yd) x y false HX HY hrf p3 p4 rfl rfl rfl rfl ?_
                    intro vals w4 hG h24
                    unfold IsV at h24
                    simp only [putD, Act.put, List.setIfInBounds_toArray, List.set_cons_zero, List.set_cons_succ, h24]
                    have HB4 := Lib.hid (HBn.out.trans (hG.mono HBn.out.size))
                    clear h24 hG HX HY hrf d0
                    go_wp2_with fail
                    go_roundw
                    case rel => exact ⟨n + 1, by go_num, by omega, HTn, HB4.out⟩
                    case measure => simp [Go.RowKit.intOf]; omega
                  · have hrf : (x != y) = true := by simp [hxy]
                    have HRf := Lib.hid (HF.out (fun e => hxy (by
                      have e1 : xps = yps := congrArg Prod.fst e
                      subst e1
                      rw [hx, hy])))
                    clear hx hy haa hab hca hcb h1 h2 hxy ht hB hb1 hb2
                    go_wp2_with fail
                    refine req_r _ _ _ bx (bx + 1) aa ab xn xc yc n (.slice xD xm xd) (.slice yD ym yd) x y true HX HY hrf p3 p4 rfl rfl rfl rfl ?_
                    intro vals w4 hG h24
                    unfold IsV at h24
                    simp only [putD, Act.put, List.setIfInBounds_toArray, List.set_cons_zero, List.set_cons_succ, h24]
                    have HB4 := Lib.hid (HBn.out.trans (hG.mono HBn.out.size))
                    clear h24 hG HX HY hrf d0
                    go_wp2_with fail
                    go_ret
                    rw [HRf.out]
                    have hz := HBo.out.trans (HB4.out.mono HBo.out.size)
                    exact ⟨rfl, HW1.out.2.2.trans (hz.mono HW1.out.2.2.size)⟩
                · have hnx : n = xn := by omega
                  have HTk := Lib.hid (HT.out (by
                    have := ht.out
                    rw [hnx, List.take_of_length_le (by rw [← HL.out.1]; exact Nat.le_refl _), List.take_of_length_le (by rw [← HL.out.2]; exact Nat.le_refl _)] at this
                    rw [this, hbb]))
                  have d0 := hb1.two.1
                  have HBz := Lib.hid (HBo.out.trans (hB.mono HBo.out.size))
                  clear hnx hb1 hb2 hB ht
                  go_wp2_with fail
                  go_roundw
                  case rel => exact ⟨k + 1, by go_num, by omega, HTk, HBz.out⟩
                  case measure => simp [Go.RowKit.intOf]; omega
            · have hss : ¬ s1.toList = s2.toList := by rw [hs1, hs2]; exact str_ne hbb
              have hss2 : (s1.toList == s2.toList) = false := by simpa using hss
              have HRf := Lib.hid (HF.out (fun e => hbb (congrArg Prod.snd e)))
              subst hn
              clear hs1 hs2 hxm hym hxn hyn hbb
              go_wp2_with fail
              go_ret
              rw [HRf.out]
              rw [← hW2'.out]
              have hz := HBk.out.trans (HW2.out.2.2.mono HBk.out.size)
              exact ⟨rfl, HW1.out.2.2.trans (hz.mono HW1.out.2.2.size)⟩
          · have t1 : ¬ (xn : Int) = (yn : Int) := by omega
            have HRf := Lib.hid (HF.out (fun e => hn (by
              have e1 : xps = yps := congrArg Prod.fst e
              rw [hxn, hyn, e1])))
            clear hs1 hs2 hxm hym hxn hyn hn
            go_wp2_with fail
            go_ret
            rw [HRf.out]
            rw [← hW2'.out]
            have hz := HBk.out.trans (HW2.out.2.2.mono HBk.out.size)
            exact ⟨rfl, HW1.out.2.2.trans (hz.mono HW1.out.2.2.size)⟩
        · have hkN : k = N := by omega
          have HTn := Lib.hid (show ns.map Nv.m = ms.map Nv.m from by
            have := ht.out
            rwa [hkN, List.take_of_length_le (by rw [← HN.out.1]; exact Nat.le_refl _), List.take_of_length_le (by rw [← HN.out.2.2.1]; exact Nat.le_refl _)] at this)
          clear hkN ht hb1 hb2
          go_wp2_with fail
          clear hl1 hl2 c0 c1 hlt
          obtain ⟨W0, hW0⟩ : ∃ W0, W0 = wr := ⟨_, rfl⟩
          rw [← hW0] at hB ⊢
          clear hW0
          go_loopw [9] (fun i W => ∃ k : Nat, i = .int .i64 k ∧ k ≤ M ∧ Hid (rs.take k = us.take k) ∧ Below W1.heap.size W1 W) (fun i _ => M - (Go.RowKit.intOf i).toNat)
          case atStart => exact ⟨0, rfl, Nat.zero_le _, Lib.hid rfl, hB⟩
          case round =>
            obtain ⟨k, rfl, hk, ht, hB⟩ := hrel
            have HBk := Lib.hid hB
            have hb1 := HW1.out.1.below hB HW1.out.1.lt
            have hb2 := HW1.out.2.1.below hB HW1.out.2.1.lt
            have c0 := hb1.two.2
            have hl1 := hb1.lt
            have HBw := Lib.hid (show Below w.heap.size w wr from HW1.out.2.2.trans (hB.mono HW1.out.2.2.size))
            by_cases hlt : k < M
            · have h1 : k < rs.length := by rw [← HN.out.2.1]; exact hlt
              have h2 : k < us.length := by rw [← HN.out.2.2.2]; exact hlt
              obtain ⟨x, hx⟩ : ∃ x, x = rs[k] := ⟨_, rfl⟩
              obtain ⟨y, hy⟩ : ∃ x, x = us[k] := ⟨_, rfl⟩
              obtain ⟨ad, rfl, hc2, hc3⟩ : ∃ ad, A2 = some ad ∧ wr.cell? (ad.add (k * 2)) = some (.string x.s) ∧ wr.cell? ⟨(ad.add (k * 2)).block, (ad.add (k * 2)).off + 1, none⟩ = some (.int .i64 x.t) := by
                obtain ⟨ad, e, _, h1, h2⟩ := (HA.out.r.below HBw.out) k h1
                exact ⟨ad, e, by rw [hx]; exact h1, by rw [hx]; exact h2⟩
              obtain ⟨ae, rfl, hd2, hd3⟩ : ∃ ad, C2 = some ad ∧ wr.cell? (ad.add (k * 2)) = some (.string y.s) ∧ wr.cell? ⟨(ad.add (k * 2)).block, (ad.add (k * 2)).off + 1, none⟩ = some (.int .i64 y.t) := by
                obtain ⟨ad, e, _, h1, h2⟩ := (HB.out.r.below HBw.out) k h2
                exact ⟨ad, e, by rw [hy]; exact h1, by rw [hy]; exact h2⟩
              have HF := Lib.hid (show ¬ x = y → R = false from fun e => by
                rw [HR.out]
                refine same_false fun h => e ?_
                have h3 : rs = us := h.1
                subst h3
                rw [hx, hy])
              have HTk := Lib.hid (show x = y → rs.take (k + 1) = us.take (k + 1) from fun e => take_eq_succ h1 h2 ht.out (by rw [← hx, ← hy, e]))
              have p3 : (0 : Int) ≤ (k : Int) := by omega
              have p4 : (k : Int) < (M : Int) := by omega
              by_cases hs : x.s = y.s
              · rw [← hs] at hd2
                have HX := Lib.hid (fun (W : World) (b : Below wr.heap.size wr W) => show W.cell? ⟨w.heap.size, 1, none⟩ = some (.slice (some ad) M ca2) ∧ W.cell? (ad.add (k * 2)) = some (.string x.s) ∧ W.cell? ⟨(ad.add (k * 2)).block, (ad.add (k * 2)).off + 1, none⟩ = some (.int .i64 x.t) from ⟨(hb1.below b hb1.lt).cell 1, (b.cell (cell_lt hc2)).trans hc2, (b.cell (cell_lt hc3)).trans hc3⟩)
                have HY := Lib.hid (fun (W : World) (b : Below wr.heap.size wr W) => show W.cell? ⟨w.heap.size + 1, 1, none⟩ = some (.slice (some ae) M cc2) ∧ W.cell? (ae.add (k * 2)) = some (.string x.s) ∧ W.cell? ⟨(ae.add (k * 2)).block, (ae.add (k * 2)).off + 1, none⟩ = some (.int .i64 y.t) from ⟨(hb2.below b hb2.lt).cell 1, (b.cell (cell_lt hd2)).trans hd2, (b.cell (cell_lt hd3)).trans hd3⟩)
                by_cases hxy : x.t = y.t
                · have hrf : (x.t != y.t) = false := by simp [hxy]
                  have HTq := Lib.hid (HTk.out (by cases x; cases y; simp at hs hxy; rw [hs, hxy]))
                  clear hx hy hc2 hc3 hd2 hd3 h1 h2 ht hB hb1 hb2 hxy hs
                  go_wp2_with fail
                  refine reqb_r _ _ _ w.heap.size (w.heap.size + 1) ad ae M ca2 cc2 k x.s x.t y.t false HX HY hrf p3 p4 rfl rfl rfl rfl ?_
                  intro vals w4 hG h24
                  unfold IsV at h24
                  simp only [putD, Act.put, List.setIfInBounds_toArray, List.set_cons_zero, List.set_cons_succ, h24]
                  have HB4 := Lib.hid (HBk.out.trans (hG.mono HBk.out.size))
                  clear h24 hG HX HY hrf
                  go_wp2_with fail
                  go_roundw
                  case rel => exact ⟨k + 1, by go_num, by omega, HTq, HB4.out⟩
                  case measure => simp [Go.RowKit.intOf]; omega
                · have hrf : (x.t != y.t) = true := by simp [hxy]
                  have HRf := Lib.hid (HF.out (fun e => hxy (by rw [e])))
                  clear hx hy hc2 hc3 hd2 hd3 h1 h2 ht hB hb1 hb2 hxy hs
                  go_wp2_with fail
                  refine reqb_r _ _ _ w.heap.size (w.heap.size + 1) ad ae M ca2 cc2 k x.s x.t y.t true HX HY hrf p3 p4 rfl rfl rfl rfl ?_
                  intro vals w4 hG h24
                  unfold IsV at h24
                  simp only [putD, Act.put, List.setIfInBounds_toArray, List.set_cons_zero, List.set_cons_succ, h24]
                  have HB4 := Lib.hid (HBw.out.trans (hG.mono HBw.out.size))
                  clear h24 hG HX HY hrf
                  go_wp2_with fail
                  go_ret
                  rw [HRf.out]
                  exact ⟨rfl, HB4.out⟩
              · have HX := Lib.hid (fun (W : World) (b : Below wr.heap.size wr W) => show W.cell? ⟨w.heap.size, 1, none⟩ = some (.slice (some ad) M ca2) ∧ W.cell? (ad.add (k * 2)) = some (.string x.s) from ⟨(hb1.below b hb1.lt).cell 1, (b.cell (cell_lt hc2)).trans hc2⟩)
                have HY := Lib.hid (fun (W : World) (b : Below wr.heap.size wr W) => show W.cell? ⟨w.heap.size + 1, 1, none⟩ = some (.slice (some ae) M cc2) ∧ W.cell? (ae.add (k * 2)) = some (.string y.s) from ⟨(hb2.below b hb2.lt).cell 1, (b.cell (cell_lt hd2)).trans hd2⟩)
                have HRf := Lib.hid (HF.out (fun e => hs (by rw [e])))
                have hrf : ¬ x.s.toList = y.s.toList := fun e => hs (listB_inj e)
                clear hx hy hc2 hc3 hd2 hd3 h1 h2 ht hB hb1 hb2 hs
                go_wp2_with fail
                refine reqa_r _ _ _ w.heap.size (w.heap.size + 1) ad ae M ca2 cc2 k x.s y.s HX HY hrf p3 p4 rfl rfl rfl rfl ?_
                intro vals w4 hG h24
                unfold IsV at h24
                simp only [putD, Act.put, List.setIfInBounds_toArray, List.set_cons_zero, List.set_cons_succ, h24]
                have HB4 := Lib.hid (HBw.out.trans (hG.mono HBw.out.size))
                clear h24 hG HX HY hrf
                go_wp2_with fail
                go_ret
                rw [HRf.out]
                exact ⟨rfl, HB4.out⟩
            · have hkM : k = M := by omega
              have HRt := Lib.hid (show R = true from by
                have := ht.out
                rw [hkM, List.take_of_length_le (by rw [← HN.out.2.1]; exact Nat.le_refl _), List.take_of_length_le (by rw [← HN.out.2.2.2]; exact Nat.le_refl _)] at this
                rw [HR.out]
                exact same_true this HTn.out)
              clear hkM ht hB hb1 hb2
              go_wp2_with fail
              go_ret
              rw [HRt.out]
              exact ⟨rfl, HBw.out⟩
    · have HRf := Lib.hid (show R = false from by
        rw [HR.out]
        refine same_false fun h => hmm ?_
        have h3 : rs = us := h.1
        rw [HN.out.2.1, HN.out.2.2.2, h3])
      have t1 : ¬ (M : Int) = (M2 : Int) := by omega
      subst hnn
      go_wp2_with fail
      go_ret
      rw [HRf.out]
      exact ⟨rfl, (by repeat (first | with_reducible assumption | with_reducible exact Below.refl _ _ | with_reducible apply bdN | with_reducible apply Below.drew | with_reducible refine Below.alloc ?_ (by simp) _ | with_reducible refine Below.setCell ?_ (by simp) _))⟩
  · have HRf := Lib.hid (show R = false from by
      rw [HR.out]
      refine same_false fun h => hnn ?_
      have h3 := congrArg List.length h.2
      rw [List.length_map, List.length_map] at h3
      rw [HN.out.1, HN.out.2.2.1]
      exact h3)
    have t1 : ¬ (N : Int) = (N2 : Int) := by omega
    go_wp2_with fail
    go_ret
    rw [HRf.out]
    exact ⟨rfl, (by repeat (first | with_reducible assumption | with_reducible exact Below.refl _ _ | with_reducible apply bdN | with_reducible apply Below.drew | with_reducible refine Below.alloc ?_ (by simp) _ | with_reducible refine Below.setCell ?_ (by simp) _))⟩
end Go.Proofs.Ytkkjnahjmomjgaa
