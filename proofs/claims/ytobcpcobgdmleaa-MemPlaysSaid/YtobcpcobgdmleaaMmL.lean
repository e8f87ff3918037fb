/- What loamlaw13's in and same answer. Conditions: lengths. -/
import Derived.Test.YtobcpcobgdmleaaMmK
namespace Go.Proofs.Ytobcpcobgdmleaa
set_option linter.unusedVariables false
set_option linter.unusedSimpArgs false
open Go.RowKit
set_option maxHeartbeats 400000
set_option maxRecDepth 100000
theorem inL_c (w : World) (L at_ n : Int) (hL : 0 ≤ L) (hL2 : L ≤ 1000000) (ha : -9223372036854775808 ≤ at_) (ha2 : at_ ≤ 9223372036854775807) (hn : -9223372036854775808 ≤ n) (hn2 : n ≤ 9223372036854775807) :
    Calls Try.prog 12 #[.int .i64 at_, .int .i64 n, .int .i64 L] w fun e w' => e = .returned (.bool (inM L at_ n)) ∧ w' = w := by
  have hb : inM L at_ n = (decide (0 ≤ at_) && (decide (0 ≤ n) && (decide (at_ ≤ L) && decide (n ≤ L - at_)))) := by
    unfold inM
    rw [Bool.eq_iff_iff]
    simp only [Bool.and_eq_true, decide_eq_true_eq]
    omega
  rw [hb]
  clear hb
  obtain ⟨r1, t1⟩ : ∃ r, decide (0 ≤ at_) = r := ⟨_, rfl⟩
  obtain ⟨r2, t2⟩ : ∃ r, decide (0 ≤ n) = r := ⟨_, rfl⟩
  obtain ⟨r3, t3⟩ : ∃ r, decide (at_ ≤ L) = r := ⟨_, rfl⟩
  obtain ⟨r4, t4⟩ : ∃ r, decide (n ≤ L - at_) = r := ⟨_, rfl⟩
  rw [t1, t2, t3, t4]
  cases r1 <;> cases r2 <;> cases r3
  all_goals
    go_enter Try.func12, Try.ntmps12
    go_wp2_with fail
    all_goals first
      | (go_ret; exact ⟨rfl, rfl⟩)
      | (go_ret
         have k : wrap64 (L - at_) = L - at_ := by
           have k1 := of_decide_eq_true t1
           have k3 := of_decide_eq_true t3
           unfold wrap64
           omega
         exact ⟨by rw [k, t4]; rfl, rfl⟩)
theorem same_r (Q : Exit → Act → World → Prop) (a0 : Act) (w : World) (a b : Addr) (N c c2 i : Nat) (x : BitVec 64) (ha : a.block < w.heap.size) (hb : b.block < w.heap.size) (h1 : w.cell? (a.add i) = some (.int .u64 (U64 x))) (h2 : w.cell? (b.add i) = some (.int .u64 (U64 x))) (p1 : (0 : Int) ≤ (i : Int)) (p2 : (i : Int) < (N : Int)) (hsz : a0.tmps.size = 56) (sl1 : a0.tmps.getD 1 undef = .slice (some a) N c) (sl5 : a0.tmps.getD 5 undef = .slice (some b) N c2) (sl6 : a0.tmps.getD 6 undef = .int .i64 i) (sl7 : a0.tmps.getD 7 undef = .int .u64 (U64 x)) (sl8 : a0.tmps.getD 8 undef = .int .i64 0)
    (fin : ∀ (vals : Nat → Value) (w1 : World), Below w.heap.size w w1 → (IsV (.bool false)) (vals 20) w1 → Q .normal (putD vals [35, 36, 37, 38, 39, 40, 41, 42, 43, 44, 45, 46, 47, 48, 49, 50, 51, 52, 53, 54, 55] 0 a0) w1) :
    (Code.region 8 (regIn Try.f19 8) true).wp Try.prog Q a0 w := by
  refine region_by (G := fun w w1 => Below w.heap.size w w1) [IsV (.slice (some b) N c2),
    IsV (.int .i64 i),
    IsV (.pointer (some (b.add i))),
    IsV (.int .u64 (U64 x)),
    IsV (.slice (some a) N c),
    IsV (.int .i64 i),
    IsV (.pointer (some (a.add i))),
    IsV (.int .u64 (U64 x)),
    IsV (.bool false),
    IsV (.bool false),
    IsV (.int .u64 (U64 x)),
    IsV (.slice (some a) N c),
    IsV (.int .i64 i),
    IsV (.pointer (some (a.add i))),
    IsV (.int .u64 (U64 x)),
    IsV (.bool false),
    IsV (.bool false),
    IsV (.bool false),
    IsV (.int .i64 0),
    IsV (.bool false),
    IsV (.bool false)]
    [35, 36, 37, 38, 39, 40, 41, 42, 43, 44, 45, 46, 47, 48, 49, 50, 51, 52, 53, 54, 55] (by kernel_rfl) (Gw.drew _) Gw.trans (by rw [hsz]; kernel_rfl) (by kernel_rfl) ?_ ?_ ?_
  · intro f hf
    simp only [List.mem_cons, List.not_mem_nil, or_false] at hf
    rcases hf with rfl | rfl | rfl | rfl | rfl | rfl | rfl | rfl | rfl | rfl | rfl | rfl | rfl | rfl | rfl | rfl | rfl | rfl | rfl | rfl | rfl <;> intro v a b h g <;> first | exact IsV.mono h
  · refine ⟨?_, ?_, ?_, ?_, ?_, ?_, ?_, ?_, ?_, ?_, ?_, ?_, ?_, ?_, ?_, ?_, ?_, ?_, ?_, ?_, ?_, trivial⟩
    · exact owes_mv 5 (by kernel_rfl) (by kernel_rfl) (by kernel_rfl) sl5 (fun _ => rfl)
    · exact owes_mv 6 (by kernel_rfl) (by kernel_rfl) (by kernel_rfl) sl6 (fun _ => rfl)
    · refine owes_v (Go.Op.indexAddr 22 (Go.Operand.tmp 35) (Go.Operand.tmp 36)) 0 [0, 1] (by kernel_rfl) (by kernel_rfl) (by kernel_rfl) rfl fun vals w1 ρ hG hF hρ hcst hfun => ?_
      have e35 : ρ (.tmp 35) = .slice (some b) N c2 := ((hρ 35).trans (slotJ [0, 1] (by rw [hsz]; decide) (by kernel_rfl))).trans (hF 0 (by decide))
      have e36 : ρ (.tmp 36) = .int .i64 i := ((hρ 36).trans (slotJ [0, 1] (by rw [hsz]; decide) (by kernel_rfl))).trans (hF 1 (by decide))
      clear hρ hF hcst hfun sl1 sl5 sl6 sl7 sl8 fin
      exact opv_val (by go_simp <;> rfl) ⟨gw_self _, rfl⟩
    · refine owes_v (Go.Op.load 29 (Go.Operand.tmp 37)) 29 [2] (by kernel_rfl) (by kernel_rfl) (by kernel_rfl) rfl fun vals w1 ρ hG hF hρ hcst hfun => ?_
      have e37 : ρ (.tmp 37) = .pointer (some (b.add i)) := ((hρ 37).trans (slotJ [2] (by rw [hsz]; decide) (by kernel_rfl))).trans (hF 2 (by decide))
      have k := (hG.cell (p := b.add i) (by rw [add_block]; exact hb)).trans h2
      clear hρ hF hcst hfun sl1 sl5 sl6 sl7 sl8 fin
      exact opv_val (by go_simp <;> rfl) ⟨gw_self _, rfl⟩
    · exact owes_mv 1 (by kernel_rfl) (by kernel_rfl) (by kernel_rfl) sl1 (fun _ => rfl)
    · exact owes_mv 6 (by kernel_rfl) (by kernel_rfl) (by kernel_rfl) sl6 (fun _ => rfl)
    · refine owes_v (Go.Op.indexAddr 22 (Go.Operand.tmp 39) (Go.Operand.tmp 40)) 0 [4, 5] (by kernel_rfl) (by kernel_rfl) (by kernel_rfl) rfl fun vals w1 ρ hG hF hρ hcst hfun => ?_
      have e39 : ρ (.tmp 39) = .slice (some a) N c := ((hρ 39).trans (slotJ [4, 5] (by rw [hsz]; decide) (by kernel_rfl))).trans (hF 4 (by decide))
      have e40 : ρ (.tmp 40) = .int .i64 i := ((hρ 40).trans (slotJ [4, 5] (by rw [hsz]; decide) (by kernel_rfl))).trans (hF 5 (by decide))
      clear hρ hF hcst hfun sl1 sl5 sl6 sl7 sl8 fin
      exact opv_val (by go_simp <;> rfl) ⟨gw_self _, rfl⟩
    · refine owes_v (Go.Op.load 29 (Go.Operand.tmp 41)) 29 [6] (by kernel_rfl) (by kernel_rfl) (by kernel_rfl) rfl fun vals w1 ρ hG hF hρ hcst hfun => ?_
      have e41 : ρ (.tmp 41) = .pointer (some (a.add i)) := ((hρ 41).trans (slotJ [6] (by rw [hsz]; decide) (by kernel_rfl))).trans (hF 6 (by decide))
      have k := (hG.cell (p := a.add i) (by rw [add_block]; exact ha)).trans h1
      clear hρ hF hcst hfun sl1 sl5 sl6 sl7 sl8 fin
      exact opv_val (by go_simp <;> rfl) ⟨gw_self _, rfl⟩
    · refine owes_v (Go.Op.binOp Go.BinOp.neq 29 (Go.Operand.tmp 38) (Go.Operand.tmp 42) 29) 4 [3, 7] (by kernel_rfl) (by kernel_rfl) (by kernel_rfl) rfl fun vals w1 ρ hG hF hρ hcst hfun => ?_
      have e38 : ρ (.tmp 38) = .int .u64 (U64 x) := ((hρ 38).trans (slotJ [3, 7] (by rw [hsz]; decide) (by kernel_rfl))).trans (hF 3 (by decide))
      have e42 : ρ (.tmp 42) = .int .u64 (U64 x) := ((hρ 42).trans (slotJ [3, 7] (by rw [hsz]; decide) (by kernel_rfl))).trans (hF 7 (by decide))
      clear hρ hF hcst hfun sl1 sl5 sl6 sl7 sl8 fin
      exact opv_val (by go_simp <;> rfl) ⟨gw_self _, rfl⟩
    · exact owes_mvj 8 43 (by kernel_rfl) (by kernel_rfl) (by kernel_rfl) (by kernel_rfl) (by rw [hsz]; decide) (fun v w h => h)
    · refine owes_vt 9 false (Go.Op.move (Go.Operand.tmp 7)) 29 [] (by kernel_rfl) (by kernel_rfl) (by kernel_rfl) (fun _ _ h => h) (by rw [hsz]; kernel_rfl) (by kernel_rfl) rfl fun vals w1 ρ hG hF hρ hcst hfun => ?_
      have e7 : ρ (.tmp 7) = .int .u64 (U64 x) := ((hρ 7).trans (slotO [] (by kernel_rfl))).trans sl7
      clear hρ hF hcst hfun sl1 sl5 sl6 sl7 sl8 fin
      exact opv_val (by go_simp <;> rfl) ⟨gw_self _, rfl⟩
    · refine owes_vt 9 false (Go.Op.move (Go.Operand.tmp 1)) 22 [] (by kernel_rfl) (by kernel_rfl) (by kernel_rfl) (fun _ _ h => h) (by rw [hsz]; kernel_rfl) (by kernel_rfl) rfl fun vals w1 ρ hG hF hρ hcst hfun => ?_
      have e1 : ρ (.tmp 1) = .slice (some a) N c := ((hρ 1).trans (slotO [] (by kernel_rfl))).trans sl1
      clear hρ hF hcst hfun sl1 sl5 sl6 sl7 sl8 fin
      exact opv_val (by go_simp <;> rfl) ⟨gw_self _, rfl⟩
    · refine owes_vt 9 false (Go.Op.move (Go.Operand.tmp 6)) 3 [] (by kernel_rfl) (by kernel_rfl) (by kernel_rfl) (fun _ _ h => h) (by rw [hsz]; kernel_rfl) (by kernel_rfl) rfl fun vals w1 ρ hG hF hρ hcst hfun => ?_
      have e6 : ρ (.tmp 6) = .int .i64 i := ((hρ 6).trans (slotO [] (by kernel_rfl))).trans sl6
      clear hρ hF hcst hfun sl1 sl5 sl6 sl7 sl8 fin
      exact opv_val (by go_simp <;> rfl) ⟨gw_self _, rfl⟩
    · refine owes_vt 9 false (Go.Op.indexAddr 22 (Go.Operand.tmp 46) (Go.Operand.tmp 47)) 0 [11, 12] (by kernel_rfl) (by kernel_rfl) (by kernel_rfl) (fun _ _ h => h) (by rw [hsz]; kernel_rfl) (by kernel_rfl) rfl fun vals w1 ρ hG hF hρ hcst hfun => ?_
      have e46 : ρ (.tmp 46) = .slice (some a) N c := ((hρ 46).trans (slotJ [11, 12] (by rw [hsz]; decide) (by kernel_rfl))).trans (hF 11 (by decide))
      have e47 : ρ (.tmp 47) = .int .i64 i := ((hρ 47).trans (slotJ [11, 12] (by rw [hsz]; decide) (by kernel_rfl))).trans (hF 12 (by decide))
      clear hρ hF hcst hfun sl1 sl5 sl6 sl7 sl8 fin
      exact opv_val (by go_simp <;> rfl) ⟨gw_self _, rfl⟩
    · refine owes_vt 9 false (Go.Op.load 29 (Go.Operand.tmp 48)) 29 [13] (by kernel_rfl) (by kernel_rfl) (by kernel_rfl) (fun _ _ h => h) (by rw [hsz]; kernel_rfl) (by kernel_rfl) rfl fun vals w1 ρ hG hF hρ hcst hfun => ?_
      have e48 : ρ (.tmp 48) = .pointer (some (a.add i)) := ((hρ 48).trans (slotJ [13] (by rw [hsz]; decide) (by kernel_rfl))).trans (hF 13 (by decide))
      have k := (hG.cell (p := a.add i) (by rw [add_block]; exact ha)).trans h1
      clear hρ hF hcst hfun sl1 sl5 sl6 sl7 sl8 fin
      exact opv_val (by go_simp <;> rfl) ⟨gw_self _, rfl⟩
    · refine owes_vt 9 false (Go.Op.binOp Go.BinOp.neq 29 (Go.Operand.tmp 45) (Go.Operand.tmp 49) 29) 4 [10, 14] (by kernel_rfl) (by kernel_rfl) (by kernel_rfl) (fun _ _ h => h) (by rw [hsz]; kernel_rfl) (by kernel_rfl) rfl fun vals w1 ρ hG hF hρ hcst hfun => ?_
      have e45 : ρ (.tmp 45) = .int .u64 (U64 x) := ((hρ 45).trans (slotJ [10, 14] (by rw [hsz]; decide) (by kernel_rfl))).trans (hF 10 (by decide))
      have e49 : ρ (.tmp 49) = .int .u64 (U64 x) := ((hρ 49).trans (slotJ [10, 14] (by rw [hsz]; decide) (by kernel_rfl))).trans (hF 14 (by decide))
      clear hρ hF hcst hfun sl1 sl5 sl6 sl7 sl8 fin
      exact opv_val (by go_simp <;> rfl) ⟨gw_self _, rfl⟩
    · refine owes_v (Go.Op.pick (Go.Operand.tmp 44) (Go.Operand.const (Go.Value.bool true)) (Go.Operand.tmp 50)) 4 [9, 15] (by kernel_rfl) (by kernel_rfl) (by kernel_rfl) rfl fun vals w1 ρ hG hF hρ hcst hfun => ?_
      have e44 : ρ (.tmp 44) = .bool false := ((hρ 44).trans (slotJ [9, 15] (by rw [hsz]; decide) (by kernel_rfl))).trans (hF 9 (by decide))
      have e50 : ρ (.tmp 50) = .bool false := ((hρ 50).trans (slotJ [9, 15] (by rw [hsz]; decide) (by kernel_rfl))).trans (hF 15 (by decide))
      clear hρ hF hfun sl1 sl5 sl6 sl7 sl8 fin
      exact opv_val (by go_simp <;> rfl) ⟨gw_self _, rfl⟩
    · exact owes_mvj 16 51 (by kernel_rfl) (by kernel_rfl) (by kernel_rfl) (by kernel_rfl) (by rw [hsz]; decide) (fun v w h => h)
    · refine owes_vt 17 false (Go.Op.move (Go.Operand.tmp 8)) 26 [] (by kernel_rfl) (by kernel_rfl) (by kernel_rfl) (fun _ _ h => h) (by rw [hsz]; kernel_rfl) (by kernel_rfl) rfl fun vals w1 ρ hG hF hρ hcst hfun => ?_
      have e8 : ρ (.tmp 8) = .int .i64 0 := ((hρ 8).trans (slotO [] (by kernel_rfl))).trans sl8
      clear hρ hF hcst hfun sl1 sl5 sl6 sl7 sl8 fin
      exact opv_val (by go_simp <;> rfl) ⟨gw_self _, rfl⟩
    · refine owes_vt 17 false (Go.Op.binOp Go.BinOp.neq 3 (Go.Operand.tmp 53) (Go.Operand.const (Go.Value.int Go.IntKind.i64 0)) 3) 4 [18] (by kernel_rfl) (by kernel_rfl) (by kernel_rfl) (fun _ _ h => h) (by rw [hsz]; kernel_rfl) (by kernel_rfl) rfl fun vals w1 ρ hG hF hρ hcst hfun => ?_
      have e53 : ρ (.tmp 53) = .int .i64 0 := ((hρ 53).trans (slotJ [18] (by rw [hsz]; decide) (by kernel_rfl))).trans (hF 18 (by decide))
      clear hρ hF hfun sl1 sl5 sl6 sl7 sl8 fin
      exact opv_val (by go_simp <;> rfl) ⟨gw_self _, rfl⟩
    · refine owes_v (Go.Op.pick (Go.Operand.tmp 52) (Go.Operand.const (Go.Value.bool true)) (Go.Operand.tmp 54)) 4 [17, 19] (by kernel_rfl) (by kernel_rfl) (by kernel_rfl) rfl fun vals w1 ρ hG hF hρ hcst hfun => ?_
      have e52 : ρ (.tmp 52) = .bool false := ((hρ 52).trans (slotJ [17, 19] (by rw [hsz]; decide) (by kernel_rfl))).trans (hF 17 (by decide))
      have e54 : ρ (.tmp 54) = .bool false := ((hρ 54).trans (slotJ [17, 19] (by rw [hsz]; decide) (by kernel_rfl))).trans (hF 19 (by decide))
      clear hρ hF hfun sl1 sl5 sl6 sl7 sl8 fin
      exact opv_val (by go_simp <;> rfl) ⟨gw_self _, rfl⟩
  · intro vals w1 hG hF
    exact fin vals w1 hG (hF 20 (by decide +kernel))
theorem same_t (w : World) (B g : Nat) (v : Value) (ws : List (BitVec 64)) (A : Option Addr) (c : Nat) (h : MemAt w B g v ws) (hr : Rd u64v w w.heap.size A ws) (hl : ws.length ≤ 100000) :
    Calls Try.prog 19 #[.pointer (some ⟨g, 0, none⟩), .slice A ws.length c] w (RetP (.bool true) w) := by
  have HW := Lib.hid (words_c w B g v ws h (by omega))
  have HM := Lib.hid h
  have HR := Lib.hid hr
  have hGet := Lib.hid (fun (W : World) (hb : Below w.heap.size w W) (i : Nat) (hi : i < ws.length) => get_in W B g v ws i hi hl (h.below hb))
  have HLn := Lib.hid (fun (W : World) (hb : Below w.heap.size w W) => len_c W B g v ws (h.below hb))
  obtain ⟨N, hN⟩ : ∃ N, N = ws.length := ⟨_, rfl⟩
  rw [← hN] at HLn ⊢
  have HN := Lib.hid hN
  have q3 : (N : Int) ≤ 100000 := by omega
  clear h hr hl hN
  go_enter Try.func19, Try.ntmps19
  go_wp2_with fail
  refine Calls.mono HW.out ?_
  rintro e w1 ⟨A1, c1, rfl, hc1, ho1, b1⟩
  rw [← HN.out]
  have HB1 := Lib.hid b1
  have HO := Lib.hid ho1
  clear hc1 ho1 b1 HW
  go_wp2_with fail
  refine Calls.mono (HLn.out w1 HB1.out) ?_
  rintro e w2 ⟨rfl, rfl⟩
  clear HLn
  go_wp2_with fail
  go_loopw [6, 7, 8] (fun i _ _ wr => ∃ k : Nat, k ≤ N ∧ i = .int .i64 k ∧ Below w2.heap.size w2 wr) (fun i _ _ _ => N - (intOf i).toNat)
  case atStart => exact ⟨0, by omega, rfl, Below.refl _ _⟩
  case round =>
    obtain ⟨k, hk, rfl, hB⟩ := hrel
    have hBw := HB1.out.trans (hB.mono HB1.out.size)
    by_cases hlt : k < N
    · have p1 : (0 : Int) ≤ (k : Int) := by omega
      have p2 : (k : Int) < (N : Int) := by omega
      have hlw : k < ws.length := by rw [← HN.out]; exact hlt
      have HG := Lib.hid (hGet.out wr hBw k hlw)
      obtain ⟨ad, rfl, hadb, hcl⟩ := (HR.out.below hBw) k hlw
      obtain ⟨ad2, rfl, hadb2, hcl2⟩ := (HO.out.below hB).rd k hlw
      obtain ⟨y, hy⟩ : ∃ y, y = ws[k] := ⟨_, rfl⟩
      rw [← hy] at hcl hcl2 HG
      unfold u64v at hcl hcl2
      have HS := Lib.hid (fun Q a0 => same_r Q a0 wr ad ad2 N c c1 k y (Nat.lt_of_lt_of_le hadb hBw.size) hadb2 hcl hcl2 p1 p2)
      clear hy hadb hadb2 hcl hcl2 hlw
      go_wp2_with fail
      refine Calls.mono HG.out ?_
      rintro e w3 ⟨rfl, rfl⟩
      go_wp2_with fail
      refine HS.out _ _ rfl rfl rfl rfl rfl rfl ?_
      intro vals w4 hG h55
      unfold IsV at h55
      simp only [putD, Act.put, List.setIfInBounds_toArray, List.set_cons_zero, List.set_cons_succ, h55]
      have HB4 := Lib.hid (hB.trans (hG.mono hB.size))
      clear h55 hG HS HG
      go_wp2_with fail
      go_roundw
      case rel => exact ⟨k + 1, by omega, by go_num, HB4.out⟩
      case measure => (first | (simp [intOf]; done) | (simp [intOf]; omega))
    · go_wp2_with fail
      go_ret
      exact ⟨rfl, hBw⟩
end Go.Proofs.Ytobcpcobgdmleaa
