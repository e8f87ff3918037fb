/- What loamlaw5's few and words answer. Conditions: lengths. -/
import Derived.Test.YteefcimepdbehaaCodF
import Derived.Test.YteefcimepdbehaaOpenR
namespace Go.Proofs.Yteefcimepdbehaa
set_option linter.unusedVariables false
set_option linter.unusedSimpArgs false
open Go.RowKit
set_option maxHeartbeats 400000
set_option maxRecDepth 100000
theorem Its.below {W W' : World} {B : Nat} {A : Option Addr} {l : List Itm} (h : Its W B A l) (hb : Below B W W') : Its W' B A l := fun k hk => by
  obtain ⟨ad, e, m⟩ := h k hk
  have hbk : (ad.add (k * 5)).block < B := by rw [add_block]; exact m.blk
  have c : ∀ j, W'.cell? ⟨(ad.add (k * 5)).block, (ad.add (k * 5)).off + j, none⟩ = W.cell? ⟨(ad.add (k * 5)).block, (ad.add (k * 5)).off + j, none⟩ := fun j => hb.cell (p := ⟨(ad.add (k * 5)).block, (ad.add (k * 5)).off + j, none⟩) hbk
  exact ⟨ad, e, m.blk, (hb.cell hbk).trans m.op, (c _).trans m.u, (c _).trans m.i, (c _).trans m.b, (c _).trans m.w, m.bbc, m.wwc, m.br.below hb, m.wr.below hb⟩
def fewI (l : List Itm) : Bool := l.all fun x => decide (x.bb.length ≤ 500) && decide (x.ww.length ≤ 100)
theorem few_c (w : World) (A : Option Addr) (l : List Itm) (c : Nat) (h : Its w w.heap.size A l) (hl : l.length ≤ 60) : Calls Try.prog 16 #[.slice A l.length c] w (RetP (.bool (fewI l)) w) := by
  have HI := Lib.hid h
  obtain ⟨N, hN⟩ : ∃ N, N = l.length := ⟨_, rfl⟩
  have t1 : decide ((60 : Int) < (l.length : Int)) = false := by simp; omega
  rw [← hN] at t1 ⊢
  have HN := Lib.hid hN
  have q1 : (N : Int) ≤ 60 := by omega
  clear h hl hN
  go_enter Try.func16, Try.ntmps16
  go_wp2_with fail
  go_loopw [3] (fun i wr => ∃ k : Nat, k ≤ N ∧ i = .int .i64 k ∧ wr = w ∧ fewI (l.take k) = true) (fun i _ => N - (intOf i).toNat)
  case atStart => exact ⟨0, by omega, rfl, rfl, rfl⟩
  case round =>
    obtain ⟨k, hk, rfl, rfl, hf⟩ := hrel
    by_cases hlt : k < N
    · have p1 : (0 : Int) ≤ (k : Int) := by omega
      have p2 : (k : Int) < (N : Int) := by omega
      obtain ⟨ad, rfl, m⟩ := HI.out k (by rw [← HN.out]; exact hlt)
      have c3 := m.b
      have c4 := m.w
      have hlw : k < l.length := by rw [← HN.out]; exact hlt
      have hstep : fewI (l.take (k + 1)) = (decide (l[k].bb.length ≤ 500) && decide (l[k].ww.length ≤ 100)) := by
        have e : fewI (l.take (k + 1)) = (fewI (l.take k) && (decide (l[k].bb.length ≤ 500) && decide (l[k].ww.length ≤ 100))) := by
          unfold fewI
          rw [List.take_succ_eq_append_getElem hlw, List.all_append]
          simp
        rw [e, hf, Bool.true_and]
      have hno : fewI (l.take (k + 1)) = false → fewI l = false := fun h => by
        have e : fewI l = (fewI (l.take (k + 1)) && fewI (l.drop (k + 1))) := by
          unfold fewI
          rw [← List.all_append, List.take_append_drop]
        rw [e, h, Bool.false_and]
      obtain ⟨nb, hnb⟩ : ∃ n, n = l[k].bb.length := ⟨_, rfl⟩
      obtain ⟨nw, hnw⟩ : ∃ n, n = l[k].ww.length := ⟨_, rfl⟩
      rw [← hnb] at c3 hstep
      rw [← hnw] at c4 hstep
      by_cases h1 : 500 < nb
      · have HF := Lib.hid (hno (by rw [hstep]; simp; omega))
        have u1 : decide ((500 : Int) < (nb : Int)) = true := by simp; omega
        clear hstep hno m hnb hnw hlw hf
        go_wp2_with fail
        go_ret
        rw [HF.out]
        exact ⟨rfl, Below.refl _ _⟩
      · have u1 : decide ((500 : Int) < (nb : Int)) = false := by simp; omega
        by_cases h2 : 100 < nw
        · have HF := Lib.hid (hno (by rw [hstep]; simp; omega))
          have u2 : decide ((100 : Int) < (nw : Int)) = true := by simp; omega
          clear hstep hno m hnb hnw hlw hf
          go_wp2_with fail
          go_ret
          rw [HF.out]
          exact ⟨rfl, Below.refl _ _⟩
        · have u2 : decide ((100 : Int) < (nw : Int)) = false := by simp; omega
          have HF := Lib.hid (show fewI (l.take (k + 1)) = true by rw [hstep]; simp; omega)
          clear hstep hno m hnb hnw hlw hf
          go_wp2_with fail
          go_roundw
          case rel => exact ⟨k + 1, by omega, by go_num, trivial, HF.out⟩
          case measure => (first | (simp [intOf]; done) | (simp [intOf]; omega))
    · have hkk : k = N := by omega
      subst hkk
      have hf2 : fewI l = true := by have e := HN.out; subst e; rw [List.take_length] at hf; exact hf
      clear hf
      go_wp2_with fail
      go_ret
      rw [hf2]
      exact ⟨rfl, Below.refl _ _⟩
theorem words_r (Q : Exit → Act → World → Prop) (a0 : Act) (w : World) (a b : Addr) (N c c2 i : Nat) (x : BitVec 64) (ha : a.block < w.heap.size) (hb : b.block < w.heap.size) (h1 : w.cell? (a.add i) = some (.int .u64 (U64 x))) (h2 : w.cell? (b.add i) = some (.int .u64 (U64 x))) (p1 : (0 : Int) ≤ (i : Int)) (p2 : (i : Int) < (N : Int)) (hsz : a0.tmps.size = 26) (sl0 : a0.tmps.getD 0 undef = .slice (some a) N c) (sl1 : a0.tmps.getD 1 undef = .slice (some b) N c2) (sl5 : a0.tmps.getD 5 undef = .int .i64 i)
    (fin : ∀ (vals : Nat → Value) (w1 : World), Below w.heap.size w w1 → (IsV (.bool false)) (vals 8) w1 → Q .normal (putD vals [17, 18, 19, 20, 21, 22, 23, 24, 25] 0 a0) w1) :
    (Code.region 6 (regIn Try.f30 6) true).wp Try.prog Q a0 w := by
  refine region_by (G := fun w w1 => Below w.heap.size w w1) [IsV (.slice (some a) N c),
    IsV (.int .i64 i),
    IsV (.pointer (some (a.add i))),
    IsV (.int .u64 (U64 x)),
    IsV (.slice (some b) N c2),
    IsV (.int .i64 i),
    IsV (.pointer (some (b.add i))),
    IsV (.int .u64 (U64 x)),
    IsV (.bool false)]
    [17, 18, 19, 20, 21, 22, 23, 24, 25] (by kernel_rfl) (Gw.drew _) Gw.trans (by rw [hsz]; kernel_rfl) (by kernel_rfl) ?_ ?_ ?_
  · intro f hf
    simp only [List.mem_cons, List.not_mem_nil, or_false] at hf
    rcases hf with rfl | rfl | rfl | rfl | rfl | rfl | rfl | rfl | rfl <;> intro v a b h g <;> first | exact IsV.mono h
  · refine ⟨?_, ?_, ?_, ?_, ?_, ?_, ?_, ?_, ?_, trivial⟩
    · exact owes_mv 0 (by kernel_rfl) (by kernel_rfl) (by kernel_rfl) sl0 (fun _ => rfl)
    · exact owes_mv 5 (by kernel_rfl) (by kernel_rfl) (by kernel_rfl) sl5 (fun _ => rfl)
    · refine owes_v (Go.Op.indexAddr 30 (Go.Operand.tmp 17) (Go.Operand.tmp 18)) 0 [0, 1] (by kernel_rfl) (by kernel_rfl) (by kernel_rfl) rfl fun vals w1 ρ hG hF hρ hcst hfun => ?_
      have e17 : ρ (.tmp 17) = .slice (some a) N c := ((hρ 17).trans (slotJ [0, 1] (by rw [hsz]; decide) (by kernel_rfl))).trans (hF 0 (by decide))
      have e18 : ρ (.tmp 18) = .int .i64 i := ((hρ 18).trans (slotJ [0, 1] (by rw [hsz]; decide) (by kernel_rfl))).trans (hF 1 (by decide))
      clear hρ hF hcst hfun sl0 sl1 sl5 fin
      exact opv_val (by go_simp <;> rfl) ⟨gw_self _, rfl⟩
    · refine owes_v (Go.Op.load 29 (Go.Operand.tmp 19)) 29 [2] (by kernel_rfl) (by kernel_rfl) (by kernel_rfl) rfl fun vals w1 ρ hG hF hρ hcst hfun => ?_
      have e19 : ρ (.tmp 19) = .pointer (some (a.add i)) := ((hρ 19).trans (slotJ [2] (by rw [hsz]; decide) (by kernel_rfl))).trans (hF 2 (by decide))
      have k := (hG.cell (p := a.add i) (by rw [add_block]; exact ha)).trans h1
      clear hρ hF hcst hfun sl0 sl1 sl5 fin
      exact opv_val (by go_simp <;> rfl) ⟨gw_self _, rfl⟩
    · exact owes_mv 1 (by kernel_rfl) (by kernel_rfl) (by kernel_rfl) sl1 (fun _ => rfl)
    · exact owes_mv 5 (by kernel_rfl) (by kernel_rfl) (by kernel_rfl) sl5 (fun _ => rfl)
    · refine owes_v (Go.Op.indexAddr 30 (Go.Operand.tmp 21) (Go.Operand.tmp 22)) 0 [4, 5] (by kernel_rfl) (by kernel_rfl) (by kernel_rfl) rfl fun vals w1 ρ hG hF hρ hcst hfun => ?_
      have e21 : ρ (.tmp 21) = .slice (some b) N c2 := ((hρ 21).trans (slotJ [4, 5] (by rw [hsz]; decide) (by kernel_rfl))).trans (hF 4 (by decide))
      have e22 : ρ (.tmp 22) = .int .i64 i := ((hρ 22).trans (slotJ [4, 5] (by rw [hsz]; decide) (by kernel_rfl))).trans (hF 5 (by decide))
      clear hρ hF hcst hfun sl0 sl1 sl5 fin
      exact opv_val (by go_simp <;> rfl) ⟨gw_self _, rfl⟩
    · refine owes_v (Go.Op.load 29 (Go.Operand.tmp 23)) 29 [6] (by kernel_rfl) (by kernel_rfl) (by kernel_rfl) rfl fun vals w1 ρ hG hF hρ hcst hfun => ?_
      have e23 : ρ (.tmp 23) = .pointer (some (b.add i)) := ((hρ 23).trans (slotJ [6] (by rw [hsz]; decide) (by kernel_rfl))).trans (hF 6 (by decide))
      have k := (hG.cell (p := b.add i) (by rw [add_block]; exact hb)).trans h2
      clear hρ hF hcst hfun sl0 sl1 sl5 fin
      exact opv_val (by go_simp <;> rfl) ⟨gw_self _, rfl⟩
    · refine owes_v (Go.Op.binOp Go.BinOp.neq 29 (Go.Operand.tmp 20) (Go.Operand.tmp 24) 29) 4 [3, 7] (by kernel_rfl) (by kernel_rfl) (by kernel_rfl) rfl fun vals w1 ρ hG hF hρ hcst hfun => ?_
      have e20 : ρ (.tmp 20) = .int .u64 (U64 x) := ((hρ 20).trans (slotJ [3, 7] (by rw [hsz]; decide) (by kernel_rfl))).trans (hF 3 (by decide))
      have e24 : ρ (.tmp 24) = .int .u64 (U64 x) := ((hρ 24).trans (slotJ [3, 7] (by rw [hsz]; decide) (by kernel_rfl))).trans (hF 7 (by decide))
      clear hρ hF hcst hfun sl0 sl1 sl5 fin
      exact opv_val (by go_simp <;> rfl) ⟨gw_self _, rfl⟩
  · intro vals w1 hG hF
    exact fin vals w1 hG (hF 8 (by decide +kernel))
theorem words_t (w : World) (A A2 : Option Addr) (c c2 : Nat) (ws : List (BitVec 64)) (hr : Rd u64v w w.heap.size A ws) (hr2 : Rd u64v w w.heap.size A2 ws) (hl : ws.length ≤ 1000000) : Calls Try.prog 30 #[.slice A ws.length c, .slice A2 ws.length c2] w (RetP (.bool true) w) := by
  obtain ⟨N, hN⟩ : ∃ N, N = ws.length := ⟨_, rfl⟩
  have HN := Lib.hid hN
  have HR := Lib.hid hr
  have HR2 := Lib.hid hr2
  have q3 : (N : Int) ≤ 1000000 := by omega
  rw [← hN]
  clear hN hr hr2 hl
  go_enter Try.func30, Try.ntmps30
  go_wp2_with fail
  go_loopw [5] (fun i wr => ∃ k : Nat, k ≤ N ∧ i = .int .i64 k ∧ Below w.heap.size w wr) (fun i _ => N - (intOf i).toNat)
  case atStart => exact ⟨0, by omega, rfl, Below.refl _ _⟩
  case round =>
    obtain ⟨k, hk, rfl, hB⟩ := hrel
    by_cases hlt : k < N
    · have p1 : (0 : Int) ≤ (k : Int) := by omega
      have p2 : (k : Int) < (N : Int) := by omega
      have hlw : k < ws.length := by rw [← HN.out]; exact hlt
      obtain ⟨ad, rfl, hadb, hcl⟩ := (HR.out.below hB) k hlw
      obtain ⟨ad2, rfl, hadb2, hcl2⟩ := (HR2.out.below hB) k hlw
      obtain ⟨y, hy⟩ : ∃ y, y = ws[k] := ⟨_, rfl⟩
      rw [← hy] at hcl hcl2
      unfold u64v at hcl hcl2
      have hsz := hB.size
      have HS := Lib.hid (fun Q a0 => words_r Q a0 wr ad ad2 N c c2 k y (by omega) (by omega) hcl hcl2 p1 p2)
      clear hy hadb hadb2 hcl hcl2 hlw hsz
      go_wp2_with fail
      refine HS.out _ _ rfl rfl rfl rfl ?_
      intro vals w4 hG h25
      unfold IsV at h25
      simp only [putD, Act.put, List.setIfInBounds_toArray, List.set_cons_zero, List.set_cons_succ, h25]
      have HB4 := Lib.hid (hB.trans (hG.mono hB.size))
      clear h25 hG HS
      go_wp2_with fail
      go_roundw
      case rel => exact ⟨k + 1, by omega, by go_num, HB4.out⟩
      case measure => (first | (simp [intOf]; done) | (simp [intOf]; omega))
    · go_wp2_with fail
      go_ret
      exact ⟨rfl, hB⟩
end Go.Proofs.Yteefcimepdbehaa
