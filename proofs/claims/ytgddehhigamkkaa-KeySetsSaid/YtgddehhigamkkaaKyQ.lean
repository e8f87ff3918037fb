/- Row of loamlaw10 where the rows are the same; the reading of a row of keys. Conditions: lengths. -/
import Derived.Test.YtgddehhigamkkaaKyP
import Derived.Test.YtgddehhigamkkaaOpenR
namespace Go.Proofs.Ytgddehhigamkkaa
set_option linter.unusedVariables false
set_option linter.unusedSimpArgs false
open Go.RowKit Go.Maps Go.ChangeShapes Go.WideShapes
set_option maxHeartbeats 2000000
set_option maxRecDepth 100000
theorem KRd.rdk {w : World} {B : Nat} {A : Option Addr} {ks : List (Int × Int)} (h : KRd w B A ks) : RdK w A ks := by
  intro j u hu
  have hj : j < (flatK ks).length := by
    by_cases h2 : j < (flatK ks).length
    · exact h2
    · rw [List.getElem?_eq_none (by omega)] at hu; cases hu
  rw [flatK_len] at hj
  obtain ⟨ad, e, _, c1, c2⟩ := h (j / 2) (by omega)
  refine ⟨ad, e, ?_⟩
  obtain ⟨f1, f2⟩ := flatK_at ks (j / 2) (by omega)
  rcases (show j = 2 * (j / 2) ∨ j = 2 * (j / 2) + 1 by omega) with h3 | h3
  · rw [h3, f1] at hu
    injection hu with hu
    subst hu
    rw [← c1, show j / 2 * 2 = j from by omega]
  · rw [h3, f2] at hu
    injection hu with hu
    subst hu
    rw [← c2, ← add_far ad (j / 2 * 2) 0, show j / 2 * 2 + (0 + 1) = j from by omega]
theorem cmpN_self (p : Int × Int) : cmpN p p = 0 := (cmpN_zero p p).2 rfl
theorem rowq_reg (Q : Exit → Act → World → Prop) (a0 : Act) (w : World) (ad be : Addr) (n ca cb i : Nat) (x y : Int) (ha : ad.block < w.heap.size) (hb : be.block < w.heap.size) (c1 : w.cell? (ad.add (i * 2)) = some (.int .i64 x)) (c2 : w.cell? ⟨(ad.add (i * 2)).block, (ad.add (i * 2)).off + 1, none⟩ = some (.int .i64 y)) (d1 : w.cell? (be.add (i * 2)) = some (.int .i64 x)) (d2 : w.cell? ⟨(be.add (i * 2)).block, (be.add (i * 2)).off + 1, none⟩ = some (.int .i64 y)) (hi1 : (0 : Int) ≤ (i : Int)) (hi2 : (i : Int) < (n : Int)) (HO : Hid (∀ W, Calls Try.prog 11 #[.agg #[.int .i64 x, .int .i64 y]] W fun e w' => e = .returned (.agg #[.int .i64 x, .int .i64 y]) ∧ Below W.heap.size W w')) (HC : Hid (∀ W, Calls Try.prog 10 #[.agg #[.int .i64 x, .int .i64 y], .agg #[.int .i64 x, .int .i64 y]] W fun e w' => e = .returned (.int .i64 0) ∧ Below W.heap.size W w')) (hsz : a0.tmps.size = 28) (sl0 : a0.tmps.getD 0 undef = .slice (some ad) n ca) (sl1 : a0.tmps.getD 1 undef = .slice (some be) n cb) (sl5 : a0.tmps.getD 5 undef = .int .i64 i)
    (fin : ∀ (vals : Nat → Value) (w1 : World), Below w.heap.size w w1 → (IsV (.bool false)) (vals 10) w1 → Q .normal (putD vals [17, 18, 19, 20, 21, 22, 23, 24, 25, 26, 27] 0 a0) w1) :
    (Code.region 6 (regIn Try.f18 6) true).wp Try.prog Q a0 w := by
  refine region_by (G := fun w w1 => Below w.heap.size w w1) [IsV (.slice (some ad) n ca),
    IsV (.int .i64 i),
    IsV (.pointer (some (ad.add (i * 2)))),
    IsV (.agg #[.int .i64 x, .int .i64 y]),
    IsV (.agg #[.int .i64 x, .int .i64 y]),
    IsV (.slice (some be) n cb),
    IsV (.int .i64 i),
    IsV (.pointer (some (be.add (i * 2)))),
    IsV (.agg #[.int .i64 x, .int .i64 y]),
    IsV (.int .i64 0),
    IsV (.bool false)]
    [17, 18, 19, 20, 21, 22, 23, 24, 25, 26, 27] (by kernel_rfl) (Gw.drew _) Gw.trans (by rw [hsz]; kernel_rfl) (by kernel_rfl) ?_ ?_ ?_
  · intro f hf
    simp only [List.mem_cons, List.not_mem_nil, or_false] at hf
    rcases hf with rfl | rfl | rfl | rfl | rfl | rfl | rfl | rfl | rfl | rfl | rfl <;> intro v a b h g <;> first | exact IsV.mono h
  · refine ⟨?_, ?_, ?_, ?_, ?_, ?_, ?_, ?_, ?_, ?_, ?_, trivial⟩
    · exact owes_mv 0 (by kernel_rfl) (by kernel_rfl) (by kernel_rfl) sl0 (fun _ => rfl)
    · exact owes_mv 5 (by kernel_rfl) (by kernel_rfl) (by kernel_rfl) sl5 (fun _ => rfl)
    · refine owes_v (Go.Op.indexAddr 39 (Go.Operand.tmp 17) (Go.Operand.tmp 18)) 0 [0, 1] (by kernel_rfl) (by kernel_rfl) (by kernel_rfl) rfl fun vals w1 ρ hG hF hρ hcst hfun => ?_
      have e17 : ρ (.tmp 17) = .slice (some ad) n ca := ((hρ 17).trans (slotJ [0, 1] (by rw [hsz]; decide) (by kernel_rfl))).trans (hF 0 (by decide))
      have e18 : ρ (.tmp 18) = .int .i64 i := ((hρ 18).trans (slotJ [0, 1] (by rw [hsz]; decide) (by kernel_rfl))).trans (hF 1 (by decide))
      clear hρ hF hcst hfun sl0 sl1 sl5 fin
      exact opv_val (by go_simp <;> rfl) ⟨gw_self _, rfl⟩
    · refine owes_v (Go.Op.load 23 (Go.Operand.tmp 19)) 23 [2] (by kernel_rfl) (by kernel_rfl) (by kernel_rfl) rfl fun vals w1 ρ hG hF hρ hcst hfun => ?_
      have e19 : ρ (.tmp 19) = .pointer (some (ad.add (i * 2))) := ((hρ 19).trans (slotJ [2] (by rw [hsz]; decide) (by kernel_rfl))).trans (hF 2 (by decide))
      obtain ⟨j1, j2⟩ := And.intro ((hG.cell (by rw [add_block]; exact ha)).trans c1) ((hG.cell (p := ⟨(ad.add (i * 2)).block, (ad.add (i * 2)).off + 1, none⟩) (by show (ad.add (i * 2)).block < _; rw [add_block]; exact ha)).trans c2)
      clear hρ hF hcst hfun sl0 sl1 sl5 fin
      exact opv_val (by go_simp <;> rfl) ⟨gw_self _, rfl⟩
    · refine owes_v (Go.Op.call { callee := Go.Callee.value (Go.Operand.func 11), args := #[Go.Operand.tmp 20], argTypes := #[23] }) 27 [3] (by kernel_rfl) (by kernel_rfl) (by kernel_rfl) rfl fun vals w1 ρ hG hF hρ hcst hfun => ?_
      have e20 : ρ (.tmp 20) = .agg #[.int .i64 x, .int .i64 y] := ((hρ 20).trans (slotJ [3] (by rw [hsz]; decide) (by kernel_rfl))).trans (hF 3 (by decide))
      clear hρ hF hcst sl0 sl1 sl5 fin
      exact opv_enter (by go_simp <;> rfl) (of_bel (HO.out w1))
    · exact owes_mv 1 (by kernel_rfl) (by kernel_rfl) (by kernel_rfl) sl1 (fun _ => rfl)
    · exact owes_mv 5 (by kernel_rfl) (by kernel_rfl) (by kernel_rfl) sl5 (fun _ => rfl)
    · refine owes_v (Go.Op.indexAddr 38 (Go.Operand.tmp 22) (Go.Operand.tmp 23)) 0 [5, 6] (by kernel_rfl) (by kernel_rfl) (by kernel_rfl) rfl fun vals w1 ρ hG hF hρ hcst hfun => ?_
      have e22 : ρ (.tmp 22) = .slice (some be) n cb := ((hρ 22).trans (slotJ [5, 6] (by rw [hsz]; decide) (by kernel_rfl))).trans (hF 5 (by decide))
      have e23 : ρ (.tmp 23) = .int .i64 i := ((hρ 23).trans (slotJ [5, 6] (by rw [hsz]; decide) (by kernel_rfl))).trans (hF 6 (by decide))
      clear hρ hF hcst hfun sl0 sl1 sl5 fin
      exact opv_val (by go_simp <;> rfl) ⟨gw_self _, rfl⟩
    · refine owes_v (Go.Op.load 27 (Go.Operand.tmp 24)) 27 [7] (by kernel_rfl) (by kernel_rfl) (by kernel_rfl) rfl fun vals w1 ρ hG hF hρ hcst hfun => ?_
      have e24 : ρ (.tmp 24) = .pointer (some (be.add (i * 2))) := ((hρ 24).trans (slotJ [7] (by rw [hsz]; decide) (by kernel_rfl))).trans (hF 7 (by decide))
      obtain ⟨j1, j2⟩ := And.intro ((hG.cell (by rw [add_block]; exact hb)).trans d1) ((hG.cell (p := ⟨(be.add (i * 2)).block, (be.add (i * 2)).off + 1, none⟩) (by show (be.add (i * 2)).block < _; rw [add_block]; exact hb)).trans d2)
      clear hρ hF hcst hfun sl0 sl1 sl5 fin
      exact opv_val (by go_simp <;> rfl) ⟨gw_self _, rfl⟩
    · refine owes_v (Go.Op.call { callee := Go.Callee.value (Go.Operand.func 10), args := #[Go.Operand.tmp 21, Go.Operand.tmp 25], argTypes := #[27, 27] }) 3 [4, 8] (by kernel_rfl) (by kernel_rfl) (by kernel_rfl) rfl fun vals w1 ρ hG hF hρ hcst hfun => ?_
      have e21 : ρ (.tmp 21) = .agg #[.int .i64 x, .int .i64 y] := ((hρ 21).trans (slotJ [4, 8] (by rw [hsz]; decide) (by kernel_rfl))).trans (hF 4 (by decide))
      have e25 : ρ (.tmp 25) = .agg #[.int .i64 x, .int .i64 y] := ((hρ 25).trans (slotJ [4, 8] (by rw [hsz]; decide) (by kernel_rfl))).trans (hF 8 (by decide))
      clear hρ hF hcst sl0 sl1 sl5 fin
      exact opv_enter (by go_simp <;> rfl) (of_bel (HC.out w1))
    · refine owes_v (Go.Op.binOp Go.BinOp.neq 3 (Go.Operand.tmp 26) (Go.Operand.const (Go.Value.int Go.IntKind.i64 0)) 3) 4 [9] (by kernel_rfl) (by kernel_rfl) (by kernel_rfl) rfl fun vals w1 ρ hG hF hρ hcst hfun => ?_
      have e26 : ρ (.tmp 26) = .int .i64 0 := ((hρ 26).trans (slotJ [9] (by rw [hsz]; decide) (by kernel_rfl))).trans (hF 9 (by decide))
      clear hρ hF hfun sl0 sl1 sl5 fin
      exact opv_val (by go_simp <;> rfl) ⟨gw_self _, rfl⟩
  · intro vals w1 hG hF
    exact fin vals w1 hG (hF 10 (by decide +kernel))
theorem rowq_c (w : World) (A B : Option Addr) (ca cb n : Nat) (l : List (Int × Int)) (hn : n = l.length) (hl : n ≤ 100000) (hA : KRd w w.heap.size A l) (hB : JRd w w.heap.size B l) :
    Calls Try.prog 18 #[.slice A n ca, .slice B n cb] w fun e w' => e = .returned (.bool true) ∧ Below w.heap.size w w' := by
  have HN := Lib.hid hn
  have HR := Lib.hid (And.intro hA hB)
  have q1 : (n : Int) ≤ 100000 := by omega
  clear hA hB hl hn
  go_enter Try.func18, Try.ntmps18
  go_wp2_with fail
  go_loopw [5] (fun i wr => ∃ j : Nat, j ≤ n ∧ i = .int .i64 j ∧ Hid (Below w.heap.size w wr)) (fun i _ => n - (intOf i).toNat)
  case atStart => exact ⟨0, Nat.zero_le _, rfl, Lib.hid (Below.refl _ _)⟩
  case round =>
    obtain ⟨j, hj, rfl, hB⟩ := hrel
    by_cases hlt : j < n
    · have p1 : (0 : Int) ≤ (j : Int) := by omega
      have p2 : (j : Int) < (n : Int) := by omega
      have hjl : j < l.length := by rw [← HN.out]; exact hlt
      obtain ⟨ad, rfl, hab, cx, cy⟩ := (HR.out.1.below hB.out) j hjl
      obtain ⟨be, rfl, hbb, dx, dy⟩ := (HR.out.2.below hB.out) j hjl
      obtain ⟨x, hx⟩ : ∃ x, x = l[j].1 := ⟨_, rfl⟩
      obtain ⟨y, hy⟩ : ∃ y, y = l[j].2 := ⟨_, rfl⟩
      rw [← hx] at cx dx
      rw [← hy] at cy dy
      clear hx hy
      have HO := Lib.hid (show ∀ W, Calls Try.prog 11 #[.agg #[.int .i64 x, .int .i64 y]] W fun e w' => e = .returned (.agg #[.int .i64 x, .int .i64 y]) ∧ Below W.heap.size W w' from fun W => kof_c (x, y) W)
      have HC := Lib.hid (show ∀ W, Calls Try.prog 10 #[.agg #[.int .i64 x, .int .i64 y], .agg #[.int .i64 x, .int .i64 y]] W fun e w' => e = .returned (.int .i64 0) ∧ Below W.heap.size W w' from fun W => by have h := refcmp_c (x, y) (x, y) W; rw [cmpN_self] at h; exact h)
      go_wp2_with fail
      refine rowq_reg _ _ _ ad be n ca cb j x y hab hbb cx cy dx dy p1 p2 HO HC rfl rfl rfl rfl ?_
      intro vals w7 h7 h29
      unfold IsV at h29
      simp only [putD, Act.put, List.setIfInBounds_toArray, List.set_cons_zero, List.set_cons_succ, h29]
      have HB7 := Lib.hid (hB.out.trans (h7.mono hB.out.size))
      clear h29 h7 cx cy dx dy
      go_wp2_with fail
      go_roundw
      case rel => exact ⟨j + 1, by omega, by go_num, HB7⟩
      case measure => (first | (simp [intOf]; done) | (simp [intOf]; omega))
    · obtain rfl : j = n := by omega
      go_wp2_with fail
      go_ret
      exact ⟨rfl, hB.out⟩
theorem open_rows_Key {H : Type} {enc : TypeId × Value → H} {W : World} {base : Nat} {sp : Nat → Bool} {hd : Bool} {r : Reach} {b0 : Nat} {v : Value} {d : DataW H} {p : List MemPlace}
    (hv : Value.okWide Try.prog W r b0 39 v) (h : DataW.Trod enc Try.prog W base sp hd 39 v d p) :
    ∃ (A : Option Addr) (l : List (Int × Int)) (c : Nat), v = .slice A l.length c ∧ l.length ≤ c ∧ c ≤ maxLen ∧ (KRd W W.heap.size A l ∧ ∀ x ∈ l, kW x) := by
  have he := Try.underlying23
  obtain ⟨A, n, c, rfl, hn, hm, hrow⟩ := rows_at (K := 2) Try.underlying39 he (by kernel_rfl) (by kernel_rfl) rfl hv h
  obtain ⟨l, hl, hp⟩ := choose_lst (α := Int × Int) (p := fun k x => (∃ ad, A = some ad ∧ ad.block < W.heap.size ∧ W.cell? (ad.add (k * 2)) = some (.int .i64 x.1) ∧ W.cell? ⟨(ad.add (k * 2)).block, (ad.add (k * 2)).off + 1, none⟩ = some (.int .i64 x.2)) ∧ kW x) n (fun k hk => by
    obtain ⟨ad, m, e, hf⟩ := hrow k hk
    obtain ⟨u0, y0, c0, t0⟩ := hf 0 _ rfl
    obtain ⟨u1, y1, c1, t1⟩ := hf 1 _ rfl
    obtain ⟨a0, rfl, w0⟩ := cell_int (k := .i64) (by kernel_rfl) t0
    obtain ⟨a1, rfl, w1⟩ := cell_int (k := .i64) (by kernel_rfl) t1
    have hb := cell_lt c0
    rw [add_block] at hb
    exact ⟨⟨a0, a1⟩, ⟨ad, e, hb, c0, (congrArg W.cell? (add_far ad (k * 2) 0)).symm.trans c1⟩, ⟨w0, w1⟩⟩)
  subst hl
  refine ⟨A, l, c, rfl, hn, hm, fun k hk => (hp k hk).1, fun x hx => ?_⟩
  obtain ⟨k, hk, rfl⟩ := List.mem_iff_getElem.1 hx
  exact (hp k hk).2
end Go.Proofs.Ytgddehhigamkkaa
