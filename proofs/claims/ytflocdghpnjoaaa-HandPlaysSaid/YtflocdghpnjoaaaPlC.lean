/- loamlaw15.Ints of two rows that are alike; how a row of HandPlays' acts is opened. Conditions: lengths. -/
import Derived.Test.YtflocdghpnjoaaaPlB
import Derived.Test.YtflocdghpnjoaaaOpenR
namespace Go.Proofs.Ytflocdghpnjoaaa
set_option linter.unusedVariables false
set_option linter.unusedSimpArgs false
open Go.RowKit Go.Maps Go.ChangeShapes Go.WideShapes Go.ChangeAt
set_option maxHeartbeats 400000
set_option maxRecDepth 100000
section
variable {H : Type} {enc : TypeId × Value → H} {P : Program} {w : World} {base : Nat} {spare : Nat → Bool} {held : Bool}
/-- A cell that is a slice of ints. -/
theorem cell_intz {n : Nat} {t e : TypeId} {u : Value} {y : DataW H × List MemPlace} (ht : P.underlying t = some (.slice e)) (he : P.underlying e = some (.int .i64)) (hc : P.cellsOf e = 1) (h : DataW.trod enc P w base spare held n t [u] = some y) :
    ∃ (A : Option Addr) (bs : List Int) (c : Nat), u = .slice A bs.length c ∧ bs.length ≤ c ∧ c ≤ maxLen ∧ (Rd i64 w w.heap.size A bs ∧ ∀ x ∈ bs, (Lit.int .i64 x).wf = true) := by
  rcases open_ints ht he hc h with ⟨hcs, _⟩ | ⟨x, l, c, zs, hcs, _, hl, hm, hz, _, hcell, hwz⟩
  · have hu : u = .slice none 0 0 := by simpa using hcs
    exact ⟨none, [], 0, hu, Nat.le_refl _, by simp [maxLen], Rd.nil, fun x hx => by cases hx⟩
  · have hu : u = .slice (some x) l c := by simpa using hcs
    have hlen : l ≤ zs.length := by rw [hz]; split <;> omega
    refine ⟨some x, zs.take l, c, by rw [hu]; congr 1; simp; omega, by simp; omega, hm, fun j hj => ?_, fun y hy => hwz y (List.mem_of_mem_take hy)⟩
    have hj' : j < l := by simp at hj; omega
    have hc1 := hcell j (by omega)
    have hb := cell_lt hc1
    rw [add_block] at hb
    refine ⟨x, rfl, hb, ?_⟩
    rw [hc1, List.getD_eq_getElem?_getD, List.getElem?_eq_getElem (by omega)]
    simp [i64]
end
/-- One of HandPlays' acts. -/
structure A20 where
  op : Int
  n : Int
  ta : Option Addr
  to : List Int
  tc : Nat
structure A20At (W : World) (B : Nat) (ad : Addr) (k : Nat) (x : A20) : Prop where
  blk : ad.block < B
  op : W.cell? (ad.add (k * 3)) = some (.int .i64 x.op)
  n : W.cell? ⟨(ad.add (k * 3)).block, (ad.add (k * 3)).off + 1, none⟩ = some (.int .i64 x.n)
  t : W.cell? ⟨(ad.add (k * 3)).block, (ad.add (k * 3)).off + 2, none⟩ = some (.slice x.ta x.to.length x.tc)
  w0 : (Lit.int .i64 x.op).wf = true
  w1 : (Lit.int .i64 x.n).wf = true
  tcc : x.to.length ≤ x.tc
  tcm : x.tc ≤ maxLen
  tr : Rd i64 W B x.ta x.to
  tw : ∀ y ∈ x.to, (Lit.int .i64 y).wf = true
def A20s (W : World) (B : Nat) (A : Option Addr) (l : List A20) : Prop := ∀ k (h : k < l.length), ∃ ad, A = some ad ∧ A20At W B ad k l[k]
theorem A20s.below {W W' : World} {B : Nat} {A : Option Addr} {l : List A20} (h : A20s W B A l) (hb : Below B W W') : A20s W' B A l := fun k hk => by
  obtain ⟨ad, e, m⟩ := h k hk
  have hbk : (ad.add (k * 3)).block < B := by rw [add_block]; exact m.blk
  have c : ∀ j, W'.cell? ⟨(ad.add (k * 3)).block, (ad.add (k * 3)).off + j, none⟩ = W.cell? ⟨(ad.add (k * 3)).block, (ad.add (k * 3)).off + j, none⟩ := fun j => hb.cell (p := ⟨(ad.add (k * 3)).block, (ad.add (k * 3)).off + j, none⟩) hbk
  exact ⟨ad, e, m.blk, (hb.cell hbk).trans m.op, (c _).trans m.n, (c _).trans m.t, m.w0, m.w1, m.tcc, m.tcm, m.tr.below hb, m.tw⟩
theorem open_rows_Act {H : Type} {enc : TypeId × Value → H} {W : World} {base : Nat} {sp : Nat → Bool} {hd : Bool} {r : Reach} {b0 : Nat} {v : Value} {d : DataW H} {p : List MemPlace}
    (hv : Value.okWide Try.prog W r b0 22 v) (h : DataW.Trod enc Try.prog W base sp hd 22 v d p) :
    ∃ (A : Option Addr) (l : List A20) (c : Nat), v = .slice A l.length c ∧ l.length ≤ c ∧ c ≤ maxLen ∧ A20s W W.heap.size A l := by
  have he := Try.underlying29
  obtain ⟨A, n, c, rfl, hn, hm, hrow⟩ := rows_at (K := 3) Try.underlying22 he (by kernel_rfl) (by kernel_rfl) rfl hv h
  obtain ⟨l, hl, hp⟩ := choose_lst (α := A20) (p := fun k x => ∃ ad, A = some ad ∧ A20At W W.heap.size ad k x) n (fun k hk => by
    obtain ⟨ad, m, e, hf⟩ := hrow k hk
    obtain ⟨u0, y0, c0, t0⟩ := hf 0 _ rfl
    obtain ⟨u1, y1, c1, t1⟩ := hf 1 _ rfl
    obtain ⟨u2, y2, c2, t2⟩ := hf 2 _ rfl
    obtain ⟨a0, rfl, w0⟩ := cell_int (k := .i64) (by kernel_rfl) t0
    obtain ⟨a1, rfl, w1⟩ := cell_int (k := .i64) (by kernel_rfl) t1
    obtain ⟨A2, b2, n2, rfl, h2, hm2, r2, z2⟩ := cell_intz (e := 3) (by kernel_rfl) (by kernel_rfl) (by kernel_rfl) t2
    have hb := cell_lt c0
    rw [add_block] at hb
    exact ⟨⟨a0, a1, A2, b2, n2⟩, ad, e, ⟨hb, c0, (congrArg W.cell? (add_far ad (k * 3) 0)).symm.trans c1, (congrArg W.cell? (add_far ad (k * 3) 1)).symm.trans c2, w0, w1, h2, hm2, r2, z2⟩⟩)
  subst hl
  exact ⟨A, l, c, rfl, hn, hm, hp⟩
theorem Ow.at_ {α : Type} {f : α → Value} {E : TypeId} {w : World} {base n c : Nat} {A : Option Addr} {xs : List α} (h : Ow f E w base (.slice A n c) xs) (j : Nat) (hj : j < xs.length) : ∃ q, A = some ⟨q, 0, none⟩ ∧ base ≤ q ∧ q < w.heap.size ∧ w.cell? ⟨q, j, none⟩ = some (f xs[j]) := by
  have h' := h
  rcases h.2 with ⟨e, hn⟩ | ⟨q, cap, cur, e, hB, hh, _⟩
  · have hn' : xs.length = 0 := hn
    omega
  · injection e with e1 e2 e3
    subst e1
    refine ⟨q, rfl, hB, (Array.getElem?_eq_some_iff.1 hh).1, ?_⟩
    have := World.ownsRow.cells h' rfl j (f xs[j]) (by rw [List.getElem?_map, List.getElem?_eq_getElem hj]; rfl)
    rw [add_off, Nat.zero_add] at this
    exact this
theorem in_reg (Q : Exit → Act → World → Prop) (a0 : Act) (w : World) (q1 q2 N j c1 c2 : Nat) (z : Int) (h1 : q1 < w.heap.size) (h2 : q2 < w.heap.size) (k1 : w.cell? ⟨q1, j, none⟩ = some (.int .i64 z)) (k2 : w.cell? ⟨q2, j, none⟩ = some (.int .i64 z)) (p1 : (0 : Int) ≤ (j : Int)) (p2 : (j : Int) < (N : Int)) (hsz : a0.tmps.size = 26) (sl0 : a0.tmps.getD 0 undef = .slice (some ⟨q1, 0, none⟩) N c1) (sl1 : a0.tmps.getD 1 undef = .slice (some ⟨q2, 0, none⟩) N c2) (sl5 : a0.tmps.getD 5 undef = .int .i64 j)
    (fin : ∀ (vals : Nat → Value) (w1 : World), Below w.heap.size w w1 → (IsV (.bool false)) (vals 8) w1 → Q .normal (putD vals [17, 18, 19, 20, 21, 22, 23, 24, 25] 0 a0) w1) :
    (Code.region 6 (regIn Try.f20 6) true).wp Try.prog Q a0 w := by
  refine region_by (G := fun w w1 => Below w.heap.size w w1) [IsV (.slice (some ⟨q1, 0, none⟩) N c1),
    IsV (.int .i64 j),
    IsV (.pointer (some ⟨q1, j, none⟩)),
    IsV (.int .i64 z),
    IsV (.slice (some ⟨q2, 0, none⟩) N c2),
    IsV (.int .i64 j),
    IsV (.pointer (some ⟨q2, j, none⟩)),
    IsV (.int .i64 z),
    IsV (.bool false)]
    [17, 18, 19, 20, 21, 22, 23, 24, 25] (by kernel_rfl) (Gw.drew _) Gw.trans (by rw [hsz]; kernel_rfl) (by kernel_rfl) ?_ ?_ ?_
  · intro f hf
    simp only [List.mem_cons, List.not_mem_nil, or_false] at hf
    rcases hf with rfl | rfl | rfl | rfl | rfl | rfl | rfl | rfl | rfl <;> intro v a b h g <;> first | exact IsV.mono h
  · refine ⟨?_, ?_, ?_, ?_, ?_, ?_, ?_, ?_, ?_, trivial⟩
    · exact owes_mv 0 (by kernel_rfl) (by kernel_rfl) (by kernel_rfl) sl0 (fun _ => rfl)
    · exact owes_mv 5 (by kernel_rfl) (by kernel_rfl) (by kernel_rfl) sl5 (fun _ => rfl)
    · refine owes_v (Go.Op.indexAddr 27 (Go.Operand.tmp 17) (Go.Operand.tmp 18)) 0 [0, 1] (by kernel_rfl) (by kernel_rfl) (by kernel_rfl) rfl fun vals w1 ρ hG hF hρ hcst hfun => ?_
      have e17 : ρ (.tmp 17) = .slice (some ⟨q1, 0, none⟩) N c1 := ((hρ 17).trans (slotJ [0, 1] (by rw [hsz]; decide) (by kernel_rfl))).trans (hF 0 (by decide))
      have e18 : ρ (.tmp 18) = .int .i64 j := ((hρ 18).trans (slotJ [0, 1] (by rw [hsz]; decide) (by kernel_rfl))).trans (hF 1 (by decide))
      clear hρ hF hcst hfun sl0 sl1 sl5 fin
      exact opv_val (by go_simp <;> rfl) ⟨gw_self _, rfl⟩
    · refine owes_v (Go.Op.load 3 (Go.Operand.tmp 19)) 3 [2] (by kernel_rfl) (by kernel_rfl) (by kernel_rfl) rfl fun vals w1 ρ hG hF hρ hcst hfun => ?_
      have e19 : ρ (.tmp 19) = .pointer (some ⟨q1, j, none⟩) := ((hρ 19).trans (slotJ [2] (by rw [hsz]; decide) (by kernel_rfl))).trans (hF 2 (by decide))
      have k := (hG.cell (p := ⟨q1, j, none⟩) h1).trans k1
      clear hρ hF hcst hfun sl0 sl1 sl5 fin
      exact opv_val (by go_simp <;> rfl) ⟨gw_self _, rfl⟩
    · exact owes_mv 1 (by kernel_rfl) (by kernel_rfl) (by kernel_rfl) sl1 (fun _ => rfl)
    · exact owes_mv 5 (by kernel_rfl) (by kernel_rfl) (by kernel_rfl) sl5 (fun _ => rfl)
    · refine owes_v (Go.Op.indexAddr 27 (Go.Operand.tmp 21) (Go.Operand.tmp 22)) 0 [4, 5] (by kernel_rfl) (by kernel_rfl) (by kernel_rfl) rfl fun vals w1 ρ hG hF hρ hcst hfun => ?_
      have e21 : ρ (.tmp 21) = .slice (some ⟨q2, 0, none⟩) N c2 := ((hρ 21).trans (slotJ [4, 5] (by rw [hsz]; decide) (by kernel_rfl))).trans (hF 4 (by decide))
      have e22 : ρ (.tmp 22) = .int .i64 j := ((hρ 22).trans (slotJ [4, 5] (by rw [hsz]; decide) (by kernel_rfl))).trans (hF 5 (by decide))
      clear hρ hF hcst hfun sl0 sl1 sl5 fin
      exact opv_val (by go_simp <;> rfl) ⟨gw_self _, rfl⟩
    · refine owes_v (Go.Op.load 3 (Go.Operand.tmp 23)) 3 [6] (by kernel_rfl) (by kernel_rfl) (by kernel_rfl) rfl fun vals w1 ρ hG hF hρ hcst hfun => ?_
      have e23 : ρ (.tmp 23) = .pointer (some ⟨q2, j, none⟩) := ((hρ 23).trans (slotJ [6] (by rw [hsz]; decide) (by kernel_rfl))).trans (hF 6 (by decide))
      have k := (hG.cell (p := ⟨q2, j, none⟩) h2).trans k2
      clear hρ hF hcst hfun sl0 sl1 sl5 fin
      exact opv_val (by go_simp <;> rfl) ⟨gw_self _, rfl⟩
    · refine owes_v (Go.Op.binOp Go.BinOp.neq 3 (Go.Operand.tmp 20) (Go.Operand.tmp 24) 3) 4 [3, 7] (by kernel_rfl) (by kernel_rfl) (by kernel_rfl) rfl fun vals w1 ρ hG hF hρ hcst hfun => ?_
      have e20 : ρ (.tmp 20) = .int .i64 z := ((hρ 20).trans (slotJ [3, 7] (by rw [hsz]; decide) (by kernel_rfl))).trans (hF 3 (by decide))
      have e24 : ρ (.tmp 24) = .int .i64 z := ((hρ 24).trans (slotJ [3, 7] (by rw [hsz]; decide) (by kernel_rfl))).trans (hF 7 (by decide))
      clear hρ hF hcst hfun sl0 sl1 sl5 fin
      exact opv_val (by go_simp <;> rfl) ⟨gw_self _, rfl⟩
  · intro vals w1 hG hF
    exact fin vals w1 hG (hF 8 (by decide +kernel))
theorem ints_t (w : World) (b1 b2 : Nat) (A1 A2 : Option Addr) (c1 c2 N : Nat) (xs : List Int) (hN : N = xs.length) (hl : N ≤ 1000) (h1 : Ow i64 3 w b1 (.slice A1 N c1) xs) (h2 : Ow i64 3 w b2 (.slice A2 N c2) xs) :
    Calls Try.prog 20 #[.slice A1 N c1, .slice A2 N c2] w (RetP (.bool true) w) := by
  have HN := Lib.hid hN
  have HR := Lib.hid (And.intro h1 h2)
  have hN2 : (N : Int) ≤ 1000 := by omega
  clear h1 h2 hl hN
  go_enter Try.func20, Try.ntmps20
  go_wp2_with fail
  go_loopw [5] (fun i wr => ∃ j : Nat, j ≤ N ∧ i = .int .i64 j ∧ Hid (Below w.heap.size w wr)) (fun i _ => N - (intOf i).toNat)
  case atStart => exact ⟨0, Nat.zero_le _, rfl, Lib.hid (Below.refl _ _)⟩
  case round =>
    obtain ⟨j, hj, rfl, hB⟩ := hrel
    by_cases hlt : j < N
    · have p1 : (0 : Int) ≤ (j : Int) := by omega
      have p2 : (j : Int) < (N : Int) := by omega
      have hjl : j < xs.length := by rw [← HN.out]; exact hlt
      obtain ⟨q1, rfl, _, hq1, k1⟩ := (HR.out.1.below hB.out).at_ j hjl
      obtain ⟨q2, rfl, _, hq2, k2⟩ := (HR.out.2.below hB.out).at_ j hjl
      obtain ⟨z, hz⟩ : ∃ z, z = xs[j] := ⟨_, rfl⟩
      rw [← hz] at k1 k2
      unfold i64 at k1 k2
      have HReg := Lib.hid (fun Q a0 => in_reg Q a0 wr q1 q2 N j c1 c2 z hq1 hq2 k1 k2 p1 p2)
      clear hz hjl k1 k2
      go_wp2_with fail
      refine HReg.out _ _ rfl rfl rfl rfl ?_
      intro vals w2 hG h25
      unfold IsV at h25
      simp only [putD, Act.put, List.setIfInBounds_toArray, List.set_cons_zero, List.set_cons_succ, h25]
      have HB2 := Lib.hid (hB.out.trans (hG.mono hB.out.size))
      clear h25 hG
      go_wp2_with fail
      go_roundw
      case rel => exact ⟨j + 1, by omega, by go_num, HB2⟩
      case measure => (first | (simp [intOf]; done) | (simp [intOf]; omega))
    · obtain rfl : j = N := by omega
      go_wp2_with fail
      go_ret
      exact ⟨rfl, hB.out⟩
theorem Ints_t (w : World) (b1 b2 : Nat) (A1 A2 : Option Addr) (c1 c2 N : Nat) (xs : List Int) (hN : N = xs.length) (hl : N ≤ 1000) (h1 : Ow i64 3 w b1 (.slice A1 N c1) xs) (h2 : Ow i64 3 w b2 (.slice A2 N c2) xs) :
    Calls Try.prog 15 #[.slice A1 N c1, .slice A2 N c2] w (RetP (.bool true) w) := by
  have H := Lib.hid (ints_t w b1 b2 A1 A2 c1 c2 N xs hN hl h1 h2)
  clear h1 h2 hl hN
  go_enter Try.func15, Try.ntmps15
  go_wp2_with fail
  refine Calls.mono H.out ?_
  rintro e w1 ⟨rfl, b1⟩
  have HB := Lib.hid b1
  clear b1
  go_wp2_with fail
  go_ret
  exact ⟨rfl, HB.out⟩
end Go.Proofs.Ytflocdghpnjoaaa
