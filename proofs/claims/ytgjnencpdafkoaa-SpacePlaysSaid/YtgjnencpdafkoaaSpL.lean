/- A space and the document's space, step by step. Conditions: lengths. -/
import Derived.Test.YtgjnencpdafkoaaSpK
namespace Go.Proofs.Ytgjnencpdafkoaa
set_option linter.unusedVariables false
set_option linter.unusedSimpArgs false
open Go.RowKit
set_option maxRecDepth 100000
/-- Block s holds a space of ws up to t, block R the document's of rs up to t2; all apart. -/
structure SpG (w0 W : World) (s g R : Nat) (v : Value) (A : Option Addr) (c : Nat) (ws rs : List (BitVec 64)) (b t t2 e : Nat) : Prop where
  sp : SpAt W w0.heap.size s g v ws b t e
  blk : Bk W R 33 #[.slice A rs.length c, .int .i64 b, .int .i64 t2, .int .i64 e]
  row : Ow u64v 54 W w0.heap.size (.slice A rs.length c) rs
  rns : R ≠ s
  rg : R ≠ g
  rv : v.ownBlock ≠ some R
  rB : w0.heap.size ≤ R
  q : ∀ q, (Value.slice A rs.length c).ownBlock = some q → q ≠ s ∧ v.ownBlock ≠ some q ∧ q ≠ R
  old : Below w0.heap.size w0 W
section
variable {w0 W W' : World} {s g R : Nat} {v : Value} {A A' : Option Addr} {c c' : Nat} {ws rs ws' rs' : List (BitVec 64)} {b t t2 t' e : Nat}
theorem SpG.ref (p : SpG w0 W s g R v A c ws rs b t t2 e) : RefAt W R A c rs b t2 e := ⟨p.blk, p.row.rd⟩
theorem SpG.below (p : SpG w0 W s g R v A c ws rs b t t2 e) (hb : Below W.heap.size W W') : SpG w0 W' s g R v A c ws rs b t t2 e :=
  ⟨p.sp.below hb, p.blk.below hb p.blk.lt, p.row.below hb, p.rns, p.rg, p.rv, p.rB, p.q, p.old.trans (hb.mono p.sp.mem.le)⟩
theorem SpG.spTo (p : SpG w0 W s g R v A c ws rs b t t2 e) (h : SpAt W' w0.heap.size s g v ws' b t' e) (hb : Below w0.heap.size W W') (h2 : Two W W' s v.ownBlock) : SpG w0 W' s g R v A c ws' rs b t' t2 e :=
  ⟨h, (h2.block R p.blk.lt p.rns (fun e => p.rv e.symm)).trans p.blk, p.row.heap (fun q hq => h2.block q (p.row.lt q hq).2 (p.q q hq).1 (fun e => (p.q q hq).2.1 e.symm)), p.rns, p.rg, p.rv, p.rB, p.q, p.old.trans hb⟩
theorem SpG.rowTo (p : SpG w0 W s g R v A c ws rs b t t2 e) (h : Bk W' R 33 #[.slice A' rs.length c', .int .i64 b, .int .i64 t', .int .i64 e]) (hl : rs'.length = rs.length) (ho : Ow u64v 54 W' W.heap.size (.slice A' rs.length c') rs') (hg : W.grownBy W' (some R)) : SpG w0 W' s g R v A' c' ws rs' b t t' e := by
  have hm := p.sp.mem.grown hg (fun e => p.rg (by injection e with e; exact e.symm)) (.inr p.rv)
  have hs := p.sp.blk.lt
  refine ⟨⟨hm, (hg.block s hs (fun e => p.rns (by injection e with e; exact e.symm))).trans p.sp.blk, p.sp.sg, p.sp.sv, p.sp.hs, p.sp.bt, p.sp.te, p.sp.el⟩, by rw [hl]; exact h, by rw [hl]; exact ho.mono p.sp.mem.le, p.rns, p.rg, p.rv, p.rB, fun q hq => ?_, p.old.trans (grown_below hg p.rB p.sp.mem.le)⟩
  rw [hl] at hq
  have hq2 := (ho.lt q hq).1
  have hr := p.blk.lt
  exact ⟨by omega, fun e => by have := (p.sp.mem.row.lt q e).2; omega, by omega⟩
end
theorem objF_more (ws : List (BitVec 64)) (x : BitVec 64) (t k : Nat) (hk : 1 ≤ k) (ht : t + k ≤ ws.length) (hgood : ∀ room, k ≤ room → goodX x room = true) (hs : szX x = k) :
    ∀ n a l, a ≤ t → t < a + n → objF ws t n a = some l → ∀ m, t + k < a + m → objF (allocW ws t k x) (t + k) m a = some (l ++ [t])
  | 0, a, l, h1, h2, _, _, _ => absurd h2 (by omega)
  | n + 1, a, l, h1, h2, h, m, hm => by
    obtain ⟨m, rfl⟩ : ∃ m', m = m' + 1 := ⟨m - 1, by omega⟩
    have e1 : objF ws t (n + 1) a = if a < t then (if goodX (ws.getD a 0#64) (t - a) = true then (objF ws t n (a + szX (ws.getD a 0#64))).map (a :: ·) else none) else some [] := rfl
    have e2 : objF (allocW ws t k x) (t + k) (m + 1) a = if a < t + k then (if goodX ((allocW ws t k x).getD a 0#64) (t + k - a) = true then (objF (allocW ws t k x) (t + k) m (a + szX ((allocW ws t k x).getD a 0#64))).map (a :: ·) else none) else some [] := rfl
    rw [e1] at h
    rw [e2, if_pos (by omega)]
    by_cases hlt : a < t
    · rw [if_pos hlt] at h
      rw [allocW_far ws t k a x ht hk hlt]
      obtain ⟨y, hy⟩ : ∃ y, y = ws.getD a 0#64 := ⟨_, rfl⟩
      rw [← hy] at h ⊢
      cases hg : goodX y (t - a) with
      | false => rw [hg] at h; cases h
      | true =>
        rw [hg] at h
        have hgg := hg
        unfold goodX at hgg
        simp only [Bool.and_eq_true, Bool.not_eq_true', decide_eq_true_eq] at hgg
        have hg2 : goodX y (t + k - a) = true := by
          unfold goodX
          simp only [Bool.and_eq_true, Bool.not_eq_true', decide_eq_true_eq]
          exact ⟨hgg.1, hgg.2.1, by omega⟩
        rw [hg2]
        have hz := (szX_pos hgg.1 hgg.2.1).2.1
        cases h3 : objF ws t n (a + szX y) with
        | none => rw [h3] at h; cases h
        | some l2 =>
          rw [h3] at h
          have e3 : l = a :: l2 := by
            have : some (a :: l2) = some l := h
            injection this with this
            exact this.symm
          have := objF_more ws x t k hk ht hgood hs n (a + szX y) l2 (by omega) (by omega) h3 m (by omega)
          rw [this, e3]
          rfl
    · have ha : a = t := by omega
      subst ha
      rw [if_neg hlt] at h
      have e3 : l = [] := by
        injection h with h
        exact h.symm
      rw [e3, allocW_at ws a k x ht hk, hgood _ (by omega), hs, objF_end _ _ _ _ (by omega)]
      rfl
theorem objF_len2 (ws : List (BitVec 64)) (top : Nat) : ∀ n a l, objF ws top n a = some l → l.length ≤ n
  | 0, a, l, h => by
    have e : some [] = some l := h
    injection e with e
    rw [← e]
    exact Nat.le_refl _
  | n + 1, a, l, h => by
    have e : objF ws top (n + 1) a = if a < top then (if goodX (ws.getD a 0#64) (top - a) = true then (objF ws top n (a + szX (ws.getD a 0#64))).map (a :: ·) else none) else some [] := rfl
    rw [e] at h
    split at h
    · split at h
      · cases h2 : objF ws top n (a + szX (ws.getD a 0#64)) with
        | none => rw [h2] at h; cases h
        | some l2 =>
          rw [h2] at h
          have e3 : some (a :: l2) = some l := h
          injection e3 with e3
          rw [← e3]
          have := objF_len2 ws top n _ l2 h2
          simp
          omega
      · cases h
    · injection h with h
      rw [← h]
      simp
theorem g_alloc (w0 : World) (s g R : Nat) (v : Value) (ws : List (BitVec 64)) (b t e : Nat) (l : List Nat) (ho : objF ws t (t + 1) b = some l) (hbt : b ≤ t) (hte : t ≤ e) (hel : e ≤ ws.length) (hl : ws.length ≤ 100000) (p bb : Int) (m : Bool) (tt : Int) :
    ∃ (a f : Int) (ws' : List (BitVec 64)) (t' : Nat) (l' : List Nat), ws'.length = ws.length ∧ objF ws' t' (t' + 1) b = some l' ∧
      (∀ W A c, SpG w0 W s g R v A c ws ws b t t e → Calls Try.prog 10 #[.pointer (some ⟨s, 0, none⟩), .agg #[.int .i64 p, .int .i64 bb, .bool m, .int .i64 tt]] W fun r W' => r = .returned (.tuple #[.int .i64 a, .int .i64 f]) ∧ SpG w0 W' s g R v A c ws' ws b t' t e) ∧
      (∀ W A c, SpG w0 W s g R v A c ws' ws b t' t e → Calls Try.prog 11 #[.pointer (some ⟨R, 0, none⟩), .agg #[.int .i64 p, .int .i64 bb, .bool m, .int .i64 tt]] W fun r W' => r = .returned (.tuple #[.int .i64 a, .int .i64 f]) ∧ ∃ A' c', SpG w0 W' s g R v A' c' ws' ws' b t' t' e) := by
  by_cases hbad : rightH p bb m tt = false ∨ (rightH p bb m tt = true ∧ m = true)
  · refine ⟨0, 1, ws, t, l, rfl, ho, fun W A c h => ?_, fun W A c h => ?_⟩
    · exact (alloc_bad W _ s g v ws b t e h.sp p bb m tt hbad).mono fun r W' k => ⟨k.1, h.below k.2⟩
    · exact (ralloc_bad W R p bb m tt hbad).mono fun r W' k => ⟨k.1, A, c, h.below k.2⟩
  · have hr : rightH p bb m tt = true := by
      cases h : rightH p bb m tt with
      | false => exact absurd (.inl h) hbad
      | true => rfl
    have hm : m = false := by
      cases m with
      | false => rfl
      | true => exact absurd (.inr ⟨hr, rfl⟩) hbad
    subst hm
    rcases rightH_out hr with ⟨h1, _⟩ | ⟨_, h2, h3, h4, h5, h6⟩
    · cases h1
    · subst h2
      have hsz : sizeH p bb false 0 = 1 + p + (bb + 7) / 8 := if_pos ⟨hr, rfl⟩
      obtain ⟨n, hn⟩ : ∃ n : Nat, sizeH p bb false 0 = (n : Int) := ⟨(sizeH p bb false 0).toNat, by rw [hsz]; omega⟩
      have hn1 : 1 ≤ n := by rw [hsz] at hn; omega
      by_cases hf : n ≤ e - t
      · obtain ⟨g1, g2⟩ := pack_run hr hn
        refine ⟨t, 0, allocW ws t n (packH p bb false 0), t + n, l ++ [t], allocW_len _ _ _ _, objF_more ws _ t n hn1 (by omega) g1 g2 (t + 1) b l hbt (by omega) ho _ (by omega), fun W A c h => ?_, fun W A c h => ?_⟩
        · exact (alloc_ok3 W _ s g v ws b t e h.sp hl p bb 0 n hr hn hn1 hf).mono fun r W' k => ⟨k.1, h.spTo k.2.1 k.2.2.1 k.2.2.2⟩
        · refine (ralloc_ok W R b t e c A ws h.blk h.row.rd p bb 0 n hr hn hn1 hte hel hl hf).mono fun r W' k => ?_
          obtain ⟨k1, A', c', k2, k3, k4⟩ := k
          exact ⟨k1, A', c', h.rowTo k2 (allocW_len _ _ _ _) k3 k4⟩
      · refine ⟨0, 6, ws, t, l, rfl, ho, fun W A c h => ?_, fun W A c h => ?_⟩
        · exact (alloc_full W _ s g v ws b t e h.sp hl p bb 0 n hr hn (by omega)).mono fun r W' k => ⟨k.1, h.below k.2⟩
        · exact (ralloc_full W R ws.length c b t e A h.blk p bb 0 n hr hn hte (by omega) (by omega)).mono fun r W' k => ⟨k.1, A, c, h.below k.2⟩
theorem g_head (w0 : World) (s g R : Nat) (v : Value) (ws : List (BitVec 64)) (b t e : Nat) (hel : e ≤ ws.length) (hte : t ≤ e) (hl : ws.length ≤ 100000) (i : Int) :
    ∃ (p bb : Int) (m : Bool) (tt f : Int),
      (∀ W A c, SpG w0 W s g R v A c ws ws b t t e → Calls Try.prog 17 #[.pointer (some ⟨s, 0, none⟩), .int .i64 i] W (RetP (.tuple #[.agg #[.int .i64 p, .int .i64 bb, .bool m, .int .i64 tt], .int .i64 f]) W)) ∧
      (∀ W A c, SpG w0 W s g R v A c ws ws b t t e → Calls Try.prog 18 #[.pointer (some ⟨R, 0, none⟩), .int .i64 i] W (RetP (.tuple #[.agg #[.int .i64 p, .int .i64 bb, .bool m, .int .i64 tt], .int .i64 f]) W)) := by
  by_cases hi : i < (b : Int) ∨ (¬ i < (b : Int) ∧ (t : Int) ≤ i)
  · exact ⟨0, 0, false, 0, 1, fun W A c h => sphead_out W _ s g v ws b t e h.sp i hi, fun W A c h => rhead_out W R b t e c ws.length A h.blk i hi⟩
  · obtain ⟨k, rfl⟩ : ∃ k : Nat, i = (k : Int) := ⟨i.toNat, by omega⟩
    have hk : k < ws.length := by omega
    exact ⟨unP ws[k], unB ws[k], unM' ws[k], unT ws[k], unE ws[k], fun W A c h => sphead_in W _ s g v ws b t e h.sp k (by omega) (by omega) hl hk, fun W A c h => rhead_in W R b t e c A ws h.blk h.row.rd k (by omega) (by omega) hl hk⟩
set_option maxHeartbeats 400000
theorem pl_reg (Q : Exit → Act → World → Prop) (a0 : Act) (w : World) (H1 H2 : Nat) (p b t f : Int) (m : Bool) (hk1 : Bk w H1 37 #[.int .i64 p, .int .i64 b, .bool m, .int .i64 t]) (hk2 : Bk w H2 40 #[.int .i64 p, .int .i64 b, .bool m, .int .i64 t]) (hsz : a0.tmps.size = 214) (sl23 : a0.tmps.getD 23 undef = .pointer (some ⟨H1, 0, none⟩)) (sl24 : a0.tmps.getD 24 undef = .int .i64 f) (sl25 : a0.tmps.getD 25 undef = .pointer (some ⟨H2, 0, none⟩)) (sl26 : a0.tmps.getD 26 undef = .int .i64 f)
    (fin : ∀ (vals : Nat → Value) (w1 : World), Below w.heap.size w w1 → (IsV (.bool false)) (vals 8) w1 → Q .normal (putD vals [167, 168, 169, 170, 171, 172, 173, 174, 175] 0 a0) w1) :
    (Code.region 28 (regIn Try.f3 28) true).wp Try.prog Q a0 w := by
  refine region_by (G := fun w w1 => Below w.heap.size w w1) [IsV (.agg #[.int .i64 p, .int .i64 b, .bool m, .int .i64 t]),
    IsV (.agg #[.int .i64 p, .int .i64 b, .bool m, .int .i64 t]),
    IsV (.agg #[.int .i64 p, .int .i64 b, .bool m, .int .i64 t]),
    IsV (.bool false),
    IsV (.bool false),
    IsV (.int .i64 f),
    IsV (.int .i64 f),
    IsV (.bool false),
    IsV (.bool false)]
    [167, 168, 169, 170, 171, 172, 173, 174, 175] (by kernel_rfl) (Gw.drew _) Gw.trans (by rw [hsz]; kernel_rfl) (by kernel_rfl) ?_ ?_ ?_
  · intro f hf
    simp only [List.mem_cons, List.not_mem_nil, or_false] at hf
    rcases hf with rfl | rfl | rfl | rfl | rfl | rfl | rfl | rfl | rfl <;> intro v a b h g <;> first | exact IsV.mono h
  · refine ⟨?_, ?_, ?_, ?_, ?_, ?_, ?_, ?_, ?_, trivial⟩
    · refine owes_v (Go.Op.load 37 (Go.Operand.tmp 23)) 37 [] (by kernel_rfl) (by kernel_rfl) (by kernel_rfl) rfl fun vals w1 ρ hG hF hρ hcst hfun => ?_
      have e23 : ρ (.tmp 23) = .pointer (some ⟨H1, 0, none⟩) := ((hρ 23).trans (slotO [] (by kernel_rfl))).trans sl23
      obtain ⟨k1, k2, k3, k4⟩ := (hk1.below hG hk1.lt).four
      clear hρ hF hcst hfun sl23 sl24 sl25 sl26 fin
      exact opv_val (by go_simp <;> rfl) ⟨gw_self _, rfl⟩
    · refine owes_v (Go.Op.call { callee := Go.Callee.value (Go.Operand.func 12), args := #[Go.Operand.tmp 167], argTypes := #[37] }) 40 [0] (by kernel_rfl) (by kernel_rfl) (by kernel_rfl) rfl fun vals w1 ρ hG hF hρ hcst hfun => ?_
      have e167 : ρ (.tmp 167) = .agg #[.int .i64 p, .int .i64 b, .bool m, .int .i64 t] := ((hρ 167).trans (slotJ [0] (by rw [hsz]; decide) (by kernel_rfl))).trans (hF 0 (by decide))
      clear hρ hF hcst sl23 sl24 sl25 sl26 fin
      exact opv_enter (by go_simp <;> rfl) (of_rp (of_c p b m t w1))
    · refine owes_v (Go.Op.load 40 (Go.Operand.tmp 25)) 40 [] (by kernel_rfl) (by kernel_rfl) (by kernel_rfl) rfl fun vals w1 ρ hG hF hρ hcst hfun => ?_
      have e25 : ρ (.tmp 25) = .pointer (some ⟨H2, 0, none⟩) := ((hρ 25).trans (slotO [] (by kernel_rfl))).trans sl25
      obtain ⟨k1, k2, k3, k4⟩ := (hk2.below hG hk2.lt).four
      clear hρ hF hcst hfun sl23 sl24 sl25 sl26 fin
      exact opv_val (by go_simp <;> rfl) ⟨gw_self _, rfl⟩
    · refine owes_v (Go.Op.binOp Go.BinOp.neq 40 (Go.Operand.tmp 168) (Go.Operand.tmp 169) 40) 4 [1, 2] (by kernel_rfl) (by kernel_rfl) (by kernel_rfl) rfl fun vals w1 ρ hG hF hρ hcst hfun => ?_
      have e168 : ρ (.tmp 168) = .agg #[.int .i64 p, .int .i64 b, .bool m, .int .i64 t] := ((hρ 168).trans (slotJ [1, 2] (by rw [hsz]; decide) (by kernel_rfl))).trans (hF 1 (by decide))
      have e169 : ρ (.tmp 169) = .agg #[.int .i64 p, .int .i64 b, .bool m, .int .i64 t] := ((hρ 169).trans (slotJ [1, 2] (by rw [hsz]; decide) (by kernel_rfl))).trans (hF 2 (by decide))
      clear hρ hF hcst hfun sl23 sl24 sl25 sl26 fin
      exact opv_val (by go_simp <;> rfl) ⟨gw_self _, rfl⟩
    · exact owes_mvj 3 170 (by kernel_rfl) (by kernel_rfl) (by kernel_rfl) (by kernel_rfl) (by rw [hsz]; decide) (fun v w h => h)
    · refine owes_vt 4 false (Go.Op.move (Go.Operand.tmp 24)) 26 [] (by kernel_rfl) (by kernel_rfl) (by kernel_rfl) (fun _ _ h => h) (by rw [hsz]; kernel_rfl) (by kernel_rfl) rfl fun vals w1 ρ hG hF hρ hcst hfun => ?_
      have e24 : ρ (.tmp 24) = .int .i64 f := ((hρ 24).trans (slotO [] (by kernel_rfl))).trans sl24
      clear hρ hF hcst hfun sl23 sl24 sl25 sl26 fin
      exact opv_val (by go_simp <;> rfl) ⟨gw_self _, rfl⟩
    · refine owes_vt 4 false (Go.Op.move (Go.Operand.tmp 26)) 3 [] (by kernel_rfl) (by kernel_rfl) (by kernel_rfl) (fun _ _ h => h) (by rw [hsz]; kernel_rfl) (by kernel_rfl) rfl fun vals w1 ρ hG hF hρ hcst hfun => ?_
      have e26 : ρ (.tmp 26) = .int .i64 f := ((hρ 26).trans (slotO [] (by kernel_rfl))).trans sl26
      clear hρ hF hcst hfun sl23 sl24 sl25 sl26 fin
      exact opv_val (by go_simp <;> rfl) ⟨gw_self _, rfl⟩
    · refine owes_vt 4 false (Go.Op.binOp Go.BinOp.neq 3 (Go.Operand.tmp 172) (Go.Operand.tmp 173) 3) 4 [5, 6] (by kernel_rfl) (by kernel_rfl) (by kernel_rfl) (fun _ _ h => h) (by rw [hsz]; kernel_rfl) (by kernel_rfl) rfl fun vals w1 ρ hG hF hρ hcst hfun => ?_
      have e172 : ρ (.tmp 172) = .int .i64 f := ((hρ 172).trans (slotJ [5, 6] (by rw [hsz]; decide) (by kernel_rfl))).trans (hF 5 (by decide))
      have e173 : ρ (.tmp 173) = .int .i64 f := ((hρ 173).trans (slotJ [5, 6] (by rw [hsz]; decide) (by kernel_rfl))).trans (hF 6 (by decide))
      clear hρ hF hcst hfun sl23 sl24 sl25 sl26 fin
      exact opv_val (by go_simp <;> rfl) ⟨gw_self _, rfl⟩
    · refine owes_v (Go.Op.pick (Go.Operand.tmp 171) (Go.Operand.const (Go.Value.bool true)) (Go.Operand.tmp 174)) 4 [4, 7] (by kernel_rfl) (by kernel_rfl) (by kernel_rfl) rfl fun vals w1 ρ hG hF hρ hcst hfun => ?_
      have e171 : ρ (.tmp 171) = .bool false := ((hρ 171).trans (slotJ [4, 7] (by rw [hsz]; decide) (by kernel_rfl))).trans (hF 4 (by decide))
      have e174 : ρ (.tmp 174) = .bool false := ((hρ 174).trans (slotJ [4, 7] (by rw [hsz]; decide) (by kernel_rfl))).trans (hF 7 (by decide))
      clear hρ hF hfun sl23 sl24 sl25 sl26 fin
      exact opv_val (by go_simp <;> rfl) ⟨gw_self _, rfl⟩
  · intro vals w1 hG hF
    exact fin vals w1 hG (hF 8 (by decide +kernel))
end Go.Proofs.Ytgjnencpdafkoaa
