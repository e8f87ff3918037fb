/- cache.Cache's room. Conditions: lengths; where the hand stops. -/
import Derived.Test.YthmaofbnhfgfaaaCmF
import Derived.Deep.LoopGhost
namespace Go.Proofs.Ythmaofbnhfgfaaa
set_option linter.unusedVariables false
set_option linter.unusedSimpArgs false
open Go.RowKit Go.Maps
set_option maxRecDepth 100000
set_option maxHeartbeats 4000000
section
variable {W W' : World} {g fb mb N : Nat} {fs : List Fr} {hand : Nat} {tb : Tk} {ho : Option Nat}
theorem CaAt.setHand (h : CaAt W g fb mb N fs hand tb ho) (h2 : Nat) (hl : h2 < N) : CaAt (W.setCell ⟨g, 2, none⟩ (.int .i64 h2)) g fb mb N fs h2 tb ho := by
  have hk := Kept.set W g 2 (.int .i64 (h2 : Int))
  have hb := h.blk.set 2 (.int .i64 (h2 : Int))
  exact ⟨hb, hk.bk h.fr h.n1, h.map.kept hk h.n2, h.n, hl, h.nl, fun f hf => ⟨by
    have := h.data f hf
    cases hq : f.b with
    | nil => exact Rd.nil
    | cons y ys => rw [← hq]; exact hk.rd this.1 (fun a ea => (this.2.2 a ea (by rw [hq]; simp)).1), (h.data f hf).2⟩, h.n1, h.n2, h.n3, h.kw, h.pl, h.c1, h.c2⟩
theorem CaAt.dropK (h : CaAt W g fb mb N fs hand tb none) (i : Nat) (hi : i < fs.length) (hf : fs[i].full = true) (hm : KmIs W' mb (delK tb fs[i].k)) (hk : Kept (fun k => k = mb) W W') : CaAt W' g fb mb N fs hand (delK tb fs[i].k) (some i) := by
  have hv := h.c1 i hi (by simp) hf
  refine ⟨hk.bk h.blk (fun e => h.n2 e.symm), hk.bk h.fr (fun e => h.n3 e.symm), hm, h.n, h.hl, h.nl, fun f hf => ⟨by
    have := h.data f hf
    cases hq : f.b with
    | nil => exact Rd.nil
    | cons y ys => rw [← hq]; exact hk.rd this.1 (fun a ea => (this.2.2 a ea (by rw [hq]; simp)).2.2), (h.data f hf).2⟩, h.n1, h.n2, h.n3, h.kw, h.pl, fun j hj e1 e2 => ?_, fun k z e => ?_⟩
  · have hj2 := h.c1 j hj (by simp) e2
    rw [vOf_del, if_neg (fun e => by
      rw [e, hv] at hj2
      injection hj2 with hj2
      exact e1 (by rw [show j = i by omega]))]
    exact hj2
  · rw [vOf_del] at e
    split at e
    · cases e
    · rename_i hne
      obtain ⟨j, hj, _, q2, q3, q4⟩ := h.c2 k z e
      refine ⟨j, hj, fun e3 => ?_, q2, q3, q4⟩
      injection e3 with e3
      subst e3
      exact hne q4.symm
theorem CaAt.hole (h : CaAt W g fb mb N fs hand tb none) (i : Nat) (hi : i < fs.length) (hf : fs[i].full = false) : CaAt W g fb mb N fs hand tb (some i) :=
  ⟨h.blk, h.fr, h.map, h.n, h.hl, h.nl, h.data, h.n1, h.n2, h.n3, h.kw, h.pl, fun j hj _ e => h.c1 j hj (by simp) e, fun k z e => by
    obtain ⟨j, hj, _, q2, q3, q4⟩ := h.c2 k z e
    refine ⟨j, hj, fun e3 => ?_, q2, q3, q4⟩
    injection e3 with e3
    subst e3
    rw [hf] at q3; cases q3⟩
end
/-- Where the hand stops, and after how many turns. -/
inductive Stops (N : Nat) : Nat → List Fr → Nat → List Fr → Nat → Prop
  | here (fs : List Fr) (h : Nat) (hh : h < fs.length) (h1 : fs[h].pins = 0) (h2 : fs[h].mrk = false) : Stops N 0 fs h fs h
  | pin (n : Nat) (fs : List Fr) (h : Nat) (fs' : List Fr) (i : Nat) (hh : h < fs.length) (h1 : 0 < fs[h].pins) (r : Stops N n fs ((h + 1) % N) fs' i) : Stops N (n + 1) fs h fs' i
  | mrk (n : Nat) (fs : List Fr) (h : Nat) (fs' : List Fr) (i : Nat) (hh : h < fs.length) (h1 : fs[h].pins = 0) (h2 : fs[h].mrk = true) (r : Stops N n (fs.set h { fs[h] with mrk := false }) ((h + 1) % N) fs' i) : Stops N (n + 1) fs h fs' i
theorem Stops.len {N n : Nat} {fs fs' : List Fr} {h i : Nat} (s : Stops N n fs h fs' i) : fs'.length = fs.length := by
  induction s with
  | here => rfl
  | pin n fs h fs' i hh h1 r ih => exact ih
  | mrk n fs h fs' i hh h1 h2 r ih => rw [ih, List.length_set]
theorem Stops.fulls {N n : Nat} {fs fs' : List Fr} {h i : Nat} (s : Stops N n fs h fs' i) : (∀ f ∈ fs, f.full = true) → ∀ f ∈ fs', f.full = true := by
  induction s with
  | here => exact fun h => h
  | pin n fs h fs' i hh h1 r ih => exact ih
  | mrk n fs h fs' i hh h1 h2 r ih =>
    intro hf
    refine ih (fun f hm => ?_)
    rcases List.mem_or_eq_of_mem_set hm with e | e
    · exact hf f e
    · rw [e]; exact hf fs[h] (List.getElem_mem hh)
theorem Stops.at_ {N n : Nat} {fs fs' : List Fr} {h i : Nat} (s : Stops N n fs h fs' i) : ∃ hi : i < fs'.length, fs'[i].pins = 0 ∧ fs'[i].mrk = false := by
  induction s with
  | here fs h hh h1 h2 => exact ⟨hh, h1, h2⟩
  | pin n fs h fs' i hh h1 r ih => exact ih
  | mrk n fs h fs' i hh h1 h2 r ih => exact ih
theorem Stops.inv {N n : Nat} {fs fs' : List Fr} {h i : Nat} (s : Stops N n fs h fs' i) : ∃ hh : h < fs.length, (n = 0 ∧ fs = fs' ∧ h = i ∧ fs[h].pins = 0 ∧ fs[h].mrk = false) ∨ (∃ m, n = m + 1 ∧ 0 < fs[h].pins ∧ Stops N m fs ((h + 1) % N) fs' i) ∨ (∃ m, n = m + 1 ∧ fs[h].pins = 0 ∧ fs[h].mrk = true ∧ Stops N m (fs.set h { fs[h] with mrk := false }) ((h + 1) % N) fs' i) := by
  match s with
  | .here _ _ hh h1 h2 => exact ⟨hh, .inl ⟨rfl, rfl, rfl, h1, h2⟩⟩
  | .pin m _ _ _ _ hh h1 r => exact ⟨hh, .inr (.inl ⟨m, rfl, h1, r⟩)⟩
  | .mrk m _ _ _ _ hh h1 h2 r => exact ⟨hh, .inr (.inr ⟨m, rfl, h1, h2, r⟩)⟩
theorem hand_reg (Q : Exit → Act → World → Prop) (a0 : Act) (w : World) (g fb N h h2 : Nat) (hg : g < w.heap.size) (c0 : w.cell? ⟨g, 0, none⟩ = some (.slice (some ⟨fb, 0, none⟩) N N)) (c2 : w.cell? ⟨g, 2, none⟩ = some (.int .i64 h)) (hm : ((h : Int) + 1).tmod (N : Int) = (h2 : Int)) (hb : (h : Int) ≤ 64) (hb0 : (0 : Int) ≤ (h : Int)) (hb2 : (0 : Int) ≤ (h2 : Int)) (hb3 : (h2 : Int) ≤ 64) (s0 : ((N : Int) == 0) = false) (s1 : ¬ N = 0) (hsz : a0.tmps.size = 82) (sl0 : a0.tmps.getD 0 undef = .pointer (some ⟨g, 0, none⟩))
    (fin : ∀ (vals : Nat → Value) (w1 : World), Below w.heap.size w w1 → (IsV (.int .i64 h2)) (vals 11) w1 → (IsV (.pointer (some ⟨g, 2, none⟩))) (vals 13) w1 → wpList Try.prog #[{ dst := none, op := Go.Op.store 3 (Go.Operand.tmp 41) (Go.Operand.tmp 39), type := 0, pos := "", after := #[], guard := none }] Q [{ dst := none, op := Go.Op.store 3 (Go.Operand.tmp 41) (Go.Operand.tmp 39), type := 0, pos := "", after := #[], guard := none }] (putD vals [28, 29, 30, 31, 32, 33, 34, 35, 36, 37, 38, 39, 40, 41] 0 a0) w1) :
    (Code.region 7 (regIn Try.f17 7) true).wp Try.prog Q a0 w := by
  refine region_by_tail (m := 14) (G := fun w w1 => Below w.heap.size w w1) [IsV (.pointer (some ⟨g, 0, none⟩)),
    IsV (.pointer (some ⟨g, 0, none⟩)),
    IsV (.pointer (some ⟨g, 0, none⟩)),
    IsV (.pointer (some ⟨g, 2, none⟩)),
    IsV (.int .i64 h),
    IsV (.int .i64 ((h : Int) + 1)),
    IsV (.pointer (some ⟨g, 0, none⟩)),
    IsV (.pointer (some ⟨g, 0, none⟩)),
    IsV (.pointer (some ⟨g, 0, none⟩)),
    IsV (.slice (some ⟨fb, 0, none⟩) N N),
    IsV (.int .i64 N),
    IsV (.int .i64 h2),
    IsV (.pointer (some ⟨g, 0, none⟩)),
    IsV (.pointer (some ⟨g, 2, none⟩))]
    [28, 29, 30, 31, 32, 33, 34, 35, 36, 37, 38, 39, 40, 41] (by kernel_rfl) (Gw.drew _) Gw.trans (by rw [hsz]; kernel_rfl) (by kernel_rfl) ?_ ?_ ?_
  · intro f hf
    simp only [List.mem_cons, List.not_mem_nil, or_false] at hf
    rcases hf with rfl | rfl | rfl | rfl | rfl | rfl | rfl | rfl | rfl | rfl | rfl | rfl | rfl | rfl <;> intro v a b h g <;> first | exact IsV.mono h
  · refine ⟨?_, ?_, ?_, ?_, ?_, ?_, ?_, ?_, ?_, ?_, ?_, ?_, ?_, ?_, trivial⟩
    · exact owes_mv 0 (by kernel_rfl) (by kernel_rfl) (by kernel_rfl) sl0 (fun _ => rfl)
    · exact owes_mv 0 (by kernel_rfl) (by kernel_rfl) (by kernel_rfl) sl0 (fun _ => rfl)
    · refine owes_v (Go.Op.nilCheck (Go.Operand.tmp 29)) 0 [1] (by kernel_rfl) (by kernel_rfl) (by kernel_rfl) rfl fun vals w1 ρ hG hF hρ hcst hfun => ?_
      have e29 : ρ (.tmp 29) = .pointer (some ⟨g, 0, none⟩) := ((hρ 29).trans (slotJ [1] (by rw [hsz]; decide) (by kernel_rfl))).trans (hF 1 (by decide))
      clear hρ hF hcst hfun sl0 fin
      exact opv_val (by go_simp <;> rfl) ⟨gw_self _, rfl⟩
    · refine owes_v (Go.Op.fieldAddr 47 (Go.Operand.tmp 30) 2) 0 [2] (by kernel_rfl) (by kernel_rfl) (by kernel_rfl) rfl fun vals w1 ρ hG hF hρ hcst hfun => ?_
      have e30 : ρ (.tmp 30) = .pointer (some ⟨g, 0, none⟩) := ((hρ 30).trans (slotJ [2] (by rw [hsz]; decide) (by kernel_rfl))).trans (hF 2 (by decide))
      clear hρ hF hcst hfun sl0 fin
      exact opv_val (by go_simp <;> rfl) ⟨gw_self _, rfl⟩
    · refine owes_v (Go.Op.load 3 (Go.Operand.tmp 31)) 3 [3] (by kernel_rfl) (by kernel_rfl) (by kernel_rfl) rfl fun vals w1 ρ hG hF hρ hcst hfun => ?_
      have e31 : ρ (.tmp 31) = .pointer (some ⟨g, 2, none⟩) := ((hρ 31).trans (slotJ [3] (by rw [hsz]; decide) (by kernel_rfl))).trans (hF 3 (by decide))
      have k := (hG.cell (p := ⟨g, 2, none⟩) hg).trans c2
      clear hρ hF hcst hfun sl0 fin
      exact opv_val (by go_simp <;> rfl) ⟨gw_self _, rfl⟩
    · refine owes_v (Go.Op.binOp Go.BinOp.add 3 (Go.Operand.tmp 32) (Go.Operand.const (Go.Value.int Go.IntKind.i64 1)) 3) 3 [4] (by kernel_rfl) (by kernel_rfl) (by kernel_rfl) rfl fun vals w1 ρ hG hF hρ hcst hfun => ?_
      have e32 : ρ (.tmp 32) = .int .i64 h := ((hρ 32).trans (slotJ [4] (by rw [hsz]; decide) (by kernel_rfl))).trans (hF 4 (by decide))
      have kw0 : IntKind.i64.wrap (((h : Int) + 1)) = ((h : Int) + 1) := wrapIn (by omega) (by omega)
      clear hρ hF hfun sl0 fin
      exact opv_val (by go_simp <;> rfl) ⟨gw_self _, rfl⟩
    · exact owes_mv 0 (by kernel_rfl) (by kernel_rfl) (by kernel_rfl) sl0 (fun _ => rfl)
    · refine owes_v (Go.Op.nilCheck (Go.Operand.tmp 34)) 0 [6] (by kernel_rfl) (by kernel_rfl) (by kernel_rfl) rfl fun vals w1 ρ hG hF hρ hcst hfun => ?_
      have e34 : ρ (.tmp 34) = .pointer (some ⟨g, 0, none⟩) := ((hρ 34).trans (slotJ [6] (by rw [hsz]; decide) (by kernel_rfl))).trans (hF 6 (by decide))
      clear hρ hF hcst hfun sl0 fin
      exact opv_val (by go_simp <;> rfl) ⟨gw_self _, rfl⟩
    · refine owes_v (Go.Op.fieldAddr 47 (Go.Operand.tmp 35) 0) 0 [7] (by kernel_rfl) (by kernel_rfl) (by kernel_rfl) rfl fun vals w1 ρ hG hF hρ hcst hfun => ?_
      have e35 : ρ (.tmp 35) = .pointer (some ⟨g, 0, none⟩) := ((hρ 35).trans (slotJ [7] (by rw [hsz]; decide) (by kernel_rfl))).trans (hF 7 (by decide))
      clear hρ hF hcst hfun sl0 fin
      exact opv_val (by go_simp <;> rfl) ⟨gw_self _, rfl⟩
    · refine owes_v (Go.Op.load 44 (Go.Operand.tmp 36)) 44 [8] (by kernel_rfl) (by kernel_rfl) (by kernel_rfl) rfl fun vals w1 ρ hG hF hρ hcst hfun => ?_
      have e36 : ρ (.tmp 36) = .pointer (some ⟨g, 0, none⟩) := ((hρ 36).trans (slotJ [8] (by rw [hsz]; decide) (by kernel_rfl))).trans (hF 8 (by decide))
      have k := (hG.cell (p := ⟨g, 0, none⟩) hg).trans c0
      clear hρ hF hcst hfun sl0 fin
      exact opv_val (by go_simp <;> rfl) ⟨gw_self _, rfl⟩
    · refine owes_v (Go.Op.call { callee := Go.Callee.builtin Go.Builtin.len, args := #[Go.Operand.tmp 37], argTypes := #[44] }) 3 [9] (by kernel_rfl) (by kernel_rfl) (by kernel_rfl) rfl fun vals w1 ρ hG hF hρ hcst hfun => ?_
      have e37 : ρ (.tmp 37) = .slice (some ⟨fb, 0, none⟩) N N := ((hρ 37).trans (slotJ [9] (by rw [hsz]; decide) (by kernel_rfl))).trans (hF 9 (by decide))
      clear hρ hF hcst hfun sl0 fin
      exact opv_val (by go_simp <;> rfl) ⟨gw_self _, rfl⟩
    · refine owes_v (Go.Op.binOp Go.BinOp.rem 3 (Go.Operand.tmp 33) (Go.Operand.tmp 38) 3) 3 [5, 10] (by kernel_rfl) (by kernel_rfl) (by kernel_rfl) rfl fun vals w1 ρ hG hF hρ hcst hfun => ?_
      have e33 : ρ (.tmp 33) = .int .i64 ((h : Int) + 1) := ((hρ 33).trans (slotJ [5, 10] (by rw [hsz]; decide) (by kernel_rfl))).trans (hF 5 (by decide))
      have e38 : ρ (.tmp 38) = .int .i64 N := ((hρ 38).trans (slotJ [5, 10] (by rw [hsz]; decide) (by kernel_rfl))).trans (hF 10 (by decide))
      have kw0 : IntKind.i64.wrap ((h2 : Int)) = (h2 : Int) := wrapIn (by omega) (by omega)
      clear hρ hF hcst hfun sl0 fin
      exact opv_val (by go_simp <;> rfl) ⟨gw_self _, rfl⟩
    · refine owes_v (Go.Op.nilCheck (Go.Operand.tmp 28)) 0 [0] (by kernel_rfl) (by kernel_rfl) (by kernel_rfl) rfl fun vals w1 ρ hG hF hρ hcst hfun => ?_
      have e28 : ρ (.tmp 28) = .pointer (some ⟨g, 0, none⟩) := ((hρ 28).trans (slotJ [0] (by rw [hsz]; decide) (by kernel_rfl))).trans (hF 0 (by decide))
      clear hρ hF hcst hfun sl0 fin
      exact opv_val (by go_simp <;> rfl) ⟨gw_self _, rfl⟩
    · refine owes_v (Go.Op.fieldAddr 47 (Go.Operand.tmp 40) 2) 0 [12] (by kernel_rfl) (by kernel_rfl) (by kernel_rfl) rfl fun vals w1 ρ hG hF hρ hcst hfun => ?_
      have e40 : ρ (.tmp 40) = .pointer (some ⟨g, 0, none⟩) := ((hρ 40).trans (slotJ [12] (by rw [hsz]; decide) (by kernel_rfl))).trans (hF 12 (by decide))
      clear hρ hF hcst hfun sl0 fin
      exact opv_val (by go_simp <;> rfl) ⟨gw_self _, rfl⟩
  · intro vals w1 hG hF
    exact last_list (by kernel_rfl) (by kernel_rfl) (by kernel_rfl) (fin vals w1 hG (hF 11 (by decide +kernel)) (hF 13 (by decide +kernel)))
theorem del_reg (Q : Exit → Act → World → Prop) (a0 : Act) (w : World) (g fb mb i : Nat) (kx ky : Int) (hg : g < w.heap.size) (hf : fb < w.heap.size) (c1 : w.cell? ⟨g, 1, none⟩ = some (.map (some mb))) (k0 : w.cell? ⟨fb, i * 7, none⟩ = some (.int .i64 kx)) (k1 : w.cell? ⟨fb, i * 7 + 1, none⟩ = some (.int .i64 ky)) (hsz : a0.tmps.size = 82) (sl0 : a0.tmps.getD 0 undef = .pointer (some ⟨g, 0, none⟩)) (sl7 : a0.tmps.getD 7 undef = .pointer (some ⟨fb, i * 7, none⟩))
    (fin : ∀ (vals : Nat → Value) (w1 : World), Below w.heap.size w w1 → (IsV (.map (some mb))) (vals 3) w1 → (IsV (.agg #[.int .i64 kx, .int .i64 ky])) (vals 7) w1 → wpList Try.prog #[{ dst := none, op := Go.Op.call { callee := Go.Callee.builtin Go.Builtin.delete, args := #[Go.Operand.tmp 63, Go.Operand.tmp 67], argTypes := #[45, 29] }, type := 0, pos := "", after := #[], guard := none }] Q [{ dst := none, op := Go.Op.call { callee := Go.Callee.builtin Go.Builtin.delete, args := #[Go.Operand.tmp 63, Go.Operand.tmp 67], argTypes := #[45, 29] }, type := 0, pos := "", after := #[], guard := none }] (putD vals [60, 61, 62, 63, 64, 65, 66, 67] 0 a0) w1) :
    (Code.region 12 (regIn Try.f17 12) true).wp Try.prog Q a0 w := by
  refine region_by_tail (m := 8) (G := fun w w1 => Below w.heap.size w w1) [IsV (.pointer (some ⟨g, 0, none⟩)),
    IsV (.pointer (some ⟨g, 0, none⟩)),
    IsV (.pointer (some ⟨g, 1, none⟩)),
    IsV (.map (some mb)),
    IsV (.pointer (some ⟨fb, i * 7, none⟩)),
    IsV (.pointer (some ⟨fb, i * 7, none⟩)),
    IsV (.pointer (some ⟨fb, i * 7, none⟩)),
    IsV (.agg #[.int .i64 kx, .int .i64 ky])]
    [60, 61, 62, 63, 64, 65, 66, 67] (by kernel_rfl) (Gw.drew _) Gw.trans (by rw [hsz]; kernel_rfl) (by kernel_rfl) ?_ ?_ ?_
  · intro f hf
    simp only [List.mem_cons, List.not_mem_nil, or_false] at hf
    rcases hf with rfl | rfl | rfl | rfl | rfl | rfl | rfl | rfl <;> intro v a b h g <;> first | exact IsV.mono h
  · refine ⟨?_, ?_, ?_, ?_, ?_, ?_, ?_, ?_, trivial⟩
    · exact owes_mv 0 (by kernel_rfl) (by kernel_rfl) (by kernel_rfl) sl0 (fun _ => rfl)
    · refine owes_v (Go.Op.nilCheck (Go.Operand.tmp 60)) 0 [0] (by kernel_rfl) (by kernel_rfl) (by kernel_rfl) rfl fun vals w1 ρ hG hF hρ hcst hfun => ?_
      have e60 : ρ (.tmp 60) = .pointer (some ⟨g, 0, none⟩) := ((hρ 60).trans (slotJ [0] (by rw [hsz]; decide) (by kernel_rfl))).trans (hF 0 (by decide))
      clear hρ hF hcst hfun sl0 sl7 fin
      exact opv_val (by go_simp <;> rfl) ⟨gw_self _, rfl⟩
    · refine owes_v (Go.Op.fieldAddr 47 (Go.Operand.tmp 61) 1) 0 [1] (by kernel_rfl) (by kernel_rfl) (by kernel_rfl) rfl fun vals w1 ρ hG hF hρ hcst hfun => ?_
      have e61 : ρ (.tmp 61) = .pointer (some ⟨g, 0, none⟩) := ((hρ 61).trans (slotJ [1] (by rw [hsz]; decide) (by kernel_rfl))).trans (hF 1 (by decide))
      clear hρ hF hcst hfun sl0 sl7 fin
      exact opv_val (by go_simp <;> rfl) ⟨gw_self _, rfl⟩
    · refine owes_v (Go.Op.load 45 (Go.Operand.tmp 62)) 45 [2] (by kernel_rfl) (by kernel_rfl) (by kernel_rfl) rfl fun vals w1 ρ hG hF hρ hcst hfun => ?_
      have e62 : ρ (.tmp 62) = .pointer (some ⟨g, 1, none⟩) := ((hρ 62).trans (slotJ [2] (by rw [hsz]; decide) (by kernel_rfl))).trans (hF 2 (by decide))
      have k := (hG.cell (p := ⟨g, 1, none⟩) hg).trans c1
      clear hρ hF hcst hfun sl0 sl7 fin
      exact opv_val (by go_simp <;> rfl) ⟨gw_self _, rfl⟩
    · exact owes_mv 7 (by kernel_rfl) (by kernel_rfl) (by kernel_rfl) sl7 (fun _ => rfl)
    · refine owes_v (Go.Op.nilCheck (Go.Operand.tmp 64)) 0 [4] (by kernel_rfl) (by kernel_rfl) (by kernel_rfl) rfl fun vals w1 ρ hG hF hρ hcst hfun => ?_
      have e64 : ρ (.tmp 64) = .pointer (some ⟨fb, i * 7, none⟩) := ((hρ 64).trans (slotJ [4] (by rw [hsz]; decide) (by kernel_rfl))).trans (hF 4 (by decide))
      clear hρ hF hcst hfun sl0 sl7 fin
      exact opv_val (by go_simp <;> rfl) ⟨gw_self _, rfl⟩
    · refine owes_v (Go.Op.fieldAddr 52 (Go.Operand.tmp 65) 0) 0 [5] (by kernel_rfl) (by kernel_rfl) (by kernel_rfl) rfl fun vals w1 ρ hG hF hρ hcst hfun => ?_
      have e65 : ρ (.tmp 65) = .pointer (some ⟨fb, i * 7, none⟩) := ((hρ 65).trans (slotJ [5] (by rw [hsz]; decide) (by kernel_rfl))).trans (hF 5 (by decide))
      clear hρ hF hcst hfun sl0 sl7 fin
      exact opv_val (by go_simp <;> rfl) ⟨gw_self _, rfl⟩
    · refine owes_v (Go.Op.load 29 (Go.Operand.tmp 66)) 29 [6] (by kernel_rfl) (by kernel_rfl) (by kernel_rfl) rfl fun vals w1 ρ hG hF hρ hcst hfun => ?_
      have e66 : ρ (.tmp 66) = .pointer (some ⟨fb, i * 7, none⟩) := ((hρ 66).trans (slotJ [6] (by rw [hsz]; decide) (by kernel_rfl))).trans (hF 6 (by decide))
      have k := (hG.cell (p := ⟨fb, i * 7, none⟩) hf).trans k0
      have k2 := (hG.cell (p := ⟨fb, i * 7 + 1, none⟩) hf).trans k1
      clear hρ hF hcst hfun sl0 sl7 fin
      exact opv_val (by go_simp <;> rfl) ⟨gw_self _, rfl⟩
  · intro vals w1 hG hF
    exact last_list (by kernel_rfl) (by kernel_rfl) (by kernel_rfl) (fin vals w1 hG (hF 3 (by decide +kernel)) (hF 7 (by decide +kernel)))
section
variable {w : World} {g fb mb N : Nat} {fs : List Fr} {hand : Nat} {tb : Tk}
theorem room_empty (h : CaAt w g fb mb N fs hand tb none) (K : Nat) (hK : K < N) (h1 : ∀ j (hj : j < fs.length), j < K → fs[j].full = true) (h2 : ∀ hj : K < fs.length, fs[K].full = false) :
    Calls Try.prog 17 #[.pointer (some ⟨g, 0, none⟩)] w fun e w' => e = .returned (.tuple #[.int .i64 K, outZ, .int .i64 0]) ∧ Below w.heap.size w w' := by
  have hb := Gw.alloc w (.cells outC 32)
  have hz := Bk.new w 32 outC
  have HI := Lib.hid (index1_c (h.below hb) (fun f => !f.full) rfl K (by omega) (fun j hj hjk => by rw [h1 j hj hjk]; rfl) (fun hj => by rw [h2 hj]; rfl) (K : Int) (by rw [if_pos hK]))
  have c0 : (w.alloc (.cells outC 32)).cell? ⟨g, 0, none⟩ = some (.slice (some ⟨fb, 0, none⟩) N N) := (h.below hb).three.1
  unfold outC at HI c0 hb hz
  have HB := Lib.hid (And.intro hb hz)
  have p0 : (0 : Int) ≤ (K : Int) := by omega
  clear h hb hz h1 h2
  go_enter Try.func17, Try.ntmps17
  go_wp2_with fail
  refine Calls.mono HI.out ?_
  rintro e w2 ⟨rfl, b2⟩
  have HZ := Lib.hid (show Bk w2 w.heap.size 32 outC from HB.out.2.below b2 (by simp))
  have HB2 := Lib.hid (HB.out.1.trans (b2.mono HB.out.1.size))
  clear b2 HI c0
  go_wp2_with (refine wp_stR rfl 32 (.tmp 3) (.tmp 16) rfl w.heap.size outC rfl rfl 32 outC HZ.out (by kernel_rfl) rfl (by kernel_rfl) ?_; intro w9 k9 b9 o9)
  refine bodyPost_ret (v := .tuple #[.int .i64 K, outZ, .int .i64 0]) (room_res rfl k9 rfl rfl rfl) rfl ⟨rfl, HB2.out.trans ((b9 w.heap.size (Nat.le_refl _)))⟩
theorem room_full (h : CaAt w g fb mb N fs hand tb none) (h1 : ∀ f ∈ fs, f.full = true) (h2 : ∀ f ∈ fs, f.pins ≠ 0) :
    Calls Try.prog 17 #[.pointer (some ⟨g, 0, none⟩)] w fun e w' => e = .returned (.tuple #[.int .i64 0, outZ, .int .i64 6]) ∧ Below w.heap.size w w' := by
  have hb := Gw.alloc w (.cells outC 32)
  have hz := Bk.new w 32 outC
  have hI := index1_c (h.below hb) (fun f => !f.full) rfl N (Nat.le_refl _) (fun j hj _ => by rw [h1 _ (List.getElem_mem hj)]; rfl) (fun hj => absurd hj (by have := h.n; omega)) (-1) (by rw [if_neg (by omega)])
  have HCo := Lib.hid (fun W (hW : Below w.heap.size w W) => contains_c (h.below hW) (fun f => decide (f.pins = 0)) rfl N (Nat.le_refl _) (fun j hj _ => decide_eq_false (h2 _ (List.getElem_mem hj))) (fun hj => absurd hj (by have := h.n; omega)))
  rw [show decide (N < N) = false from decide_eq_false (by omega)] at HCo
  have HH := Lib.hid h
  have c0 : (w.alloc (.cells outC 32)).cell? ⟨g, 0, none⟩ = some (.slice (some ⟨fb, 0, none⟩) N N) := (h.below hb).three.1
  unfold outC at hI c0 hb hz
  have HI := Lib.hid hI
  have HB := Lib.hid (And.intro hb hz)
  clear h hb hz h1 h2 hI
  go_enter Try.func17, Try.ntmps17
  go_wp2_with fail
  refine Calls.mono HI.out ?_
  rintro e w2 ⟨rfl, b2⟩
  have hbw := HB.out.1.trans (b2.mono HB.out.1.size)
  have HZ := Lib.hid (show Bk w2 w.heap.size 32 outC from HB.out.2.below b2 (by simp))
  have e0 := (HH.out.below hbw).three.1
  have HB2 := Lib.hid hbw
  clear b2 HI c0 hbw
  go_wp2_with fail
  refine Calls.mono (HCo.out _ HB2.out) ?_
  rintro e w3 ⟨rfl, b3⟩
  have HZ3 := Lib.hid (HZ.out.below b3 HZ.out.lt)
  have HB3 := Lib.hid (HB2.out.trans (b3.mono HB2.out.size))
  clear b3 e0 HCo
  go_wp2_with (refine wp_stR rfl 32 (.tmp 3) (.tmp 23) rfl w.heap.size outC rfl rfl 32 outC HZ3.out (by kernel_rfl) rfl (by kernel_rfl) ?_; intro w9 k9 b9 o9)
  refine bodyPost_ret (v := .tuple #[.int .i64 0, outZ, .int .i64 6]) (room_res rfl k9 rfl rfl rfl) rfl ⟨rfl, HB3.out.trans ((b9 w.heap.size (Nat.le_refl _)))⟩
end
end Go.Proofs.Ythmaofbnhfgfaaa
