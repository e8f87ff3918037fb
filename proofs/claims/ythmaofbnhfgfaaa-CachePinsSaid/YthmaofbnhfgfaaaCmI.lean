/- cache.Cache's Put where the key is not there. Conditions: lengths; where the hand stops. -/
import Derived.Test.YthmaofbnhfgfaaaCmH
namespace Go.Proofs.Ythmaofbnhfgfaaa
set_option linter.unusedVariables false
set_option linter.unusedSimpArgs false
open Go.RowKit Go.Maps
set_option maxRecDepth 100000
set_option maxHeartbeats 8000000
/-- A clone: a new row of those bytes. -/
def ClV (B : Nat) (bs : List (BitVec 8)) (n : Nat) (v : Value) (w : World) : Prop := ∃ A c, v = .slice A n c ∧ Rd b8 w w.heap.size A bs ∧ ∀ a, A = some a → B ≤ a.block
theorem ClV.mono {B : Nat} {bs : List (BitVec 8)} {n : Nat} {v : Value} {a b : World} (h : ClV B bs n v a) (g : Below a.heap.size a b) : ClV B bs n v b := by
  obtain ⟨A, c, e, hr, hl⟩ := h
  exact ⟨A, c, e, (hr.below g).more g.size, hl⟩
theorem cl_of {f : FuncId} {args : Array Value} {w : World} {B : Nat} {bs : List (BitVec 8)} {n : Nat} (hB : B ≤ w.heap.size) (h : Calls Try.prog f args w fun e w' => ∃ A2 c2, e = .returned (.slice A2 n c2) ∧ Rd b8 w' w'.heap.size A2 bs ∧ (∀ a, A2 = some a → w.heap.size ≤ a.block ∧ a.block < w'.heap.size) ∧ Below w.heap.size w w') : Calls Try.prog f args w fun e w2 => ∃ v, e = .returned v ∧ Below w.heap.size w w2 ∧ ClV B bs n v w2 :=
  h.mono fun e w2 h => by
    obtain ⟨A, c, rfl, hr, ha, hb⟩ := h
    exact ⟨_, rfl, hb, A, c, rfl, hr, fun a e => Nat.le_trans hB (ha a e).1⟩
/-- A new frame. -/
def FrN (B : Nat) (kx ky : Int) (bs : List (BitVec 8)) (n : Nat) (dirty : Bool) (v : Value) (w : World) : Prop := ∃ A c, v = .agg #[.int .i64 kx, .int .i64 ky, .bool true, .slice A n c, .bool dirty, .int .i64 0, .bool true] ∧ Rd b8 w w.heap.size A bs ∧ ∀ a, A = some a → B ≤ a.block
theorem FrN.mono {B : Nat} {kx ky : Int} {bs : List (BitVec 8)} {n : Nat} {dirty : Bool} {v : Value} {a b : World} (h : FrN B kx ky bs n dirty v a) (g : Below a.heap.size a b) : FrN B kx ky bs n dirty v b := by
  obtain ⟨A, c, e, hr, hl⟩ := h
  exact ⟨A, c, e, (hr.below g).more g.size, hl⟩
section
variable {W W' : World} {g fb mb N : Nat} {fs : List Fr} {hand : Nat} {tb : Tk}
theorem CaAt.fill {i : Nat} (h : CaAt W g fb mb N fs hand tb (some i)) (hi : i < fs.length) (f' : Fr) (hf : f'.full = true) (hv : vOf tb f'.k = none) (hkw : kW f'.k) (hb : Bk W' fb 52 (fcA (fs.set i f'))) (hm : KmIs W' mb (setK tb f'.k (i : Int))) (hk : Kept (fun k => k = fb ∨ k = mb) W W')
    (hd : Rd b8 W' W'.heap.size f'.A f'.b ∧ f'.b.length ≤ 1000000 ∧ ∀ a, f'.A = some a → f'.b ≠ [] → a.block ≠ g ∧ a.block ≠ fb ∧ a.block ≠ mb) (hp : f'.pins ≤ 1000000) : CaAt W' g fb mb N (fs.set i f') hand (setK tb f'.k (i : Int)) none := by
  have hmem : ∀ f ∈ fs.set i f', f = f' ∨ f ∈ fs := fun f hf => by
    rcases List.mem_or_eq_of_mem_set hf with e | e
    · exact .inr e
    · exact .inl e
  refine ⟨hk.bk h.blk (fun e => by rcases e with e | e; exact h.n1 e.symm; exact h.n2 e.symm), hb, hm, by rw [List.length_set]; exact h.n, h.hl, h.nl, fun f hf => ?_, h.n1, h.n2, h.n3, fun f hf => ?_, fun f hf => ?_, fun j hj _ e4 => ?_, fun k z e => ?_⟩
  · rcases hmem f hf with rfl | e
    · exact hd
    · have := h.data f e
      refine ⟨?_, this.2⟩
      cases hb : f.b with
      | nil => exact Rd.nil
      | cons y ys => rw [← hb]; exact hk.rd this.1 (fun a ea e2 => by
          have := this.2.2 a ea (by rw [hb]; simp)
          rcases e2 with e2 | e2
          · exact this.2.1 e2
          · exact this.2.2 e2)
  · rcases hmem f hf with rfl | e
    · exact hkw
    · exact h.kw f e
  · rcases hmem f hf with rfl | e
    · exact hp
    · exact h.pl f e
  · rw [List.length_set] at hj
    rw [List.getElem_set] at e4 ⊢
    rw [vOf_set]
    split at e4
    · rename_i e5
      subst e5
      rw [if_pos rfl, if_pos rfl]
    · rename_i e5
      rw [if_neg e5]
      have h1 := h.c1 j hj (fun e => by injection e with e; exact e5 e.symm) e4
      rw [if_neg (fun e => by rw [e, hv] at h1; cases h1)]
      exact h1
  · rw [vOf_set] at e
    split at e
    · rename_i e5
      injection e with e
      exact ⟨i, by rw [List.length_set]; exact hi, by simp, e.symm, by rw [List.getElem_set_self]; exact ⟨hf, e5.symm⟩⟩
    · obtain ⟨j, hj, q1, q2, q3, q4⟩ := h.c2 k z e
      have hne : ¬ i = j := fun e => q1 (by rw [e])
      refine ⟨j, by rw [List.length_set]; exact hj, by simp, q2, ?_⟩
      rw [List.getElem_set, if_neg hne]
      exact ⟨q3, q4⟩
end
theorem put_reg (Q : Exit → Act → World → Prop) (a0 : Act) (w : World) (g q fb N i n c : Nat) (A : Option Addr) (kx ky : Int) (bs : List (BitVec 8)) (dirty : Bool) (hg : g < w.heap.size) (hq : q < w.heap.size) (hn : n = bs.length) (hl : n ≤ 1000000) (hr : Rd b8 w w.heap.size A bs) (c0 : w.cell? ⟨g, 0, none⟩ = some (.slice (some ⟨fb, 0, none⟩) N N)) (k0 : w.cell? ⟨q, 0, none⟩ = some (.int .i64 kx)) (k1 : w.cell? ⟨q, 1, none⟩ = some (.int .i64 ky)) (p0 : (0 : Int) ≤ (i : Int)) (p1 : (i : Int) < (N : Int)) (hsz : a0.tmps.size = 66) (sl0 : a0.tmps.getD 0 undef = .pointer (some ⟨g, 0, none⟩)) (sl2 : a0.tmps.getD 2 undef = .slice A n c) (sl3 : a0.tmps.getD 3 undef = .bool dirty) (sl5 : a0.tmps.getD 5 undef = .pointer (some ⟨q, 0, none⟩)) (sl11 : a0.tmps.getD 11 undef = .int .i64 i)
    (fin : ∀ (vals : Nat → Value) (w1 : World), Below w.heap.size w w1 → (FrN w.heap.size kx ky bs n dirty) (vals 9) w1 → (IsV (.pointer (some ⟨fb, i * 7, none⟩))) (vals 10) w1 → wpList Try.prog #[{ dst := none, op := Go.Op.store 52 (Go.Operand.tmp 58) (Go.Operand.tmp 57), type := 0, pos := "", after := #[], guard := none }] Q [{ dst := none, op := Go.Op.store 52 (Go.Operand.tmp 58) (Go.Operand.tmp 57), type := 0, pos := "", after := #[], guard := none }] (putD vals [48, 49, 50, 51, 52, 53, 54, 55, 56, 57, 58] 0 a0) w1) :
    (Code.region 10 (regIn Try.f8 10) true).wp Try.prog Q a0 w := by
  refine region_by_tail (m := 11) (G := fun w w1 => Below w.heap.size w w1) [IsV (.pointer (some ⟨g, 0, none⟩)),
    IsV (.pointer (some ⟨g, 0, none⟩)),
    IsV (.pointer (some ⟨g, 0, none⟩)),
    IsV (.slice (some ⟨fb, 0, none⟩) N N),
    IsV (.int .i64 i),
    IsV (.agg #[.int .i64 kx, .int .i64 ky]),
    IsV (.slice A n c),
    ClV w.heap.size bs n,
    IsV (.bool dirty),
    FrN w.heap.size kx ky bs n dirty,
    IsV (.pointer (some ⟨fb, i * 7, none⟩))]
    [48, 49, 50, 51, 52, 53, 54, 55, 56, 57, 58] (by kernel_rfl) (Gw.drew _) Gw.trans (by rw [hsz]; kernel_rfl) (by kernel_rfl) ?_ ?_ ?_
  · intro f hf
    simp only [List.mem_cons, List.not_mem_nil, or_false] at hf
    rcases hf with rfl | rfl | rfl | rfl | rfl | rfl | rfl | rfl | rfl | rfl | rfl <;> intro v a b h g <;> first | exact IsV.mono h | exact ClV.mono h g | exact FrN.mono h g
  · refine ⟨?_, ?_, ?_, ?_, ?_, ?_, ?_, ?_, ?_, ?_, ?_, trivial⟩
    · exact owes_mv 0 (by kernel_rfl) (by kernel_rfl) (by kernel_rfl) sl0 (fun _ => rfl)
    · refine owes_v (Go.Op.nilCheck (Go.Operand.tmp 48)) 0 [0] (by kernel_rfl) (by kernel_rfl) (by kernel_rfl) rfl fun vals w1 ρ hG hF hρ hcst hfun => ?_
      have e48 : ρ (.tmp 48) = .pointer (some ⟨g, 0, none⟩) := ((hρ 48).trans (slotJ [0] (by rw [hsz]; decide) (by kernel_rfl))).trans (hF 0 (by decide))
      clear hρ hF hcst hfun sl0 sl2 sl3 sl5 sl11 fin
      exact opv_val (by go_simp <;> rfl) ⟨gw_self _, rfl⟩
    · refine owes_v (Go.Op.fieldAddr 47 (Go.Operand.tmp 49) 0) 0 [1] (by kernel_rfl) (by kernel_rfl) (by kernel_rfl) rfl fun vals w1 ρ hG hF hρ hcst hfun => ?_
      have e49 : ρ (.tmp 49) = .pointer (some ⟨g, 0, none⟩) := ((hρ 49).trans (slotJ [1] (by rw [hsz]; decide) (by kernel_rfl))).trans (hF 1 (by decide))
      clear hρ hF hcst hfun sl0 sl2 sl3 sl5 sl11 fin
      exact opv_val (by go_simp <;> rfl) ⟨gw_self _, rfl⟩
    · refine owes_v (Go.Op.load 44 (Go.Operand.tmp 50)) 44 [2] (by kernel_rfl) (by kernel_rfl) (by kernel_rfl) rfl fun vals w1 ρ hG hF hρ hcst hfun => ?_
      have e50 : ρ (.tmp 50) = .pointer (some ⟨g, 0, none⟩) := ((hρ 50).trans (slotJ [2] (by rw [hsz]; decide) (by kernel_rfl))).trans (hF 2 (by decide))
      have k := (hG.cell (p := ⟨g, 0, none⟩) hg).trans c0
      clear hρ hF hcst hfun sl0 sl2 sl3 sl5 sl11 fin
      exact opv_val (by go_simp <;> rfl) ⟨gw_self _, rfl⟩
    · exact owes_mv 11 (by kernel_rfl) (by kernel_rfl) (by kernel_rfl) sl11 (fun _ => rfl)
    · refine owes_v (Go.Op.load 29 (Go.Operand.tmp 5)) 29 [] (by kernel_rfl) (by kernel_rfl) (by kernel_rfl) rfl fun vals w1 ρ hG hF hρ hcst hfun => ?_
      have e5 : ρ (.tmp 5) = .pointer (some ⟨q, 0, none⟩) := ((hρ 5).trans (slotO [] (by kernel_rfl))).trans sl5
      have k := (hG.cell (p := ⟨q, 0, none⟩) hq).trans k0
      have k2 := (hG.cell (p := ⟨q, 1, none⟩) hq).trans k1
      clear hρ hF hcst hfun sl0 sl2 sl3 sl5 sl11 fin
      exact opv_val (by go_simp <;> rfl) ⟨gw_self _, rfl⟩
    · exact owes_mv 2 (by kernel_rfl) (by kernel_rfl) (by kernel_rfl) sl2 (fun _ => rfl)
    · refine owes_v (Go.Op.call { callee := Go.Callee.value (Go.Operand.func 16), args := #[Go.Operand.tmp 54], argTypes := #[30] }) 30 [6] (by kernel_rfl) (by kernel_rfl) (by kernel_rfl) rfl fun vals w1 ρ hG hF hρ hcst hfun => ?_
      have e54 : ρ (.tmp 54) = .slice A n c := ((hρ 54).trans (slotJ [6] (by rw [hsz]; decide) (by kernel_rfl))).trans (hF 6 (by decide))
      clear hρ hF hcst sl0 sl2 sl3 sl5 sl11 fin
      exact opv_enter (by go_simp <;> rfl) (cl_of hG.size (clone_c bs A n c hn _ ((hr.below hG).more hG.size) (by omega)))
    · exact owes_mv 3 (by kernel_rfl) (by kernel_rfl) (by kernel_rfl) sl3 (fun _ => rfl)
    · refine owes_v (Go.Op.build 52 #[(0, Go.Operand.tmp 53), (1, Go.Operand.const (Go.Value.bool true)), (2, Go.Operand.tmp 55), (3, Go.Operand.tmp 56), (5, Go.Operand.const (Go.Value.bool true))]) 52 [5, 7, 8] (by kernel_rfl) (by kernel_rfl) (by kernel_rfl) rfl fun vals w1 ρ hG hF hρ hcst hfun => ?_
      have e53 : ρ (.tmp 53) = .agg #[.int .i64 kx, .int .i64 ky] := ((hρ 53).trans (slotJ [5, 7, 8] (by rw [hsz]; decide) (by kernel_rfl))).trans (hF 5 (by decide))
      have f55 : (ClV w.heap.size bs n) (vals 7) w1 := hF 7 (by decide)
      have e55 : ρ (.tmp 55) = vals 7 := (hρ 55).trans (slotJ [5, 7, 8] (by rw [hsz]; decide) (by kernel_rfl))
      have e56 : ρ (.tmp 56) = .bool dirty := ((hρ 56).trans (slotJ [5, 7, 8] (by rw [hsz]; decide) (by kernel_rfl))).trans (hF 8 (by decide))
      obtain ⟨A', c', hv, hr', hl'⟩ := f55
      rw [hv] at e55
      clear hρ hF hfun sl0 sl2 sl3 sl5 sl11 fin
      exact opv_val (by go_simp <;> rfl) ⟨gw_self _, ⟨A', c', rfl, hr', hl'⟩⟩
    · refine owes_v (Go.Op.indexAddr 44 (Go.Operand.tmp 51) (Go.Operand.tmp 52)) 0 [3, 4] (by kernel_rfl) (by kernel_rfl) (by kernel_rfl) rfl fun vals w1 ρ hG hF hρ hcst hfun => ?_
      have e51 : ρ (.tmp 51) = .slice (some ⟨fb, 0, none⟩) N N := ((hρ 51).trans (slotJ [3, 4] (by rw [hsz]; decide) (by kernel_rfl))).trans (hF 3 (by decide))
      have e52 : ρ (.tmp 52) = .int .i64 i := ((hρ 52).trans (slotJ [3, 4] (by rw [hsz]; decide) (by kernel_rfl))).trans (hF 4 (by decide))
      clear hρ hF hcst hfun sl0 sl2 sl3 sl5 sl11 fin
      exact opv_val (by go_simp <;> rfl) ⟨gw_self _, rfl⟩
  · intro vals w1 hG hF
    exact last_list (by kernel_rfl) (by kernel_rfl) (by kernel_rfl) (fin vals w1 hG (hF 9 (by decide +kernel)) (hF 10 (by decide +kernel)))
end Go.Proofs.Ythmaofbnhfgfaaa
