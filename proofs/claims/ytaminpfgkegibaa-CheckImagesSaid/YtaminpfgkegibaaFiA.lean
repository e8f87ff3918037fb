/- A row of findings (check.Finding) as a list; append; at. Conditions: lengths. -/
import Derived.Test.YtaminpfgkegibaaFiC
import Derived.LoopTactic
namespace Go.Proofs.Ytaminpfgkegibaa
set_option linter.unusedVariables false
set_option linter.unusedSimpArgs false
open Go.RowKit Go.Maps
set_option maxHeartbeats 400000
set_option maxRecDepth 100000
theorem infoF : (Try.prog.info? 55).map (fun i => (i.zero, i.size, i.bytes)) = some (some (.agg #[.int .i64 0, .string ⟨#[]⟩]), 2, 24) := by kernel_rfl
/-- A row of pairs of one's own. -/
def FR (w : World) (base : Nat) (v : Value) (l : List (Nat × ByteArray)) : Prop := w.ownsRow base 55 2 v l.length (flatF l)
/-- A slice's address reads as pairs. -/
def RdF (w : World) (A : Option Addr) (l : List (Nat × ByteArray)) : Prop := ∀ j u, (flatF l)[j]? = some u → ∃ a, A = some a ∧ w.cell? (a.add j) = some u
section
variable {w w' : World} {base : Nat} {v : Value} {l : List (Nat × ByteArray)} {S : Nat → Prop}
theorem FR.kept (h : FR w base v l) (hk : Kept S w w') (hn : ∀ k, v.ownBlock = some k → ¬ S k) : FR w' base v l := hk.rowF h hn
theorem FR.below (h : FR w base v l) (hb : Below w.heap.size w w') : FR w' base v l := h.kept (Kept.of_below hb (fun _ => False)) (fun _ _ f => f)
theorem FR.nil (w : World) (base : Nat) : FR w base (.slice none 0 0) [] := ⟨rfl, .inl ⟨rfl, rfl⟩⟩
theorem FR.empty (w : World) (base q : Nat) (hq : base ≤ q) (hb : Bk w q 55 #[]) : FR w base (.slice (some ⟨q, 0, none⟩) 0 0) [] := ⟨rfl, .inr ⟨q, 0, #[], rfl, hq, hb, Nat.le_refl _, by simp [maxLen], rfl, rfl⟩⟩
theorem FR.form (h : FR w base v l) : (v = .slice none 0 0 ∧ l = []) ∨ ∃ q c, v = .slice (some ⟨q, 0, none⟩) l.length c ∧ l.length ≤ c ∧ c ≤ maxLen ∧ base ≤ q ∧ q < w.heap.size := by
  rcases h.2 with ⟨e, hn⟩ | ⟨q, cap, cur, e, hB, hh, hc, hm, _⟩
  · exact .inl ⟨e, List.eq_nil_of_length_eq_zero hn⟩
  · exact .inr ⟨q, cap, e, hc, hm, hB, (Array.getElem?_eq_some_iff.1 hh).1⟩
theorem FR.slice_ (h : FR w base v l) : ∃ A c, v = .slice A l.length c ∧ l.length ≤ c ∧ c ≤ maxLen := by
  rcases h.form with ⟨rfl, rfl⟩ | ⟨q, c, rfl, h1, h2, _⟩
  · exact ⟨none, 0, rfl, Nat.le_refl _, by simp [maxLen]⟩
  · exact ⟨_, c, rfl, h1, h2⟩
theorem FR.lt (h : FR w base v l) : ∀ k, v.ownBlock = some k → base ≤ k ∧ k < w.heap.size := fun k hk => World.ownsRow.lt h k hk
theorem FR.rdf {A : Option Addr} {n c : Nat} (h : FR w base (.slice A n c) l) : RdF w A l := by
  intro j u hu
  rcases h.form with ⟨e, rfl⟩ | ⟨q, c', e, _⟩
  · cases hu
  · injection e with e1 e2 e3
    subst e1
    exact ⟨_, rfl, World.ownsRow.cells h rfl j u hu⟩
theorem RdF.pre {A : Option Addr} (h : RdF w A l) (k : Nat) : RdF w A (l.take k) := by
  intro j u hu
  refine h j u ?_
  have e : flatF l = flatF (l.take k) ++ flatF (l.drop k) := by rw [← flatF_app, List.take_append_drop]
  rw [e, List.getElem?_append_left (List.getElem?_eq_some_iff.1 hu).1]
  exact hu
theorem RdF.suf {b o : Nat} (h : RdF w (some ⟨b, o, none⟩) l) (k : Nat) : RdF w (some ⟨b, o + 2 * k, none⟩) (l.drop k) := by
  intro j u hu
  rw [← flatF_drop, List.getElem?_drop] at hu
  obtain ⟨a, e, hc⟩ := h _ _ hu
  injection e with e
  subst e
  refine ⟨_, rfl, ?_⟩
  rw [← hc, add_off, add_off, Nat.add_assoc]
/-- The cells of element j. -/
theorem FR.at_ {A : Option Addr} {n c : Nat} (h : FR w base (.slice A n c) l) (j : Nat) (hj : j < l.length) : ∃ q, A = some ⟨q, 0, none⟩ ∧ base ≤ q ∧ q < w.heap.size ∧ w.cell? ⟨q, j * 2, none⟩ = some (.int .i64 (l[j].1 : Int)) ∧ w.cell? ⟨q, j * 2 + 1, none⟩ = some (.string l[j].2) := by
  rcases h.form with ⟨e, rfl⟩ | ⟨q, c', e, _, _, h1, h2⟩
  · exact absurd hj (by simp)
  · injection e with e1 e2 e3
    subst e1
    obtain ⟨f1, f2⟩ := flatF_at l j hj
    have c1 := World.ownsRow.cells h rfl _ _ f1
    have c2 := World.ownsRow.cells h rfl _ _ f2
    refine ⟨q, rfl, h1, h2, ?_, ?_⟩
    · rw [add_off] at c1; rw [← c1]; congr 2; omega
    · rw [add_off] at c2; rw [← c2]; congr 2; omega
variable {ops : Array Oper} {rest : List Oper} {o : Oper} {a : Act} {Q : Exit → Act → World → Prop}
/-- append of pairs to a row of one's own. -/
theorem wp_appF (hgd : o.guard = none) (s x : Operand)
    (ho : o.op = .call { callee := .builtin .append, args := #[s, x], argTypes := #[24, 24] })
    (hs : a.eval s = v) (hown : FR w base v l)
    (A : Option Addr) (m c : Nat) (ys : List (Nat × ByteArray)) (hx : a.eval x = .slice A m c) (hm : m = ys.length) (hr : RdF w A ys)
    (h63 : l.length + ys.length ≤ 100000) (hbase : base ≤ w.heap.size)
    (h : ∀ v' w', FR w' base v' (l ++ ys) → Below base w w' → w.grownBy w' v.ownBlock → (v'.ownBlock = v.ownBlock ∨ v'.ownBlock = some w.heap.size) → wpList Try.prog ops Q rest (a.put o.dst v') w') : wpList Try.prog ops Q (o :: rest) a w := by
  subst hm
  obtain ⟨i, hi, hz, hsize, hbytes⟩ := info_parts infoF
  have hu := Try.underlying24
  have hbel : ∀ (v' : Value) (w' : World), w.grownBy w' v.ownBlock → Below base w w' := fun v' w' hg => (Below.refl _ _).grown hg hbase (fun k hk => (World.ownsRow.lt hown k hk).1)
  refine wpList_plain hgd fun K hK => ?_
  rcases A with _ | ad
  · have h0 : ys = [] := by
      cases ys with
      | nil => rfl
      | cons p ys =>
        obtain ⟨a, e, _⟩ := hr 0 (.int .i64 (p.1 : Int)) rfl
        cases e
    subst h0
    have hrun : (Builtin.append_ #[24, 24] o.type #[v, .slice none 0 c]).run Try.prog w = .ok v w := by
      rcases hown.2 with ⟨rfl, hn⟩ | ⟨g, cap, cur, rfl, _, _, hnc, _⟩
      · simp [Builtin.append_, run_underlying hu, sizeOf, typeInfo, hi, Builtin.lenOf, Builtin.firstCells]
      · simp [Builtin.append_, run_underlying hu, sizeOf, typeInfo, hi, Builtin.lenOf, Builtin.firstCells, hnc, storeCells]
    unfold Oper.wp execOp
    simp only [ho, resolve, invoke, builtin, Sem.run_bind, Sem.run_pure, Result.andThen_ok, List.map_toArray, List.map_cons, List.map_nil, hs, hx, List.length_nil, hrun]
    exact hK _ _ (h v w (by simpa using hown) (Below.refl _ _) (World.grownBy.refl w _) (.inl rfl))
  · obtain ⟨v', w', hrun, h2, h3, _, h5⟩ := run_append_own_at (P := Try.prog) w base 24 o.type 55 i _ 2 24 hu hi hz hsize hbytes rfl (by decide) v l.length (flatF l) hown ad ys.length c (flatF ys) (flatF_len ys)
      (fun j u hj => by
        obtain ⟨a, e, hc⟩ := hr j u hj
        injection e with e
        subst e
        exact hc) (flatF_one ys) (by unfold maxLen; omega) (by omega) hbase
    unfold Oper.wp execOp
    simp only [ho, resolve, invoke, builtin, Sem.run_bind, Sem.run_pure, Result.andThen_ok, List.map_toArray, List.map_cons, List.map_nil, hs, hx, hrun]
    refine hK _ _ (h v' w' ?_ (hbel v' w' h3) h3 h5)
    unfold FR
    rw [List.length_append, flatF_app]
    exact h2
theorem rdF_new (w : World) (a : Nat) (s : ByteArray) : RdF (w.alloc (.cells #[.int .i64 (a : Int), .string s] 55)) (some ⟨w.heap.size, 0, none⟩) [(a, s)] := by
  intro j u hu
  have hb := Bk.new w 55 #[.int .i64 (a : Int), .string s]
  refine ⟨_, rfl, ?_⟩
  have hj : j < 2 := (List.getElem?_eq_some_iff.1 hu).1
  rw [add_off, Nat.zero_add]
  rcases (show j = 0 ∨ j = 1 by omega) with rfl | rfl
  · have : u = .int .i64 (a : Int) := by injection hu with hu; exact hu.symm
    rw [this]; exact hb.cell 0
  · have : u = .string s := by injection hu with hu; exact hu.symm
    rw [this]; exact hb.cell 1
end
end Go.Proofs.Ytaminpfgkegibaa
