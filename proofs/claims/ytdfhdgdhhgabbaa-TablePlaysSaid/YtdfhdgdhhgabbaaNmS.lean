/- Rows of graph.Root as lists of a text and a number; append. Conditions: lengths. -/
import Derived.Test.YtdfhdgdhhgabbaaNmJ
import Derived.LoopTactic
namespace Go.Proofs.Ytdfhdgdhhgabbaa
set_option linter.unusedVariables false
set_option linter.unusedSimpArgs false
open Go.RowKit Go.Maps
set_option maxHeartbeats 400000
set_option maxRecDepth 100000
def tC (p : ByteArray × Int) : List Value := [.string p.1, .int .i64 p.2]
def flatT (l : List (ByteArray × Int)) : List Value := l.flatMap tC
theorem flatT_len (l : List (ByteArray × Int)) : (flatT l).length = l.length * 2 := by
  induction l with
  | nil => rfl
  | cons p l ih => rw [show flatT (p :: l) = tC p ++ flatT l from rfl, List.length_append, ih, List.length_cons]; show 2 + _ = _; omega
theorem flatT_app (a b : List (ByteArray × Int)) : flatT (a ++ b) = flatT a ++ flatT b := List.flatMap_append ..
theorem flatT_drop (l : List (ByteArray × Int)) : ∀ k, (flatT l).drop (2 * k) = flatT (l.drop k) := by
  induction l with
  | nil => intro k; simp [flatT]
  | cons p l ih =>
    intro k
    cases k with
    | zero => rfl
    | succ k =>
      rw [show flatT (p :: l) = tC p ++ flatT l from rfl, show 2 * (k + 1) = 2 * k + 1 + 1 from by omega]
      show ((flatT l)).drop (2 * k) = _
      exact ih k
theorem flatT_at (l : List (ByteArray × Int)) (j : Nat) (hj : j < l.length) : (flatT l)[2 * j]? = some (.string l[j].1) ∧ (flatT l)[2 * j + 1]? = some (.int .i64 l[j].2) := by
  have h0 : (flatT l).drop (2 * j) = flatT (l.drop j) := flatT_drop l j
  rw [List.drop_eq_getElem_cons hj] at h0
  have h1 := congrArg (fun L => L[0]?) h0
  have h2 := congrArg (fun L => L[1]?) h0
  simp only [List.getElem?_drop, Nat.add_zero] at h1 h2
  exact ⟨h1, h2⟩
theorem flatT_one (l : List (ByteArray × Int)) : ∀ u ∈ flatT l, u.oneCell' = true := by
  intro u hu
  obtain ⟨p, _, hp⟩ := List.mem_flatMap.1 hu
  simp only [tC, List.mem_cons, List.not_mem_nil, or_false] at hp
  rcases hp with rfl | rfl <;> rfl
/-- A row of pairs of one's own. -/
def TR (w : World) (base : Nat) (v : Value) (l : List (ByteArray × Int)) : Prop := w.ownsRow base 42 2 v l.length (flatT l)
/-- A slice's address reads as pairs. -/
def RdT (w : World) (A : Option Addr) (l : List (ByteArray × Int)) : Prop := ∀ j u, (flatT l)[j]? = some u → ∃ a, A = some a ∧ w.cell? (a.add j) = some u
section
variable {w w' : World} {base : Nat} {v : Value} {l : List (ByteArray × Int)} {S : Nat → Prop}
theorem TR.kept (h : TR w base v l) (hk : Kept S w w') (hn : ∀ k, v.ownBlock = some k → ¬ S k) : TR w' base v l := hk.row h hn
theorem TR.below (h : TR w base v l) (hb : Below w.heap.size w w') : TR w' base v l := h.kept (Kept.of_below hb (fun _ => False)) (fun _ _ f => f)
theorem TR.nil (w : World) (base : Nat) : TR w base (.slice none 0 0) [] := ⟨rfl, .inl ⟨rfl, rfl⟩⟩
theorem TR.empty (w : World) (base q : Nat) (hq : base ≤ q) (hb : Bk w q 42 #[]) : TR w base (.slice (some ⟨q, 0, none⟩) 0 0) [] := ⟨rfl, .inr ⟨q, 0, #[], rfl, hq, hb, Nat.le_refl _, by simp [maxLen], rfl, rfl⟩⟩
theorem TR.form (h : TR w base v l) : (v = .slice none 0 0 ∧ l = []) ∨ ∃ q c, v = .slice (some ⟨q, 0, none⟩) l.length c ∧ l.length ≤ c ∧ c ≤ maxLen ∧ base ≤ q ∧ q < w.heap.size := by
  rcases h.2 with ⟨e, hn⟩ | ⟨q, cap, cur, e, hB, hh, hc, hm, _⟩
  · exact .inl ⟨e, List.eq_nil_of_length_eq_zero hn⟩
  · exact .inr ⟨q, cap, e, hc, hm, hB, (Array.getElem?_eq_some_iff.1 hh).1⟩
theorem TR.slice (h : TR w base v l) : ∃ A c, v = .slice A l.length c ∧ l.length ≤ c ∧ c ≤ maxLen := by
  rcases h.form with ⟨rfl, rfl⟩ | ⟨q, c, rfl, h1, h2, _⟩
  · exact ⟨none, 0, rfl, Nat.le_refl _, by simp [maxLen]⟩
  · exact ⟨_, c, rfl, h1, h2⟩
theorem TR.lt (h : TR w base v l) : ∀ k, v.ownBlock = some k → base ≤ k ∧ k < w.heap.size := fun k hk => World.ownsRow.lt h k hk
theorem TR.rdp {A : Option Addr} {n c : Nat} (h : TR w base (.slice A n c) l) : RdT w A l := by
  intro j u hu
  rcases h.form with ⟨e, rfl⟩ | ⟨q, c', e, _⟩
  · cases hu
  · injection e with e1 e2 e3
    subst e1
    exact ⟨_, rfl, World.ownsRow.cells h rfl j u hu⟩
theorem RdT.pre {A : Option Addr} (h : RdT w A l) (k : Nat) : RdT w A (l.take k) := by
  intro j u hu
  refine h j u ?_
  have e : flatT l = flatT (l.take k) ++ flatT (l.drop k) := by rw [← flatT_app, List.take_append_drop]
  rw [e, List.getElem?_append_left (List.getElem?_eq_some_iff.1 hu).1]
  exact hu
theorem RdT.suf {b o : Nat} (h : RdT w (some ⟨b, o, none⟩) l) (k : Nat) : RdT w (some ⟨b, o + 2 * k, none⟩) (l.drop k) := by
  intro j u hu
  rw [← flatT_drop, List.getElem?_drop] at hu
  obtain ⟨a, e, hc⟩ := h _ _ hu
  injection e with e
  subst e
  refine ⟨_, rfl, ?_⟩
  rw [← hc, add_offN, add_offN, Nat.add_assoc]
/-- The cells of element j. -/
theorem TR.at_ {A : Option Addr} {n c : Nat} (h : TR w base (.slice A n c) l) (j : Nat) (hj : j < l.length) : ∃ q, A = some ⟨q, 0, none⟩ ∧ base ≤ q ∧ q < w.heap.size ∧ w.cell? ⟨q, j * 2, none⟩ = some (.string l[j].1) ∧ w.cell? ⟨q, j * 2 + 1, none⟩ = some (.int .i64 l[j].2) := by
  rcases h.form with ⟨e, rfl⟩ | ⟨q, c', e, _, _, h1, h2⟩
  · exact absurd hj (by simp)
  · injection e with e1 e2 e3
    subst e1
    obtain ⟨f1, f2⟩ := flatT_at l j hj
    have c1 := World.ownsRow.cells h rfl _ _ f1
    have c2 := World.ownsRow.cells h rfl _ _ f2
    refine ⟨q, rfl, h1, h2, ?_, ?_⟩
    · rw [add_offN] at c1; rw [← c1]; congr 2; omega
    · rw [add_offN] at c2; rw [← c2]; congr 2; omega
variable {ops : Array Oper} {rest : List Oper} {o : Oper} {a : Act} {Q : Exit → Act → World → Prop}
/-- append of pairs to a row of one's own. -/
theorem wp_appT (hgd : o.guard = none) (s x : Operand)
    (ho : o.op = .call { callee := .builtin .append, args := #[s, x], argTypes := #[35, 35] })
    (hs : a.eval s = v) (hown : TR w base v l)
    (A : Option Addr) (m c : Nat) (ys : List (ByteArray × Int)) (hx : a.eval x = .slice A m c) (hm : m = ys.length) (hr : RdT w A ys)
    (h63 : l.length + ys.length ≤ 100000) (hbase : base ≤ w.heap.size)
    (h : ∀ v' w', TR w' base v' (l ++ ys) → Below base w w' → w.grownBy w' v.ownBlock → (v'.ownBlock = v.ownBlock ∨ v'.ownBlock = some w.heap.size) → wpList Try.prog ops Q rest (a.put o.dst v') w') : wpList Try.prog ops Q (o :: rest) a w := by
  subst hm
  obtain ⟨i, hi, hz, hsize, hbytes⟩ := info_parts infoR
  have hu := Try.underlying35
  have hbel : ∀ (v' : Value) (w' : World), w.grownBy w' v.ownBlock → Below base w w' := fun v' w' hg => (Below.refl _ _).grown hg hbase (fun k hk => (World.ownsRow.lt hown k hk).1)
  refine wpList_plain hgd fun K hK => ?_
  rcases A with _ | ad
  · have h0 : ys = [] := by
      cases ys with
      | nil => rfl
      | cons p ys =>
        obtain ⟨a, e, _⟩ := hr 0 (.string p.1) rfl
        cases e
    subst h0
    have hrun : (Builtin.append_ #[35, 35] o.type #[v, .slice none 0 c]).run Try.prog w = .ok v w := by
      rcases hown.2 with ⟨rfl, hn⟩ | ⟨g, cap, cur, rfl, _, _, hnc, _⟩
      · simp [Builtin.append_, run_underlying hu, sizeOf, typeInfo, hi, Builtin.lenOf, Builtin.firstCells]
      · simp [Builtin.append_, run_underlying hu, sizeOf, typeInfo, hi, Builtin.lenOf, Builtin.firstCells, hnc, storeCells]
    unfold Oper.wp execOp
    simp only [ho, resolve, invoke, builtin, Sem.run_bind, Sem.run_pure, Result.andThen_ok, List.map_toArray, List.map_cons, List.map_nil, hs, hx, List.length_nil, hrun]
    exact hK _ _ (h v w (by simpa using hown) (Below.refl _ _) (World.grownBy.refl w _) (.inl rfl))
  · obtain ⟨v', w', hrun, h2, h3, _, h5⟩ := run_append_own_at (P := Try.prog) w base 35 o.type 42 i _ 2 24 hu hi hz hsize hbytes rfl (by decide) v l.length (flatT l) hown ad ys.length c (flatT ys) (flatT_len ys)
      (fun j u hj => by
        obtain ⟨a, e, hc⟩ := hr j u hj
        injection e with e
        subst e
        exact hc) (flatT_one ys) (by unfold maxLen; omega) (by omega) hbase
    unfold Oper.wp execOp
    simp only [ho, resolve, invoke, builtin, Sem.run_bind, Sem.run_pure, Result.andThen_ok, List.map_toArray, List.map_cons, List.map_nil, hs, hx, hrun]
    refine hK _ _ (h v' w' ?_ (hbel v' w' h3) h3 h5)
    unfold TR
    rw [List.length_append, flatT_app]
    exact h2
end
end Go.Proofs.Ytdfhdgdhhgabbaa
