/- Rows of keys, the program's and the document's, as lists; append. Conditions: lengths. -/
import Derived.Test.YthmaofbnhfgfaaaKyA
import Derived.Test.YthmaofbnhfgfaaaRegS
namespace Go.Proofs.Ythmaofbnhfgfaaa
set_option linter.unusedVariables false
set_option linter.unusedSimpArgs false
open Go.RowKit Go.Maps
set_option maxHeartbeats 400000
set_option maxRecDepth 100000
theorem add_off (b o k : Nat) : ((⟨b, o, none⟩ : Addr).add k) = ⟨b, o + k, none⟩ := by unfold Addr.add; split <;> simp_all
def cK (p : Int × Int) : List Value := [.int .i64 p.1, .int .i64 p.2]
def flatK (l : List (Int × Int)) : List Value := l.flatMap cK
theorem flatK_len (l : List (Int × Int)) : (flatK l).length = l.length * 2 := by
  induction l with
  | nil => rfl
  | cons p l ih => rw [show flatK (p :: l) = cK p ++ flatK l from rfl, List.length_append, ih, List.length_cons]; show 2 + _ = _; omega
theorem flatK_app (a b : List (Int × Int)) : flatK (a ++ b) = flatK a ++ flatK b := List.flatMap_append ..
theorem flatK_drop (l : List (Int × Int)) : ∀ k, (flatK l).drop (2 * k) = flatK (l.drop k) := by
  induction l with
  | nil => intro k; simp [flatK]
  | cons p l ih =>
    intro k
    cases k with
    | zero => rfl
    | succ k =>
      rw [show flatK (p :: l) = cK p ++ flatK l from rfl, show 2 * (k + 1) = 2 * k + 1 + 1 from by omega]
      show ((flatK l)).drop (2 * k) = _
      exact ih k
theorem flatK_at (l : List (Int × Int)) (j : Nat) (hj : j < l.length) : (flatK l)[2 * j]? = some (.int .i64 l[j].1) ∧ (flatK l)[2 * j + 1]? = some (.int .i64 l[j].2) := by
  have h0 : (flatK l).drop (2 * j) = flatK (l.drop j) := flatK_drop l j
  rw [List.drop_eq_getElem_cons hj] at h0
  have h1 := congrArg (fun L => L[0]?) h0
  have h2 := congrArg (fun L => L[1]?) h0
  simp only [List.getElem?_drop, Nat.add_zero] at h1 h2
  exact ⟨h1, h2⟩
theorem flatK_one (l : List (Int × Int)) : ∀ u ∈ flatK l, u.oneCell' = true := by
  intro u hu
  obtain ⟨p, _, hp⟩ := List.mem_flatMap.1 hu
  simp only [cK, List.mem_cons, List.not_mem_nil, or_false] at hp
  rcases hp with rfl | rfl <;> rfl
theorem infoK : (Try.prog.info? 29).map (fun i => (i.zero, i.size, i.bytes)) = some (some (.agg #[.int .i64 0, .int .i64 0]), 2, 16) := by kernel_rfl
theorem info_parts {o : Option TypeInfo} {z : Option Value} {s b : Nat} (h : o.map (fun i => (i.zero, i.size, i.bytes)) = some (z, s, b)) : ∃ i, o = some i ∧ i.zero = z ∧ i.size = s ∧ i.bytes = b := by
  cases o with
  | none => cases h
  | some i => simp at h; exact ⟨i, rfl, h.1, h.2.1, h.2.2⟩
/-- A row of keys of one's own. -/
def KR (w : World) (base : Nat) (v : Value) (l : List (Int × Int)) : Prop := w.ownsRow base 29 2 v l.length (flatK l)
/-- A slice's address reads as keys. -/
def RdK (w : World) (A : Option Addr) (l : List (Int × Int)) : Prop := ∀ j u, (flatK l)[j]? = some u → ∃ a, A = some a ∧ w.cell? (a.add j) = some u
section
variable {w w' : World} {base : Nat} {v : Value} {l : List (Int × Int)} {S : Nat → Prop}
theorem KR.kept (h : KR w base v l) (hk : Kept S w w') (hn : ∀ k, v.ownBlock = some k → ¬ S k) : KR w' base v l := hk.row h hn
theorem KR.below (h : KR w base v l) (hb : Below w.heap.size w w') : KR w' base v l := h.kept (Kept.of_below hb (fun _ => False)) (fun _ _ f => f)
theorem KR.nil (w : World) (base : Nat) : KR w base (.slice none 0 0) [] := ⟨rfl, .inl ⟨rfl, rfl⟩⟩
theorem KR.empty (w : World) (base q : Nat) (hq : base ≤ q) (hb : Bk w q 29 #[]) : KR w base (.slice (some ⟨q, 0, none⟩) 0 0) [] := ⟨rfl, .inr ⟨q, 0, #[], rfl, hq, hb, Nat.le_refl _, by simp [maxLen], rfl, rfl⟩⟩
theorem KR.form (h : KR w base v l) : (v = .slice none 0 0 ∧ l = []) ∨ ∃ q c, v = .slice (some ⟨q, 0, none⟩) l.length c ∧ l.length ≤ c ∧ c ≤ maxLen ∧ base ≤ q ∧ q < w.heap.size := by
  rcases h.2 with ⟨e, hn⟩ | ⟨q, cap, cur, e, hB, hh, hc, hm, _⟩
  · exact .inl ⟨e, List.eq_nil_of_length_eq_zero hn⟩
  · exact .inr ⟨q, cap, e, hc, hm, hB, (Array.getElem?_eq_some_iff.1 hh).1⟩
theorem KR.slice (h : KR w base v l) : ∃ A c, v = .slice A l.length c ∧ l.length ≤ c ∧ c ≤ maxLen := by
  rcases h.form with ⟨rfl, rfl⟩ | ⟨q, c, rfl, h1, h2, _⟩
  · exact ⟨none, 0, rfl, Nat.le_refl _, by simp [maxLen]⟩
  · exact ⟨_, c, rfl, h1, h2⟩
theorem KR.lt (h : KR w base v l) : ∀ k, v.ownBlock = some k → base ≤ k ∧ k < w.heap.size := fun k hk => World.ownsRow.lt h k hk
theorem KR.rdp {A : Option Addr} {n c : Nat} (h : KR w base (.slice A n c) l) : RdK w A l := by
  intro j u hu
  rcases h.form with ⟨e, rfl⟩ | ⟨q, c', e, _⟩
  · cases hu
  · injection e with e1 e2 e3
    subst e1
    exact ⟨_, rfl, World.ownsRow.cells h rfl j u hu⟩
theorem RdK.pre {A : Option Addr} (h : RdK w A l) (k : Nat) : RdK w A (l.take k) := by
  intro j u hu
  refine h j u ?_
  have e : flatK l = flatK (l.take k) ++ flatK (l.drop k) := by rw [← flatK_app, List.take_append_drop]
  rw [e, List.getElem?_append_left (List.getElem?_eq_some_iff.1 hu).1]
  exact hu
theorem RdK.suf {b o : Nat} (h : RdK w (some ⟨b, o, none⟩) l) (k : Nat) : RdK w (some ⟨b, o + 2 * k, none⟩) (l.drop k) := by
  intro j u hu
  rw [← flatK_drop, List.getElem?_drop] at hu
  obtain ⟨a, e, hc⟩ := h _ _ hu
  injection e with e
  subst e
  refine ⟨_, rfl, ?_⟩
  rw [← hc, add_off, add_off, Nat.add_assoc]
/-- The cells of element j. -/
theorem KR.at_ {A : Option Addr} {n c : Nat} (h : KR w base (.slice A n c) l) (j : Nat) (hj : j < l.length) : ∃ q, A = some ⟨q, 0, none⟩ ∧ base ≤ q ∧ q < w.heap.size ∧ w.cell? ⟨q, j * 2, none⟩ = some (.int .i64 l[j].1) ∧ w.cell? ⟨q, j * 2 + 1, none⟩ = some (.int .i64 l[j].2) := by
  rcases h.form with ⟨e, rfl⟩ | ⟨q, c', e, _, _, h1, h2⟩
  · exact absurd hj (by simp)
  · injection e with e1 e2 e3
    subst e1
    obtain ⟨f1, f2⟩ := flatK_at l j hj
    have c1 := World.ownsRow.cells h rfl _ _ f1
    have c2 := World.ownsRow.cells h rfl _ _ f2
    refine ⟨q, rfl, h1, h2, ?_, ?_⟩
    · rw [add_off] at c1; rw [← c1]; congr 2; omega
    · rw [add_off] at c2; rw [← c2]; congr 2; omega
variable {ops : Array Oper} {rest : List Oper} {o : Oper} {a : Act} {Q : Exit → Act → World → Prop}
/-- append of keys to a row of one's own. -/
theorem wp_appK (hgd : o.guard = none) (s x : Operand)
    (ho : o.op = .call { callee := .builtin .append, args := #[s, x], argTypes := #[41, 41] })
    (hs : a.eval s = v) (hown : KR w base v l)
    (A : Option Addr) (m c : Nat) (ys : List (Int × Int)) (hx : a.eval x = .slice A m c) (hm : m = ys.length) (hr : RdK w A ys)
    (h63 : l.length + ys.length ≤ 100000) (hbase : base ≤ w.heap.size)
    (h : ∀ v' w', KR w' base v' (l ++ ys) → Below base w w' → w.grownBy w' v.ownBlock → (v'.ownBlock = v.ownBlock ∨ v'.ownBlock = some w.heap.size) → wpList Try.prog ops Q rest (a.put o.dst v') w') : wpList Try.prog ops Q (o :: rest) a w := by
  subst hm
  obtain ⟨i, hi, hz, hsize, hbytes⟩ := info_parts infoK
  have hu := Try.underlying41
  have hbel : ∀ (v' : Value) (w' : World), w.grownBy w' v.ownBlock → Below base w w' := fun v' w' hg => (Below.refl _ _).grown hg hbase (fun k hk => (World.ownsRow.lt hown k hk).1)
  refine wpList_plain hgd fun K hK => ?_
  rcases A with _ | ad
  · have h0 : ys = [] := by
      cases ys with
      | nil => rfl
      | cons p ys =>
        obtain ⟨a, e, _⟩ := hr 0 (.int .i64 p.1) rfl
        cases e
    subst h0
    have hrun : (Builtin.append_ #[41, 41] o.type #[v, .slice none 0 c]).run Try.prog w = .ok v w := by
      rcases hown.2 with ⟨rfl, hn⟩ | ⟨g, cap, cur, rfl, _, _, hnc, _⟩
      · simp [Builtin.append_, run_underlying hu, sizeOf, typeInfo, hi, Builtin.lenOf, Builtin.firstCells]
      · simp [Builtin.append_, run_underlying hu, sizeOf, typeInfo, hi, Builtin.lenOf, Builtin.firstCells, hnc, storeCells]
    unfold Oper.wp execOp
    simp only [ho, resolve, invoke, builtin, Sem.run_bind, Sem.run_pure, Result.andThen_ok, List.map_toArray, List.map_cons, List.map_nil, hs, hx, List.length_nil, hrun]
    exact hK _ _ (h v w (by simpa using hown) (Below.refl _ _) (World.grownBy.refl w _) (.inl rfl))
  · obtain ⟨v', w', hrun, h2, h3, _, h5⟩ := run_append_own_at (P := Try.prog) w base 41 o.type 29 i _ 2 16 hu hi hz hsize hbytes rfl (by decide) v l.length (flatK l) hown ad ys.length c (flatK ys) (flatK_len ys)
      (fun j u hj => by
        obtain ⟨a, e, hc⟩ := hr j u hj
        injection e with e
        subst e
        exact hc) (flatK_one ys) (by unfold maxLen; omega) (by omega) hbase
    unfold Oper.wp execOp
    simp only [ho, resolve, invoke, builtin, Sem.run_bind, Sem.run_pure, Result.andThen_ok, List.map_toArray, List.map_cons, List.map_nil, hs, hx, hrun]
    refine hK _ _ (h v' w' ?_ (hbel v' w' h3) h3 h5)
    unfold KR
    rw [List.length_append, flatK_app]
    exact h2
end
def cJ (p : Int × Int) : List Value := [.int .i64 p.1, .int .i64 p.2]
def flatJ (l : List (Int × Int)) : List Value := l.flatMap cJ
theorem flatJ_len (l : List (Int × Int)) : (flatJ l).length = l.length * 2 := by
  induction l with
  | nil => rfl
  | cons p l ih => rw [show flatJ (p :: l) = cJ p ++ flatJ l from rfl, List.length_append, ih, List.length_cons]; show 2 + _ = _; omega
theorem flatJ_app (a b : List (Int × Int)) : flatJ (a ++ b) = flatJ a ++ flatJ b := List.flatMap_append ..
theorem flatJ_drop (l : List (Int × Int)) : ∀ k, (flatJ l).drop (2 * k) = flatJ (l.drop k) := by
  induction l with
  | nil => intro k; simp [flatJ]
  | cons p l ih =>
    intro k
    cases k with
    | zero => rfl
    | succ k =>
      rw [show flatJ (p :: l) = cJ p ++ flatJ l from rfl, show 2 * (k + 1) = 2 * k + 1 + 1 from by omega]
      show ((flatJ l)).drop (2 * k) = _
      exact ih k
theorem flatJ_at (l : List (Int × Int)) (j : Nat) (hj : j < l.length) : (flatJ l)[2 * j]? = some (.int .i64 l[j].1) ∧ (flatJ l)[2 * j + 1]? = some (.int .i64 l[j].2) := by
  have h0 : (flatJ l).drop (2 * j) = flatJ (l.drop j) := flatJ_drop l j
  rw [List.drop_eq_getElem_cons hj] at h0
  have h1 := congrArg (fun L => L[0]?) h0
  have h2 := congrArg (fun L => L[1]?) h0
  simp only [List.getElem?_drop, Nat.add_zero] at h1 h2
  exact ⟨h1, h2⟩
theorem flatJ_one (l : List (Int × Int)) : ∀ u ∈ flatJ l, u.oneCell' = true := by
  intro u hu
  obtain ⟨p, _, hp⟩ := List.mem_flatMap.1 hu
  simp only [cJ, List.mem_cons, List.not_mem_nil, or_false] at hp
  rcases hp with rfl | rfl <;> rfl
/-- A slice's address reads as keys. -/
def RdJ (w : World) (A : Option Addr) (l : List (Int × Int)) : Prop := ∀ j u, (flatJ l)[j]? = some u → ∃ a, A = some a ∧ w.cell? (a.add j) = some u
section
variable {w w' : World} {base : Nat} {v : Value} {l : List (Int × Int)} {S : Nat → Prop}
theorem RdJ.pre {A : Option Addr} (h : RdJ w A l) (k : Nat) : RdJ w A (l.take k) := by
  intro j u hu
  refine h j u ?_
  have e : flatJ l = flatJ (l.take k) ++ flatJ (l.drop k) := by rw [← flatJ_app, List.take_append_drop]
  rw [e, List.getElem?_append_left (List.getElem?_eq_some_iff.1 hu).1]
  exact hu
theorem RdJ.suf {b o : Nat} (h : RdJ w (some ⟨b, o, none⟩) l) (k : Nat) : RdJ w (some ⟨b, o + 2 * k, none⟩) (l.drop k) := by
  intro j u hu
  rw [← flatJ_drop, List.getElem?_drop] at hu
  obtain ⟨a, e, hc⟩ := h _ _ hu
  injection e with e
  subst e
  refine ⟨_, rfl, ?_⟩
  rw [← hc, add_off, add_off, Nat.add_assoc]
variable {ops : Array Oper} {rest : List Oper} {o : Oper} {a : Act} {Q : Exit → Act → World → Prop}
end
end Go.Proofs.Ythmaofbnhfgfaaa
