/- The write of the document's disk (loamlaw3.model) that waits. Conditions: lengths. -/
import Derived.Test.YtfcbmdmkdjaoaaaMdE
namespace Go.Proofs.Ytfcbmdmkdjaoaaa
set_option linter.unusedVariables false
set_option linter.unusedSimpArgs false
open Go.RowKit Go.Maps
set_option maxRecDepth 100000
set_option maxHeartbeats 8000000
theorem infoP : (Try.prog.info? 72).map (fun i => (i.zero, i.size, i.bytes)) = some (some (.agg #[.int .i64 0, .string ⟨#[]⟩]), 2, 24) := by kernel_rfl
theorem wp_appW {w : World} {ops : Array Oper} {rest : List Oper} {o : Oper} {a : Act} {Q : Exit → Act → World → Prop} (hgd : o.guard = none) (s x : Operand)
    (ho : o.op = .call { callee := .builtin .append, args := #[s, x], argTypes := #[30, 30] })
    (base : Nat) (v : Value) (xs : List PW) (hs : a.eval s = v) (hown : w.ownsRow base 72 2 v xs.length (xs.flatMap wc2))
    (A : Option Addr) (m c : Nat) (ys : List PW) (hx : a.eval x = .slice A m c) (hm : m = ys.length) (B : Nat) (hr : WRow w B A ys)
    (h63 : xs.length + ys.length ≤ 2000000) (hbase : base ≤ w.heap.size)
    (h : ∀ v' w', w'.ownsRow base 72 2 v' (xs ++ ys).length ((xs ++ ys).flatMap wc2) → Below base w w' → w.grownBy w' v.ownBlock → (v'.ownBlock = v.ownBlock ∨ v'.ownBlock = some w.heap.size) → wpList Try.prog ops Q rest (a.put o.dst v') w') : wpList Try.prog ops Q (o :: rest) a w := by
  subst hm
  obtain ⟨i0, hi, hz0, hz1, hz2⟩ := info_parts infoP
  have ht := Try.underlying30
  have hfin : ∀ (v' : Value) (w' : World), w'.ownsRow base 72 2 v' (xs.length + ys.length) (xs.flatMap wc2 ++ ys.flatMap wc2) → w'.ownsRow base 72 2 v' (xs ++ ys).length ((xs ++ ys).flatMap wc2) := fun v' w' hh => by
    rw [List.length_append, List.flatMap_append]; exact hh
  by_cases hA : ∃ ad, A = some ad
  · obtain ⟨ad, rfl⟩ := hA
    refine wp_appR 2 i0 ht hi hz0 hz1 hz2 (by rfl) (by decide) hgd s x ho base v xs.length _ hs hown ad ys.length c (ys.flatMap wc2) hx (wc2_len ys) hr.news (wc2_one ys) (by unfold maxLen; omega) (by omega) hbase ?_
    intro v' w' h1 h2 h3 h4
    exact h v' w' (hfin _ _ h1) h2 h3 h4
  · have hy : ys = [] := by
      cases ys with
      | nil => rfl
      | cons y ys => obtain ⟨ad, e, _⟩ := hr 0 (by simp); exact absurd ⟨ad, e⟩ hA
    subst hy
    have hA' : A = none := by
      cases A with
      | none => rfl
      | some ad => exact absurd ⟨ad, rfl⟩ hA
    subst hA'
    have hrun : (Builtin.append_ #[30, 30] o.type #[v, .slice none 0 c]).run Try.prog w = .ok v w := by
      rcases hown.2 with ⟨rfl, hn⟩ | ⟨g, cap, cur, rfl, _, _, hnc, _⟩
      · simp [Builtin.append_, run_underlying ht, sizeOf, typeInfo, hi, Builtin.lenOf, Builtin.firstCells]
      · simp [Builtin.append_, run_underlying ht, sizeOf, typeInfo, hi, Builtin.lenOf, Builtin.firstCells, hnc, storeCells]
    refine wpList_plain hgd fun K hK => ?_
    unfold Oper.wp execOp
    simp only [ho, resolve, invoke, builtin, Sem.run_bind, Sem.run_pure, Result.andThen_ok, List.map_toArray, List.map_cons, List.map_nil, hs, hx, List.length_nil, hrun]
    exact hK _ _ (h v w (hfin _ _ (by simpa using hown)) (Below.refl _ _) (World.grownBy.refl w _) (.inl rfl))
end Go.Proofs.Ytfcbmdmkdjaoaaa
