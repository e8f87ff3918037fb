/- HandPlays' region that lets its row grow by one, over any frame. Conditions: lengths. -/
import Derived.Test.YtflocdghpnjoaaaPlD
import Derived.Test.YtflocdghpnjoaaaRegX
namespace Go.Proofs.Ytflocdghpnjoaaa
set_option linter.unusedVariables false
set_option linter.unusedSimpArgs false
open Go.RowKit Go.Maps
set_option maxHeartbeats 1000000
set_option maxRecDepth 100000
section
variable {P : Program} {ops : Array Oper} {Q : Exit → Act → World → Prop}
/-- One of the row, by its run. -/
theorem set_exec {i n : Nat} {is : List Nat} {W : World → Prop} {d : Option Tmp} {op : Op} {type : TypeId} {a : Act} {w w' : World} {v : Value} (ho : (ops[i]?).map (fun o => (o.op, o.type)) = some (op, type)) (hdo : (ops[i]?).map (·.dst) = some d) (hg : (ops[i]?).bind (·.guard) = none)
    (hrun : (execOp a.eval { dst := d, op, type, pos := "", after := #[], guard := none }).run P w = .ok (.value v) w') (hW : W w') (h : SpineS P ops Q W n is (a.put d v) w') : ∃ o, ops[i]? = some o ∧ o.guard = none ∧ Oper.wp P o a w (fun a' w' => a'.defers = a.defers ∧ W w' ∧ SpineS P ops Q W n is a' w') NoQ := by
  cases hi : ops[i]? with
  | none => rw [hi] at ho; cases ho
  | some o =>
    rw [hi] at ho hdo hg
    obtain ⟨dst, op', type', pos, after, guard⟩ := o
    simp only [Option.map_some, Option.some.injEq, Prod.mk.injEq] at ho hdo
    obtain ⟨rfl, rfl⟩ := ho
    subst hdo
    simp only [Option.bind_some] at hg
    subst hg
    refine ⟨_, rfl, rfl, ?_⟩
    have he : execOp a.eval { dst, op := op', type := type', pos, after, guard := none } = execOp a.eval { dst, op := op', type := type', pos := "", after := #[], guard := none } := by
      cases op' <;> rfl
    unfold Oper.wp
    rw [he, hrun]
    simp only [Oper.upon]
    exact ⟨by cases dst <;> rfl, hW, h⟩
theorem float_exec {i : Nat} {op : Op} {type : TypeId} {ρ : Operand → Value} {w : World} {v : Value} (ho : (ops[i]?).map (fun o => (o.op, o.type)) = some (op, type))
    (hrun : (execOp ρ { dst := none, op, type, pos := "", after := #[], guard := none }).run P w = .ok (.value v) w) : ∃ o, ops[i]? = some o ∧ (execOp ρ o).run P w = .ok (.value v) w := by
  cases hi : ops[i]? with
  | none => rw [hi] at ho; cases ho
  | some o =>
    rw [hi] at ho
    obtain ⟨dst, op', type', pos, after, guard⟩ := o
    simp only [Option.map_some, Option.some.injEq, Prod.mk.injEq] at ho
    obtain ⟨rfl, rfl⟩ := ho
    refine ⟨_, rfl, ?_⟩
    rw [← hrun]
    cases op' <;> rfl
theorem get_put (a : Act) (d t : Nat) (v : Value) (hd : d < a.tmps.size) : (a.put (some d) v).tmps.getD t undef = if d = t then v else a.tmps.getD t undef := by
  by_cases h : d = t
  · subst h; rw [if_pos rfl, put_same _ _ _ hd]
  · rw [if_neg h, put_other _ _ _ _ (fun e => h (by injection e))]
theorem put_comm (a : Act) (d e : Nat) (u v : Value) (h : d ≠ e) : (a.put (some d) u).put (some e) v = (a.put (some e) v).put (some d) u := by
  simp only [Act.put]
  rw [Array.setIfInBounds_comm _ _ h]
end
section
variable {w : World} {base : Nat} {v : Value} {l : List (Int × Int)}
/-- append of pairs, by its run. -/
theorem run_appP {o : Oper} {ρ : Operand → Value} (s x : Operand)
    (ho : o.op = .call { callee := .builtin .append, args := #[s, x], argTypes := #[26, 26] })
    (hs : ρ s = v) (hown : PR w base v l)
    (A : Option Addr) (m c : Nat) (ys : List (Int × Int)) (hx : ρ x = .slice A m c) (hm : m = ys.length) (hr : RdP w A ys)
    (h63 : l.length + ys.length ≤ 100000) (hbase : base ≤ w.heap.size) :
    ∃ v' w', (execOp ρ o).run Try.prog w = .ok (.value v') w' ∧ PR w' base v' (l ++ ys) ∧ Below base w w' ∧ w.grownBy w' v.ownBlock := by
  subst hm
  obtain ⟨i, hi, hz, hsize, hbytes⟩ := info_parts infoP
  have hu := Try.underlying26
  have hbel : ∀ (v' : Value) (w' : World), w.grownBy w' v.ownBlock → Below base w w' := fun v' w' hg => (Below.refl _ _).grown hg hbase (fun k hk => (World.ownsRow.lt hown k hk).1)
  rcases A with _ | ad
  · have h0 : ys = [] := by
      cases ys with
      | nil => rfl
      | cons p ys =>
        obtain ⟨a, e, _⟩ := hr 0 (.int .i64 p.1) rfl
        cases e
    subst h0
    have hrun : (Builtin.append_ #[26, 26] o.type #[v, .slice none 0 c]).run Try.prog w = .ok v w := by
      rcases hown.2 with ⟨rfl, hn⟩ | ⟨g, cap, cur, rfl, _, _, hnc, _⟩
      · simp [Builtin.append_, run_underlying hu, sizeOf, typeInfo, hi, Builtin.lenOf, Builtin.firstCells]
      · simp [Builtin.append_, run_underlying hu, sizeOf, typeInfo, hi, Builtin.lenOf, Builtin.firstCells, hnc, storeCells]
    refine ⟨v, w, ?_, by simpa using hown, Below.refl _ _, World.grownBy.refl w _⟩
    unfold execOp
    simp only [ho, resolve, invoke, builtin, Sem.run_bind, Sem.run_pure, Result.andThen_ok, List.map_toArray, List.map_cons, List.map_nil, hs, hx, List.length_nil, hrun]
  · obtain ⟨v', w', hrun, h2, h3, _, h5⟩ := run_append_own_at (P := Try.prog) w base 26 o.type 31 i _ 2 16 hu hi hz hsize hbytes rfl (by decide) v l.length (flatP l) hown ad ys.length c (flatP ys) (flatP_len ys)
      (fun j u hj => by
        obtain ⟨a, e, hc⟩ := hr j u hj
        injection e with e
        subst e
        exact hc) (flatP_one ys) (by unfold maxLen; omega) (by omega) hbase
    refine ⟨v', w', ?_, ?_, hbel v' w' h3, h3⟩
    · unfold execOp
      simp only [ho, resolve, invoke, builtin, Sem.run_bind, Sem.run_pure, Result.andThen_ok, List.map_toArray, List.map_cons, List.map_nil, hs, hx, hrun]
    · unfold PR
      rw [List.length_append, flatP_app]
      exact h2
end
theorem r35_law (Q : Exit → Act → World → Prop) (a0 : Act) (w : World) (AR : Option Addr) (N cR B H : Nat) (l : List (Int × Int)) (x n : Int) (hsz : a0.tmps.size = 293) (h6 : a0.tmps.getD 6 undef = .slice AR N cR) (h7 : a0.tmps.getD 7 undef = .int .i64 x) (h9 : a0.tmps.getD 9 undef = .pointer (some ⟨H, 0, none⟩))
    (hN : N = l.length) (hl : l.length ≤ 100) (hH : H < w.heap.size) (hc : w.cell? ⟨H, 1, none⟩ = some (.int .i64 n)) (hrow : PR w B (.slice AR l.length cR) l)
    (fin : ∀ (v0 v2 v7 v8 : Value) (w8 : World), PR w8 w.heap.size v8 (l ++ [(x, n)]) → Below w.heap.size w w8 →
      Q .normal ((((((putA [(1, 110, .slice AR N cR), (3, 112, .int .i64 x), (4, 113, .pointer (some ⟨H, 1, none⟩)), (5, 114, .int .i64 n), (6, 115, .agg #[.int .i64 x, .int .i64 n])] a0).put (some 109) v0).put (some 111) v2).put (some 116) v7).put (some 117) v8).put (some 6) v8) w8) :
    (Code.region 35 (regIn Try.f3 35) true).wp Try.prog Q a0 w := by
  have hP : ∀ w', Below w.heap.size w w' → w'.cell? ⟨H, 1, none⟩ = some (.int .i64 n) := fun w' hb => (hb.cell (p := ⟨H, 1, none⟩) hH).trans hc
  have hR : ∀ w', Below w.heap.size w w' → RdP w' AR l := fun w' hb => (hrow.below hb).rdp
  refine region_by_set [0, 2, 7, 8, 9] [(1, 110, .slice AR N cR), (3, 112, .int .i64 x), (4, 113, .pointer (some ⟨H, 1, none⟩)), (5, 114, .int .i64 n), (6, 115, .agg #[.int .i64 x, .int .i64 n])]
    (fun W => W.cell? ⟨H, 1, none⟩ = some (.int .i64 n)) (by kernel_rfl) (by rw [hsz]; kernel_rfl) (by kernel_rfl) (by kernel_rfl) (by kernel_rfl) (hP _ (Gw.drew _)) ?_ ?_
  · intro y hy V ρ hV hρ hcst
    have e6 : ρ (.tmp 6) = .slice AR N cR := (hρ 6).trans (by simp only [putA]; repeat (first | with_reducible exact put_same _ _ _ (by simp only [put_size, hsz]; decide) | with_reducible refine (put_other _ _ _ _ (by decide)).trans ?_ | with_reducible exact h6))
    have e7 : ρ (.tmp 7) = .int .i64 x := (hρ 7).trans (by simp only [putA]; repeat (first | with_reducible exact put_same _ _ _ (by simp only [put_size, hsz]; decide) | with_reducible refine (put_other _ _ _ _ (by decide)).trans ?_ | with_reducible exact h7))
    have e9 : ρ (.tmp 9) = .pointer (some ⟨H, 0, none⟩) := (hρ 9).trans (by simp only [putA]; repeat (first | with_reducible exact put_same _ _ _ (by simp only [put_size, hsz]; decide) | with_reducible refine (put_other _ _ _ _ (by decide)).trans ?_ | with_reducible exact h9))
    have e112 : ρ (.tmp 112) = .int .i64 x := (hρ 112).trans (by simp only [putA]; repeat (first | with_reducible exact put_same _ _ _ (by simp only [put_size, hsz]; decide) | with_reducible refine (put_other _ _ _ _ (by decide)).trans ?_))
    have e113 : ρ (.tmp 113) = .pointer (some ⟨H, 1, none⟩) := (hρ 113).trans (by simp only [putA]; repeat (first | with_reducible exact put_same _ _ _ (by simp only [put_size, hsz]; decide) | with_reducible refine (put_other _ _ _ _ (by decide)).trans ?_))
    have e114 : ρ (.tmp 114) = .int .i64 n := (hρ 114).trans (by simp only [putA]; repeat (first | with_reducible exact put_same _ _ _ (by simp only [put_size, hsz]; decide) | with_reducible refine (put_other _ _ _ _ (by decide)).trans ?_))
    clear hρ fin
    simp only [List.mem_cons, List.not_mem_nil, or_false] at hy
    rcases hy with rfl | rfl | rfl | rfl | rfl
    · exact float_exec (op := .move (.tmp 6)) (type := 26) (by kernel_rfl) (by go_simp)
    · exact float_exec (op := .move (.tmp 7)) (type := 3) (by kernel_rfl) (by go_simp)
    · exact float_exec (op := .fieldAddr 29 (.tmp 9) 1) (type := 0) (by kernel_rfl) (by go_simp)
    · exact float_exec (op := .load 3 (.tmp 113)) (type := 3) (by kernel_rfl) (by go_simp)
    · exact float_exec (op := .build 31 #[(0, .tmp 112), (1, .tmp 114)]) (type := 31) (by kernel_rfl) (by go_simp)
  obtain ⟨A0, hA0⟩ : ∃ A, A = putA [(1, 110, .slice AR N cR), (3, 112, .int .i64 x), (4, 113, .pointer (some ⟨H, 1, none⟩)), (5, 114, .int .i64 n), (6, 115, .agg #[.int .i64 x, .int .i64 n])] a0 := ⟨_, rfl⟩
  have hs0 : A0.tmps.size = 293 := by rw [hA0]; simp only [putA, put_size, hsz]
  have g110 : A0.tmps.getD 110 undef = .slice AR N cR := by rw [hA0]; simp only [putA]; repeat (first | with_reducible exact put_same _ _ _ (by simp only [put_size, hsz]; decide) | with_reducible refine (put_other _ _ _ _ (by decide)).trans ?_)
  have g115 : A0.tmps.getD 115 undef = .agg #[.int .i64 x, .int .i64 n] := by rw [hA0]; simp only [putA]; repeat (first | with_reducible exact put_same _ _ _ (by simp only [put_size, hsz]; decide) | with_reducible refine (put_other _ _ _ _ (by decide)).trans ?_)
  rw [← hA0] at fin ⊢
  clear hA0 h6 h7 h9
  have hb0 : Below w.heap.size w w.drew := Gw.drew w
  generalize w.drew = V0 at hb0 ⊢
  -- the steps, over any frame
  have S0 : ∀ (ρ : Operand → Value) (V : World), (execOp ρ { dst := some 109, op := .buildSlice 26 0 #[], type := 26, pos := "", after := #[], guard := none }).run Try.prog V = .ok (.value (.slice (some ⟨V.heap.size, 0, none⟩) 0 0)) (V.alloc (.cells #[] 31)) := fun ρ V => by go_simp
  have S7 : ∀ (ρ : Operand → Value) (V : World), ρ (.tmp 115) = .agg #[.int .i64 x, .int .i64 n] → (execOp ρ { dst := some 116, op := .buildSlice 26 1 #[(0, .tmp 115)], type := 26, pos := "", after := #[], guard := none }).run Try.prog V = .ok (.value (.slice (some ⟨V.heap.size, 0, none⟩) 1 1)) (V.alloc (.cells #[.int .i64 x, .int .i64 n] 31)) := fun ρ V e => by go_simp
  have T2 : (regIn Try.f3 35)[2]?.map (fun o => (o.op, o.type)) = some (.call { callee := .builtin .append, args := #[.tmp 109, .tmp 110], argTypes := #[26, 26] }, 26) := by kernel_rfl
  have T8 : (regIn Try.f3 35)[8]?.map (fun o => (o.op, o.type)) = some (.call { callee := .builtin .append, args := #[.tmp 111, .tmp 116], argTypes := #[26, 26] }, 26) := by kernel_rfl
  have T0 : (regIn Try.f3 35)[0]?.map (fun o => (o.op, o.type)) = some (.buildSlice 26 0 #[], 26) := by kernel_rfl
  have T7 : (regIn Try.f3 35)[7]?.map (fun o => (o.op, o.type)) = some (.buildSlice 26 1 #[(0, .tmp 115)], 26) := by kernel_rfl
  have T9 : (regIn Try.f3 35)[9]?.map (fun o => (o.op, o.type)) = some (.assign (.tmp 117), 26) := by kernel_rfl
  -- the last two
  have L : ∀ (A : Act) (v0 v2 v7 : Value) (b7 : Nat) (V : World), A = (((A0.put (some 109) v0).put (some 111) v2).put (some 116) v7) → v7 = .slice (some ⟨b7, 0, none⟩) 1 1 → Below w.heap.size w V → PR V w.heap.size v2 l → Bk V b7 31 #[.int .i64 x, .int .i64 n] →
      SpineS Try.prog (regIn Try.f3 35) Q (fun W => W.cell? ⟨H, 1, none⟩ = some (.int .i64 n)) 2 [8, 9] A V := by
    intro A v0 v2 v7 b7 V hA h7 hb hp hk
    refine spineS_one 8 [9] (by kernel_rfl) ?_
    obtain ⟨v8, w8, hrun, hp8, hb8, _⟩ := run_appP (o := { dst := some 117, op := .call { callee := .builtin .append, args := #[.tmp 111, .tmp 116], argTypes := #[26, 26] }, type := 26, pos := "", after := #[], guard := none }) (ρ := A.eval) (w := V) (base := w.heap.size) (.tmp 111) (.tmp 116) rfl
      (show A.tmps.getD 111 undef = v2 from by rw [hA]; exact (put_other _ _ _ _ (by decide)).trans (put_same _ _ _ (by simp only [put_size, hs0]; decide))) hp (some ⟨b7, 0, none⟩) 1 1 [(x, n)] (show A.tmps.getD 116 undef = _ from by rw [hA, ← h7]; exact put_same _ _ _ (by simp only [put_size, hs0]; decide)) rfl (PR.ofB (x, n) hk) (by simp only [List.length_cons, List.length_nil]; omega) hb.size
    refine set_exec T8 (by kernel_rfl) (by kernel_rfl) hrun (hP _ (hb.trans hb8)) ?_
    refine spineS_one 9 [] (by kernel_rfl) ?_
    refine set_exec (d := some 6) (v := v8) (w' := w8) T9 (by kernel_rfl) (by kernel_rfl) ?_ (hP _ (hb.trans hb8)) ?_
    · have e : (A.put (some 117) v8).eval (.tmp 117) = v8 := put_same _ _ _ (by rw [hA]; simp only [put_size, hs0]; decide)
      generalize (A.put (some 117) v8).eval = ρ at e ⊢
      go_simp
    · unfold SpineS
      rw [hA]
      exact fin v0 v2 v7 v8 w8 hp8 (hb.trans hb8)
  have A2 : ∀ (A : Act) (v0 : Value) (V : World) (b0 : Nat), A.tmps.getD 109 undef = v0 → A.tmps.getD 110 undef = .slice AR N cR → v0 = .slice (some ⟨b0, 0, none⟩) 0 0 → Below w.heap.size w V → PR V w.heap.size v0 [] →
      ∃ v2 V2, (execOp A.eval { dst := some 111, op := .call { callee := .builtin .append, args := #[.tmp 109, .tmp 110], argTypes := #[26, 26] }, type := 26, pos := "", after := #[], guard := none }).run Try.prog V = .ok (.value v2) V2 ∧ PR V2 w.heap.size v2 l ∧ Below w.heap.size w V2 ∧ V.grownBy V2 (some b0) := by
    intro A v0 V b0 h109 h110 h0 hb hp
    obtain ⟨v2, V2, hrun, hp2, hb2, hg2⟩ := run_appP (o := { dst := some 111, op := .call { callee := .builtin .append, args := #[.tmp 109, .tmp 110], argTypes := #[26, 26] }, type := 26, pos := "", after := #[], guard := none }) (ρ := A.eval) (w := V) (base := w.heap.size) (.tmp 109) (.tmp 110) rfl h109 hp AR N cR l h110 hN (hR _ hb) (by simp only [List.length_nil]; omega) hb.size
    exact ⟨v2, V2, hrun, by rw [List.nil_append] at hp2; exact hp2, hb.trans hb2, by rw [h0] at hg2; exact hg2⟩
  refine spineS_two 0 7 [2, 7, 8, 9] [0, 2, 8, 9] (by kernel_rfl) ?_ ?_
  · have hb1 : Below w.heap.size w (V0.alloc (.cells #[] 31)) := hb0.trans ((Gw.alloc V0 _).mono hb0.size)
    have hp1 : PR (V0.alloc (.cells #[] 31)) w.heap.size (.slice (some ⟨V0.heap.size, 0, none⟩) 0 0) [] := PR.empty _ _ _ hb0.size (Bk.new V0 _ #[])
    refine set_exec T0 (by kernel_rfl) (by kernel_rfl) (S0 _ V0) (hP _ hb1) ?_
    generalize V0.alloc (.cells #[] 31) = V1 at hb1 hp1 ⊢
    refine spineS_two 2 7 [7, 8, 9] [2, 8, 9] (by kernel_rfl) ?_ ?_
    · obtain ⟨v2, V2, hrun, hp2, hb2, _⟩ := A2 (A0.put (some 109) (.slice (some ⟨V0.heap.size, 0, none⟩) 0 0)) _ V1 V0.heap.size (put_same _ _ _ (by rw [hs0]; decide)) ((put_other _ _ _ _ (by decide)).trans g110) rfl hb1 hp1
      refine set_exec T2 (by kernel_rfl) (by kernel_rfl) hrun (hP _ hb2) ?_
      refine spineS_one 7 [8, 9] (by kernel_rfl) ?_
      have hb3 := hb2.trans ((Gw.alloc V2 (.cells #[.int .i64 x, .int .i64 n] 31)).mono hb2.size)
      refine set_exec T7 (by kernel_rfl) (by kernel_rfl) (S7 _ V2 ((put_other _ _ _ _ (by decide)).trans ((put_other _ _ _ _ (by decide)).trans g115))) (hP _ hb3) ?_
      exact L _ _ _ _ V2.heap.size _ rfl rfl hb3 (hp2.below (Gw.alloc V2 _)) (Bk.new V2 _ _)
    · have hb3 := hb1.trans ((Gw.alloc V1 (.cells #[.int .i64 x, .int .i64 n] 31)).mono hb1.size)
      have hk3 := Bk.new V1 31 #[.int .i64 x, .int .i64 n]
      have hp3 := hp1.below (Gw.alloc V1 (.cells #[.int .i64 x, .int .i64 n] 31))
      have hne : V1.heap.size ≠ V0.heap.size := fun e => by have := (hp1.lt V0.heap.size rfl).2; omega
      refine set_exec T7 (by kernel_rfl) (by kernel_rfl) (S7 _ V1 ((put_other _ _ _ _ (by decide)).trans g115)) (hP _ hb3) ?_
      generalize V1.alloc (.cells #[.int .i64 x, .int .i64 n] 31) = V2 at hb3 hk3 hp3 ⊢
      refine spineS_one 2 [8, 9] (by kernel_rfl) ?_
      obtain ⟨v2, V3, hrun, hp4, hb4, hg4⟩ := A2 ((A0.put (some 109) (.slice (some ⟨V0.heap.size, 0, none⟩) 0 0)).put (some 116) (.slice (some ⟨V1.heap.size, 0, none⟩) 1 1)) _ V2 V0.heap.size ((put_other _ _ _ _ (by decide)).trans (put_same _ _ _ (by rw [hs0]; decide))) ((put_other _ _ _ _ (by decide)).trans ((put_other _ _ _ _ (by decide)).trans g110)) rfl hb3 hp3
      refine set_exec T2 (by kernel_rfl) (by kernel_rfl) hrun (hP _ hb4) ?_
      exact L _ _ _ _ V1.heap.size _ (put_comm _ _ _ _ _ (by decide)) rfl hb4 hp4 ((Kept.grown hg4).bk hk3 (fun e => by injection e with e; exact hne e.symm))
  · have hb1 := hb0.trans ((Gw.alloc V0 (.cells #[.int .i64 x, .int .i64 n] 31)).mono hb0.size)
    have hk1 := Bk.new V0 31 #[.int .i64 x, .int .i64 n]
    have hz1 : V0.heap.size < (V0.alloc (.cells #[.int .i64 x, .int .i64 n] 31)).heap.size := by simp
    refine set_exec T7 (by kernel_rfl) (by kernel_rfl) (S7 _ V0 g115) (hP _ hb1) ?_
    generalize V0.alloc (.cells #[.int .i64 x, .int .i64 n] 31) = V1 at hb1 hk1 hz1 ⊢
    refine spineS_one 0 [2, 8, 9] (by kernel_rfl) ?_
    have hb2 : Below w.heap.size w (V1.alloc (.cells #[] 31)) := hb1.trans ((Gw.alloc V1 _).mono hb1.size)
    have hp2 : PR (V1.alloc (.cells #[] 31)) w.heap.size (.slice (some ⟨V1.heap.size, 0, none⟩) 0 0) [] := PR.empty _ _ _ hb1.size (Bk.new V1 _ #[])
    have hk2 := hk1.below (Gw.alloc V1 (.cells #[] 31)) hk1.lt
    refine set_exec T0 (by kernel_rfl) (by kernel_rfl) (S0 _ V1) (hP _ hb2) ?_
    generalize V1.alloc (.cells #[] 31) = V2 at hb2 hp2 hk2 ⊢
    refine spineS_one 2 [8, 9] (by kernel_rfl) ?_
    obtain ⟨v2, V3, hrun, hp4, hb4, hg4⟩ := A2 ((A0.put (some 116) (.slice (some ⟨V0.heap.size, 0, none⟩) 1 1)).put (some 109) (.slice (some ⟨V1.heap.size, 0, none⟩) 0 0)) _ V2 V1.heap.size (put_same _ _ _ (by simp only [put_size, hs0]; decide)) ((put_other _ _ _ _ (by decide)).trans ((put_other _ _ _ _ (by decide)).trans g110)) rfl hb2 hp2
    refine set_exec T2 (by kernel_rfl) (by kernel_rfl) hrun (hP _ hb4) ?_
    exact L _ _ _ _ V0.heap.size _ (by rw [put_comm A0 116 109 _ _ (by decide), put_comm _ 116 111 _ _ (by decide)]) rfl hb4 hp4 ((Kept.grown hg4).bk hk2 (fun e => by injection e with e; omega))
end Go.Proofs.Ytflocdghpnjoaaa
