/- Region 12 of CacheLast, over any frame: Put in a loop, its answer in a block of its own. No conditions. -/
import Derived.Test.YthmaofbnhfgfaaaCmN
import Derived.Test.YthmaofbnhfgfaaaRegZ
import Derived.Test.YthmaofbnhfgfaaaRegY
import Derived.Test.YthmaofbnhfgfaaaCrcB
namespace Go.Proofs.Ythmaofbnhfgfaaa
set_option linter.unusedVariables false
set_option linter.unusedSimpArgs false
open Go.RowKit Go.Maps
set_option maxHeartbeats 1000000
set_option maxRecDepth 100000
theorem CaAt.out {W W' : World} {g fb mb N hand b : Nat} {fs : List Fr} {tb : Tk} {ho : Option Nat} (h : CaAt W g fb mb N fs hand tb ho) (hb : Bk W b 32 outC) (hk : Kept (fun k => k = b) W W') (hn : ¬ Cx g fb mb b) : CaAt W' g fb mb N fs hand tb ho := by
  refine h.keptS hk (fun e => hn (.inl e.symm)) (fun e => hn (.inr (.inl e.symm))) (fun e => hn (.inr (.inr e.symm))) (fun f hf a e hne e2 => ?_)
  have hpos : 0 < f.b.length := List.length_pos_iff.2 hne
  obtain ⟨ad, e3, _, hc⟩ := (h.data f hf).1 0 hpos
  rw [e] at e3
  injection e3 with e3
  subst e3
  obtain ⟨bl, of, sp⟩ := a
  have e2 : bl = b := e2
  subst e2
  have hz : (⟨bl, of, sp⟩ : Addr).add (0 : Nat) = ⟨bl, of, sp⟩ := rfl
  rw [hz] at hc
  unfold World.cell? at hc
  unfold Bk at hb
  simp only [hb, outC] at hc
  rcases of with _ | _ | _ | _ | _ | of <;> simp [b8] at hc
section
variable {P : Program} {ops : Array Oper} {Q : Exit → Act → World → Prop}
/-- A call of the row, by its contract. -/
theorem set_call {i n : Nat} {is : List Nat} {W : World → Prop} {d : Option Tmp} {op : Op} {type : TypeId} {a : Act} {w w1 : World} {f : FuncId} {args : Array Value} (ho : (ops[i]?).map (fun o => (o.op, o.type)) = some (op, type)) (hdo : (ops[i]?).map (·.dst) = some d) (hg : (ops[i]?).bind (·.guard) = none)
    (hrun : (execOp a.eval { dst := d, op, type, pos := "", after := #[], guard := none }).run P w = .ok (.enter f args) w1) (h : Calls P f args w1 fun e w' => ∃ v, e = .returned v ∧ W w' ∧ SpineS P ops Q W n is (a.put d v) w') : ∃ o, ops[i]? = some o ∧ o.guard = none ∧ Oper.wp P o a w (fun a' w' => a'.defers = a.defers ∧ W w' ∧ SpineS P ops Q W n is a' w') NoQ := by
  cases hi : ops[i]? with
  | none => rw [hi] at ho; cases ho
  | some o =>
    rw [hi] at ho hdo hg
    obtain ⟨dst, op', type', pos, after, guard⟩ := o
    simp only [Option.map_some, Option.some.injEq, Prod.mk.injEq] at ho hdo
    obtain ⟨rfl, rfl⟩ := ho
    subst hdo
    simp only [Option.bind_some] at hg
    subst hg
    refine ⟨_, rfl, rfl, ?_⟩
    have he : execOp a.eval { dst, op := op', type := type', pos, after, guard := none } = execOp a.eval { dst, op := op', type := type', pos := "", after := #[], guard := none } := by
      cases op' <;> rfl
    unfold Oper.wp
    rw [he, hrun]
    simp only [Oper.upon]
    refine Calls.mono h fun e w'' he => ?_
    obtain ⟨v, rfl, hw, hs⟩ := he
    exact ⟨by cases dst <;> rfl, hw, hs⟩
end
theorem cl12_law (Q : Exit → Act → World → Prop) (a0 : Act) (w : World) (T : World → Prop) (g fb mb kb nj cj j N cL : Nat) (AL Aj : Option Addr) (ad : Addr) (d : Bool) (hAL : AL = some ad) (hi1 : (0 : Int) ≤ (j : Int)) (hi2 : (j : Int) < (N : Int)) (hd : ((j : Int) == 0) = d) (hd2 : decide ((j : Int) = 0) = d)
    (hkb : kb < w.heap.size) (hkn : ¬ Cx g fb mb kb) (hab : ad.block < w.heap.size) (han : ¬ Cx g fb mb ad.block) (hcx : ∀ k, Cx g fb mb k → k < w.heap.size)
    (k0 : w.cell? ⟨kb, 0, none⟩ = some (.int .i64 1)) (k1 : w.cell? ⟨kb, 1, none⟩ = some (.int .i64 7)) (k2 : w.cell? (ad.add j) = some (.slice Aj nj cj))
    (hPut : ∀ V, Below w.heap.size w V → Calls Try.prog 8 #[.pointer (some ⟨g, 0, none⟩), .agg #[.int .i64 1, .int .i64 7], .slice Aj nj cj, .bool d] V fun e w' => e = .returned (.tuple #[outZ, .int .i64 0]) ∧ T w' ∧ Kept (Cx g fb mb) V w')
    (hTb : ∀ W W', T W → Below W.heap.size W W' → T W') (hTo : ∀ W W' b, T W → Bk W b 32 outC → Kept (fun k => k = b) W W' → ¬ Cx g fb mb b → T W')
    (hsz : a0.tmps.size = 97) (h0 : a0.tmps.getD 0 undef = .slice AL N cL) (h5 : a0.tmps.getD 5 undef = .pointer (some ⟨g, 0, none⟩)) (h7 : a0.tmps.getD 7 undef = .pointer (some ⟨kb, 0, none⟩)) (h8 : a0.tmps.getD 8 undef = .int .i64 j)
    (fin : ∀ b V, T V → Kept (Cx g fb mb) w V → Bk V b 32 outC → w.heap.size ≤ b → Q .normal (((((((putA [(0, 41, .pointer (some ⟨g, 0, none⟩)), (1, 42, .agg #[.int .i64 1, .int .i64 7]), (2, 43, .slice AL N cL), (3, 44, .int .i64 j), (4, 45, .pointer (some (ad.add j))), (5, 46, .slice Aj nj cj), (6, 47, .int .i64 j), (7, 48, .bool d)] a0).put (some 49) (.tuple #[outZ, .int .i64 0])).put (some 40) (.tuple #[outZ, .int .i64 0])).put (some 50) outZ).put (some 51) (.int .i64 0)).put (some 9) (.pointer (some ⟨b, 0, none⟩))).put (some 10) (.int .i64 0)) V) :
    (Code.region 12 (regIn Try.f5 12) true).wp Try.prog Q a0 w := by
  have hP : ∀ V, Kept (Cx g fb mb) w V → (fun W => W.cell? ⟨kb, 0, none⟩ = some (.int .i64 1) ∧ W.cell? ⟨kb, 1, none⟩ = some (.int .i64 7) ∧ W.cell? (ad.add j) = some (.slice Aj nj cj)) V := fun V hk => ⟨(hk.cell (p := ⟨kb, 0, none⟩) hkb hkn).trans k0, (hk.cell (p := ⟨kb, 1, none⟩) hkb hkn).trans k1, (hk.cell (p := ad.add j) (by rw [add_block]; exact hab) (by rw [add_block]; exact han)).trans k2⟩
  have hK : ∀ V, Below w.heap.size w V → Kept (Cx g fb mb) w V := fun V hb => Kept.of_below hb _
  refine region_by_setV 13 [8, 9, 10, 11, 12, 13, 14] [(0, 41, .pointer (some ⟨g, 0, none⟩)), (1, 42, .agg #[.int .i64 1, .int .i64 7]), (2, 43, .slice AL N cL), (3, 44, .int .i64 j), (4, 45, .pointer (some (ad.add j))), (5, 46, .slice Aj nj cj), (6, 47, .int .i64 j), (7, 48, .bool d)] (fun W => W.cell? ⟨kb, 0, none⟩ = some (.int .i64 1) ∧ W.cell? ⟨kb, 1, none⟩ = some (.int .i64 7) ∧ W.cell? (ad.add j) = some (.slice Aj nj cj)) (by kernel_rfl) (by rw [hsz]; kernel_rfl) (by kernel_rfl) (by kernel_rfl) (by kernel_rfl) (by kernel_rfl) (hP _ (hK _ (Gw.drew _))) ?_ ?_
  · intro y hy V ρ hV hρ hcst
    have e0 : ρ (.tmp 0) = .slice AL N cL := (hρ 0).trans (by simp only [putA]; repeat (first | with_reducible exact put_same _ _ _ (by simp only [put_size, hsz]; decide) | with_reducible refine (put_other _ _ _ _ (by decide)).trans ?_ | with_reducible exact h0))
    have e5 : ρ (.tmp 5) = .pointer (some ⟨g, 0, none⟩) := (hρ 5).trans (by simp only [putA]; repeat (first | with_reducible exact put_same _ _ _ (by simp only [put_size, hsz]; decide) | with_reducible refine (put_other _ _ _ _ (by decide)).trans ?_ | with_reducible exact h5))
    have e7 : ρ (.tmp 7) = .pointer (some ⟨kb, 0, none⟩) := (hρ 7).trans (by simp only [putA]; repeat (first | with_reducible exact put_same _ _ _ (by simp only [put_size, hsz]; decide) | with_reducible refine (put_other _ _ _ _ (by decide)).trans ?_ | with_reducible exact h7))
    have e8 : ρ (.tmp 8) = .int .i64 j := (hρ 8).trans (by simp only [putA]; repeat (first | with_reducible exact put_same _ _ _ (by simp only [put_size, hsz]; decide) | with_reducible refine (put_other _ _ _ _ (by decide)).trans ?_ | with_reducible exact h8))
    have e43 : ρ (.tmp 43) = .slice AL N cL := (hρ 43).trans (by simp only [putA]; repeat (first | with_reducible exact put_same _ _ _ (by simp only [put_size, hsz]; decide) | with_reducible refine (put_other _ _ _ _ (by decide)).trans ?_))
    have e44 : ρ (.tmp 44) = .int .i64 j := (hρ 44).trans (by simp only [putA]; repeat (first | with_reducible exact put_same _ _ _ (by simp only [put_size, hsz]; decide) | with_reducible refine (put_other _ _ _ _ (by decide)).trans ?_))
    have e45 : ρ (.tmp 45) = .pointer (some (ad.add j)) := (hρ 45).trans (by simp only [putA]; repeat (first | with_reducible exact put_same _ _ _ (by simp only [put_size, hsz]; decide) | with_reducible refine (put_other _ _ _ _ (by decide)).trans ?_))
    have e47 : ρ (.tmp 47) = .int .i64 j := (hρ 47).trans (by simp only [putA]; repeat (first | with_reducible exact put_same _ _ _ (by simp only [put_size, hsz]; decide) | with_reducible refine (put_other _ _ _ _ (by decide)).trans ?_))
    clear hρ fin hPut hTb hTo
    simp only [List.mem_cons, List.not_mem_nil, or_false] at hy
    rcases hy with rfl | rfl | rfl | rfl | rfl | rfl | rfl | rfl
    · exact float_exec (op := .move (.tmp 5)) (type := 24) (by kernel_rfl) (by go_simp)
    · obtain ⟨c1, c2, _⟩ := hV; exact float_exec (op := .load 29 (.tmp 7)) (type := 29) (by kernel_rfl) (by go_simp)
    · exact float_exec (op := .move (.tmp 0)) (type := 40) (by kernel_rfl) (by go_simp)
    · exact float_exec (op := .move (.tmp 8)) (type := 3) (by kernel_rfl) (by go_simp)
    · subst hAL; exact float_exec (op := .indexAddr 40 (.tmp 43) (.tmp 44)) (type := 0) (by kernel_rfl) (by go_simp)
    · obtain ⟨_, _, c3⟩ := hV; exact float_exec (op := .load 30 (.tmp 45)) (type := 30) (by kernel_rfl) (by go_simp)
    · exact float_exec (op := .move (.tmp 8)) (type := 3) (by kernel_rfl) (by go_simp)
    · subst hd; exact float_exec (op := .binOp .eql 3 (.tmp 47) (.const (.int .i64 0)) 3) (type := 4) (by kernel_rfl) (by go_simp)
  obtain ⟨A0, hA0⟩ : ∃ A, A = putA [(0, 41, .pointer (some ⟨g, 0, none⟩)), (1, 42, .agg #[.int .i64 1, .int .i64 7]), (2, 43, .slice AL N cL), (3, 44, .int .i64 j), (4, 45, .pointer (some (ad.add j))), (5, 46, .slice Aj nj cj), (6, 47, .int .i64 j), (7, 48, .bool d)] a0 := ⟨_, rfl⟩
  have hs0 : A0.tmps.size = 97 := by rw [hA0]; simp only [putA, put_size, hsz]
  have g41 : A0.tmps.getD 41 undef = .pointer (some ⟨g, 0, none⟩) := by rw [hA0]; simp only [putA]; repeat (first | with_reducible exact put_same _ _ _ (by simp only [put_size, hsz]; decide) | with_reducible refine (put_other _ _ _ _ (by decide)).trans ?_)
  have g42 : A0.tmps.getD 42 undef = .agg #[.int .i64 1, .int .i64 7] := by rw [hA0]; simp only [putA]; repeat (first | with_reducible exact put_same _ _ _ (by simp only [put_size, hsz]; decide) | with_reducible refine (put_other _ _ _ _ (by decide)).trans ?_)
  have g46 : A0.tmps.getD 46 undef = .slice Aj nj cj := by rw [hA0]; simp only [putA]; repeat (first | with_reducible exact put_same _ _ _ (by simp only [put_size, hsz]; decide) | with_reducible refine (put_other _ _ _ _ (by decide)).trans ?_)
  have g48 : A0.tmps.getD 48 undef = .bool d := by rw [hA0]; simp only [putA]; repeat (first | with_reducible exact put_same _ _ _ (by simp only [put_size, hsz]; decide) | with_reducible refine (put_other _ _ _ _ (by decide)).trans ?_)
  rw [← hA0] at fin ⊢
  clear hA0 h0 h5 h7 h8
  have hb0 : Below w.heap.size w w.drew := Gw.drew w
  generalize w.drew = V0 at hb0 ⊢
  have T8 : (regIn Try.f5 12)[8]?.map (fun o => (o.op, o.type)) = some (.call { callee := .value (.func 8), args := #[.tmp 41, .tmp 42, .tmp 46, .tmp 48], argTypes := #[24, 29, 30, 4] }, 33) := by kernel_rfl
  have T9 : (regIn Try.f5 12)[9]?.map (fun o => (o.op, o.type)) = some (.move (.tmp 49), 33) := by kernel_rfl
  have T10 : (regIn Try.f5 12)[10]?.map (fun o => (o.op, o.type)) = some (.extract (.tmp 40) 0, 32) := by kernel_rfl
  have T11 : (regIn Try.f5 12)[11]?.map (fun o => (o.op, o.type)) = some (.extract (.tmp 40) 1, 25) := by kernel_rfl
  have T12 : (regIn Try.f5 12)[12]?.map (fun o => (o.op, o.type)) = some (.alloc 32, 0) := by kernel_rfl
  have T13 : (regIn Try.f5 12)[13]?.map (fun o => (o.op, o.type)) = some (.store 32 (.tmp 9) (.tmp 50), 0) := by kernel_rfl
  have T14 : (regIn Try.f5 12)[14]?.map (fun o => (o.op, o.type)) = some (.assign (.tmp 51), 25) := by kernel_rfl
  have R8 : ∀ (ρ : Operand → Value) (V : World), ρ (.func 8) = .func (.func 8) #[] #[] → ρ (.tmp 41) = .pointer (some ⟨g, 0, none⟩) → ρ (.tmp 42) = .agg #[.int .i64 1, .int .i64 7] → ρ (.tmp 46) = .slice Aj nj cj → ρ (.tmp 48) = .bool d → (execOp ρ { dst := some 49, op := .call { callee := .value (.func 8), args := #[.tmp 41, .tmp 42, .tmp 46, .tmp 48], argTypes := #[24, 29, 30, 4] }, type := 33, pos := "", after := #[], guard := none }).run Try.prog V = .ok (.enter 8 #[.pointer (some ⟨g, 0, none⟩), .agg #[.int .i64 1, .int .i64 7], .slice Aj nj cj, .bool d]) V := fun ρ V e0 e1 e2 e3 e4 => by go_simp
  have R9 : ∀ (ρ : Operand → Value) (V : World), ρ (.tmp 49) = (.tuple #[outZ, .int .i64 0]) → (execOp ρ { dst := some 40, op := .move (.tmp 49), type := 33, pos := "", after := #[], guard := none }).run Try.prog V = .ok (.value (.tuple #[outZ, .int .i64 0])) V := fun ρ V e => by go_simp
  have R10 : ∀ (ρ : Operand → Value) (V : World), ρ (.tmp 40) = (.tuple #[outZ, .int .i64 0]) → (execOp ρ { dst := some 50, op := .extract (.tmp 40) 0, type := 32, pos := "", after := #[], guard := none }).run Try.prog V = .ok (.value outZ) V := fun ρ V e => by go_simp
  have R11 : ∀ (ρ : Operand → Value) (V : World), ρ (.tmp 40) = (.tuple #[outZ, .int .i64 0]) → (execOp ρ { dst := some 51, op := .extract (.tmp 40) 1, type := 25, pos := "", after := #[], guard := none }).run Try.prog V = .ok (.value (.int .i64 0)) V := fun ρ V e => by go_simp
  have R12 : ∀ (ρ : Operand → Value) (V : World), (execOp ρ { dst := some 9, op := .alloc 32, type := 0, pos := "", after := #[], guard := none }).run Try.prog V = .ok (.value (.pointer (some ⟨V.heap.size, 0, none⟩))) (V.alloc (.cells outC 32)) := fun ρ V => by unfold outC; go_simp
  have R14 : ∀ (ρ : Operand → Value) (V : World), ρ (.tmp 51) = .int .i64 0 → (execOp ρ { dst := some 10, op := .assign (.tmp 51), type := 25, pos := "", after := #[], guard := none }).run Try.prog V = .ok (.value (.int .i64 0)) V := fun ρ V e => by go_simp
  have E_14 : ∀ (b : Nat) (A : Act) (V : World), A = (((((A0.put (some 49) (.tuple #[outZ, .int .i64 0])).put (some 40) (.tuple #[outZ, .int .i64 0])).put (some 50) outZ).put (some 51) (.int .i64 0)).put (some 9) (.pointer (some ⟨b, 0, none⟩))) → T V → Kept (Cx g fb mb) w V → Bk V b 32 outC → w.heap.size ≤ b → SpineS Try.prog (regIn Try.f5 12) Q (fun W => W.cell? ⟨kb, 0, none⟩ = some (.int .i64 1) ∧ W.cell? ⟨kb, 1, none⟩ = some (.int .i64 7) ∧ W.cell? (ad.add j) = some (.slice Aj nj cj)) 1 [14] A V := by
    intro b A V hA hT hk hbk hbs
    refine spineS_of [(14, [])] (by kernel_rfl) ?_
    intro x hx
    simp only [List.mem_cons, List.not_mem_nil, or_false] at hx
    rcases hx with rfl
    · refine set_exec T14 (by kernel_rfl) (by kernel_rfl) (R14 _ V (by show Array.getD _ 51 _ = _; rw [hA]; repeat (first | with_reducible exact put_same _ _ _ (by simp only [put_size, hs0]; decide) | with_reducible refine (put_other _ _ _ _ (by decide)).trans ?_))) (hP _ hk) ?_
      unfold SpineS
      rw [hA]
      exact fin b V hT hk hbk hbs
  have E_13_14 : ∀ (b : Nat) (A : Act) (V : World), A = (((((A0.put (some 49) (.tuple #[outZ, .int .i64 0])).put (some 40) (.tuple #[outZ, .int .i64 0])).put (some 50) outZ).put (some 51) (.int .i64 0)).put (some 9) (.pointer (some ⟨b, 0, none⟩))) → T V → Kept (Cx g fb mb) w V → Bk V b 32 outC → w.heap.size ≤ b → SpineS Try.prog (regIn Try.f5 12) Q (fun W => W.cell? ⟨kb, 0, none⟩ = some (.int .i64 1) ∧ W.cell? ⟨kb, 1, none⟩ = some (.int .i64 7) ∧ W.cell? (ad.add j) = some (.slice Aj nj cj)) 2 [13, 14] A V := by
    intro b A V hA hT hk hbk hbs
    refine spineS_of [(13, [14])] (by kernel_rfl) ?_
    intro x hx
    simp only [List.mem_cons, List.not_mem_nil, or_false] at hx
    rcases hx with rfl
    · refine set_list (d := none) T13 (by kernel_rfl) (by kernel_rfl) ?_
      refine wp_stR rfl 32 (.tmp 9) (.tmp 50) rfl b outC (by show Array.getD _ 9 _ = _; rw [hA]; repeat (first | with_reducible exact put_same _ _ _ (by simp only [put_size, hs0]; decide) | with_reducible refine (put_other _ _ _ _ (by decide)).trans ?_)) (by show Array.getD _ 50 _ = outZ; rw [hA]; repeat (first | with_reducible exact put_same _ _ _ (by simp only [put_size, hs0]; decide) | with_reducible refine (put_other _ _ _ _ (by decide)).trans ?_)) 32 outC hbk (by kernel_rfl) rfl (by simp [outC, Value.oneCell']) ?_
      intro w2 q2 _ o2
      have hn : ¬ Cx g fb mb b := fun e => by have := hcx _ e; omega
      refine ⟨rfl, hP _ (hk.newer o2 hbs), ?_⟩
      exact E_14 b _ _ hA (hTo _ _ b hT hbk o2 hn) (hk.newer o2 hbs) q2 hbs
  have E_12_13_14 : ∀ (A : Act) (V : World), A = ((((A0.put (some 49) (.tuple #[outZ, .int .i64 0])).put (some 40) (.tuple #[outZ, .int .i64 0])).put (some 50) outZ).put (some 51) (.int .i64 0)) → T V → Kept (Cx g fb mb) w V → SpineS Try.prog (regIn Try.f5 12) Q (fun W => W.cell? ⟨kb, 0, none⟩ = some (.int .i64 1) ∧ W.cell? ⟨kb, 1, none⟩ = some (.int .i64 7) ∧ W.cell? (ad.add j) = some (.slice Aj nj cj)) 3 [12, 13, 14] A V := by
    intro A V hA hT hk
    refine spineS_of [(12, [13, 14])] (by kernel_rfl) ?_
    intro x hx
    simp only [List.mem_cons, List.not_mem_nil, or_false] at hx
    rcases hx with rfl
    · have hb2 := Gw.alloc V (.cells outC 32)
      have hk2 : Kept (Cx g fb mb) w (V.alloc (.cells outC 32)) := hk.trans (Kept.of_below hb2 _)
      refine set_exec T12 (by kernel_rfl) (by kernel_rfl) (R12 _ V) (hP _ hk2) ?_
      exact E_13_14 V.heap.size _ _ (by rw [hA]) (hTb _ _ hT hb2) hk2 (Bk.new V 32 outC) hk.size
  have E_11_14 : ∀ (b : Nat) (A : Act) (V : World), A = ((((A0.put (some 49) (.tuple #[outZ, .int .i64 0])).put (some 40) (.tuple #[outZ, .int .i64 0])).put (some 50) outZ).put (some 9) (.pointer (some ⟨b, 0, none⟩))) → T V → Kept (Cx g fb mb) w V → Bk V b 32 outC → w.heap.size ≤ b → SpineS Try.prog (regIn Try.f5 12) Q (fun W => W.cell? ⟨kb, 0, none⟩ = some (.int .i64 1) ∧ W.cell? ⟨kb, 1, none⟩ = some (.int .i64 7) ∧ W.cell? (ad.add j) = some (.slice Aj nj cj)) 2 [11, 14] A V := by
    intro b A V hA hT hk hbk hbs
    refine spineS_of [(11, [14])] (by kernel_rfl) ?_
    intro x hx
    simp only [List.mem_cons, List.not_mem_nil, or_false] at hx
    rcases hx with rfl
    · refine set_exec T11 (by kernel_rfl) (by kernel_rfl) (R11 _ V (by show Array.getD _ 40 _ = _; rw [hA]; repeat (first | with_reducible exact put_same _ _ _ (by simp only [put_size, hs0]; decide) | with_reducible refine (put_other _ _ _ _ (by decide)).trans ?_))) (hP _ hk) ?_
      exact E_14 b _ _ (by rw [hA, put_comm _ 9 51 _ _ (by decide)]) hT hk hbk hbs
  have E_11_13_14 : ∀ (b : Nat) (A : Act) (V : World), A = ((((A0.put (some 49) (.tuple #[outZ, .int .i64 0])).put (some 40) (.tuple #[outZ, .int .i64 0])).put (some 50) outZ).put (some 9) (.pointer (some ⟨b, 0, none⟩))) → T V → Kept (Cx g fb mb) w V → Bk V b 32 outC → w.heap.size ≤ b → SpineS Try.prog (regIn Try.f5 12) Q (fun W => W.cell? ⟨kb, 0, none⟩ = some (.int .i64 1) ∧ W.cell? ⟨kb, 1, none⟩ = some (.int .i64 7) ∧ W.cell? (ad.add j) = some (.slice Aj nj cj)) 3 [11, 13, 14] A V := by
    intro b A V hA hT hk hbk hbs
    refine spineS_of [(11, [13, 14]), (13, [11, 14])] (by kernel_rfl) ?_
    intro x hx
    simp only [List.mem_cons, List.not_mem_nil, or_false] at hx
    rcases hx with rfl | rfl
    · refine set_exec T11 (by kernel_rfl) (by kernel_rfl) (R11 _ V (by show Array.getD _ 40 _ = _; rw [hA]; repeat (first | with_reducible exact put_same _ _ _ (by simp only [put_size, hs0]; decide) | with_reducible refine (put_other _ _ _ _ (by decide)).trans ?_))) (hP _ hk) ?_
      exact E_13_14 b _ _ (by rw [hA, put_comm _ 9 51 _ _ (by decide)]) hT hk hbk hbs
    · refine set_list (d := none) T13 (by kernel_rfl) (by kernel_rfl) ?_
      refine wp_stR rfl 32 (.tmp 9) (.tmp 50) rfl b outC (by show Array.getD _ 9 _ = _; rw [hA]; repeat (first | with_reducible exact put_same _ _ _ (by simp only [put_size, hs0]; decide) | with_reducible refine (put_other _ _ _ _ (by decide)).trans ?_)) (by show Array.getD _ 50 _ = outZ; rw [hA]; repeat (first | with_reducible exact put_same _ _ _ (by simp only [put_size, hs0]; decide) | with_reducible refine (put_other _ _ _ _ (by decide)).trans ?_)) 32 outC hbk (by kernel_rfl) rfl (by simp [outC, Value.oneCell']) ?_
      intro w2 q2 _ o2
      have hn : ¬ Cx g fb mb b := fun e => by have := hcx _ e; omega
      refine ⟨rfl, hP _ (hk.newer o2 hbs), ?_⟩
      exact E_11_14 b _ _ hA (hTo _ _ b hT hbk o2 hn) (hk.newer o2 hbs) q2 hbs
  have E_11_12_13_14 : ∀ (A : Act) (V : World), A = (((A0.put (some 49) (.tuple #[outZ, .int .i64 0])).put (some 40) (.tuple #[outZ, .int .i64 0])).put (some 50) outZ) → T V → Kept (Cx g fb mb) w V → SpineS Try.prog (regIn Try.f5 12) Q (fun W => W.cell? ⟨kb, 0, none⟩ = some (.int .i64 1) ∧ W.cell? ⟨kb, 1, none⟩ = some (.int .i64 7) ∧ W.cell? (ad.add j) = some (.slice Aj nj cj)) 4 [11, 12, 13, 14] A V := by
    intro A V hA hT hk
    refine spineS_of [(11, [12, 13, 14]), (12, [11, 13, 14])] (by kernel_rfl) ?_
    intro x hx
    simp only [List.mem_cons, List.not_mem_nil, or_false] at hx
    rcases hx with rfl | rfl
    · refine set_exec T11 (by kernel_rfl) (by kernel_rfl) (R11 _ V (by show Array.getD _ 40 _ = _; rw [hA]; repeat (first | with_reducible exact put_same _ _ _ (by simp only [put_size, hs0]; decide) | with_reducible refine (put_other _ _ _ _ (by decide)).trans ?_))) (hP _ hk) ?_
      exact E_12_13_14 _ _ (by rw [hA]) hT hk
    · have hb2 := Gw.alloc V (.cells outC 32)
      have hk2 : Kept (Cx g fb mb) w (V.alloc (.cells outC 32)) := hk.trans (Kept.of_below hb2 _)
      refine set_exec T12 (by kernel_rfl) (by kernel_rfl) (R12 _ V) (hP _ hk2) ?_
      exact E_11_13_14 V.heap.size _ _ (by rw [hA]) (hTb _ _ hT hb2) hk2 (Bk.new V 32 outC) hk.size
  have E_10_13_14 : ∀ (b : Nat) (A : Act) (V : World), A = ((((A0.put (some 49) (.tuple #[outZ, .int .i64 0])).put (some 40) (.tuple #[outZ, .int .i64 0])).put (some 51) (.int .i64 0)).put (some 9) (.pointer (some ⟨b, 0, none⟩))) → T V → Kept (Cx g fb mb) w V → Bk V b 32 outC → w.heap.size ≤ b → SpineS Try.prog (regIn Try.f5 12) Q (fun W => W.cell? ⟨kb, 0, none⟩ = some (.int .i64 1) ∧ W.cell? ⟨kb, 1, none⟩ = some (.int .i64 7) ∧ W.cell? (ad.add j) = some (.slice Aj nj cj)) 3 [10, 13, 14] A V := by
    intro b A V hA hT hk hbk hbs
    refine spineS_of [(10, [13, 14])] (by kernel_rfl) ?_
    intro x hx
    simp only [List.mem_cons, List.not_mem_nil, or_false] at hx
    rcases hx with rfl
    · refine set_exec T10 (by kernel_rfl) (by kernel_rfl) (R10 _ V (by show Array.getD _ 40 _ = _; rw [hA]; repeat (first | with_reducible exact put_same _ _ _ (by simp only [put_size, hs0]; decide) | with_reducible refine (put_other _ _ _ _ (by decide)).trans ?_))) (hP _ hk) ?_
      exact E_13_14 b _ _ (by rw [hA, put_comm _ 9 50 _ _ (by decide), put_comm _ 51 50 _ _ (by decide)]) hT hk hbk hbs
  have E_10_12_13_14 : ∀ (A : Act) (V : World), A = (((A0.put (some 49) (.tuple #[outZ, .int .i64 0])).put (some 40) (.tuple #[outZ, .int .i64 0])).put (some 51) (.int .i64 0)) → T V → Kept (Cx g fb mb) w V → SpineS Try.prog (regIn Try.f5 12) Q (fun W => W.cell? ⟨kb, 0, none⟩ = some (.int .i64 1) ∧ W.cell? ⟨kb, 1, none⟩ = some (.int .i64 7) ∧ W.cell? (ad.add j) = some (.slice Aj nj cj)) 4 [10, 12, 13, 14] A V := by
    intro A V hA hT hk
    refine spineS_of [(10, [12, 13, 14]), (12, [10, 13, 14])] (by kernel_rfl) ?_
    intro x hx
    simp only [List.mem_cons, List.not_mem_nil, or_false] at hx
    rcases hx with rfl | rfl
    · refine set_exec T10 (by kernel_rfl) (by kernel_rfl) (R10 _ V (by show Array.getD _ 40 _ = _; rw [hA]; repeat (first | with_reducible exact put_same _ _ _ (by simp only [put_size, hs0]; decide) | with_reducible refine (put_other _ _ _ _ (by decide)).trans ?_))) (hP _ hk) ?_
      exact E_12_13_14 _ _ (by rw [hA, put_comm _ 51 50 _ _ (by decide)]) hT hk
    · have hb2 := Gw.alloc V (.cells outC 32)
      have hk2 : Kept (Cx g fb mb) w (V.alloc (.cells outC 32)) := hk.trans (Kept.of_below hb2 _)
      refine set_exec T12 (by kernel_rfl) (by kernel_rfl) (R12 _ V) (hP _ hk2) ?_
      exact E_10_13_14 V.heap.size _ _ (by rw [hA]) (hTb _ _ hT hb2) hk2 (Bk.new V 32 outC) hk.size
  have E_10_11_13_14 : ∀ (b : Nat) (A : Act) (V : World), A = (((A0.put (some 49) (.tuple #[outZ, .int .i64 0])).put (some 40) (.tuple #[outZ, .int .i64 0])).put (some 9) (.pointer (some ⟨b, 0, none⟩))) → T V → Kept (Cx g fb mb) w V → Bk V b 32 outC → w.heap.size ≤ b → SpineS Try.prog (regIn Try.f5 12) Q (fun W => W.cell? ⟨kb, 0, none⟩ = some (.int .i64 1) ∧ W.cell? ⟨kb, 1, none⟩ = some (.int .i64 7) ∧ W.cell? (ad.add j) = some (.slice Aj nj cj)) 4 [10, 11, 13, 14] A V := by
    intro b A V hA hT hk hbk hbs
    refine spineS_of [(10, [11, 13, 14]), (11, [10, 13, 14])] (by kernel_rfl) ?_
    intro x hx
    simp only [List.mem_cons, List.not_mem_nil, or_false] at hx
    rcases hx with rfl | rfl
    · refine set_exec T10 (by kernel_rfl) (by kernel_rfl) (R10 _ V (by show Array.getD _ 40 _ = _; rw [hA]; repeat (first | with_reducible exact put_same _ _ _ (by simp only [put_size, hs0]; decide) | with_reducible refine (put_other _ _ _ _ (by decide)).trans ?_))) (hP _ hk) ?_
      exact E_11_13_14 b _ _ (by rw [hA, put_comm _ 9 50 _ _ (by decide)]) hT hk hbk hbs
    · refine set_exec T11 (by kernel_rfl) (by kernel_rfl) (R11 _ V (by show Array.getD _ 40 _ = _; rw [hA]; repeat (first | with_reducible exact put_same _ _ _ (by simp only [put_size, hs0]; decide) | with_reducible refine (put_other _ _ _ _ (by decide)).trans ?_))) (hP _ hk) ?_
      exact E_10_13_14 b _ _ (by rw [hA, put_comm _ 9 51 _ _ (by decide)]) hT hk hbk hbs
  have E_10_11_12_13_14 : ∀ (A : Act) (V : World), A = ((A0.put (some 49) (.tuple #[outZ, .int .i64 0])).put (some 40) (.tuple #[outZ, .int .i64 0])) → T V → Kept (Cx g fb mb) w V → SpineS Try.prog (regIn Try.f5 12) Q (fun W => W.cell? ⟨kb, 0, none⟩ = some (.int .i64 1) ∧ W.cell? ⟨kb, 1, none⟩ = some (.int .i64 7) ∧ W.cell? (ad.add j) = some (.slice Aj nj cj)) 5 [10, 11, 12, 13, 14] A V := by
    intro A V hA hT hk
    refine spineS_of [(10, [11, 12, 13, 14]), (11, [10, 12, 13, 14]), (12, [10, 11, 13, 14])] (by kernel_rfl) ?_
    intro x hx
    simp only [List.mem_cons, List.not_mem_nil, or_false] at hx
    rcases hx with rfl | rfl | rfl
    · refine set_exec T10 (by kernel_rfl) (by kernel_rfl) (R10 _ V (by show Array.getD _ 40 _ = _; rw [hA]; repeat (first | with_reducible exact put_same _ _ _ (by simp only [put_size, hs0]; decide) | with_reducible refine (put_other _ _ _ _ (by decide)).trans ?_))) (hP _ hk) ?_
      exact E_11_12_13_14 _ _ (by rw [hA]) hT hk
    · refine set_exec T11 (by kernel_rfl) (by kernel_rfl) (R11 _ V (by show Array.getD _ 40 _ = _; rw [hA]; repeat (first | with_reducible exact put_same _ _ _ (by simp only [put_size, hs0]; decide) | with_reducible refine (put_other _ _ _ _ (by decide)).trans ?_))) (hP _ hk) ?_
      exact E_10_12_13_14 _ _ (by rw [hA]) hT hk
    · have hb2 := Gw.alloc V (.cells outC 32)
      have hk2 : Kept (Cx g fb mb) w (V.alloc (.cells outC 32)) := hk.trans (Kept.of_below hb2 _)
      refine set_exec T12 (by kernel_rfl) (by kernel_rfl) (R12 _ V) (hP _ hk2) ?_
      exact E_10_11_13_14 V.heap.size _ _ (by rw [hA]) (hTb _ _ hT hb2) hk2 (Bk.new V 32 outC) hk.size
  have E_9_10_11_13_14 : ∀ (b : Nat) (A : Act) (V : World), A = ((A0.put (some 49) (.tuple #[outZ, .int .i64 0])).put (some 9) (.pointer (some ⟨b, 0, none⟩))) → T V → Kept (Cx g fb mb) w V → Bk V b 32 outC → w.heap.size ≤ b → SpineS Try.prog (regIn Try.f5 12) Q (fun W => W.cell? ⟨kb, 0, none⟩ = some (.int .i64 1) ∧ W.cell? ⟨kb, 1, none⟩ = some (.int .i64 7) ∧ W.cell? (ad.add j) = some (.slice Aj nj cj)) 5 [9, 10, 11, 13, 14] A V := by
    intro b A V hA hT hk hbk hbs
    refine spineS_of [(9, [10, 11, 13, 14])] (by kernel_rfl) ?_
    intro x hx
    simp only [List.mem_cons, List.not_mem_nil, or_false] at hx
    rcases hx with rfl
    · refine set_exec T9 (by kernel_rfl) (by kernel_rfl) (R9 _ V (by show Array.getD _ 49 _ = _; rw [hA]; repeat (first | with_reducible exact put_same _ _ _ (by simp only [put_size, hs0]; decide) | with_reducible refine (put_other _ _ _ _ (by decide)).trans ?_))) (hP _ hk) ?_
      exact E_10_11_13_14 b _ _ (by rw [hA, put_comm _ 9 40 _ _ (by decide)]) hT hk hbk hbs
  have E_9_10_11_12_13_14 : ∀ (A : Act) (V : World), A = (A0.put (some 49) (.tuple #[outZ, .int .i64 0])) → T V → Kept (Cx g fb mb) w V → SpineS Try.prog (regIn Try.f5 12) Q (fun W => W.cell? ⟨kb, 0, none⟩ = some (.int .i64 1) ∧ W.cell? ⟨kb, 1, none⟩ = some (.int .i64 7) ∧ W.cell? (ad.add j) = some (.slice Aj nj cj)) 6 [9, 10, 11, 12, 13, 14] A V := by
    intro A V hA hT hk
    refine spineS_of [(9, [10, 11, 12, 13, 14]), (12, [9, 10, 11, 13, 14])] (by kernel_rfl) ?_
    intro x hx
    simp only [List.mem_cons, List.not_mem_nil, or_false] at hx
    rcases hx with rfl | rfl
    · refine set_exec T9 (by kernel_rfl) (by kernel_rfl) (R9 _ V (by show Array.getD _ 49 _ = _; rw [hA]; repeat (first | with_reducible exact put_same _ _ _ (by simp only [put_size, hs0]; decide) | with_reducible refine (put_other _ _ _ _ (by decide)).trans ?_))) (hP _ hk) ?_
      exact E_10_11_12_13_14 _ _ (by rw [hA]) hT hk
    · have hb2 := Gw.alloc V (.cells outC 32)
      have hk2 : Kept (Cx g fb mb) w (V.alloc (.cells outC 32)) := hk.trans (Kept.of_below hb2 _)
      refine set_exec T12 (by kernel_rfl) (by kernel_rfl) (R12 _ V) (hP _ hk2) ?_
      exact E_9_10_11_13_14 V.heap.size _ _ (by rw [hA]) (hTb _ _ hT hb2) hk2 (Bk.new V 32 outC) hk.size
  have E_8_9_10_11_13_14 : ∀ (b : Nat) (A : Act) (V : World), A = (A0.put (some 9) (.pointer (some ⟨b, 0, none⟩))) → Below w.heap.size w V → Bk V b 32 outC → w.heap.size ≤ b → SpineS Try.prog (regIn Try.f5 12) Q (fun W => W.cell? ⟨kb, 0, none⟩ = some (.int .i64 1) ∧ W.cell? ⟨kb, 1, none⟩ = some (.int .i64 7) ∧ W.cell? (ad.add j) = some (.slice Aj nj cj)) 6 [8, 9, 10, 11, 13, 14] A V := by
    intro b A V hA hb hbk hbs
    have hk : Kept (Cx g fb mb) w V := Kept.of_below hb _
    refine spineS_of [(8, [9, 10, 11, 13, 14])] (by kernel_rfl) ?_
    intro x hx
    simp only [List.mem_cons, List.not_mem_nil, or_false] at hx
    rcases hx with rfl
    · refine set_call T8 (by kernel_rfl) (by kernel_rfl) (R8 _ V rfl (by show Array.getD _ 41 _ = _; rw [hA]; repeat (first | with_reducible exact put_same _ _ _ (by simp only [put_size, hs0]; decide) | with_reducible refine (put_other _ _ _ _ (by decide)).trans ?_ | with_reducible exact g41)) (by show Array.getD _ 42 _ = _; rw [hA]; repeat (first | with_reducible exact put_same _ _ _ (by simp only [put_size, hs0]; decide) | with_reducible refine (put_other _ _ _ _ (by decide)).trans ?_ | with_reducible exact g42)) (by show Array.getD _ 46 _ = _; rw [hA]; repeat (first | with_reducible exact put_same _ _ _ (by simp only [put_size, hs0]; decide) | with_reducible refine (put_other _ _ _ _ (by decide)).trans ?_ | with_reducible exact g46)) (by show Array.getD _ 48 _ = _; rw [hA]; repeat (first | with_reducible exact put_same _ _ _ (by simp only [put_size, hs0]; decide) | with_reducible refine (put_other _ _ _ _ (by decide)).trans ?_ | with_reducible exact g48))) ?_
      refine Calls.mono (hPut V hb) ?_
      rintro e w2 ⟨rfl, hT2, hk2⟩
      refine ⟨_, rfl, hP _ (hk.trans hk2), ?_⟩
      exact E_9_10_11_13_14 b _ _ (by rw [hA, put_comm _ 9 49 _ _ (by decide)]) hT2 (hk.trans hk2) (hk2.bk hbk (fun e => by have := hcx _ e; omega)) hbs
  have E_8_9_10_11_12_13_14 : ∀ (A : Act) (V : World), A = A0 → Below w.heap.size w V → SpineS Try.prog (regIn Try.f5 12) Q (fun W => W.cell? ⟨kb, 0, none⟩ = some (.int .i64 1) ∧ W.cell? ⟨kb, 1, none⟩ = some (.int .i64 7) ∧ W.cell? (ad.add j) = some (.slice Aj nj cj)) 7 [8, 9, 10, 11, 12, 13, 14] A V := by
    intro A V hA hb
    have hk : Kept (Cx g fb mb) w V := Kept.of_below hb _
    refine spineS_of [(8, [9, 10, 11, 12, 13, 14]), (12, [8, 9, 10, 11, 13, 14])] (by kernel_rfl) ?_
    intro x hx
    simp only [List.mem_cons, List.not_mem_nil, or_false] at hx
    rcases hx with rfl | rfl
    · refine set_call T8 (by kernel_rfl) (by kernel_rfl) (R8 _ V rfl (by show Array.getD _ 41 _ = _; rw [hA]; repeat (first | with_reducible exact put_same _ _ _ (by simp only [put_size, hs0]; decide) | with_reducible refine (put_other _ _ _ _ (by decide)).trans ?_ | with_reducible exact g41)) (by show Array.getD _ 42 _ = _; rw [hA]; repeat (first | with_reducible exact put_same _ _ _ (by simp only [put_size, hs0]; decide) | with_reducible refine (put_other _ _ _ _ (by decide)).trans ?_ | with_reducible exact g42)) (by show Array.getD _ 46 _ = _; rw [hA]; repeat (first | with_reducible exact put_same _ _ _ (by simp only [put_size, hs0]; decide) | with_reducible refine (put_other _ _ _ _ (by decide)).trans ?_ | with_reducible exact g46)) (by show Array.getD _ 48 _ = _; rw [hA]; repeat (first | with_reducible exact put_same _ _ _ (by simp only [put_size, hs0]; decide) | with_reducible refine (put_other _ _ _ _ (by decide)).trans ?_ | with_reducible exact g48))) ?_
      refine Calls.mono (hPut V hb) ?_
      rintro e w2 ⟨rfl, hT2, hk2⟩
      refine ⟨_, rfl, hP _ (hk.trans hk2), ?_⟩
      exact E_9_10_11_12_13_14 _ _ (by rw [hA]) hT2 (hk.trans hk2)
    · have hb2 := Gw.alloc V (.cells outC 32)
      have hk2 : Kept (Cx g fb mb) w (V.alloc (.cells outC 32)) := hk.trans (Kept.of_below hb2 _)
      refine set_exec T12 (by kernel_rfl) (by kernel_rfl) (R12 _ V) (hP _ hk2) ?_
      exact E_8_9_10_11_13_14 V.heap.size _ _ (by rw [hA]) (hb.trans (hb2.mono hb.size)) (Bk.new V 32 outC) hk.size
  exact E_8_9_10_11_12_13_14 A0 V0 rfl hb0
end Go.Proofs.Ythmaofbnhfgfaaa
