/- Two regions of KeySets over any frame: a key added, a key taken out. Conditions: lengths. -/
import Derived.Test.YtgddehhigamkkaaKyQ
namespace Go.Proofs.Ytgddehhigamkkaa
set_option linter.unusedVariables false
set_option linter.unusedSimpArgs false
open Go.RowKit Go.Maps
set_option maxHeartbeats 1000000
set_option maxRecDepth 100000
theorem ks24_law (Q : Exit → Act → World → Prop) (a0 : Act) (w : World) (A6 : Option Addr) (N c6 qx B6 : Nat) (m : List (Int × Int)) (x y : Int) (HN : Hid (N = m.length)) (hN2 : m.length ≤ 10000) (hout : JR w B6 (.slice A6 m.length c6) m) (hbx : qx < w.heap.size) (cx : w.cell? ⟨qx, 0, none⟩ = some (.int .i64 x)) (cy : w.cell? ⟨qx, 1, none⟩ = some (.int .i64 y)) (hsz : a0.tmps.size = 162) (h6 : a0.tmps.getD 6 undef = .slice A6 N c6) (h10 : a0.tmps.getD 10 undef = .pointer (some ⟨qx, 0, none⟩))
    (fin : ∀ (v0 v2 v7 v8 : Value) (w8 : World), JR w8 w.heap.size v8 (m ++ [(x, y)]) → Below w.heap.size w w8 →
      Q .normal ((((((putA [(1, 78, .slice A6 N c6), (3, 80, .agg #[.int .i64 x, .int .i64 y])] a0).put (some 77) v0).put (some 79) v2).put (some 81) v7).put (some 82) v8).put (some 6) v8) w8) :
    (Code.region 24 (regIn Try.f4 24) true).wp Try.prog Q a0 w := by
  have hP : ∀ w', Below w.heap.size w w' → (fun W => W.cell? ⟨qx, 0, none⟩ = some (.int .i64 x) ∧ W.cell? ⟨qx, 1, none⟩ = some (.int .i64 y)) w' := fun w' hb2 => ⟨(hb2.cell (p := ⟨qx, 0, none⟩) hbx).trans cx, (hb2.cell (p := ⟨qx, 1, none⟩) hbx).trans cy⟩
  have hR : ∀ w', Below w.heap.size w w' → RdJ w' A6 (m) := fun w' hb2 => (hout.below hb2).rdp
  have hlen : (m).length ≤ 10000 := hN2
  refine region_by_set [0, 2, 4, 5, 6] [(1, 78, .slice A6 N c6), (3, 80, .agg #[.int .i64 x, .int .i64 y])] (fun W => W.cell? ⟨qx, 0, none⟩ = some (.int .i64 x) ∧ W.cell? ⟨qx, 1, none⟩ = some (.int .i64 y)) (by kernel_rfl) (by rw [hsz]; kernel_rfl) (by kernel_rfl) (by kernel_rfl) (by kernel_rfl) (hP _ (Gw.drew _)) ?_ ?_
  · intro y hy V ρ hV hρ hcst
    have e6 : ρ (.tmp 6) = .slice A6 N c6 := (hρ 6).trans (by simp only [putA]; repeat (first | with_reducible exact put_same _ _ _ (by simp only [put_size, hsz]; decide) | with_reducible refine (put_other _ _ _ _ (by decide)).trans ?_ | with_reducible exact h6))
    have e10 : ρ (.tmp 10) = .pointer (some ⟨qx, 0, none⟩) := (hρ 10).trans (by simp only [putA]; repeat (first | with_reducible exact put_same _ _ _ (by simp only [put_size, hsz]; decide) | with_reducible refine (put_other _ _ _ _ (by decide)).trans ?_ | with_reducible exact h10))
    clear hρ fin
    simp only [List.mem_cons, List.not_mem_nil, or_false] at hy
    rcases hy with rfl | rfl
    · exact float_exec (op := .move (.tmp 6)) (type := 38) (by kernel_rfl) (by go_simp)
    · obtain ⟨cv1, cv2⟩ := hV; exact float_exec (op := .load 27 (.tmp 10)) (type := 27) (by kernel_rfl) (by go_simp)
  obtain ⟨A0, hA0⟩ : ∃ A, A = putA [(1, 78, .slice A6 N c6), (3, 80, .agg #[.int .i64 x, .int .i64 y])] a0 := ⟨_, rfl⟩
  have hs0 : A0.tmps.size = 162 := by rw [hA0]; simp only [putA, put_size, hsz]
  have gx : A0.tmps.getD 78 undef = .slice A6 N c6 := by rw [hA0]; simp only [putA]; repeat (first | with_reducible exact put_same _ _ _ (by simp only [put_size, hsz]; decide) | with_reducible refine (put_other _ _ _ _ (by decide)).trans ?_)
  have ge : A0.tmps.getD 80 undef = .agg #[.int .i64 x, .int .i64 y] := by rw [hA0]; simp only [putA]; repeat (first | with_reducible exact put_same _ _ _ (by simp only [put_size, hsz]; decide) | with_reducible refine (put_other _ _ _ _ (by decide)).trans ?_)
  have hsrc : N = (m).length := HN.out
  rw [← hA0] at fin ⊢
  clear hA0 h6 h10
  have hb0 : Below w.heap.size w w.drew := Gw.drew w
  generalize w.drew = V0 at hb0 ⊢
  have S0 : ∀ (ρ : Operand → Value) (V : World), (execOp ρ { dst := some 77, op := .buildSlice 38 0 #[], type := 38, pos := "", after := #[], guard := none }).run Try.prog V = .ok (.value (.slice (some ⟨V.heap.size, 0, none⟩) 0 0)) (V.alloc (.cells #[] 27)) := fun ρ V => by go_simp
  have S7 : ∀ (ρ : Operand → Value) (V : World), ρ (.tmp 80) = .agg #[.int .i64 x, .int .i64 y] → (execOp ρ { dst := some 81, op := .buildSlice 38 1 #[(0, .tmp 80)], type := 38, pos := "", after := #[], guard := none }).run Try.prog V = .ok (.value (.slice (some ⟨V.heap.size, 0, none⟩) 1 1)) (V.alloc (.cells #[.int .i64 x, .int .i64 y] 27)) := fun ρ V e => by go_simp
  have T0 : (regIn Try.f4 24)[0]?.map (fun o => (o.op, o.type)) = some (.buildSlice 38 0 #[], 38) := by kernel_rfl
  have T2 : (regIn Try.f4 24)[2]?.map (fun o => (o.op, o.type)) = some (.call { callee := .builtin .append, args := #[.tmp 77, .tmp 78], argTypes := #[38, 38] }, 38) := by kernel_rfl
  have T7 : (regIn Try.f4 24)[4]?.map (fun o => (o.op, o.type)) = some (.buildSlice 38 1 #[(0, .tmp 80)], 38) := by kernel_rfl
  have T8 : (regIn Try.f4 24)[5]?.map (fun o => (o.op, o.type)) = some (.call { callee := .builtin .append, args := #[.tmp 79, .tmp 81], argTypes := #[38, 38] }, 38) := by kernel_rfl
  have T9 : (regIn Try.f4 24)[6]?.map (fun o => (o.op, o.type)) = some (.assign (.tmp 82), 38) := by kernel_rfl
  have L : ∀ (A : Act) (v0 v2 v7 : Value) (b7 : Nat) (V : World), A = (((A0.put (some 77) v0).put (some 79) v2).put (some 81) v7) → v7 = .slice (some ⟨b7, 0, none⟩) 1 1 → Below w.heap.size w V → JR V w.heap.size v2 (m) → Bk V b7 27 #[.int .i64 x, .int .i64 y] →
      SpineS Try.prog (regIn Try.f4 24) Q (fun W => W.cell? ⟨qx, 0, none⟩ = some (.int .i64 x) ∧ W.cell? ⟨qx, 1, none⟩ = some (.int .i64 y)) 2 [5, 6] A V := by
    intro A v0 v2 v7 b7 V hA h7 hb hp hk
    refine spineS_one 5 [6] (by kernel_rfl) ?_
    obtain ⟨v8, w8, hrun, hp8, hb8, _⟩ := run_appJ (o := { dst := some 82, op := .call { callee := .builtin .append, args := #[.tmp 79, .tmp 81], argTypes := #[38, 38] }, type := 38, pos := "", after := #[], guard := none }) (ρ := A.eval) (w := V) (base := w.heap.size) (.tmp 79) (.tmp 81) rfl
      (show A.tmps.getD 79 undef = v2 from by rw [hA]; exact (put_other _ _ _ _ (by decide)).trans (put_same _ _ _ (by simp only [put_size, hs0]; decide))) hp (some ⟨b7, 0, none⟩) 1 1 [(x, y)] (show A.tmps.getD 81 undef = _ from by rw [hA, ← h7]; exact put_same _ _ _ (by simp only [put_size, hs0]; decide)) rfl (JR.ofB (x, y) hk) (by simp only [List.length_cons, List.length_nil]; omega) hb.size
    refine set_exec T8 (by kernel_rfl) (by kernel_rfl) hrun (hP _ (hb.trans hb8)) ?_
    refine spineS_one 6 [] (by kernel_rfl) ?_
    refine set_exec (d := some 6) (v := v8) (w' := w8) T9 (by kernel_rfl) (by kernel_rfl) ?_ (hP _ (hb.trans hb8)) ?_
    · have e : (A.put (some 82) v8).eval (.tmp 82) = v8 := put_same _ _ _ (by rw [hA]; simp only [put_size, hs0]; decide)
      generalize (A.put (some 82) v8).eval = ρ at e ⊢
      go_simp
    · unfold SpineS
      rw [hA]
      exact fin v0 v2 v7 v8 w8 hp8 (hb.trans hb8)
  have A2 : ∀ (A : Act) (v0 : Value) (V : World) (b0 : Nat), A.tmps.getD 77 undef = v0 → A.tmps.getD 78 undef = .slice A6 N c6 → v0 = .slice (some ⟨b0, 0, none⟩) 0 0 → Below w.heap.size w V → JR V w.heap.size v0 [] →
      ∃ v2 V2, (execOp A.eval { dst := some 79, op := .call { callee := .builtin .append, args := #[.tmp 77, .tmp 78], argTypes := #[38, 38] }, type := 38, pos := "", after := #[], guard := none }).run Try.prog V = .ok (.value v2) V2 ∧ JR V2 w.heap.size v2 (m) ∧ Below w.heap.size w V2 ∧ V.grownBy V2 (some b0) := by
    intro A v0 V b0 h1 h2 h0 hb hp
    obtain ⟨v2, V2, hrun, hp2, hb2, hg2⟩ := run_appJ (o := { dst := some 79, op := .call { callee := .builtin .append, args := #[.tmp 77, .tmp 78], argTypes := #[38, 38] }, type := 38, pos := "", after := #[], guard := none }) (ρ := A.eval) (w := V) (base := w.heap.size) (.tmp 77) (.tmp 78) rfl h1 hp A6 N c6 (m) h2 hsrc (hR _ hb) (by simp only [List.length_nil]; omega) hb.size
    exact ⟨v2, V2, hrun, by rw [List.nil_append] at hp2; exact hp2, hb.trans hb2, by rw [h0] at hg2; exact hg2⟩
  refine spineS_two 0 4 [2, 4, 5, 6] [0, 2, 5, 6] (by kernel_rfl) ?_ ?_
  · have hb1 : Below w.heap.size w (V0.alloc (.cells #[] 27)) := hb0.trans ((Gw.alloc V0 _).mono hb0.size)
    have hp1 : JR (V0.alloc (.cells #[] 27)) w.heap.size (.slice (some ⟨V0.heap.size, 0, none⟩) 0 0) [] := JR.empty _ _ _ hb0.size (Bk.new V0 _ #[])
    refine set_exec T0 (by kernel_rfl) (by kernel_rfl) (S0 _ V0) (hP _ hb1) ?_
    generalize V0.alloc (.cells #[] 27) = V1 at hb1 hp1 ⊢
    refine spineS_two 2 4 [4, 5, 6] [2, 5, 6] (by kernel_rfl) ?_ ?_
    · obtain ⟨v2, V2, hrun, hp2, hb2, _⟩ := A2 (A0.put (some 77) (.slice (some ⟨V0.heap.size, 0, none⟩) 0 0)) _ V1 V0.heap.size (put_same _ _ _ (by rw [hs0]; decide)) ((put_other _ _ _ _ (by decide)).trans gx) rfl hb1 hp1
      refine set_exec T2 (by kernel_rfl) (by kernel_rfl) hrun (hP _ hb2) ?_
      refine spineS_one 4 [5, 6] (by kernel_rfl) ?_
      have hb3 := hb2.trans ((Gw.alloc V2 (.cells #[.int .i64 x, .int .i64 y] 27)).mono hb2.size)
      refine set_exec T7 (by kernel_rfl) (by kernel_rfl) (S7 _ V2 ((put_other _ _ _ _ (by decide)).trans ((put_other _ _ _ _ (by decide)).trans ge))) (hP _ hb3) ?_
      exact L _ _ _ _ V2.heap.size _ rfl rfl hb3 (hp2.below (Gw.alloc V2 _)) (Bk.new V2 _ _)
    · have hb3 := hb1.trans ((Gw.alloc V1 (.cells #[.int .i64 x, .int .i64 y] 27)).mono hb1.size)
      have hk3 := Bk.new V1 27 #[.int .i64 x, .int .i64 y]
      have hp3 := hp1.below (Gw.alloc V1 (.cells #[.int .i64 x, .int .i64 y] 27))
      have hne : V1.heap.size ≠ V0.heap.size := fun e => by have := (hp1.lt V0.heap.size rfl).2; omega
      refine set_exec T7 (by kernel_rfl) (by kernel_rfl) (S7 _ V1 ((put_other _ _ _ _ (by decide)).trans ge)) (hP _ hb3) ?_
      generalize V1.alloc (.cells #[.int .i64 x, .int .i64 y] 27) = V2 at hb3 hk3 hp3 ⊢
      refine spineS_one 2 [5, 6] (by kernel_rfl) ?_
      obtain ⟨v2, V3, hrun, hp4, hb4, hg4⟩ := A2 ((A0.put (some 77) (.slice (some ⟨V0.heap.size, 0, none⟩) 0 0)).put (some 81) (.slice (some ⟨V1.heap.size, 0, none⟩) 1 1)) _ V2 V0.heap.size ((put_other _ _ _ _ (by decide)).trans (put_same _ _ _ (by rw [hs0]; decide))) ((put_other _ _ _ _ (by decide)).trans ((put_other _ _ _ _ (by decide)).trans gx)) rfl hb3 hp3
      refine set_exec T2 (by kernel_rfl) (by kernel_rfl) hrun (hP _ hb4) ?_
      exact L _ _ _ _ V1.heap.size _ (put_comm _ _ _ _ _ (by decide)) rfl hb4 hp4 ((Kept.grown hg4).bk hk3 (fun e => by injection e with e; exact hne e.symm))
  · have hb1 := hb0.trans ((Gw.alloc V0 (.cells #[.int .i64 x, .int .i64 y] 27)).mono hb0.size)
    have hk1 := Bk.new V0 27 #[.int .i64 x, .int .i64 y]
    have hz1 : V0.heap.size < (V0.alloc (.cells #[.int .i64 x, .int .i64 y] 27)).heap.size := by simp
    refine set_exec T7 (by kernel_rfl) (by kernel_rfl) (S7 _ V0 ge) (hP _ hb1) ?_
    generalize V0.alloc (.cells #[.int .i64 x, .int .i64 y] 27) = V1 at hb1 hk1 hz1 ⊢
    refine spineS_one 0 [2, 5, 6] (by kernel_rfl) ?_
    have hb2 : Below w.heap.size w (V1.alloc (.cells #[] 27)) := hb1.trans ((Gw.alloc V1 _).mono hb1.size)
    have hp2 : JR (V1.alloc (.cells #[] 27)) w.heap.size (.slice (some ⟨V1.heap.size, 0, none⟩) 0 0) [] := JR.empty _ _ _ hb1.size (Bk.new V1 _ #[])
    have hk2 := hk1.below (Gw.alloc V1 (.cells #[] 27)) hk1.lt
    refine set_exec T0 (by kernel_rfl) (by kernel_rfl) (S0 _ V1) (hP _ hb2) ?_
    generalize V1.alloc (.cells #[] 27) = V2 at hb2 hp2 hk2 ⊢
    refine spineS_one 2 [5, 6] (by kernel_rfl) ?_
    obtain ⟨v2, V3, hrun, hp4, hb4, hg4⟩ := A2 ((A0.put (some 81) (.slice (some ⟨V0.heap.size, 0, none⟩) 1 1)).put (some 77) (.slice (some ⟨V1.heap.size, 0, none⟩) 0 0)) _ V2 V1.heap.size (put_same _ _ _ (by simp only [put_size, hs0]; decide)) ((put_other _ _ _ _ (by decide)).trans ((put_other _ _ _ _ (by decide)).trans gx)) rfl hb2 hp2
    refine set_exec T2 (by kernel_rfl) (by kernel_rfl) hrun (hP _ hb4) ?_
    exact L _ _ _ _ V0.heap.size _ (by rw [put_comm A0 81 77 _ _ (by decide), put_comm _ 81 79 _ _ (by decide)]) rfl hb4 hp4 ((Kept.grown hg4).bk hk2 (fun e => by injection e with e; omega))
theorem ks27_law (Q : Exit → Act → World → Prop) (a0 : Act) (w : World) (q N c6 t B6 : Nat) (m : List (Int × Int)) (HN : Hid (N = m.length)) (hc6 : N ≤ c6) (ht : t < N) (hN2 : m.length ≤ 10000) (hout : JR w B6 (.slice (some ⟨q, 0, none⟩) m.length c6) m) (hsz : a0.tmps.size = 162) (h6 : a0.tmps.getD 6 undef = .slice (some ⟨q, 0, none⟩) N c6) (h11 : a0.tmps.getD 11 undef = .int .i64 t)
    (fin : ∀ (XA : Option Addr) (v0 v2 v3 : Value) (w8 : World), JR w8 w.heap.size v3 (m.take t ++ m.drop (t + 1)) → Below w.heap.size w w8 →
      Q .normal (((((putA [(1, 96, .slice (some ⟨q, 0, none⟩) N c6), (2, 97, .int .i64 t), (3, 98, .slice (some ⟨q, 0, none⟩) t c6), (5, 100, .slice (some ⟨q, 0, none⟩) N c6), (6, 101, .int .i64 t), (7, 102, .int .i64 ((t : Int) + 1)), (8, 103, .slice XA (N - (t + 1)) (c6 - (t + 1)))] a0).put (some 95) v0).put (some 99) v2).put (some 104) v3).put (some 6) v3) w8) :
    (Code.region 27 (regIn Try.f4 27) true).wp Try.prog Q a0 w := by
  obtain ⟨XA, hXA⟩ : ∃ XA : Option Addr, XA = if c6 = t + 1 then some ⟨q, 0, none⟩ else some ⟨q, (t + 1) * 2, none⟩ := ⟨_, rfl⟩
  replace fin := fin XA
  have hR1 : ∀ w', Below w.heap.size w w' → RdJ w' (some ⟨q, 0, none⟩) (m.take t) := fun w' hb2 => (hout.below hb2).rdp.pre t
  have hR2 : ∀ w', Below w.heap.size w w' → RdJ w' XA (m.drop (t + 1)) := fun w' hb2 => by
    rw [hXA]
    by_cases hck : c6 = t + 1
    · have hd : m.drop (t + 1) = [] := List.drop_eq_nil_of_le (by have := HN.out; omega)
      rw [hd]
      intro i u hu
      cases hu
    · rw [if_neg hck]
      have h8 := (hout.below hb2).rdp.suf (t + 1)
      rw [show (0 : Nat) + 2 * (t + 1) = (t + 1) * 2 from by omega] at h8
      exact h8
  have hN4 : (N : Int) ≤ 10000 := by have := HN.out; omega
  have hs2 : N - (t + 1) = (m.drop (t + 1)).length := by rw [List.length_drop, ← HN.out]
  have hs1 : t = (m.take t).length := by rw [List.length_take]; have := HN.out; omega
  refine region_by_set [0, 4, 9, 10] [(1, 96, .slice (some ⟨q, 0, none⟩) N c6), (2, 97, .int .i64 t), (3, 98, .slice (some ⟨q, 0, none⟩) t c6), (5, 100, .slice (some ⟨q, 0, none⟩) N c6), (6, 101, .int .i64 t), (7, 102, .int .i64 ((t : Int) + 1)), (8, 103, .slice XA (N - (t + 1)) (c6 - (t + 1)))] (fun _ => True) (by kernel_rfl) (by rw [hsz]; kernel_rfl) (by kernel_rfl) (by kernel_rfl) (by kernel_rfl) trivial ?_ ?_
  · intro y hy V ρ hV hρ hcst
    have e6 : ρ (.tmp 6) = .slice (some ⟨q, 0, none⟩) N c6 := (hρ 6).trans (by simp only [putA]; repeat (first | with_reducible exact put_same _ _ _ (by simp only [put_size, hsz]; decide) | with_reducible refine (put_other _ _ _ _ (by decide)).trans ?_ | with_reducible exact h6))
    have e11 : ρ (.tmp 11) = .int .i64 t := (hρ 11).trans (by simp only [putA]; repeat (first | with_reducible exact put_same _ _ _ (by simp only [put_size, hsz]; decide) | with_reducible refine (put_other _ _ _ _ (by decide)).trans ?_ | with_reducible exact h11))
    have e96 : ρ (.tmp 96) = .slice (some ⟨q, 0, none⟩) N c6 := (hρ 96).trans (by simp only [putA]; repeat (first | with_reducible exact put_same _ _ _ (by simp only [put_size, hsz]; decide) | with_reducible refine (put_other _ _ _ _ (by decide)).trans ?_))
    have e97 : ρ (.tmp 97) = .int .i64 t := (hρ 97).trans (by simp only [putA]; repeat (first | with_reducible exact put_same _ _ _ (by simp only [put_size, hsz]; decide) | with_reducible refine (put_other _ _ _ _ (by decide)).trans ?_))
    have e100 : ρ (.tmp 100) = .slice (some ⟨q, 0, none⟩) N c6 := (hρ 100).trans (by simp only [putA]; repeat (first | with_reducible exact put_same _ _ _ (by simp only [put_size, hsz]; decide) | with_reducible refine (put_other _ _ _ _ (by decide)).trans ?_))
    have e101 : ρ (.tmp 101) = .int .i64 t := (hρ 101).trans (by simp only [putA]; repeat (first | with_reducible exact put_same _ _ _ (by simp only [put_size, hsz]; decide) | with_reducible refine (put_other _ _ _ _ (by decide)).trans ?_))
    have e102 : ρ (.tmp 102) = .int .i64 ((t : Int) + 1) := (hρ 102).trans (by simp only [putA]; repeat (first | with_reducible exact put_same _ _ _ (by simp only [put_size, hsz]; decide) | with_reducible refine (put_other _ _ _ _ (by decide)).trans ?_))
    have ec := hcst
    clear hρ fin hR1 hR2 hs1 hs2
    have t1 : (0 : Int) ≤ (t : Int) := by omega
    have t2 : (t : Int) < (N : Int) := by omega
    have t3 : (N : Int) ≤ (c6 : Int) := by omega
    simp only [List.mem_cons, List.not_mem_nil, or_false] at hy
    rcases hy with rfl | rfl | rfl | rfl | rfl | rfl | rfl
    · exact float_exec (op := .move (.tmp 6)) (type := 38) (by kernel_rfl) (by go_simp)
    · exact float_exec (op := .move (.tmp 11)) (type := 3) (by kernel_rfl) (by go_simp)
    · have hk2 : (t : Int) ≤ (c6 : Int) := (by omega); exact float_exec (op := .slice 38 (.tmp 96) none (some (.tmp 97)) none) (type := 38) (by kernel_rfl) (by go_simp)
    · exact float_exec (op := .move (.tmp 6)) (type := 38) (by kernel_rfl) (by go_simp)
    · exact float_exec (op := .move (.tmp 11)) (type := 3) (by kernel_rfl) (by go_simp)
    · have hwr : IntKind.i64.wrap ((t : Int) + 1) = (t : Int) + 1 := IntWalk.i64_in _ (by omega)
      exact float_exec (op := .binOp .add 3 (.tmp 101) (.const (.int .i64 1)) 3) (type := 3) (by kernel_rfl) (by go_simp)
    · have hk3 : (t : Int) + 1 ≤ (N : Int) := (by omega)
      have hk4 : (0 : Int) ≤ (t : Int) + 1 := (by omega)
      exact float_exec (op := .slice 38 (.tmp 100) (some (.tmp 102)) none none) (type := 38) (by kernel_rfl) (by
        by_cases hck : c6 = t + 1
        · rw [if_pos hck] at hXA
          subst hXA
          subst hck
          have hk5 : (N : Int) = (t : Int) + 1 := by omega
          go_simp
        · rw [if_neg hck] at hXA
          subst hXA
          have hk5 : (t : Int) + 1 < (c6 : Int) := by omega
          go_simp)
  obtain ⟨A0, hA0⟩ : ∃ A, A = putA [(1, 96, .slice (some ⟨q, 0, none⟩) N c6), (2, 97, .int .i64 t), (3, 98, .slice (some ⟨q, 0, none⟩) t c6), (5, 100, .slice (some ⟨q, 0, none⟩) N c6), (6, 101, .int .i64 t), (7, 102, .int .i64 ((t : Int) + 1)), (8, 103, .slice XA (N - (t + 1)) (c6 - (t + 1)))] a0 := ⟨_, rfl⟩
  have hs0 : A0.tmps.size = 162 := by rw [hA0]; simp only [putA, put_size, hsz]
  have gx : A0.tmps.getD 98 undef = .slice (some ⟨q, 0, none⟩) t c6 := by rw [hA0]; simp only [putA]; repeat (first | with_reducible exact put_same _ _ _ (by simp only [put_size, hsz]; decide) | with_reducible refine (put_other _ _ _ _ (by decide)).trans ?_)
  have ge : A0.tmps.getD 103 undef = .slice XA (N - (t + 1)) (c6 - (t + 1)) := by rw [hA0]; simp only [putA]; repeat (first | with_reducible exact put_same _ _ _ (by simp only [put_size, hsz]; decide) | with_reducible refine (put_other _ _ _ _ (by decide)).trans ?_)
  rw [← hA0] at fin ⊢
  clear hA0 h6 h11
  have hb0 : Below w.heap.size w w.drew := Gw.drew w
  generalize w.drew = V0 at hb0 ⊢
  have S0 : ∀ (ρ : Operand → Value) (V : World), (execOp ρ { dst := some 95, op := .buildSlice 38 0 #[], type := 38, pos := "", after := #[], guard := none }).run Try.prog V = .ok (.value (.slice (some ⟨V.heap.size, 0, none⟩) 0 0)) (V.alloc (.cells #[] 27)) := fun ρ V => by go_simp
  have T0 : (regIn Try.f4 27)[0]?.map (fun o => (o.op, o.type)) = some (.buildSlice 38 0 #[], 38) := by kernel_rfl
  have T2 : (regIn Try.f4 27)[4]?.map (fun o => (o.op, o.type)) = some (.call { callee := .builtin .append, args := #[.tmp 95, .tmp 98], argTypes := #[38, 38] }, 38) := by kernel_rfl
  have T3 : (regIn Try.f4 27)[9]?.map (fun o => (o.op, o.type)) = some (.call { callee := .builtin .append, args := #[.tmp 99, .tmp 103], argTypes := #[38, 38] }, 38) := by kernel_rfl
  have T9 : (regIn Try.f4 27)[10]?.map (fun o => (o.op, o.type)) = some (.assign (.tmp 104), 38) := by kernel_rfl
  have hb1 : Below w.heap.size w (V0.alloc (.cells #[] 27)) := hb0.trans ((Gw.alloc V0 _).mono hb0.size)
  have hp1 : JR (V0.alloc (.cells #[] 27)) w.heap.size (.slice (some ⟨V0.heap.size, 0, none⟩) 0 0) [] := JR.empty _ _ _ hb0.size (Bk.new V0 _ #[])
  refine spineS_one 0 [4, 9, 10] (by kernel_rfl) ?_
  refine set_exec T0 (by kernel_rfl) (by kernel_rfl) (S0 _ V0) trivial ?_
  generalize V0.alloc (.cells #[] 27) = V1 at hb1 hp1 ⊢
  refine spineS_one 4 [9, 10] (by kernel_rfl) ?_
  obtain ⟨v2, V2, hrun2, hp2, hb2, _⟩ := run_appJ (o := { dst := some 99, op := .call { callee := .builtin .append, args := #[.tmp 95, .tmp 98], argTypes := #[38, 38] }, type := 38, pos := "", after := #[], guard := none }) (ρ := (A0.put (some 95) (.slice (some ⟨V0.heap.size, 0, none⟩) 0 0)).eval) (w := V1) (base := w.heap.size) (.tmp 95) (.tmp 98) rfl (put_same _ _ _ (by rw [hs0]; decide)) hp1 (some ⟨q, 0, none⟩) t c6 (m.take t) ((put_other _ _ _ _ (by decide)).trans gx) hs1 (hR1 _ hb1) (by simp only [List.length_nil, List.length_take]; omega) hb1.size
  rw [List.nil_append] at hp2
  have hb3 := hb1.trans hb2
  refine set_exec T2 (by kernel_rfl) (by kernel_rfl) hrun2 trivial ?_
  refine spineS_one 9 [10] (by kernel_rfl) ?_
  obtain ⟨v3, V3, hrun3, hp3, hb4, _⟩ := run_appJ (o := { dst := some 104, op := .call { callee := .builtin .append, args := #[.tmp 99, .tmp 103], argTypes := #[38, 38] }, type := 38, pos := "", after := #[], guard := none }) (ρ := ((A0.put (some 95) (.slice (some ⟨V0.heap.size, 0, none⟩) 0 0)).put (some 99) v2).eval) (w := V2) (base := w.heap.size) (.tmp 99) (.tmp 103) rfl (put_same _ _ _ (by simp only [put_size, hs0]; decide)) hp2 XA (N - (t + 1)) (c6 - (t + 1)) (m.drop (t + 1)) ((put_other _ _ _ _ (by decide)).trans ((put_other _ _ _ _ (by decide)).trans ge)) hs2 (hR2 _ hb3) (by simp only [List.length_drop, List.length_take]; omega) hb3.size
  refine set_exec T3 (by kernel_rfl) (by kernel_rfl) hrun3 trivial ?_
  refine spineS_one 10 [] (by kernel_rfl) ?_
  refine set_exec (d := some 6) (v := v3) (w' := V3) T9 (by kernel_rfl) (by kernel_rfl) ?_ trivial ?_
  · have e : ((((A0.put (some 95) (.slice (some ⟨V0.heap.size, 0, none⟩) 0 0)).put (some 99) v2).put (some 104) v3)).eval (.tmp 104) = v3 := put_same _ _ _ (by simp only [put_size, hs0]; decide)
    generalize ((((A0.put (some 95) (.slice (some ⟨V0.heap.size, 0, none⟩) 0 0)).put (some 99) v2).put (some 104) v3)).eval = ρ at e ⊢
    go_simp
  · unfold SpineS
    exact fin _ _ _ _ hp3 (hb3.trans hb4)
end Go.Proofs.Ytgddehhigamkkaa
