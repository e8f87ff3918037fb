/- A row of roots that grows in loamlaw19.rising. Conditions: lengths. -/
import Derived.Test.YtdfhdgdhhgabbaaNmA3
import Derived.Test.YtdfhdgdhhgabbaaRegY
namespace Go.Proofs.Ytdfhdgdhhgabbaa
set_option linter.unusedVariables false
set_option linter.unusedSimpArgs false
open Go.RowKit Go.Maps
set_option maxHeartbeats 1000000
set_option maxRecDepth 100000
section
variable {w : World} {base : Nat} {v : Value} {l : List (ByteArray × Int)}
/-- append of roots, by its run. -/
theorem run_appT {o : Oper} {ρ : Operand → Value} (s x : Operand)
    (ho : o.op = .call { callee := .builtin .append, args := #[s, x], argTypes := #[35, 35] })
    (hs : ρ s = v) (hown : TR w base v l)
    (A : Option Addr) (m c : Nat) (ys : List (ByteArray × Int)) (hx : ρ x = .slice A m c) (hm : m = ys.length) (hr : RdT w A ys)
    (h63 : l.length + ys.length ≤ 100000) (hbase : base ≤ w.heap.size) :
    ∃ v' w', (execOp ρ o).run Try.prog w = .ok (.value v') w' ∧ TR w' base v' (l ++ ys) ∧ Below base w w' ∧ w.grownBy w' v.ownBlock := by
  subst hm
  obtain ⟨i, hi, hz, hsize, hbytes⟩ := info_parts infoR
  have hu := Try.underlying35
  have hbel : ∀ (v' : Value) (w' : World), w.grownBy w' v.ownBlock → Below base w w' := fun v' w' hg => (Below.refl _ _).grown hg hbase (fun k hk => (World.ownsRow.lt hown k hk).1)
  rcases A with _ | ad
  · have h0 : ys = [] := by
      cases ys with
      | nil => rfl
      | cons p ys =>
        obtain ⟨a, e, _⟩ := hr 0 (.string p.1) rfl
        cases e
    subst h0
    have hrun : (Builtin.append_ #[35, 35] o.type #[v, .slice none 0 c]).run Try.prog w = .ok v w := by
      rcases hown.2 with ⟨rfl, hn⟩ | ⟨g, cap, cur, rfl, _, _, hnc, _⟩
      · simp [Builtin.append_, run_underlying hu, sizeOf, typeInfo, hi, Builtin.lenOf, Builtin.firstCells]
      · simp [Builtin.append_, run_underlying hu, sizeOf, typeInfo, hi, Builtin.lenOf, Builtin.firstCells, hnc, storeCells]
    refine ⟨v, w, ?_, by simpa using hown, Below.refl _ _, World.grownBy.refl w _⟩
    unfold execOp
    simp only [ho, resolve, invoke, builtin, Sem.run_bind, Sem.run_pure, Result.andThen_ok, List.map_toArray, List.map_cons, List.map_nil, hs, hx, List.length_nil, hrun]
  · obtain ⟨v', w', hrun, h2, h3, _, h5⟩ := run_append_own_at (P := Try.prog) w base 35 o.type 42 i _ 2 24 hu hi hz hsize hbytes rfl (by decide) v l.length (flatT l) hown ad ys.length c (flatT ys) (flatT_len ys)
      (fun j u hj => by
        obtain ⟨a, e, hc⟩ := hr j u hj
        injection e with e
        subst e
        exact hc) (flatT_one ys) (by unfold maxLen; omega) (by omega) hbase
    refine ⟨v', w', ?_, ?_, hbel v' w' h3, h3⟩
    · unfold execOp
      simp only [ho, resolve, invoke, builtin, Sem.run_bind, Sem.run_pure, Result.andThen_ok, List.map_toArray, List.map_cons, List.map_nil, hs, hx, hrun]
    · unfold TR
      rw [List.length_append, flatT_app]
      exact h2
end
theorem TR.ofB {w : World} {q : Nat} (p : ByteArray × Int) (h : Bk w q 42 #[.string p.1, .int .i64 p.2]) : RdT w (some ⟨q, 0, none⟩) [p] := RdT.one h
/-- A slice's address reads as roots. -/
def RtD (W : World) (B : Nat) (A : Option Addr) (ks : List (ByteArray × Int)) : Prop := ∀ k (h : k < ks.length), ∃ ad, A = some ad ∧ ad.block < B ∧ W.cell? (ad.add (k * 2)) = some (.string ks[k].1) ∧ W.cell? ⟨(ad.add (k * 2)).block, (ad.add (k * 2)).off + 1, none⟩ = some (.int .i64 ks[k].2)
theorem RtD.below {w w' : World} {A : Option Addr} {ks : List (ByteArray × Int)} (h : RtD w w.heap.size A ks) (hb : Below w.heap.size w w') : RtD w' w'.heap.size A ks := fun k hk => by
  obtain ⟨ad, e, h1, h2, h3⟩ := h k hk
  exact ⟨ad, e, Nat.lt_of_lt_of_le h1 hb.size, (hb.cell (by rw [add_block]; exact h1)).trans h2, (hb.cell (p := ⟨(ad.add (k * 2)).block, (ad.add (k * 2)).off + 1, none⟩) (by show (ad.add (k * 2)).block < _; rw [add_block]; exact h1)).trans h3⟩
theorem TR.rtd {w : World} {base : Nat} {A : Option Addr} {n c : Nat} {ks : List (ByteArray × Int)} (h : TR w base (.slice A n c) ks) : RtD w w.heap.size A ks := by
  intro k hk
  obtain ⟨q, rfl, _, hq, h1, h2⟩ := h.at_ k hk
  refine ⟨⟨q, 0, none⟩, rfl, hq, ?_, ?_⟩
  · rw [add_offN, Nat.zero_add]; exact h1
  · rw [add_offN, Nat.zero_add]; exact h2
theorem ri8_law (Q : Exit → Act → World → Prop) (a0 : Act) (w : World) (A3 AL : Option Addr) (ad : Addr) (N c3 n cL k i B3 : Nat) (out : List (ByteArray × Int)) (x : ByteArray) (y : Int) (hAL : AL = some ad) (HN : Hid (N = out.length)) (hc3 : N ≤ c3) (hk : k ≤ N) (hi1 : (0 : Int) ≤ (i : Int)) (hi2 : (i : Int) < (n : Int)) (hN2 : out.length ≤ 10000) (hout : TR w B3 (.slice A3 out.length c3) out) (hb : ad.block < w.heap.size) (cx : w.cell? (ad.add (i * 2)) = some (.string x)) (cy : w.cell? ⟨(ad.add (i * 2)).block, (ad.add (i * 2)).off + 1, none⟩ = some (.int .i64 y)) (hsz : a0.tmps.size = 50) (h0 : a0.tmps.getD 0 undef = .slice AL n cL) (h3 : a0.tmps.getD 3 undef = .slice A3 N c3) (h4 : a0.tmps.getD 4 undef = .int .i64 i) (h5 : a0.tmps.getD 5 undef = .int .i64 k)
    (fin : ∀ (v0 v2 v7 v8 : Value) (w8 : World), TR w8 w.heap.size v8 (out.take k ++ [(x, y)]) → Below w.heap.size w w8 →
      Q .normal ((((((putA [(1, 34, .slice A3 N c3), (2, 35, .int .i64 k), (3, 36, .slice A3 k c3), (5, 38, .slice AL n cL), (6, 39, .int .i64 i), (7, 40, .pointer (some (ad.add (i * 2)))), (8, 41, .agg #[.string x, .int .i64 y])] a0).put (some 33) v0).put (some 37) v2).put (some 42) v7).put (some 43) v8).put (some 6) v8) w8) :
    (Code.region 8 (regIn Try.f18 8) true).wp Try.prog Q a0 w := by
  have hP : ∀ w', Below w.heap.size w w' → (fun W => W.cell? (ad.add (i * 2)) = some (.string x) ∧ W.cell? ⟨(ad.add (i * 2)).block, (ad.add (i * 2)).off + 1, none⟩ = some (.int .i64 y)) w' := fun w' hb2 => ⟨(hb2.cell (by rw [add_block]; exact hb)).trans cx, (hb2.cell (p := ⟨(ad.add (i * 2)).block, (ad.add (i * 2)).off + 1, none⟩) (by show (ad.add (i * 2)).block < _; rw [add_block]; exact hb)).trans cy⟩
  have hR : ∀ w', Below w.heap.size w w' → RdT w' A3 (out.take k) := fun w' hb2 => (hout.below hb2).rdp.pre k
  have hlen : (out.take k).length ≤ 10000 := by rw [List.length_take]; omega
  refine region_by_set [0, 4, 9, 10, 11] [(1, 34, .slice A3 N c3), (2, 35, .int .i64 k), (3, 36, .slice A3 k c3), (5, 38, .slice AL n cL), (6, 39, .int .i64 i), (7, 40, .pointer (some (ad.add (i * 2)))), (8, 41, .agg #[.string x, .int .i64 y])] (fun W => W.cell? (ad.add (i * 2)) = some (.string x) ∧ W.cell? ⟨(ad.add (i * 2)).block, (ad.add (i * 2)).off + 1, none⟩ = some (.int .i64 y)) (by kernel_rfl) (by rw [hsz]; kernel_rfl) (by kernel_rfl) (by kernel_rfl) (by kernel_rfl) (hP _ (Gw.drew _)) ?_ ?_
  · intro y hy V ρ hV hρ hcst
    have e3 : ρ (.tmp 3) = .slice A3 N c3 := (hρ 3).trans (by simp only [putA]; repeat (first | with_reducible exact put_same _ _ _ (by simp only [put_size, hsz]; decide) | with_reducible refine (put_other _ _ _ _ (by decide)).trans ?_ | with_reducible exact h3))
    have e5 : ρ (.tmp 5) = .int .i64 k := (hρ 5).trans (by simp only [putA]; repeat (first | with_reducible exact put_same _ _ _ (by simp only [put_size, hsz]; decide) | with_reducible refine (put_other _ _ _ _ (by decide)).trans ?_ | with_reducible exact h5))
    have e34 : ρ (.tmp 34) = .slice A3 N c3 := (hρ 34).trans (by simp only [putA]; repeat (first | with_reducible exact put_same _ _ _ (by simp only [put_size, hsz]; decide) | with_reducible refine (put_other _ _ _ _ (by decide)).trans ?_))
    have e35 : ρ (.tmp 35) = .int .i64 k := (hρ 35).trans (by simp only [putA]; repeat (first | with_reducible exact put_same _ _ _ (by simp only [put_size, hsz]; decide) | with_reducible refine (put_other _ _ _ _ (by decide)).trans ?_))
    have e0 : ρ (.tmp 0) = .slice AL n cL := (hρ 0).trans (by simp only [putA]; repeat (first | with_reducible exact put_same _ _ _ (by simp only [put_size, hsz]; decide) | with_reducible refine (put_other _ _ _ _ (by decide)).trans ?_ | with_reducible exact h0))
    have e4 : ρ (.tmp 4) = .int .i64 i := (hρ 4).trans (by simp only [putA]; repeat (first | with_reducible exact put_same _ _ _ (by simp only [put_size, hsz]; decide) | with_reducible refine (put_other _ _ _ _ (by decide)).trans ?_ | with_reducible exact h4))
    have e38 : ρ (.tmp 38) = .slice AL n cL := (hρ 38).trans (by simp only [putA]; repeat (first | with_reducible exact put_same _ _ _ (by simp only [put_size, hsz]; decide) | with_reducible refine (put_other _ _ _ _ (by decide)).trans ?_))
    have e39 : ρ (.tmp 39) = .int .i64 i := (hρ 39).trans (by simp only [putA]; repeat (first | with_reducible exact put_same _ _ _ (by simp only [put_size, hsz]; decide) | with_reducible refine (put_other _ _ _ _ (by decide)).trans ?_))
    have e40 : ρ (.tmp 40) = .pointer (some (ad.add (i * 2))) := (hρ 40).trans (by simp only [putA]; repeat (first | with_reducible exact put_same _ _ _ (by simp only [put_size, hsz]; decide) | with_reducible refine (put_other _ _ _ _ (by decide)).trans ?_))
    clear hρ fin
    simp only [List.mem_cons, List.not_mem_nil, or_false] at hy
    rcases hy with rfl | rfl | rfl | rfl | rfl | rfl | rfl
    · exact float_exec (op := .move (.tmp 3)) (type := 35) (by kernel_rfl) (by go_simp)
    · exact float_exec (op := .move (.tmp 5)) (type := 3) (by kernel_rfl) (by go_simp)
    · have hk2 : (k : Int) ≤ (c3 : Int) := (by omega); exact float_exec (op := .slice 35 (.tmp 34) none (some (.tmp 35)) none) (type := 35) (by kernel_rfl) (by go_simp)
    · exact float_exec (op := .move (.tmp 0)) (type := 35) (by kernel_rfl) (by go_simp)
    · exact float_exec (op := .move (.tmp 4)) (type := 3) (by kernel_rfl) (by go_simp)
    · subst hAL; exact float_exec (op := .indexAddr 35 (.tmp 38) (.tmp 39)) (type := 0) (by kernel_rfl) (by go_simp)
    · obtain ⟨cv1, cv2⟩ := hV; exact float_exec (op := .load 42 (.tmp 40)) (type := 42) (by kernel_rfl) (by go_simp)
  obtain ⟨A0, hA0⟩ : ∃ A, A = putA [(1, 34, .slice A3 N c3), (2, 35, .int .i64 k), (3, 36, .slice A3 k c3), (5, 38, .slice AL n cL), (6, 39, .int .i64 i), (7, 40, .pointer (some (ad.add (i * 2)))), (8, 41, .agg #[.string x, .int .i64 y])] a0 := ⟨_, rfl⟩
  have hs0 : A0.tmps.size = 50 := by rw [hA0]; simp only [putA, put_size, hsz]
  have gx : A0.tmps.getD 36 undef = .slice A3 k c3 := by rw [hA0]; simp only [putA]; repeat (first | with_reducible exact put_same _ _ _ (by simp only [put_size, hsz]; decide) | with_reducible refine (put_other _ _ _ _ (by decide)).trans ?_)
  have ge : A0.tmps.getD 41 undef = .agg #[.string x, .int .i64 y] := by rw [hA0]; simp only [putA]; repeat (first | with_reducible exact put_same _ _ _ (by simp only [put_size, hsz]; decide) | with_reducible refine (put_other _ _ _ _ (by decide)).trans ?_)
  have hsrc : k = (out.take k).length := by rw [List.length_take]; have := HN.out; omega
  rw [← hA0] at fin ⊢
  clear hA0 h0 h3 h4 h5
  have hb0 : Below w.heap.size w w.drew := Gw.drew w
  generalize w.drew = V0 at hb0 ⊢
  have S0 : ∀ (ρ : Operand → Value) (V : World), (execOp ρ { dst := some 33, op := .buildSlice 35 0 #[], type := 35, pos := "", after := #[], guard := none }).run Try.prog V = .ok (.value (.slice (some ⟨V.heap.size, 0, none⟩) 0 0)) (V.alloc (.cells #[] 42)) := fun ρ V => by go_simp
  have S7 : ∀ (ρ : Operand → Value) (V : World), ρ (.tmp 41) = .agg #[.string x, .int .i64 y] → (execOp ρ { dst := some 42, op := .buildSlice 35 1 #[(0, .tmp 41)], type := 35, pos := "", after := #[], guard := none }).run Try.prog V = .ok (.value (.slice (some ⟨V.heap.size, 0, none⟩) 1 1)) (V.alloc (.cells #[.string x, .int .i64 y] 42)) := fun ρ V e => by go_simp
  have T0 : (regIn Try.f18 8)[0]?.map (fun o => (o.op, o.type)) = some (.buildSlice 35 0 #[], 35) := by kernel_rfl
  have T2 : (regIn Try.f18 8)[4]?.map (fun o => (o.op, o.type)) = some (.call { callee := .builtin .append, args := #[.tmp 33, .tmp 36], argTypes := #[35, 35] }, 35) := by kernel_rfl
  have T7 : (regIn Try.f18 8)[9]?.map (fun o => (o.op, o.type)) = some (.buildSlice 35 1 #[(0, .tmp 41)], 35) := by kernel_rfl
  have T8 : (regIn Try.f18 8)[10]?.map (fun o => (o.op, o.type)) = some (.call { callee := .builtin .append, args := #[.tmp 37, .tmp 42], argTypes := #[35, 35] }, 35) := by kernel_rfl
  have T9 : (regIn Try.f18 8)[11]?.map (fun o => (o.op, o.type)) = some (.assign (.tmp 43), 35) := by kernel_rfl
  have L : ∀ (A : Act) (v0 v2 v7 : Value) (b7 : Nat) (V : World), A = (((A0.put (some 33) v0).put (some 37) v2).put (some 42) v7) → v7 = .slice (some ⟨b7, 0, none⟩) 1 1 → Below w.heap.size w V → TR V w.heap.size v2 (out.take k) → Bk V b7 42 #[.string x, .int .i64 y] →
      SpineS Try.prog (regIn Try.f18 8) Q (fun W => W.cell? (ad.add (i * 2)) = some (.string x) ∧ W.cell? ⟨(ad.add (i * 2)).block, (ad.add (i * 2)).off + 1, none⟩ = some (.int .i64 y)) 2 [10, 11] A V := by
    intro A v0 v2 v7 b7 V hA h7 hb hp hk
    refine spineS_one 10 [11] (by kernel_rfl) ?_
    obtain ⟨v8, w8, hrun, hp8, hb8, _⟩ := run_appT (o := { dst := some 43, op := .call { callee := .builtin .append, args := #[.tmp 37, .tmp 42], argTypes := #[35, 35] }, type := 35, pos := "", after := #[], guard := none }) (ρ := A.eval) (w := V) (base := w.heap.size) (.tmp 37) (.tmp 42) rfl
      (show A.tmps.getD 37 undef = v2 from by rw [hA]; exact (put_other _ _ _ _ (by decide)).trans (put_same _ _ _ (by simp only [put_size, hs0]; decide))) hp (some ⟨b7, 0, none⟩) 1 1 [(x, y)] (show A.tmps.getD 42 undef = _ from by rw [hA, ← h7]; exact put_same _ _ _ (by simp only [put_size, hs0]; decide)) rfl (TR.ofB (x, y) hk) (by simp only [List.length_cons, List.length_nil]; omega) hb.size
    refine set_exec T8 (by kernel_rfl) (by kernel_rfl) hrun (hP _ (hb.trans hb8)) ?_
    refine spineS_one 11 [] (by kernel_rfl) ?_
    refine set_exec (d := some 6) (v := v8) (w' := w8) T9 (by kernel_rfl) (by kernel_rfl) ?_ (hP _ (hb.trans hb8)) ?_
    · have e : (A.put (some 43) v8).eval (.tmp 43) = v8 := put_same _ _ _ (by rw [hA]; simp only [put_size, hs0]; decide)
      generalize (A.put (some 43) v8).eval = ρ at e ⊢
      go_simp
    · unfold SpineS
      rw [hA]
      exact fin v0 v2 v7 v8 w8 hp8 (hb.trans hb8)
  have A2 : ∀ (A : Act) (v0 : Value) (V : World) (b0 : Nat), A.tmps.getD 33 undef = v0 → A.tmps.getD 36 undef = .slice A3 k c3 → v0 = .slice (some ⟨b0, 0, none⟩) 0 0 → Below w.heap.size w V → TR V w.heap.size v0 [] →
      ∃ v2 V2, (execOp A.eval { dst := some 37, op := .call { callee := .builtin .append, args := #[.tmp 33, .tmp 36], argTypes := #[35, 35] }, type := 35, pos := "", after := #[], guard := none }).run Try.prog V = .ok (.value v2) V2 ∧ TR V2 w.heap.size v2 (out.take k) ∧ Below w.heap.size w V2 ∧ V.grownBy V2 (some b0) := by
    intro A v0 V b0 h1 h2 h0 hb hp
    obtain ⟨v2, V2, hrun, hp2, hb2, hg2⟩ := run_appT (o := { dst := some 37, op := .call { callee := .builtin .append, args := #[.tmp 33, .tmp 36], argTypes := #[35, 35] }, type := 35, pos := "", after := #[], guard := none }) (ρ := A.eval) (w := V) (base := w.heap.size) (.tmp 33) (.tmp 36) rfl h1 hp A3 k c3 (out.take k) h2 hsrc (hR _ hb) (by simp only [List.length_nil]; omega) hb.size
    exact ⟨v2, V2, hrun, by rw [List.nil_append] at hp2; exact hp2, hb.trans hb2, by rw [h0] at hg2; exact hg2⟩
  refine spineS_two 0 9 [4, 9, 10, 11] [0, 4, 10, 11] (by kernel_rfl) ?_ ?_
  · have hb1 : Below w.heap.size w (V0.alloc (.cells #[] 42)) := hb0.trans ((Gw.alloc V0 _).mono hb0.size)
    have hp1 : TR (V0.alloc (.cells #[] 42)) w.heap.size (.slice (some ⟨V0.heap.size, 0, none⟩) 0 0) [] := TR.empty _ _ _ hb0.size (Bk.new V0 _ #[])
    refine set_exec T0 (by kernel_rfl) (by kernel_rfl) (S0 _ V0) (hP _ hb1) ?_
    generalize V0.alloc (.cells #[] 42) = V1 at hb1 hp1 ⊢
    refine spineS_two 4 9 [9, 10, 11] [4, 10, 11] (by kernel_rfl) ?_ ?_
    · obtain ⟨v2, V2, hrun, hp2, hb2, _⟩ := A2 (A0.put (some 33) (.slice (some ⟨V0.heap.size, 0, none⟩) 0 0)) _ V1 V0.heap.size (put_same _ _ _ (by rw [hs0]; decide)) ((put_other _ _ _ _ (by decide)).trans gx) rfl hb1 hp1
      refine set_exec T2 (by kernel_rfl) (by kernel_rfl) hrun (hP _ hb2) ?_
      refine spineS_one 9 [10, 11] (by kernel_rfl) ?_
      have hb3 := hb2.trans ((Gw.alloc V2 (.cells #[.string x, .int .i64 y] 42)).mono hb2.size)
      refine set_exec T7 (by kernel_rfl) (by kernel_rfl) (S7 _ V2 ((put_other _ _ _ _ (by decide)).trans ((put_other _ _ _ _ (by decide)).trans ge))) (hP _ hb3) ?_
      exact L _ _ _ _ V2.heap.size _ rfl rfl hb3 (hp2.below (Gw.alloc V2 _)) (Bk.new V2 _ _)
    · have hb3 := hb1.trans ((Gw.alloc V1 (.cells #[.string x, .int .i64 y] 42)).mono hb1.size)
      have hk3 := Bk.new V1 42 #[.string x, .int .i64 y]
      have hp3 := hp1.below (Gw.alloc V1 (.cells #[.string x, .int .i64 y] 42))
      have hne : V1.heap.size ≠ V0.heap.size := fun e => by have := (hp1.lt V0.heap.size rfl).2; omega
      refine set_exec T7 (by kernel_rfl) (by kernel_rfl) (S7 _ V1 ((put_other _ _ _ _ (by decide)).trans ge)) (hP _ hb3) ?_
      generalize V1.alloc (.cells #[.string x, .int .i64 y] 42) = V2 at hb3 hk3 hp3 ⊢
      refine spineS_one 4 [10, 11] (by kernel_rfl) ?_
      obtain ⟨v2, V3, hrun, hp4, hb4, hg4⟩ := A2 ((A0.put (some 33) (.slice (some ⟨V0.heap.size, 0, none⟩) 0 0)).put (some 42) (.slice (some ⟨V1.heap.size, 0, none⟩) 1 1)) _ V2 V0.heap.size ((put_other _ _ _ _ (by decide)).trans (put_same _ _ _ (by rw [hs0]; decide))) ((put_other _ _ _ _ (by decide)).trans ((put_other _ _ _ _ (by decide)).trans gx)) rfl hb3 hp3
      refine set_exec T2 (by kernel_rfl) (by kernel_rfl) hrun (hP _ hb4) ?_
      exact L _ _ _ _ V1.heap.size _ (put_comm _ _ _ _ _ (by decide)) rfl hb4 hp4 ((Kept.grown hg4).bk hk3 (fun e => by injection e with e; exact hne e.symm))
  · have hb1 := hb0.trans ((Gw.alloc V0 (.cells #[.string x, .int .i64 y] 42)).mono hb0.size)
    have hk1 := Bk.new V0 42 #[.string x, .int .i64 y]
    have hz1 : V0.heap.size < (V0.alloc (.cells #[.string x, .int .i64 y] 42)).heap.size := by simp
    refine set_exec T7 (by kernel_rfl) (by kernel_rfl) (S7 _ V0 ge) (hP _ hb1) ?_
    generalize V0.alloc (.cells #[.string x, .int .i64 y] 42) = V1 at hb1 hk1 hz1 ⊢
    refine spineS_one 0 [4, 10, 11] (by kernel_rfl) ?_
    have hb2 : Below w.heap.size w (V1.alloc (.cells #[] 42)) := hb1.trans ((Gw.alloc V1 _).mono hb1.size)
    have hp2 : TR (V1.alloc (.cells #[] 42)) w.heap.size (.slice (some ⟨V1.heap.size, 0, none⟩) 0 0) [] := TR.empty _ _ _ hb1.size (Bk.new V1 _ #[])
    have hk2 := hk1.below (Gw.alloc V1 (.cells #[] 42)) hk1.lt
    refine set_exec T0 (by kernel_rfl) (by kernel_rfl) (S0 _ V1) (hP _ hb2) ?_
    generalize V1.alloc (.cells #[] 42) = V2 at hb2 hp2 hk2 ⊢
    refine spineS_one 4 [10, 11] (by kernel_rfl) ?_
    obtain ⟨v2, V3, hrun, hp4, hb4, hg4⟩ := A2 ((A0.put (some 42) (.slice (some ⟨V0.heap.size, 0, none⟩) 1 1)).put (some 33) (.slice (some ⟨V1.heap.size, 0, none⟩) 0 0)) _ V2 V1.heap.size (put_same _ _ _ (by simp only [put_size, hs0]; decide)) ((put_other _ _ _ _ (by decide)).trans ((put_other _ _ _ _ (by decide)).trans gx)) rfl hb2 hp2
    refine set_exec T2 (by kernel_rfl) (by kernel_rfl) hrun (hP _ hb4) ?_
    exact L _ _ _ _ V0.heap.size _ (by rw [put_comm A0 42 33 _ _ (by decide), put_comm _ 42 37 _ _ (by decide)]) rfl hb4 hp4 ((Kept.grown hg4).bk hk2 (fun e => by injection e with e; omega))
end Go.Proofs.Ytdfhdgdhhgabbaa
