/- Texts joined: NmA7 RegP. -/
import Derived.Test.YtdfhdgdhhgabbaaTd1
import Derived.Test.YtdfhdgdhhgabbaaRegS
/- TablePlays: a table and a row of texts beside it, an act's own block. Conditions: lengths. -/
namespace Go.Proofs.Ytdfhdgdhhgabbaa
set_option linter.unusedVariables false
set_option linter.unusedSimpArgs false
open Go.RowKit Go.Maps
set_option maxHeartbeats 1000000
set_option maxRecDepth 100000
def acL (op : Int) (k : Nm) (z : Int) : List Value := .int .i64 op :: (k.map b8 ++ [.int .i64 z])
def acS (op : Int) (k : Nm) (z : Int) : Array Value := (acL op k z).toArray
theorem acL_len {op z : Int} {k : Nm} (hk : nW k) : (acL op k z).length = 34 := by
  unfold acL
  rw [List.length_cons, List.length_append, List.length_map, show k.length = 32 from hk]
  rfl
theorem acS_size {op z : Int} {k : Nm} (hk : nW k) : (acS op k z).size = 34 := by unfold acS; rw [List.size_toArray]; exact acL_len hk
theorem acS_one (op z : Int) (k : Nm) : (acS op k z).all (·.oneCell') = true := by
  unfold acS
  rw [Array.all_eq_true_iff_forall_mem]
  intro x hx
  rw [List.mem_toArray] at hx
  unfold acL at hx
  rcases List.mem_cons.1 hx with rfl | hx
  · rfl
  · rcases List.mem_append.1 hx with hx | hx
    · obtain ⟨b, _, rfl⟩ := List.mem_map.1 hx
      rfl
    · have : x = .int .i64 z := by simpa using hx
      subst this
      rfl
theorem acL_op {op z : Int} {k : Nm} : (acL op k z)[0]? = some (.int .i64 op) := rfl
theorem acL_nm {op z : Int} {k : Nm} {j : Nat} {u : Value} (h : (k.map b8)[j]? = some u) : (acL op k z)[j + 1]? = some u := by
  unfold acL
  rw [List.getElem?_cons_succ, List.getElem?_append_left (List.getElem?_eq_some_iff.1 h).1]
  exact h
theorem acL_to {op z : Int} {k : Nm} (hk : nW k) : (acL op k z)[33]? = some (.int .i64 z) := by
  unfold acL
  rw [List.getElem?_cons_succ, List.getElem?_append_right (by rw [List.length_map, show k.length = 32 from hk]; exact Nat.le_refl _)]
  rw [List.length_map, show k.length = 32 from hk]
  rfl
theorem infoAc : (Try.prog.info? 37).map (·.size) = some 34 := by kernel_rfl
theorem NaAt.cells {W : World} {B k : Nat} {ad : Addr} {x : Na} (m : NaAt W B ad k x) : ∀ j u, (acL x.op x.nm x.to_)[j]? = some u → W.cell? ((ad.add (k * 34)).add j) = some u := fun j u hu => by
  match j with
  | 0 =>
    rw [acL_op] at hu
    injection hu with hu
    rw [← hu, add_add', Nat.add_zero]
    exact m.op
  | j + 1 =>
    rw [add_add', add_far]
    by_cases hj : j < 32
    · refine m.nm j u ?_
      unfold acL at hu
      rw [List.getElem?_cons_succ, List.getElem?_append_left (by rw [List.length_map, show x.nm.length = 32 from m.wide]; exact hj)] at hu
      exact hu
    · have hl := (List.getElem?_eq_some_iff.1 hu).1
      rw [acL_len m.wide] at hl
      obtain rfl : j = 32 := by omega
      rw [acL_to m.wide] at hu
      injection hu with hu
      rw [← hu]
      exact m.to_
theorem ldA {w : World} {ad : Addr} {op z : Int} {k : Nm} (hk : nW k) (hc : ∀ j u, (acL op k z)[j]? = some u → w.cell? (ad.add j) = some u) : (loadVar 37 ad).run Try.prog w = .ok (.agg (acS op k z)) w := by
  have hl := run_loadCells_list (P := Try.prog) w ad (acL op k z) hc
  have hagg : (isAgg 37).run Try.prog w = .ok true w := by
    unfold isAgg
    rw [Sem.run_bind, run_underlying Try.underlying37 w]
    rfl
  cases hi : Try.prog.info? 37 with
  | none => have := infoAc; rw [hi] at this; cases this
  | some i0 =>
    have hz1 : i0.size = 34 := by have := infoAc; rw [hi] at this; simpa using this
    rw [acL_len hk] at hl
    simp [loadVar, Sem.run_bind, hagg, sizeOf, typeInfo, hi, hz1, hl, acS]
section
variable {ops : Array Oper} {rest : List Oper} {o : Oper} {a : Act} {w : World} {Q : Exit → Act → World → Prop}
theorem wp_loadA (hg : o.guard = none) (x : Operand) (ho : o.op = .load 37 x) (ad : Addr) (hx : a.eval x = .pointer (some ad)) (op z : Int) (k : Nm) (hk : nW k) (hc : ∀ j u, (acL op k z)[j]? = some u → w.cell? (ad.add j) = some u)
    (h : wpList Try.prog ops Q rest (a.put o.dst (.agg (acS op k z))) w) : wpList Try.prog ops Q (o :: rest) a w := by
  refine wpList_plain hg fun K' hK' => ?_
  unfold Oper.wp execOp
  simp only [ho, hx, Instr.loadAt, Instr.sureAddr, Sem.run_bind, Sem.run_pure, Result.andThen_ok, ldA hk hc]
  exact hK' _ _ h
theorem wp_storeA (hg : o.guard = none) (x y : Operand) (ho : o.op = .store 37 x y) (g : Nat) (cs : Array Value) (hx : a.eval x = .pointer (some ⟨g, 0, none⟩)) (hy : a.eval y = .agg cs) (E : TypeId) (old : Array Value) (hb : Bk w g E old)
    (hs : cs.size = 34) (hold : old.size = 34) (h1 : cs.all (·.oneCell') = true)
    (h : ∀ w', Bk w' g E cs → (∀ B, B ≤ g → Below B w w') → wpList Try.prog ops Q rest (a.put o.dst undef) w') : wpList Try.prog ops Q (o :: rest) a w :=
  wpList_store_row hg 37 x y ho g cs hx hy E old hb (by rw [hs]; kernel_rfl) (by rw [hs, hold]) h1
    (h _ (setRow_heap w g old cs E (0, 0) hb) (fun B hB => setRow_below hB cs))
end
theorem zeroA (W : World) : (zeroValue 37).run Try.prog W = .ok (.agg (acS 0 zN 0)) W := by kernel_rfl
/-- The table at g over mb, the row rv: apart, above w0. -/
structure TpQ (w0 W : World) (g : Nat) (mb : Option Nat) (m : Tb) (rv : Value) (row : Rw) : Prop where
  tab : TbM W g mb m
  rw : TR W w0.heap.size rv (row.map sR)
  gB : w0.heap.size ≤ g
  bB : ∀ b, mb = some b → w0.heap.size ≤ b
  ne : ∀ q, rv.ownBlock = some q → q ≠ g ∧ mb ≠ some q
  old : Below w0.heap.size w0 W
section
variable {w0 W W' : World} {g : Nat} {mb mb' : Option Nat} {m m' : Tb} {rv rv' : Value} {rl rl' : Rw}
theorem TbM.below (h : TbM W g mb m) (hb : Below W.heap.size W W') : TbM W' g mb m := ⟨h.blk.below hb h.blk.lt, h.map.kept (Kept.of_below hb (fun _ => False)) (fun _ _ f => f), h.ne⟩
theorem TbM.x (h : TbM W g mb m) : TbX 0 W g m := ⟨mb, h.blk, h.map, Nat.zero_le _, fun b e => ⟨Nat.zero_le _, h.ne b e⟩⟩
theorem TpQ.below (p : TpQ w0 W g mb m rv rl) (hb : Below W.heap.size W W') : TpQ w0 W' g mb m rv rl := ⟨p.tab.below hb, p.rw.below hb, p.gB, p.bB, p.ne, p.old.trans (hb.mono p.old.size)⟩
theorem TpQ.turn (p : TpQ w0 W g mb m rv rl) (h : TbM W' g mb' m') (hn : ∀ b, mb' = some b → mb = some b ∨ W.heap.size ≤ b) (k : Kept (fun c => c = g ∨ mb = some c) W W') : TpQ w0 W' g mb' m' rv rl := by
  have hl := p.old.size
  refine ⟨h, p.rw.kept k (fun q hq => ?_), p.gB, fun b e => ?_, fun q hq => ⟨(p.ne q hq).1, fun e => ?_⟩, p.old.trans (k.below hl (fun c hc => ?_))⟩
  · rintro (e | e)
    · exact (p.ne q hq).1 e
    · exact (p.ne q hq).2 e
  · rcases hn b e with e | e
    · exact p.bB b e
    · omega
  · rcases hn q e with e | e
    · exact (p.ne q hq).2 e
    · have := (p.rw.lt q hq).2
      omega
  · rcases hc with rfl | hc
    · exact p.gB
    · exact p.bB c hc
theorem TpQ.toRow (p : TpQ w0 W g mb m rv rl) (hb : Below W.heap.size W W') (h : TR W' W.heap.size rv' (rl'.map sR)) : TpQ w0 W' g mb m rv' rl' := by
  have hg := p.tab.blk.lt
  refine ⟨p.tab.below hb, h.mono p.old.size, p.gB, p.bB, fun q hq => ⟨fun e => ?_, fun e => ?_⟩, p.old.trans (hb.mono p.old.size)⟩
  · have := (h.lt q hq).1
    omega
  · have h1 := (h.lt q hq).1
    have h2 := NmO.lt p.tab.map q e
    omega
theorem TpQ.app (p : TpQ w0 W g mb m rv rl) (h : TR W' w0.heap.size rv' (rl'.map sR)) (hg : W.grownBy W' rv.ownBlock) (hv : rv'.ownBlock = rv.ownBlock ∨ rv'.ownBlock = some W.heap.size) : TpQ w0 W' g mb m rv' rl' := by
  have k := Kept.grown hg
  have hgl := p.tab.blk.lt
  refine ⟨⟨k.bk p.tab.blk (fun e => (p.ne g e).1 rfl), p.tab.map.kept k (fun b e h2 => (p.ne b h2).2 e), p.tab.ne⟩, h, p.gB, p.bB, fun q hq => ?_, p.old.trans (k.below p.old.size (fun c hc => (p.rw.lt c hc).1))⟩
  rcases hv with e | e
  · exact p.ne q (by rw [← e]; exact hq)
  · rw [e] at hq
    injection hq with hq
    exact ⟨by omega, fun e2 => by have := NmO.lt p.tab.map q e2; omega⟩
end
end Go.Proofs.Ytdfhdgdhhgabbaa
/- What putA leaves in a slot. No conditions. -/
namespace Go.Proofs.Ytdfhdgdhhgabbaa
set_option linter.unusedVariables false
set_option linter.unusedSimpArgs false
open Go.RowKit
theorem putp_size (a : Act) (t : Tmp) (v : Value) : (a.put (some t) v).tmps.size = a.tmps.size := by simp [Act.put]
theorem putp_ne (a : Act) (t u : Tmp) (v : Value) (h : u ≠ t) : (a.put (some u) v).tmps.getD t undef = a.tmps.getD t undef := by
  simp [Act.put, Array.getD_eq_getD_getElem?, Array.getElem?_setIfInBounds, h]
theorem putp_eq (a : Act) (t : Tmp) (v : Value) (h : t < a.tmps.size) : (a.put (some t) v).tmps.getD t undef = v := by
  simp [Act.put, Array.getD_eq_getD_getElem?, Array.getElem?_setIfInBounds, h]
theorem putA_old : ∀ (fl : List (Nat × Tmp × Value)) (a : Act) (t : Tmp), (fl.all fun x => x.2.1 != t) = true → (putA fl a).tmps.getD t undef = a.tmps.getD t undef
  | [], _, _, _ => rfl
  | x :: l, a, t, h => by
    rw [List.all_cons, Bool.and_eq_true] at h
    show (putA l (a.put (some x.2.1) x.2.2)).tmps.getD t undef = _
    rw [putA_old l _ t h.2, putp_ne _ _ _ _ (by simpa using h.1)]
theorem putA_app : ∀ (l l2 : List (Nat × Tmp × Value)) (a : Act), putA (l ++ l2) a = putA l2 (putA l a)
  | [], _, _ => rfl
  | x :: l, l2, a => putA_app l l2 _
theorem putA_size : ∀ (l : List (Nat × Tmp × Value)) (a : Act), (putA l a).tmps.size = a.tmps.size
  | [], _ => rfl
  | x :: l, a => by
    show (putA l (a.put (some x.2.1) x.2.2)).tmps.size = _
    rw [putA_size l, putp_size]
theorem putA_new (fl l1 l2 : List (Nat × Tmp × Value)) (a : Act) (k : Nat) (t : Tmp) (v : Value) (e : fl = l1 ++ (k, t, v) :: l2) (h : (l2.all fun x => x.2.1 != t) = true) (ht : t < a.tmps.size) : (putA fl a).tmps.getD t undef = v := by
  rw [e, putA_app]
  show (putA l2 ((putA l1 a).put (some t) v)).tmps.getD t undef = v
  rw [putA_old l2 _ t h, putp_eq _ _ _ (by rw [putA_size]; exact ht)]
end Go.Proofs.Ytdfhdgdhhgabbaa
