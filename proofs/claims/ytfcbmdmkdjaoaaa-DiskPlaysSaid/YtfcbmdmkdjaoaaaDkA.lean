/- A map from places to numbers as a function; frames of calls that turn some blocks. No conditions. -/
import Derived.Test.YtfcbmdmkdjaoaaaRegV
import Derived.Test.YtfcbmdmkdjaoaaaBitsB
import Derived.WalkSpells
import Derived.Maps.OwnSet
import Derived.DeepKeys5
import Derived.Carry
import Derived.IntWalk
import Derived.LoopTactic
namespace Go.Proofs.Ytfcbmdmkdjaoaaa
set_option linter.unusedVariables false
set_option linter.unusedSimpArgs false
open Go.RowKit Go.Maps
set_option maxRecDepth 100000
/-- All blocks but those of S are as they were. -/
structure Kept (S : Nat → Prop) (w w' : World) : Prop where
  os : w'.os = w.os
  tape : w'.tape = w.tape
  output : w'.output = w.output
  size : w.heap.size ≤ w'.heap.size
  block : ∀ k, k < w.heap.size → ¬ S k → w'.heap[k]? = w.heap[k]?
section
variable {S S' : Nat → Prop} {w w' w'' : World}
theorem Kept.refl (S : Nat → Prop) (w : World) : Kept S w w := ⟨rfl, rfl, rfl, Nat.le_refl _, fun _ _ _ => rfl⟩
theorem Kept.trans (h : Kept S w w') (k : Kept S w' w'') : Kept S w w'' :=
  ⟨k.os.trans h.os, k.tape.trans h.tape, k.output.trans h.output, Nat.le_trans h.size k.size, fun i hi hS => (k.block i (Nat.lt_of_lt_of_le hi h.size) hS).trans (h.block i hi hS)⟩
theorem Kept.more (h : Kept S w w') (hS : ∀ k, S k → S' k) : Kept S' w w' := ⟨h.os, h.tape, h.output, h.size, fun i hi hn => h.block i hi (fun hs => hn (hS i hs))⟩
theorem Kept.of_below (h : Below w.heap.size w w') (S : Nat → Prop) : Kept S w w' := ⟨h.os, h.tape, h.output, h.size, fun i hi _ => h.block i hi⟩
theorem Kept.below {B : Nat} (h : Kept S w w') (hB : B ≤ w.heap.size) (hS : ∀ k, S k → B ≤ k) : Below B w w' := ⟨h.os, h.tape, h.output, h.size, fun i hi => h.block i (by omega) (fun hs => by have := hS i hs; omega)⟩
theorem Kept.grown {row : Option Nat} (h : w.grownBy w' row) : Kept (fun k => row = some k) w w' := ⟨h.os, h.tape, h.output, h.size, fun i hi hn => h.block i hi (fun e => hn e.symm)⟩
theorem Kept.set (w : World) (g i : Nat) (u : Value) : Kept (fun k => k = g) w (w.setCell ⟨g, i, none⟩ u) := ⟨rfl, rfl, rfl, by simp [World.setCell], fun k _ hn => Below.heap_setCell _ _ _ _ hn⟩
theorem Kept.alloc (S : Nat → Prop) (w : World) (o : Obj) : Kept S w (w.alloc o) := Kept.of_below (Gw.alloc w o) S
theorem Kept.bk {g : Nat} {E : TypeId} {cs : Array Value} (h : Kept S w w') (hb : Bk w g E cs) (hn : ¬ S g) : Bk w' g E cs := (h.block g hb.lt hn).trans hb
theorem Kept.cell (h : Kept S w w') {p : Addr} (hp : p.block < w.heap.size) (hn : ¬ S p.block) : w'.cell? p = w.cell? p := World.cell?_of_block (w := w) (h.block p.block hp hn)
theorem Kept.rd {α : Type} {f : α → Value} {A : Option Addr} {xs : List α} (h : Kept S w w') (hr : Rd f w w.heap.size A xs) (hn : ∀ a, A = some a → ¬ S a.block) : Rd f w' w'.heap.size A xs := fun j hj => by
  obtain ⟨ad, e, hb, hc⟩ := hr j hj
  exact ⟨ad, e, Nat.lt_of_lt_of_le hb h.size, (h.cell (p := ad.add j) (by rw [add_block]; exact hb) (by rw [add_block]; exact hn ad e)).trans hc⟩
theorem Kept.row {E : TypeId} {K base n : Nat} {v : Value} {xs : List Value} (h : Kept S w w') (ho : w.ownsRow base E K v n xs) (hn : ∀ k, v.ownBlock = some k → ¬ S k) : w'.ownsRow base E K v n xs := by
  obtain ⟨h1, h2⟩ := ho
  refine ⟨h1, ?_⟩
  rcases h2 with h2 | ⟨g, cap, cur, e, hg, hh, r⟩
  · exact .inl h2
  · refine .inr ⟨g, cap, cur, e, hg, ?_, r⟩
    have hl : g < w.heap.size := (Array.getElem?_eq_some_iff.1 hh).1
    rw [h.block g hl (hn g (by rw [e]; rfl))]; exact hh
theorem Kept.ow {α : Type} {f : α → Value} {E : TypeId} {base : Nat} {v : Value} {xs : List α} (h : Kept S w w') (ho : Ow f E w base v xs) (hn : ∀ k, v.ownBlock = some k → ¬ S k) : Ow f E w' base v xs := h.row ho hn
theorem Kept.map {P : Program} {k : TypeId} {H : Type} {R : Value → Option (DataW H × List MemPlace)} {b n : Nat} {D : DataW H} (h : Kept S w w') (ho : w.ownsMap P k R b n D) (hn : ¬ S b) : w'.ownsMap P k R b n D := by
  have hl := ho.lt
  obtain ⟨es, clock, hb, r⟩ := ho
  exact ⟨es, clock, (h.block b hl hn).trans hb, r⟩
end
theorem zeroI (w : World) : (zeroValue 3).run Try.prog w = .ok (.int .i64 0) w := by kernel_rfl
theorem wfI {n : Int} (h1 : -9223372036854775808 ≤ n) (h2 : n ≤ 9223372036854775807) : (Lit.int .i64 n).wf = true := by
  simp [Lit.wf, IntKind.min, IntKind.max, IntKind.signed, IntKind.bits]; omega
theorem laidA : laidOutB Try.prog = true := by kernel_rfl
theorem lawP : Keyed Try.prog 67 := Keyed.of_law (deep_law_gate laidA (of_decide_eq_true (by kernel_rfl)) (of_decide_eq_true (by kernel_rfl)) (by kernel_rfl) (by kernel_rfl))
def dplV (s : Int) : Value := .agg #[.int .i64 s]
theorem keyP {s : Int} (h : (Lit.int .i64 s).wf = true) : keyOf Try.prog 67 (dplV s) = some (.string (keyBytes [.int .i64 s])) := by
  obtain ⟨m, hm⟩ : ∃ m, Try.prog.types.size + 1 = m + 2 := ⟨Try.prog.types.size - 1, by kernel_rfl⟩
  have hk : Try.prog.keyType 67 = true := by kernel_rfl
  have hf : (dplV s).formed Try.prog 67 = true := by
    unfold dplV Value.formed
    rw [Try.underlying67]
    kernel_rfl
  unfold keyOf
  rw [Try.underlying67]
  simp only [hk, hf, Bool.and_self, if_true]
  rw [hm]
  have e : Try.prog.keyLits (m + 2) 67 (dplV s).cells.toList = some [.int .i64 s] := by
    unfold Program.keyLits
    rw [Try.underlying67]
    have hc : (dplV s).cells.toList = [.int .i64 s] := rfl
    rw [hc]
    simp only
    have hc1 : Try.prog.cellsOf 67 = 1 := by kernel_rfl
    rw [if_pos (by rw [hc1]; simp)]
    have hc3 : Try.prog.cellsOf 3 = 1 := by kernel_rfl
    have e3 : Try.prog.keyLits (m + 1) 3 [.int .i64 s] = some [.int .i64 s] := by
      unfold Program.keyLits
      rw [Try.underlying3]
      simp [h]
    simp [hc3, e3]
  rw [e]
  rfl
def keyL (s : Int) : Lit := .string (keyBytes [.int .i64 s])
theorem keyL_inj {s t : Int} (hs : (Lit.int .i64 s).wf = true) (ht : (Lit.int .i64 t).wf = true) (h : keyL s = keyL t) : s = t := by
  have h1 := keyP hs
  have h2 := keyP ht
  rw [show (Lit.string (keyBytes [.int .i64 s])) = .string (keyBytes [.int .i64 t]) from h] at h1
  have := lawP.inj h1 h2
  simpa [dplV] using this
/-- Block b is a map from places to the numbers of f. -/
def MapFn (w : World) (b n : Nat) (f : Int → Int) : Prop := ∃ D : DataW Unit, w.ownsMap Try.prog 67 (plainElem Try.prog 3) b n D ∧ ∀ s, (Lit.int .i64 s).wf = true → D.atKey (keyL s) (.lit (.int .i64 0)) = .lit (.int .i64 (f s))
section
variable {w w' : World} {b n : Nat} {f : Int → Int}
theorem MapFn.lt (h : MapFn w b n f) : b < w.heap.size := by obtain ⟨D, h, _⟩ := h; exact h.lt
theorem MapFn.kept {S : Nat → Prop} (h : MapFn w b n f) (hk : Kept S w w') (hn : ¬ S b) : MapFn w' b n f := by
  obtain ⟨D, h1, h2⟩ := h
  exact ⟨D, hk.map h1 hn, h2⟩
theorem Kept.map_fn {S : Nat → Prop} (hk : Kept S w w') (h : MapFn w b n f) (hn : ¬ S b) : MapFn w' b n f := h.kept hk hn
theorem MapFn.mono (h : MapFn w b n f) {m : Nat} (hm : n ≤ m) : MapFn w b m f := by
  obtain ⟨D, h1, h2⟩ := h
  exact ⟨D, h1.mono hm, h2⟩
theorem MapFn.made (w : World) : MapFn (w.alloc (.map #[] 0)) w.heap.size 0 (fun _ => 0) :=
  ⟨.map [], World.ownsMap_made _ _ _ _, fun s _ => rfl⟩
theorem MapFn.look (h : MapFn w b n f) {s : Int} (hs : (Lit.int .i64 s).wf = true) : (Instr.lookup 62 (.map (some b)) (.agg #[.int .i64 s]) false).run Try.prog w = .ok (.int .i64 (f s)) w := by
  obtain ⟨D, h1, h2⟩ := h
  obtain ⟨c, hrun, hat, _⟩ := World.ownsMap.lookup_int h1 lawP Try.underlying62 Try.underlying3 (zeroI w) (keyP hs)
  have e : DataW.lit (H := Unit) (.int .i64 (f s)) = .lit (.int .i64 c) := (h2 s hs).symm.trans hat
  injection e with e
  injection e with _ e
  rw [e]; exact hrun
theorem MapFn.put (h : MapFn w b n f) {s v : Int} (hs : (Lit.int .i64 s).wf = true) (hv : (Lit.int .i64 v).wf = true) (hn : n < maxLen) :
    ∃ w', (Instr.mapUpdate 62 (.map (some b)) (.agg #[.int .i64 s]) (.int .i64 v)).run Try.prog w = .ok () w' ∧ MapFn w' b (n + 1) (fun x => if x = s then v else f x) ∧ Kept (fun c => some b = some c) w w' := by
  obtain ⟨D, h1, h2⟩ := h
  obtain ⟨w', hrun, ho, hg⟩ := World.ownsMap.update h1 lawP Try.underlying62 hn (keyP hs) (plainElem_int (H := Unit) Try.underlying3 hv)
  refine ⟨w', hrun, ⟨_, ho, fun x hx => ?_⟩, Kept.grown hg⟩
  show _ = DataW.lit (Lit.int .i64 (if x = s then v else f x))
  by_cases e : x = s
  · subst e
    rw [if_pos rfl]
    exact atKey_put_same h1.isMap (by trivial) _ _
  · rw [if_neg e]
    exact (atKey_put_other (fun k => e (keyL_inj hx hs k)) _ _).trans (h2 x hx)
theorem MapFn.clear (h : MapFn w b n f) (ty : TypeId) :
    ∃ w', (Builtin.clear_ #[62] ty #[.map (some b)]).run Try.prog w = .ok (.tuple #[]) w' ∧ MapFn w' b 0 (fun _ => 0) ∧ Kept (fun c => some b = some c) w w' := by
  obtain ⟨D, h1, h2⟩ := h
  obtain ⟨es, clock, hb, F, _, _⟩ := h1
  refine ⟨Go.ChangeMaps.setBlock w b (.map #[] clock), ?_, ⟨.map [], ⟨#[], clock, Go.ChangeMaps.heap_setBlock_same hb _, ⟨by simp, Go.MapKept.stamped_empty clock, by simp⟩, Nat.le_refl _, rfl⟩, fun s _ => rfl⟩, ?_⟩
  · simp [Builtin.clear_, run_underlying Try.underlying62, MapKept.run_getObj_map hb, MapKept.run_setObj_map _ hb, Result.andThen, Go.ChangeMaps.setBlock]
  · exact ⟨rfl, rfl, rfl, by simp [Go.ChangeMaps.setBlock], fun i _ hi => Go.ChangeMaps.heap_setBlock_other hb _ (fun e => hi (by rw [e]))⟩
end
section
variable {w : World} {b n : Nat} {f : Int → Int} {ops : Array Oper} {rest : List Oper} {o : Oper} {a : Act} {Q : Exit → Act → World → Prop}
theorem wp_clear_fn (hg : o.guard = none) (m : Operand) (hop : o.op = Op.call { callee := Callee.builtin Builtin.clear, args := #[m], argTypes := #[62] })
    (hm : a.eval m = .map (some b)) (h : MapFn w b n f)
    (hK : ∀ w', MapFn w' b 0 (fun _ => 0) → Kept (fun c => some b = some c) w w' → wpList Try.prog ops Q rest (a.put o.dst (.tuple #[])) w') : wpList Try.prog ops Q (o :: rest) a w := by
  refine wpList_plain hg fun K' hK' => ?_
  obtain ⟨w', hrun, r1, r2⟩ := h.clear o.type
  unfold Oper.wp execOp
  simp only [hop, resolve, invoke, builtin, Sem.run_bind, Sem.run_pure, Result.andThen_ok, List.map_toArray, List.map_cons, List.map_nil, hm, hrun]
  exact hK' _ _ (hK w' r1 r2)
theorem wp_put_fn (hg : o.guard = none) (m x v : Operand) (hop : o.op = Op.mapUpdate 62 m x v)
    (hm : a.eval m = .map (some b)) (h : MapFn w b n f) (s z : Int) (hx : a.eval x = .agg #[.int .i64 s]) (hv : a.eval v = .int .i64 z) (hs : (Lit.int .i64 s).wf = true) (hz : (Lit.int .i64 z).wf = true) (hl : n ≤ 1000000)
    (hK : ∀ w', MapFn w' b (n + 1) (fun x => if x = s then z else f x) → Kept (fun c => some b = some c) w w' → wpList Try.prog ops Q rest (a.put o.dst undef) w') : wpList Try.prog ops Q (o :: rest) a w := by
  refine wpList_plain hg fun K' hK' => ?_
  obtain ⟨w', hrun, r1, r2⟩ := h.put hs hz (by unfold maxLen; omega)
  unfold Oper.wp
  simp [execOp, hop, hm, hx, hv, hrun, Result.andThen]
  exact hK' _ _ (hK w' r1 r2)
end
end Go.Proofs.Ytfcbmdmkdjaoaaa
