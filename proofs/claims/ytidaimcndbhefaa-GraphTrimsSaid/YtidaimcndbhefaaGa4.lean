/- Texts joined: MapA HdA GrS GrW GrT MmA GrU GrV. -/
import Derived.Test.YtidaimcndbhefaaGa3
import Derived.Maps.OwnSet
import Derived.Maps.Ext
import Derived.Lib.SlKeysI
import Derived.WalkSpells
import Derived.Test.YtidaimcndbhefaaChecked
import Derived.Lib.Hide
import Derived.IntWalk
import Derived.LoopTactic
import Derived.Deep.LoopGhost
/- Maps from numbers to numbers read as rising rows of pairs. No conditions. -/
namespace Go.Proofs.Ytidaimcndbhefaa
set_option linter.unusedVariables false
set_option linter.unusedSimpArgs false
open Go.RowKit Go.Maps
abbrev kI (k : Int) : Lit := .int .i64 k
abbrev vI (k : Int) : DataW Unit := .lit (.int .i64 k)
def enP (p : Int × Int) : Lit × DataW Unit := (kI p.1, vI p.2)
def mD (l : List (Int × Int)) : DataW Unit := .map (l.map enP)
def Rise (l : List (Int × Int)) : Prop := l.Pairwise (fun p q => p.1 < q.1)
def lookI : List (Int × Int) → Int → Option Int
  | [], _ => none
  | p :: r, k => if p.1 = k then some p.2 else lookI r k
def offI (l : List (Int × Int)) (k : Int) : List (Int × Int) := l.filter fun p => decide (p.1 ≠ k)
theorem same_kI (a b : Int) : (kI a).sameKey (kI b) = decide (a = b) := by simp [Lit.sameKey]
theorem before_kI (a b : Int) : (kI a).before (kI b) = decide (a < b) := rfl
theorem isKey_kI {k : Int} (h : (Lit.int .i64 k).wf = true) : WideAt.IsKeyLit (kI k) := by
  simp [WideAt.IsKeyLit]
theorem has_mD (l : List (Int × Int)) (k : Int) : has (mD l) (kI k) = (lookI l k).isSome := by
  induction l with
  | nil => rfl
  | cons p r ih =>
    show ((kI p.1).sameKey (kI k) || (r.map enP).any (fun p => p.1.sameKey (kI k))) = _
    rw [same_kI]
    unfold lookI
    by_cases h : p.1 = k
    · simp [h]
    · simp only [h, decide_false, Bool.false_or, if_false]; exact ih
theorem at_mD (l : List (Int × Int)) (k : Int) (z : DataW Unit) : (mD l).atKey (kI k) z = match lookI l k with | some v => vI v | none => z := by
  induction l with
  | nil => rfl
  | cons p r ih =>
    have e : (enP p).1.sameKey (kI k) = decide (p.1 = k) := same_kI _ _
    unfold mD DataW.atKey at ih ⊢
    unfold lookI
    simp only at ih ⊢
    rw [List.map_cons, List.find?_cons]
    by_cases h : p.1 = k
    · simp only [e, h, decide_true, if_true]; rfl
    · simp only [e, h, decide_false, if_false]
      exact ih
theorem at_mD_z (l : List (Int × Int)) (k z : Int) : (mD l).atKey (kI k) (vI z) = vI ((lookI l k).getD z) := by
  rw [at_mD]; cases lookI l k <;> rfl
theorem strike_mD (l : List (Int × Int)) (k : Int) : (l.map enP).filter (fun p => !p.1.sameKey (kI k)) = (offI l k).map enP := by
  unfold offI
  rw [List.filter_map]
  congr 1
  apply List.filter_congr
  intro p _
  show (!(kI p.1).sameKey (kI k)) = _
  rw [same_kI]; simp
theorem del_mD (l : List (Int × Int)) (k : Int) : (mD l).del (kI k) = mD (offI l k) := by
  show DataW.map _ = _
  rw [strike_mD]; rfl
def putI (l : List (Int × Int)) (k v : Int) : List (Int × Int) := insI (k, v) (offI l k)
where insI (x : Int × Int) : List (Int × Int) → List (Int × Int)
  | [] => [x]
  | y :: r => if x.1 < y.1 then x :: y :: r else y :: insI x r
theorem ins_mD (x : Int × Int) (l : List (Int × Int)) : DataW.insert (enP x) (l.map enP) = (putI.insI x l).map enP := by
  induction l with
  | nil => rfl
  | cons y r ih =>
    have e : (enP x).1.before (enP y).1 = decide (x.1 < y.1) := rfl
    simp only [List.map_cons, DataW.insert, e, putI.insI]
    by_cases h : x.1 < y.1
    · simp [h]
    · simp [h, ih]
theorem put_mD (l : List (Int × Int)) (k v : Int) : (mD l).put (kI k) (vI v) = mD (putI l k v) := by
  show DataW.map (DataW.insert (enP (k, v)) ((l.map enP).filter (fun p => !p.1.sameKey (kI k)))) = _
  rw [strike_mD, ins_mD]; rfl
theorem size_mD (l : List (Int × Int)) : size (mD l) = l.length := by simp [mD, size]
theorem keys_mD (l : List (Int × Int)) : intKeys (mD l) = l.map (·.1) := by
  simp only [mD, intKeys, List.map_map]; rfl
theorem ins_end (x : Int × Int) (l : List (Int × Int)) (h : ∀ p ∈ l, p.1 < x.1) : putI.insI x l = l ++ [x] := by
  induction l with
  | nil => rfl
  | cons y r ih =>
    have := h y (by simp)
    simp only [putI.insI, if_neg (show ¬ x.1 < y.1 by omega)]
    rw [ih (fun p hp => h p (by simp [hp]))]; rfl
theorem ins_mid (x : Int × Int) (a b : List (Int × Int)) (ha : ∀ p ∈ a, p.1 < x.1) (hb : ∀ p ∈ b, x.1 < p.1) : putI.insI x (a ++ b) = a ++ x :: b := by
  induction a with
  | nil =>
    cases b with
    | nil => rfl
    | cons y r => simp [putI.insI, hb y (by simp)]
  | cons y r ih =>
    have := ha y (by simp)
    simp only [List.cons_append, putI.insI, if_neg (show ¬ x.1 < y.1 by omega)]
    rw [ih (fun p hp => ha p (by simp [hp]))]
theorem off_none (l : List (Int × Int)) (k : Int) (h : ∀ p ∈ l, p.1 ≠ k) : offI l k = l := List.filter_eq_self.2 (fun p hp => by simpa using h p hp)
theorem put_end (l : List (Int × Int)) (k v : Int) (h : ∀ p ∈ l, p.1 < k) : putI l k v = l ++ [(k, v)] := by
  unfold putI
  rw [off_none l k (fun p hp => by have := h p hp; omega), ins_end _ _ h]
theorem off_mid (a b : List (Int × Int)) (k x : Int) (ha : ∀ p ∈ a, p.1 < k) (hb : ∀ p ∈ b, k < p.1) : offI (a ++ (k, x) :: b) k = a ++ b := by
  unfold offI
  rw [List.filter_append]
  congr 1
  · exact List.filter_eq_self.2 (fun p hp => by have := ha p hp; simp; omega)
  · rw [List.filter_cons]
    simp only [ne_eq, not_true, decide_false, Bool.false_eq_true, if_false]
    exact List.filter_eq_self.2 (fun p hp => by have := hb p hp; simp; omega)
theorem put_mid (a b : List (Int × Int)) (k x v : Int) (ha : ∀ p ∈ a, p.1 < k) (hb : ∀ p ∈ b, k < p.1) : putI (a ++ (k, x) :: b) k v = a ++ (k, v) :: b := by
  unfold putI
  rw [off_mid a b k x ha hb, ins_mid _ _ _ ha hb]
theorem Rise.mid {a b : List (Int × Int)} {x : Int × Int} (h : Rise (a ++ x :: b)) : (∀ p ∈ a, p.1 < x.1) ∧ (∀ p ∈ b, x.1 < p.1) := by
  obtain ⟨_, h2, h3⟩ := List.pairwise_append.1 h
  obtain ⟨h4, _⟩ := List.pairwise_cons.1 h2
  exact ⟨fun p hp => h3 p hp x (by simp), h4⟩
theorem Rise.snoc {l : List (Int × Int)} {x : Int × Int} (h : Rise l) (hx : ∀ p ∈ l, p.1 < x.1) : Rise (l ++ [x]) :=
  List.pairwise_append.2 ⟨h, by simp, fun p hp q hq => by simp at hq; subst hq; exact hx p hp⟩
theorem Rise.off {l : List (Int × Int)} (h : Rise l) (k : Int) : Rise (offI l k) := h.filter _
theorem Rise.mid_off {a b : List (Int × Int)} {x : Int × Int} (h : Rise (a ++ x :: b)) : Rise (a ++ b) :=
  List.Pairwise.sublist (List.Sublist.append (List.Sublist.refl a) (List.sublist_cons_self x b)) h
theorem Rise.mid_put {a b : List (Int × Int)} {k x : Int} (h : Rise (a ++ (k, x) :: b)) (v : Int) : Rise (a ++ (k, v) :: b) := by
  obtain ⟨h1, h2, h3⟩ := List.pairwise_append.1 h
  obtain ⟨h4, h5⟩ := List.pairwise_cons.1 h2
  refine List.pairwise_append.2 ⟨h1, List.pairwise_cons.2 ⟨fun p hp => h4 p hp, h5⟩, fun p hp q hq => ?_⟩
  rcases List.mem_cons.1 hq with rfl | hq
  · exact h3 p hp (k, x) (by simp)
  · exact h3 p hp q (by simp [hq])
theorem look_mid (a b : List (Int × Int)) (k x : Int) (ha : ∀ p ∈ a, p.1 < k) : lookI (a ++ (k, x) :: b) k = some x := by
  induction a with
  | nil => simp [lookI]
  | cons y r ih =>
    have := ha y (by simp)
    simp only [List.cons_append, lookI, if_neg (show ¬ y.1 = k by omega)]
    exact ih (fun p hp => ha p (by simp [hp]))
theorem look_none (l : List (Int × Int)) (k : Int) (h : ∀ p ∈ l, p.1 ≠ k) : lookI l k = none := by
  induction l with
  | nil => rfl
  | cons y r ih => simp only [lookI, if_neg (h y (by simp))]; exact ih (fun p hp => h p (by simp [hp]))
theorem look_mem {l : List (Int × Int)} {k v : Int} (h : lookI l k = some v) : (k, v) ∈ l := by
  induction l with
  | nil => cases h
  | cons y r ih =>
    unfold lookI at h
    split at h
    · rename_i e; cases h; subst e; simp
    · exact List.mem_cons_of_mem _ (ih h)
theorem look_off (l : List (Int × Int)) (k j : Int) : lookI (offI l k) j = if j = k then none else lookI l j := by
  induction l with
  | nil => simp [offI, lookI]
  | cons y r ih =>
    unfold offI at ih ⊢
    rw [List.filter_cons]
    by_cases h : y.1 = k
    · simp only [h, ne_eq, not_true, decide_false, Bool.false_eq_true, if_false]
      rw [ih]
      by_cases hj : j = k
      · simp [hj]
      · simp [hj, lookI, h, show ¬ k = j by omega]
    · simp only [ne_eq, h, not_false_eq_true, decide_true, if_true, lookI]
      by_cases hy : y.1 = j
      · simp [hy, show ¬ j = k by omega]
      · simp only [hy, if_false]; simpa using ih
/-- A rising row is what its keys sort to. -/
theorem sorted_keys (l : List (Int × Int)) (h : Rise l) {ss : List Int} (hp : ss.Perm (intKeys (mD l))) : ss.mergeSort (fun x y => decide (x ≤ y)) = l.map (·.1) := by
  rw [keys_mD] at hp
  have e : ss.mergeSort leI = (l.map (·.1)).mergeSort leI := mergeSort_of_perm_i hp
  show ss.mergeSort leI = _
  rw [e]
  refine List.mergeSort_of_pairwise ?_
  refine List.pairwise_map.2 (h.imp fun {p q} hpq => ?_)
  simp only [leI, decide_eq_true_eq]; omega
end Go.Proofs.Ytidaimcndbhefaa
/- A table of handles as a row of pairs: what it is, what is left as it was; New, Get. Conditions: lengths. -/
namespace Go.Proofs.Ytidaimcndbhefaa
set_option linter.unusedVariables false
set_option linter.unusedSimpArgs false
open Go.RowKit Go.Maps
/-- All blocks but those of S are as they were. -/
structure Kept (S : Nat → Prop) (w w' : World) : Prop where
  os : w'.os = w.os
  tape : w'.tape = w.tape
  output : w'.output = w.output
  size : w.heap.size ≤ w'.heap.size
  block : ∀ k, k < w.heap.size → ¬ S k → w'.heap[k]? = w.heap[k]?
section
variable {S S' : Nat → Prop} {w w' w'' : World}
theorem Kept.refl (S : Nat → Prop) (w : World) : Kept S w w := ⟨rfl, rfl, rfl, Nat.le_refl _, fun _ _ _ => rfl⟩
theorem Kept.trans (h : Kept S w w') (k : Kept S w' w'') : Kept S w w'' :=
  ⟨k.os.trans h.os, k.tape.trans h.tape, k.output.trans h.output, Nat.le_trans h.size k.size, fun i hi hS => (k.block i (Nat.lt_of_lt_of_le hi h.size) hS).trans (h.block i hi hS)⟩
theorem Kept.more (h : Kept S w w') (hS : ∀ k, S k → S' k) : Kept S' w w' := ⟨h.os, h.tape, h.output, h.size, fun i hi hn => h.block i hi (fun hs => hn (hS i hs))⟩
theorem Kept.of_below (h : Below w.heap.size w w') (S : Nat → Prop) : Kept S w w' := ⟨h.os, h.tape, h.output, h.size, fun i hi _ => h.block i hi⟩
theorem Kept.below {B : Nat} (h : Kept S w w') (hB : B ≤ w.heap.size) (hS : ∀ k, S k → B ≤ k) : Below B w w' := ⟨h.os, h.tape, h.output, h.size, fun i hi => h.block i (by omega) (fun hs => by have := hS i hs; omega)⟩
theorem Kept.grown {row : Option Nat} (h : w.grownBy w' row) : Kept (fun k => row = some k) w w' := ⟨h.os, h.tape, h.output, h.size, fun i hi hn => h.block i hi (fun e => hn e.symm)⟩
theorem Kept.set (w : World) (g i : Nat) (u : Value) : Kept (fun k => k = g) w (w.setCell ⟨g, i, none⟩ u) := ⟨rfl, rfl, rfl, by simp [World.setCell], fun k _ hn => Below.heap_setCell _ _ _ _ hn⟩
theorem Kept.alloc (S : Nat → Prop) (w : World) (o : Obj) : Kept S w (w.alloc o) := Kept.of_below (Gw.alloc w o) S
theorem Kept.bk {g : Nat} {E : TypeId} {cs : Array Value} (h : Kept S w w') (hb : Bk w g E cs) (hn : ¬ S g) : Bk w' g E cs := (h.block g hb.lt hn).trans hb
theorem Kept.cell (h : Kept S w w') {p : Addr} (hp : p.block < w.heap.size) (hn : ¬ S p.block) : w'.cell? p = w.cell? p := World.cell?_of_block (w := w) (h.block p.block hp hn)
theorem Kept.ow {α : Type} {f : α → Value} {E : TypeId} {base : Nat} {v : Value} {xs : List α} (h : Kept S w w') (ho : Ow f E w base v xs) (hn : ∀ k, v.ownBlock = some k → ¬ S k) : Ow f E w' base v xs := by
  obtain ⟨h1, h2⟩ := ho
  refine ⟨h1, ?_⟩
  rcases h2 with h2 | ⟨g, cap, cur, e, hg, hh, r⟩
  · exact .inl h2
  · refine .inr ⟨g, cap, cur, e, hg, ?_, r⟩
    have hl : g < w.heap.size := by
      rcases Nat.lt_or_ge g w.heap.size with hl | hl
      · exact hl
      · rw [Array.getElem?_eq_none hl] at hh; cases hh
    rw [h.block g hl (hn g (by rw [e]; rfl))]; exact hh
theorem Kept.map {P : Program} {k : TypeId} {H : Type} {R : Value → Option (DataW H × List MemPlace)} {b n : Nat} {D : DataW H} (h : Kept S w w') (ho : w.ownsMap P k R b n D) (hn : ¬ S b) : w'.ownsMap P k R b n D := by
  have hl := ho.lt
  obtain ⟨es, clock, hb, r⟩ := ho
  exact ⟨es, clock, (h.block b hl hn).trans hb, r⟩
end
theorem zeroI (w : World) : (zeroValue 3).run Try.prog w = .ok (.int .i64 0) w := by kernel_rfl
theorem lawI : Keyed Try.prog 3 := int_keyed Try.underlying3
theorem keyI {k : Int} (h : (Lit.int .i64 k).wf = true) : keyOf Try.prog 3 (.int .i64 k) = some (kI k) := keyOf_int_mk Try.underlying3 h
/-- A map's word mb stands for the row l. -/
def MapIs (w : World) : Option Nat → List (Int × Int) → Prop
  | none, l => l = []
  | some b, l => w.ownsMap Try.prog 3 (plainElem Try.prog 3) b l.length (mD l)
section
variable {w w' : World} {mb : Option Nat} {l : List (Int × Int)}
theorem tighten {b n : Nat} (h : w.ownsMap Try.prog 3 (plainElem Try.prog 3) b n (mD l)) : MapIs w (some b) l := by
  obtain ⟨es, clock, hb, F, hs, hD⟩ := h
  refine ⟨es, clock, hb, F, ?_, hD⟩
  have := congrArg size hD
  rw [size_mD] at this
  simp [size, length_sorted] at this
  omega
theorem MapIs.kept {S : Nat → Prop} (h : MapIs w mb l) (hk : Kept S w w') (hn : ∀ b, mb = some b → ¬ S b) : MapIs w' mb l := by
  cases mb with
  | none => exact h
  | some b => exact hk.map h (hn b rfl)
theorem MapIs.lt (h : MapIs w mb l) : ∀ b, mb = some b → b < w.heap.size := by
  rintro b rfl; exact World.ownsMap.lt h
theorem MapIs.look (h : MapIs w mb l) {k : Int} (hk : (Lit.int .i64 k).wf = true) : (Instr.lookup 66 (.map mb) (.int .i64 k) false).run Try.prog w = .ok (.int .i64 ((lookI l k).getD 0)) w := by
  cases mb with
  | none =>
    have e : l = [] := h
    subst e
    exact look_nil false lawI Try.underlying66 (zeroI w) (keyI hk)
  | some b =>
    obtain ⟨c, hrun, hat, _⟩ := World.ownsMap.lookup_int h lawI Try.underlying66 Try.underlying3 (zeroI w) (keyI hk)
    have e := at_mD_z l k 0
    have e2 : vI ((lookI l k).getD 0) = DataW.lit (.int .i64 c) := e.symm.trans hat
    injection e2 with e2
    injection e2 with _ e2
    rw [e2]; exact hrun
theorem MapIs.look_ok (h : MapIs w mb l) {k : Int} (hk : (Lit.int .i64 k).wf = true) : (Instr.lookup 66 (.map mb) (.int .i64 k) true).run Try.prog w = .ok (.tuple #[.int .i64 ((lookI l k).getD 0), .bool (lookI l k).isSome]) w := by
  cases mb with
  | none =>
    have e : l = [] := h
    subst e
    exact look_nil true lawI Try.underlying66 (zeroI w) (keyI hk)
  | some b =>
    obtain ⟨v, ps, hrun, hv⟩ := World.ownsMap.look_ok h lawI Try.underlying66 (zeroI w) (plainElem_int Try.underlying3 (by decide)) (keyI hk)
    obtain ⟨c, rfl, hc, _⟩ := plainElem_int_inv Try.underlying3 hv
    have hc1 := congrArg Prod.fst hc
    have e2 : vI ((lookI l k).getD 0) = DataW.lit (.int .i64 c) := (at_mD_z l k 0).symm.trans hc1
    injection e2 with e2
    injection e2 with _ e2
    rw [e2, ← has_mD]; exact hrun
theorem MapIs.len (h : MapIs w mb l) (ty : TypeId) : (Builtin.len_ #[66] ty #[.map mb]).run Try.prog w = .ok (.int .i64 l.length) w := by
  cases mb with
  | none =>
    have e : l = [] := h
    subst e
    exact len_nil Try.underlying66 ty
  | some b =>
    have := World.ownsMap.len h Try.underlying66 ty
    rw [size_mD] at this; exact this
theorem MapIs.isnil (mb : Option Nat) (W : World) : (binOp .eql 66 (.map mb) (.map none)).run Try.prog W = .ok (.bool mb.isNone) W := run_eql_map_nil W 66 _ _ mb Try.underlying66
theorem MapIs.drop (h : MapIs w mb l) {k : Int} (hk : (Lit.int .i64 k).wf = true) (ty : TypeId) :
    ∃ w', (Builtin.delete_ #[66, 3] ty #[.map mb, .int .i64 k]).run Try.prog w = .ok (.tuple #[]) w' ∧ MapIs w' mb (offI l k) ∧ Kept (fun b => mb = some b) w w' := by
  cases mb with
  | none =>
    have e : l = [] := h
    subst e
    exact ⟨w, drop_nil lawI Try.underlying66 (keyI hk) ty, rfl, Kept.refl _ _⟩
  | some b =>
    obtain ⟨w', hrun, ho, ht⟩ := World.ownsMap.drop h lawI Try.underlying66 (keyI hk) ty
    rw [del_mD] at ho
    exact ⟨w', hrun, tighten ho, Kept.grown ht.grown⟩
theorem MapIs.put {b : Nat} (h : MapIs w (some b) l) {k v : Int} (hk : (Lit.int .i64 k).wf = true) (hv : (Lit.int .i64 v).wf = true) (hl : l.length ≤ 1000000) :
    ∃ w', (Instr.mapUpdate 66 (.map (some b)) (.int .i64 k) (.int .i64 v)).run Try.prog w = .ok () w' ∧ MapIs w' (some b) (putI l k v) ∧ Kept (fun c => some b = some c) w w' := by
  obtain ⟨w', hrun, ho, ht⟩ := World.ownsMap.update h lawI Try.underlying66 (by unfold maxLen; omega) (keyI hk) (plainElem_int Try.underlying3 hv)
  have ho' : w'.ownsMap Try.prog 3 (plainElem Try.prog 3) b (l.length + 1) (mD (putI l k v)) := (put_mD l k v) ▸ ho
  exact ⟨w', hrun, tighten ho', Kept.grown ht⟩
end
section
variable {w : World} {mb : Option Nat} {l : List (Int × Int)} {ops : Array Oper} {rest : List Oper} {o : Oper} {a : Act} {Q : Exit → Act → World → Prop}
theorem wp_drop_is (hg : o.guard = none) (m x : Operand) (hop : o.op = Op.call { callee := Callee.builtin Builtin.delete, args := #[m, x], argTypes := #[66, 3] })
    (hm : a.eval m = .map mb) (h : MapIs w mb l) (k : Int) (hx : a.eval x = .int .i64 k) (hk : (Lit.int .i64 k).wf = true)
    (hK : ∀ w', MapIs w' mb (offI l k) → Kept (fun b => mb = some b) w w' → wpList Try.prog ops Q rest (a.put o.dst (.tuple #[])) w') : wpList Try.prog ops Q (o :: rest) a w := by
  refine wpList_plain hg fun K' hK' => ?_
  obtain ⟨w', hrun, r1, r2⟩ := h.drop hk o.type
  unfold Oper.wp execOp
  simp only [hop, resolve, invoke, builtin, Sem.run_bind, Sem.run_pure, Result.andThen_ok, List.map_toArray, List.map_cons, List.map_nil, hm, hx, hrun]
  exact hK' _ _ (hK w' r1 r2)
theorem wp_put_is {b : Nat} (hg : o.guard = none) (m x v : Operand) (hop : o.op = Op.mapUpdate 66 m x v)
    (hm : a.eval m = .map (some b)) (h : MapIs w (some b) l) (k z : Int) (hx : a.eval x = .int .i64 k) (hv : a.eval v = .int .i64 z) (hk : (Lit.int .i64 k).wf = true) (hz : (Lit.int .i64 z).wf = true) (hl : l.length ≤ 1000000)
    (hK : ∀ w', MapIs w' (some b) (putI l k z) → Kept (fun c => some b = some c) w w' → wpList Try.prog ops Q rest (a.put o.dst undef) w') : wpList Try.prog ops Q (o :: rest) a w := by
  refine wpList_plain hg fun K' hK' => ?_
  obtain ⟨w', hrun, r1, r2⟩ := h.put hk hz hl
  unfold Oper.wp
  simp [execOp, hop, hm, hx, hv, hrun, Result.andThen]
  exact hK' _ _ (hK w' r1 r2)
end
end Go.Proofs.Ytidaimcndbhefaa
/- numbered: pointers by their new numbers. Conditions: lengths. -/
namespace Go.Proofs.Ytidaimcndbhefaa
set_option linter.unusedVariables false
set_option linter.unusedSimpArgs false
open Go.RowKit Go.Maps
def newP (l : List (Int × Int)) (p : Int) : Int := (lookI l p).getD 0
def partI (xs ys : List Int) (k : Nat) : List Int := ys.take k ++ List.replicate (xs.length - k) 0
set_option maxHeartbeats 1000000
set_option maxRecDepth 100000
theorem wfI {n : Int} (h1 : -9223372036854775808 ≤ n) (h2 : n ≤ 9223372036854775807) : (Lit.int .i64 n).wf = true := by
  simp [Lit.wf, IntKind.min, IntKind.max, IntKind.signed, IntKind.bits]; omega
theorem numbered_c (w : World) (A : Option Addr) (c mb : Nat) (ps : List Int) (l : List (Int × Int)) (hr : Rd iV w w.heap.size A ps) (hm : MapIs w (some mb) l) (hl : ps.length ≤ 1000000) (hw : ∀ p ∈ ps, (Lit.int .i64 p).wf = true) : Calls Try.prog 32 #[.slice A ps.length c, .map (some mb)] w fun e w' => ∃ A c, e = .returned (.slice A ps.length c) ∧ Ow iV 3 w' w.heap.size (.slice A ps.length c) (ps.map (newP l)) ∧ Below w.heap.size w w' := by
  have HR := Lib.hid hr
  have HM := Lib.hid hm
  have HW := Lib.hid hw
  obtain ⟨N, hN⟩ : ∃ N, N = ps.length := ⟨_, rfl⟩
  have HN := Lib.hid hN
  have q0 : (N : Int) ≤ 1000000 := by omega
  rw [← hN]
  clear hr hm hw hl hN
  go_enter Try.func32, Try.ntmps32
  go_wp2_with (at_make; refine wp_make (f := iV) oneI rfl _ _ rfl 0 rfl w.heap.size N _ _ _ _ rfl rfl rfl rfl (by omega) (by decide) (Nat.le_refl _) ?_; rintro q w2 hq ho2 hb2 _; have H2 := Lib.hid (And.intro ho2 hb2); have HQ := Lib.hid hq; clear ho2 hb2 hq)
  go_loopw [13] (fun i W => ∃ (k : Nat) (L : List Int), i = .int .i64 k ∧ k ≤ N ∧ Hid (L.length = N ∧ L.take k = (ps.take k).map (newP l)) ∧ Ow iV 3 W w.heap.size (.slice (some ⟨q, 0, none⟩) N N) L ∧ Below w.heap.size w W) (fun i _ => N - (Go.RowKit.intOf i).toNat)
  case atStart => exact ⟨0, _, rfl, Nat.zero_le _, Lib.hid ⟨List.length_replicate, by simp⟩, H2.out⟩
  case round =>
    obtain ⟨k, L, rfl, hk, hL, ho, hB⟩ := hrel
    by_cases hlt : k < N
    · have hkl : k < ps.length := by rw [← HN.out]; exact hlt
      obtain ⟨p, hp⟩ : ∃ p, p = ps[k] := ⟨_, rfl⟩
      obtain ⟨ad, rfl, hcell⟩ : ∃ ad, A = some ad ∧ wr.cell? (ad.add k) = some (.int .i64 p) := by
        obtain ⟨ad, e, _, hc⟩ := (HR.out.below hB) k hkl
        exact ⟨ad, e, by rw [hp]; exact hc⟩
      have hlk := (HM.out.kept (Kept.of_below hB (fun _ => False)) (fun _ _ f => f)).look (HW.out p (by rw [hp]; exact List.getElem_mem _))
      have hkL : k < L.length := by rw [hL.out.1]; exact hlt
      have hf := ho.free k
      have hc := ho.cell (j := k) hkL
      obtain ⟨y, hy⟩ : ∃ y, y = L[k] := ⟨_, rfl⟩
      rw [← hy] at hc
      unfold iV at hc
      obtain ⟨z, hz⟩ : ∃ z, z = (lookI l p).getD 0 := ⟨_, rfl⟩
      rw [← hz] at hlk
      have ho2 : Ow iV 3 (wr.setCell ⟨q, k, none⟩ (.int .i64 z)) w.heap.size (.slice (some ⟨q, 0, none⟩) N N) (L.set k z) := ho.set hkL z
      have hB2 := hB.setCell (p := ⟨q, k, none⟩) (show w.heap.size ≤ q from ho.ge.1) (.int .i64 z)
      have hL2 : (L.set k z).length = N ∧ (L.set k z).take (k + 1) = (ps.take (k + 1)).map (newP l) := by
        refine ⟨by rw [List.length_set]; exact hL.out.1, ?_⟩
        rw [take_snoc (L.set k z) k (by rw [List.length_set]; exact hkL), take_snoc ps k hkl, List.map_append, ← hL.out.2, List.take_set_of_le (Nat.le_refl k)]
        simp [hz, newP, hp]
      have H5 := Lib.hid (And.intro ho2 (And.intro hB2 hL2))
      have hql := ho.ge.2
      have p1 : (0 : Int) ≤ (k : Int) := by omega
      have p2 : (k : Int) < (N : Int) := by omega
      clear hp hL ho hB ho2 hB2 hL2 hkl hkL hy hz
      go_wp2_with fail
      go_roundw
      case rel => exact ⟨k + 1, _, by go_num, by omega, Lib.hid H5.out.2.2, H5.out.1, H5.out.2.1⟩
      case measure => simp [Go.RowKit.intOf]; omega
    · have hfin : L = ps.map (newP l) := by
        have h := hL.out.2
        rwa [List.take_of_length_le (by rw [hL.out.1]; omega), List.take_of_length_le (by rw [← HN.out]; omega)] at h
      have HO := Lib.hid (And.intro ho (And.intro hB hfin))
      clear ho hB hfin hL
      go_wp2_with fail
      go_ret
      refine ⟨_, _, rfl, ?_, HO.out.2.1⟩
      rw [← HO.out.2.2]
      exact HO.out.1
end Go.Proofs.Ytidaimcndbhefaa
/- What Trim makes of a row of bools. No conditions. -/
namespace Go.Proofs.Ytidaimcndbhefaa
set_option linter.unusedVariables false
set_option linter.unusedSimpArgs false
open Go.RowKit Go.Maps
/-- Old numbers and new ones of what is reached. -/
def pairsB : List Bool → Nat → Nat → List (Int × Int)
  | [], _, _ => []
  | b :: r, i, c => if b = true then ((i : Int) + 1, (c : Int) + 1) :: pairsB r (i + 1) (c + 1) else pairsB r (i + 1) c
def toB : List Bool → Nat → List Int
  | [], _ => []
  | b :: r, c => if b = true then ((c : Int) + 1) :: toB r (c + 1) else 0 :: toB r c
def trimN (now : List (Int × Int)) : List Nv → List Bool → List (List Int × List (BitVec 8))
  | x :: r, b :: l => if b = true then (x.ps.map (newP now), x.bs) :: trimN now r l else trimN now r l
  | _, _ => []
theorem pairs_len (L : List Bool) : ∀ i c, (pairsB L i c).length = L.count true := by
  induction L with
  | nil => intro i c; rfl
  | cons b r ih =>
    intro i c
    unfold pairsB
    cases b
    · rw [if_neg (by simp), ih]; simp
    · rw [if_pos rfl, List.length_cons, ih]; simp
theorem pairs_snoc (b : Bool) (L : List Bool) : ∀ i c, pairsB (L ++ [b]) i c = pairsB L i c ++ (if b = true then [(((i + L.length : Nat) : Int) + 1, ((c + L.count true : Nat) : Int) + 1)] else []) := by
  induction L with
  | nil => intro i c; cases b <;> simp [pairsB]
  | cons a r ih =>
    intro i c
    simp only [List.cons_append, pairsB]
    cases a
    · simp only [Bool.false_eq_true, if_false]
      rw [ih]
      simp only [List.length_cons, List.count_cons]
      have e : i + 1 + r.length = i + (r.length + 1) := by omega
      rw [e]
      simp
    · simp only [if_true]
      rw [ih]
      simp only [List.length_cons, List.count_cons, List.cons_append]
      have e : i + 1 + r.length = i + (r.length + 1) := by omega
      have e2 : c + 1 + r.count true = c + (r.count true + 1) := by omega
      rw [e, e2]
      simp
theorem pairs_keys (L : List Bool) : ∀ i c, ∀ p ∈ pairsB L i c, (i : Int) + 1 ≤ p.1 ∧ p.1 ≤ ((i + L.length : Nat) : Int) ∧ 1 ≤ p.2 ∧ p.2 ≤ ((c + L.length : Nat) : Int) := by
  induction L with
  | nil => intro i c p h; cases h
  | cons b r ih =>
    intro i c p h
    unfold pairsB at h
    cases b
    · rw [if_neg (by simp)] at h
      have := ih _ _ p h
      simp only [List.length_cons]
      omega
    · rw [if_pos rfl] at h
      rcases List.mem_cons.1 h with rfl | h
      · simp only [List.length_cons]; omega
      · have := ih _ _ p h
        simp only [List.length_cons]
        omega
theorem toB_len (L : List Bool) : ∀ c, (toB L c).length = L.length := by
  induction L with
  | nil => intro c; rfl
  | cons b r ih => intro c; unfold toB; cases b <;> simp [ih]
theorem toB_snoc (b : Bool) (L : List Bool) : ∀ c, toB (L ++ [b]) c = toB L c ++ [if b = true then ((c + L.count true : Nat) : Int) + 1 else 0] := by
  induction L with
  | nil => intro c; cases b <;> simp [toB]
  | cons a r ih =>
    intro c
    simp only [List.cons_append, toB]
    cases a
    · simp only [Bool.false_eq_true, if_false]
      rw [ih]; simp
    · simp only [if_true]
      rw [ih]
      have e2 : c + 1 + r.count true = c + (r.count true + 1) := by omega
      simp [e2]
theorem toB_get (L : List Bool) (k : Nat) (h : k < L.length) : ∀ c, (toB L c)[k]? = some (if L[k] = true then ((c + (L.take k).count true : Nat) : Int) + 1 else 0) := by
  intro c
  have e : L = L.take k ++ [L[k]] ++ L.drop (k + 1) := by rw [List.append_assoc, List.singleton_append, List.getElem_cons_drop, List.take_append_drop]
  have app : ∀ (a b : List Bool) c, toB (a ++ b) c = toB a c ++ toB b (c + a.count true) := by
    intro a b
    induction a with
    | nil => intro c; simp [toB]
    | cons x r ih =>
      intro c
      simp only [List.cons_append, toB]
      cases x
      · simp only [Bool.false_eq_true, if_false]
        rw [ih]; simp
      · simp only [if_true]
        rw [ih]
        have e2 : c + 1 + r.count true = c + (r.count true + 1) := by omega
        simp [e2]
  have h1 : toB L c = toB (L.take k) c ++ [if L[k] = true then ((c + (L.take k).count true : Nat) : Int) + 1 else 0] ++ toB (L.drop (k + 1)) (c + (L.take k ++ [L[k]]).count true) := by
    conv => lhs; rw [e]
    rw [app, toB_snoc]
  rw [h1, List.append_assoc, List.getElem?_append_right (by rw [toB_len, List.length_take]; omega), toB_len, List.length_take, show k - min k L.length = 0 by omega]
  rfl
theorem trimN_snoc (now : List (Int × Int)) (x : Nv) (b : Bool) : ∀ (ns : List Nv) (L : List Bool), ns.length = L.length → trimN now (ns ++ [x]) (L ++ [b]) = trimN now ns L ++ (if b = true then [(x.ps.map (newP now), x.bs)] else [])
  | [], [], _ => by cases b <;> simp [trimN]
  | y :: r, a :: l, h => by
    simp only [List.cons_append, trimN]
    rw [trimN_snoc now x b r l (by simpa using h)]
    cases a <;> simp
  | [], a :: l, h => by simp at h
  | y :: r, [], h => by simp at h
theorem put_pairs (L : List Bool) (k : Nat) (hk : k < L.length) (h : L[k] = true) : putI (pairsB (L.take k) 0 0) ((k : Int) + 1) (((pairsB (L.take k) 0 0).length : Int) + 1) = pairsB (L.take (k + 1)) 0 0 := by
  have hlen : (L.take k).length = k := by rw [List.length_take]; omega
  rw [List.take_succ_eq_append_getElem hk, pairs_snoc, h, if_pos rfl, pairs_len, hlen]
  rw [put_end _ _ _ (fun p hp => by
    have := pairs_keys (L.take k) 0 0 p hp
    rw [hlen] at this
    omega)]
  simp
theorem look_pairs (L : List Bool) (k : Nat) (hk : k < L.length) (h : L[k] = true) : (lookI (pairsB (L.take (k + 1)) 0 0) ((k : Int) + 1)).getD 0 = (((L.take k).count true : Nat) : Int) + 1 := by
  have hlen : (L.take k).length = k := by rw [List.length_take]; omega
  rw [List.take_succ_eq_append_getElem hk, pairs_snoc, h, if_pos rfl, hlen]
  rw [show (0 + k : Nat) = k by omega, look_mid _ [] _ _ (fun p hp => by
    have := pairs_keys (L.take k) 0 0 p hp
    rw [hlen] at this
    omega)]
  simp
end Go.Proofs.Ytidaimcndbhefaa
/- What is reached: steps over seen and work. No conditions. -/
namespace Go.Proofs.Ytidaimcndbhefaa
set_option linter.unusedVariables false
set_option linter.unusedSimpArgs false
open Go.RowKit
theorem hasG_iff {N : Nat} {p : Int} : hasG N p = true ↔ 1 ≤ p ∧ p ≤ (N : Int) := decide_eq_true_iff
def seenG (s : List Bool) (p : Int) : Bool := s.getD (p - 1).toNat true
def stepS (N : Nat) (s : List Bool × List Int) (p : Int) : List Bool × List Int := if (hasG N p && !seenG s.1 p) = true then (s.1.set (p - 1).toNat true, s.2 ++ [p]) else s
/-- The pointers of a node. -/
def ptrsG (ns : List Nv) (p : Int) : List Int := match ns[(p - 1).toNat]? with | some x => x.ps | none => []
inductive Rch (ns : List Nv) (fr : List Int) : Int → Prop
  | base (p : Int) : p ∈ fr → hasG ns.length p = true → Rch ns fr p
  | step (p q : Int) : Rch ns fr p → q ∈ ptrsG ns p → hasG ns.length q = true → Rch ns fr q
theorem Rch.has {ns : List Nv} {fr : List Int} {p : Int} (h : Rch ns fr p) : hasG ns.length p = true := by cases h <;> assumption
/-- Seen: all that is seen is reached; what is seen is in the work, or what it points at is seen (but for what is behind t). -/
structure Inv (ns : List Nv) (fr : List Int) (seen : List Bool) (work : List Int) (open_ : Int → Prop) : Prop where
  len : seen.length = ns.length
  ok : ∀ p, hasG ns.length p = true → seenG seen p = true → Rch ns fr p
  next : ∀ p, hasG ns.length p = true → seenG seen p = true → p ∈ work ∨ open_ p ∨ ∀ q ∈ ptrsG ns p, hasG ns.length q = true → seenG seen q = true
  has : ∀ p ∈ work, hasG ns.length p = true ∧ seenG seen p = true
theorem seen_set {N : Nat} {s : List Bool} (hs : s.length = N) {p q : Int} (hp : hasG N p = true) (hq : hasG N q = true) : seenG (s.set (p - 1).toNat true) q = if q = p then true else seenG s q := by
  have h1 := hasG_iff.1 hp
  have h2 := hasG_iff.1 hq
  unfold seenG
  rw [List.getD_eq_getElem?_getD, List.getElem?_set, List.getD_eq_getElem?_getD]
  by_cases e : q = p
  · subst e
    rw [if_pos rfl, if_pos (by omega), if_pos rfl]; rfl
  · rw [if_neg (by omega), if_neg e]
theorem step_len {N : Nat} {s : List Bool × List Int} {p : Int} : (stepS N s p).1.length = s.1.length := by
  unfold stepS; split
  · rw [List.length_set]
  · rfl
theorem steps_len {N : Nat} (l : List Int) : ∀ (s : List Bool × List Int), (l.foldl (stepS N) s).1.length = s.1.length := by
  induction l with
  | nil => intro s; rfl
  | cons p r ih => intro s; rw [List.foldl_cons, ih, step_len]
/-- How much is left: nodes that are not seen count twice. -/
def leftG (s : List Bool × List Int) : Nat := 2 * s.1.count false + s.2.length
theorem count_set (s : List Bool) (i : Nat) (h : s[i]? = some false) : (s.set i true).count false + 1 = s.count false := by
  induction s generalizing i with
  | nil => cases h
  | cons x r ih =>
    cases i with
    | zero =>
      have : x = false := by simpa using h
      subst this
      simp
    | succ i =>
      have := ih i (by simpa using h)
      rw [List.set_cons_succ, List.count_cons, List.count_cons]
      omega
theorem step_left {N : Nat} {s : List Bool × List Int} (hs : s.1.length = N) (p : Int) : leftG (stepS N s p) ≤ leftG s := by
  unfold stepS
  split
  · rename_i h
    rw [Bool.and_eq_true] at h
    have h1 := hasG_iff.1 h.1
    have h2 : seenG s.1 p = false := by simpa using h.2
    unfold seenG at h2
    rw [List.getD_eq_getElem?_getD, List.getElem?_eq_getElem (by omega)] at h2
    have h3 := count_set s.1 (p - 1).toNat (by rw [List.getElem?_eq_getElem (by omega)]; exact congrArg some h2)
    unfold leftG
    simp only [List.length_append, List.length_cons, List.length_nil]
    omega
  · exact Nat.le_refl _
theorem steps_left {N : Nat} (l : List Int) : ∀ (s : List Bool × List Int), s.1.length = N → leftG (l.foldl (stepS N) s) ≤ leftG s := by
  induction l with
  | nil => intro s _; exact Nat.le_refl _
  | cons p r ih =>
    intro s hs
    rw [List.foldl_cons]
    exact Nat.le_trans (ih _ (by rw [step_len]; exact hs)) (step_left hs p)
theorem steps_inv {ns : List Nv} {fr : List Int} {op : Int → Prop} : ∀ (l : List Int) (s : List Bool × List Int), Inv ns fr s.1 s.2 op → (∀ q ∈ l, hasG ns.length q = true → Rch ns fr q) →
    Inv ns fr (l.foldl (stepS ns.length) s).1 (l.foldl (stepS ns.length) s).2 op ∧ (∀ q ∈ l, hasG ns.length q = true → seenG (l.foldl (stepS ns.length) s).1 q = true) ∧ (∀ q, hasG ns.length q = true → seenG s.1 q = true → seenG (l.foldl (stepS ns.length) s).1 q = true)
  | [], s, h, _ => ⟨h, fun q hq => (by cases hq), fun q _ h => h⟩
  | p :: r, s, h, hr => by
    rw [List.foldl_cons]
    have key : Inv ns fr (stepS ns.length s p).1 (stepS ns.length s p).2 op ∧ (hasG ns.length p = true → seenG (stepS ns.length s p).1 p = true) ∧ (∀ q, hasG ns.length q = true → seenG s.1 q = true → seenG (stepS ns.length s p).1 q = true) := by
      unfold stepS
      by_cases c : (hasG ns.length p && !seenG s.1 p) = true
      · rw [if_pos c]
        rw [Bool.and_eq_true] at c
        have hset : ∀ q, hasG ns.length q = true → seenG (s.1.set (p - 1).toNat true) q = if q = p then true else seenG s.1 q := fun q hq => seen_set h.len c.1 hq
        have hold : ∀ q, hasG ns.length q = true → seenG s.1 q = true → seenG (s.1.set (p - 1).toNat true) q = true := fun q h1 h2 => by rw [hset q h1]; split <;> simp [*]
        refine ⟨⟨by rw [List.length_set]; exact h.len, fun q hq hs => ?_, fun q hq hs => ?_, fun q hq => ?_⟩, fun _ => by rw [hset p c.1, if_pos rfl], hold⟩
        · rw [hset q hq] at hs
          by_cases e : q = p
          · rw [e]; exact hr p (by simp) c.1
          · rw [if_neg e] at hs; exact h.ok q hq hs
        · rw [hset q hq] at hs
          by_cases e : q = p
          · exact .inl (by simp [e])
          · rw [if_neg e] at hs
            rcases h.next q hq hs with h1 | h1 | h1
            · exact .inl (by simp [h1])
            · exact .inr (.inl h1)
            · exact .inr (.inr (fun u hu hhu => hold u hhu (h1 u hu hhu)))
        · rcases List.mem_append.1 hq with h1 | h1
          · obtain ⟨g1, g2⟩ := h.has q h1
            exact ⟨g1, hold q g1 g2⟩
          · obtain rfl : q = p := by simpa using h1
            exact ⟨c.1, by rw [hset q c.1, if_pos rfl]⟩
      · rw [if_neg c]
        refine ⟨h, fun hp => ?_, fun q _ h => h⟩
        rw [Bool.and_eq_true, not_and] at c
        have := c hp
        simpa using this
    obtain ⟨k1, k2, k3⟩ := key
    obtain ⟨i1, i2, i3⟩ := steps_inv r (stepS ns.length s p) k1 (fun q hq => hr q (by simp [hq]))
    refine ⟨i1, fun q hq hh => ?_, fun q hh hs => i3 q hh (k3 q hh hs)⟩
    rcases List.mem_cons.1 hq with e | hq
    · subst e; exact i3 q hh (k2 hh)
    · exact i2 q hq hh
/-- At the end. -/
theorem inv_end {ns : List Nv} {fr : List Int} {seen : List Bool} (h : Inv ns fr seen [] (fun _ => False)) (hf : ∀ q ∈ fr, hasG ns.length q = true → seenG seen q = true) : ∀ p, hasG ns.length p = true → (seenG seen p = true ↔ Rch ns fr p) := by
  intro p hp
  refine ⟨h.ok p hp, fun hr => ?_⟩
  induction hr with
  | base p h1 h2 => exact hf p h1 h2
  | step p q h1 h2 h3 ih =>
    rcases h.next p h1.has (ih h1.has) with e | e | e
    · cases e
    · exact e.elim
    · exact e q h2 h3
theorem inv_start (ns : List Nv) (fr : List Int) : Inv ns fr (List.replicate ns.length false) [] (fun _ => False) := by
  have hno : ∀ p, hasG ns.length p = true → seenG (List.replicate ns.length false) p = false := fun p hp => by
    have := hasG_iff.1 hp
    unfold seenG
    rw [List.getD_eq_getElem?_getD, List.getElem?_replicate, if_pos (by omega)]; rfl
  refine ⟨List.length_replicate, fun p hp h => ?_, fun p hp h => ?_, fun p h => by cases h⟩
  · rw [hno p hp] at h; cases h
  · rw [hno p hp] at h; cases h
/-- One is taken off the work. -/
theorem inv_pop {ns : List Nv} {fr : List Int} {seen : List Bool} {work : List Int} {p : Int} (h : Inv ns fr seen (work ++ [p]) (fun _ => False)) : Inv ns fr seen work (fun q => q = p) :=
  ⟨h.len, h.ok, fun q hq hs => by
    rcases h.next q hq hs with e | e | e
    · rcases List.mem_append.1 e with e | e
      · exact .inl e
      · exact .inr (.inl (by simpa using e))
    · exact e.elim
    · exact .inr (.inr e), fun q hq => h.has q (by simp [hq])⟩
theorem inv_round {ns : List Nv} {fr : List Int} {seen : List Bool} {work : List Int} {p : Int} (h : Inv ns fr seen (work ++ [p]) (fun _ => False)) :
    Inv ns fr ((ptrsG ns p).foldl (stepS ns.length) (seen, work)).1 ((ptrsG ns p).foldl (stepS ns.length) (seen, work)).2 (fun _ => False) ∧ (∀ q, hasG ns.length q = true → seenG seen q = true → seenG ((ptrsG ns p).foldl (stepS ns.length) (seen, work)).1 q = true) := by
  have hp := h.has p (by simp)
  have hrp := h.ok p hp.1 hp.2
  obtain ⟨i1, i2, i3⟩ := steps_inv (ptrsG ns p) (seen, work) (inv_pop h) (fun q hq hh => .step p q hrp hq hh)
  refine ⟨⟨i1.len, i1.ok, fun q hq hs => ?_, i1.has⟩, i3⟩
  rcases i1.next q hq hs with e | e | e
  · exact .inl e
  · subst e
    exact .inr (.inr (fun u hu hh => i2 u hu hh))
  · exact .inr (.inr e)
end Go.Proofs.Ytidaimcndbhefaa
/- mem: inside, New, Len. Conditions: 64-bit numbers. -/
namespace Go.Proofs.Ytidaimcndbhefaa
set_option linter.unusedVariables false
set_option linter.unusedSimpArgs false
open Go.RowKit
def u64v (x : BitVec 64) : Value := .int .u64 (U64 x)
def inM (L at_ n : Int) : Bool := decide (0 ≤ n) && (decide (0 ≤ at_) && (decide (n ≤ L) && decide (at_ ≤ L - n)))
theorem Rd.grown {α : Type} {f : α → Value} {w w' : World} {row : Option Nat} {A : Option Addr} {xs : List α} (h : Rd f w w.heap.size A xs) (hg : w.grownBy w' row) (ha : ∀ a, A = some a → some a.block ≠ row) : Rd f w' w'.heap.size A xs := fun j hj => by
  obtain ⟨ad, e, hb, hc⟩ := h j hj
  have hs := hg.size
  refine ⟨ad, e, by omega, ?_⟩
  rw [← hc]
  exact World.cell?_of_block (by rw [add_block]; exact hg.block _ hb (ha ad e))
theorem grown_refl (w : World) (row : Option Nat) : w.grownBy w row := ⟨rfl, rfl, rfl, Nat.le_refl _, fun _ _ _ => rfl⟩
theorem grown_set (w : World) (a : Addr) (u : Value) : w.grownBy (w.setCell a u) (some a.block) :=
  ⟨rfl, rfl, rfl, by simp [World.setCell], fun k _ hne => Below.heap_setCell _ _ _ _ (fun e => hne (by rw [e]))⟩
theorem grown_draw {w w' : World} {row : Option Nat} (h : w.grownBy w' row) : w.grownBy w'.drew row := ⟨h.os, h.tape, h.output, h.size, h.block⟩
theorem grown_below {w w' : World} {q B : Nat} (h : w.grownBy w' (some q)) (hB : B ≤ q) (hs : B ≤ w.heap.size) : Below B w w' := below_of_grown h hs (fun k e => by injection e with e; omega)
theorem grown_none {w w' : World} (h : Below w.heap.size w w') (row : Option Nat) : w.grownBy w' row := ⟨h.os, h.tape, h.output, h.size, fun k hk _ => h.block k hk⟩
set_option maxHeartbeats 400000
end Go.Proofs.Ytidaimcndbhefaa
/- The closure of graph.Reach. Conditions: lengths. -/
namespace Go.Proofs.Ytidaimcndbhefaa
set_option linter.unusedVariables false
set_option linter.unusedSimpArgs false
open Go.RowKit
def tV (b : Bool) : Value := .bool b
theorem tV_one : ∀ x : Bool, (tV x).oneCell' = true := fun _ => rfl
theorem oneT : One Try.prog 37 4 (.bool false) 1 :=
  ⟨by kernel_rfl, by
    have h : (Try.prog.info? 4).map (fun i => (i.zero, i.size, i.bytes)) = some (some (.bool false), 1, 1) := by kernel_rfl
    obtain ⟨i, h1, h2, h3, h4⟩ := info_parts h
    exact ⟨i, h1, h2, h3, h4⟩, rfl⟩
/-- What Reach works on: the graph's box, what is seen, the work. -/
structure RS (W : World) (s q sb wb : Nat) (vn vr : Value) (N : Nat) (seen : List Bool) (work : List Int) : Prop where
  gb : Bk W s 25 #[vn, vr]
  sbk : Bk W sb 37 #[.slice (some ⟨q, 0, none⟩) N N]
  sn : Ow tV 4 W (s + 1) (.slice (some ⟨q, 0, none⟩) N N) seen
  wk : ∃ v, Bk W wb 26 #[v] ∧ Ow iV 3 W (wb + 1) v work
  ord : s < q ∧ q < sb ∧ sb < wb
theorem RS.below {W W' : World} {s q sb wb : Nat} {vn vr : Value} {N : Nat} {seen : List Bool} {work : List Int} (h : RS W s q sb wb vn vr N seen work) (hb : Below W.heap.size W W') : RS W' s q sb wb vn vr N seen work := by
  obtain ⟨v, h1, h2⟩ := h.wk
  exact ⟨h.gb.below hb h.gb.lt, h.sbk.below hb h.sbk.lt, h.sn.below hb, ⟨v, h1.below hb h1.lt, h2.below hb⟩, h.ord⟩
theorem fold_take {N : Nat} (ps : List Int) (k : Nat) (h : k < ps.length) (s : List Bool × List Int) : (ps.take (k + 1)).foldl (stepS N) s = stepS N ((ps.take k).foldl (stepS N) s) ps[k] := by
  rw [List.take_succ_eq_append_getElem h, List.foldl_append]; rfl
theorem rd1_newS (w : World) (a : Addr) (u : Value) (E : TypeId) (t : Int) : Rd iV ((w.setCell a u).alloc (.cells #[.int .i64 t] E)) (w.heap.size + 1) (some ⟨w.heap.size, 0, none⟩) [t] := by
  have := rd1_new (f := iV) (w := w.setCell a u) (E := E) (y := t) (u := .int .i64 t) rfl
  have e : (w.setCell a u).heap.size = w.heap.size := by simp [World.setCell]
  rw [e] at this
  exact this
set_option maxHeartbeats 2000000
set_option maxRecDepth 100000
theorem look_c (w : World) (s q sb wb : Nat) (A1 A2 : Option Addr) (N c1 M c2 : Nat) (seen : List Bool) (work : List Int) (h : RS w s q sb wb (.slice A1 N c1) (.slice A2 M c2) N seen work) (hs : seen.length = N) (A : Option Addr) (c : Nat) (ps : List Int) (hr : Rd iV w s A ps) (hl : ps.length ≤ 1000000) (hL : leftG (seen, work) ≤ 4000000) (hN : N ≤ 1000000) :
    Calls Try.prog 30 #[.slice A ps.length c, .pointer (some ⟨s, 0, none⟩), .pointer (some ⟨sb, 0, none⟩), .pointer (some ⟨wb, 0, none⟩)] w fun e w' => e = .returned (.tuple #[]) ∧ RS w' s q sb wb (.slice A1 N c1) (.slice A2 M c2) N (ps.foldl (stepS N) (seen, work)).1 (ps.foldl (stepS N) (seen, work)).2 ∧ Below s w w' := by
  obtain ⟨st, hst⟩ : ∃ st, st = (seen, work) := ⟨_, rfl⟩
  have H0 := Lib.hid (show RS w s q sb wb (.slice A1 N c1) (.slice A2 M c2) N st.1 st.2 from by rw [hst]; exact h)
  have HS0 := Lib.hid (show st.1.length = N ∧ leftG st ≤ 4000000 from by rw [hst]; exact ⟨hs, hL⟩)
  rw [← hst]
  have HR := Lib.hid hr
  obtain ⟨L, hLn⟩ : ∃ L, L = ps.length := ⟨_, rfl⟩
  have HLn := Lib.hid hLn
  rw [← hLn]
  have q0 : (L : Int) ≤ 1000000 := by omega
  have q1 : (N : Int) ≤ 1000000 := by omega
  have HHas := Lib.hid (fun W p => has_c W A1 A2 N c1 M c2 p)
  have hsw : s < w.heap.size := h.gb.lt
  clear h hs hr hl hL hst hLn hN
  go_enter Try.func30, Try.ntmps30
  go_wp2_with fail
  go_loopw [9] (fun i W => ∃ (k : Nat) (t : List Bool × List Int), i = .int .i64 k ∧ k ≤ L ∧ Hid (t = (ps.take k).foldl (stepS N) st) ∧ RS W s q sb wb (.slice A1 N c1) (.slice A2 M c2) N t.1 t.2 ∧ Below s w W) (fun i _ => L - (Go.RowKit.intOf i).toNat)
  case atStart => exact ⟨0, st, rfl, Nat.zero_le _, Lib.hid rfl, H0.out, Below.refl _ _⟩
  case round =>
    obtain ⟨k, t, rfl, hk, ht, hS, hB⟩ := hrel
    by_cases hlt : k < L
    · have hkl : k < ps.length := by rw [← HLn.out]; exact hlt
      obtain ⟨p, hp⟩ : ∃ p, p = ps[k] := ⟨_, rfl⟩
      obtain ⟨ad, rfl, hcell⟩ : ∃ ad, A = some ad ∧ wr.cell? (ad.add k) = some (.int .i64 p) := by
        obtain ⟨ad, e, _, hc⟩ := (HR.out.below hB) k hkl
        exact ⟨ad, e, by rw [hp]; exact hc⟩
      have hnx := fold_take (N := N) ps k hkl st
      rw [← ht.out, ← hp] at hnx
      have htl : t.1.length = N := by rw [ht.out, steps_len]; exact HS0.out.1
      have hlf : leftG t ≤ 4000000 := by
        rw [ht.out]
        exact Nat.le_trans (steps_left _ _ HS0.out.1) HS0.out.2
      have HNX := Lib.hid (And.intro hnx (And.intro htl hlf))
      have g0 := hS.gb.two.1
      have g1 := hS.gb.two.2
      have HSS := Lib.hid (And.intro hS hB)
      have HQ := Lib.hid (HHas.out wr p)
      have p1 : (0 : Int) ≤ (k : Int) := by omega
      have p2 : (k : Int) < (L : Int) := by omega
      clear hp hkl hnx htl hlf hS hB ht
      cases hh : hasG N p with
      | false =>
        rw [hh] at HQ
        have HE := Lib.hid (show stepS N t p = t from by unfold stepS; rw [hh]; rfl)
        clear hh
        go_wp2_with fail
        refine Calls.mono HQ.out ?_
        rintro r w2 ⟨rfl, b2⟩
        have H2 := Lib.hid (And.intro (HSS.out.1.below b2) (HSS.out.2.trans (b2.mono (Nat.le_of_lt HSS.out.1.gb.lt))))
        clear b2 HQ
        go_wp2_with fail
        go_roundw
        case rel => exact ⟨k + 1, t, by go_num, by omega, Lib.hid (by rw [HNX.out.1, HE.out]), H2.out⟩
        case measure => (first | (simp [Go.RowKit.intOf]; done) | (simp [Go.RowKit.intOf]; omega))
      | true =>
        rw [hh] at HQ
        obtain ⟨j, rfl, hj⟩ : ∃ j : Nat, p = (j : Int) + 1 ∧ j < N := by
          have := hasG_iff.1 hh
          exact ⟨(p - 1).toNat, by omega, by omega⟩
        have hjt : j < t.1.length := by rw [HNX.out.2.1]; exact hj
        obtain ⟨y, hy⟩ : ∃ y, y = t.1[j] := ⟨_, rfl⟩
        have hsy : seenG t.1 ((j : Int) + 1) = y := by
          unfold seenG
          rw [show ((j : Int) + 1 - 1).toNat = j by omega, List.getD_eq_getElem?_getD, List.getElem?_eq_getElem hjt, hy]; rfl
        have hstp : stepS N t ((j : Int) + 1) = if y = true then t else (t.1.set j true, t.2 ++ [(j : Int) + 1]) := by
          unfold stepS
          rw [hh, hsy, show ((j : Int) + 1 - 1).toNat = j by omega]
          cases y <;> rfl
        have HST := Lib.hid hstp
        have j1 : (0 : Int) ≤ (j : Int) := by omega
        have j2 : (j : Int) < (N : Int) := by omega
        have HJ := Lib.hid (show t.1[j]? = some y from by rw [hy]; exact List.getElem?_eq_getElem hjt)
        clear hh hjt hsy hstp hj hy
        go_wp2_with fail
        refine Calls.mono HQ.out ?_
        rintro r w2 ⟨rfl, b2⟩
        have hS2 := HSS.out.1.below b2
        have hB2 := HSS.out.2.trans (b2.mono (Nat.le_of_lt HSS.out.1.gb.lt))
        have s0 : w2.cell? ⟨sb, 0, none⟩ = some (.slice (some ⟨q, 0, none⟩) N N) := hS2.sbk.cell 0
        have s1 : w2.cell? ⟨q, j, none⟩ = some (.bool y) := by
          obtain ⟨hj, e⟩ := List.getElem?_eq_some_iff.1 HJ.out
          have := hS2.sn.cell hj
          rw [e] at this
          exact this
        have s2 := hS2.sn.free j
        have hS2q : q < w2.heap.size := hS2.sn.ge.2
        have H2 := Lib.hid (And.intro hS2 hB2)
        clear b2 HQ hS2 hB2
        cases y with
        | true =>
          have HE := Lib.hid (HST.out.trans (if_pos rfl))
          go_wp2_with fail
          go_roundw
          case rel => exact ⟨k + 1, t, by go_num, by omega, Lib.hid (by rw [HNX.out.1, HE.out]), H2.out⟩
          case measure => (first | (simp [Go.RowKit.intOf]; done) | (simp [Go.RowKit.intOf]; omega))
        | false =>
          have HE := Lib.hid (HST.out.trans (if_neg (by simp)))
          obtain ⟨v, k1, k2⟩ := H2.out.1.wk
          obtain ⟨VA, vc, rfl, hvc⟩ := k2.form
          have hwl : t.2.length ≤ 4000000 := by have := HNX.out.2.2; unfold leftG at this; omega
          obtain ⟨vl, hvl⟩ : ∃ vl, vl = t.2.length := ⟨_, rfl⟩
          rw [← hvl] at k1 k2
          have hord := H2.out.1.ord
          have k10 : w2.cell? ⟨wb, 0, none⟩ = some (.slice VA vl vc) := k1.cell 0
          have hne : ¬ q = wb := by omega
          have hne2 : ¬ wb = q := by omega
          have hwbs := k1.lt
          have hsz : (w2.setCell ⟨q, j, none⟩ (.bool true)).heap.size = w2.heap.size := by simp [World.setCell]
          have hbs : Below s w (w2.setCell ⟨q, j, none⟩ (.bool true)) := H2.out.2.setCell (p := ⟨q, j, none⟩) (show s ≤ q by omega) _
          have K1 := Lib.hid (show Bk (w2.setCell ⟨q, j, none⟩ (.bool true)) wb 26 #[.slice VA vl vc] ∧ Ow iV 3 (w2.setCell ⟨q, j, none⟩ (.bool true)) (wb + 1) (.slice VA vl vc) t.2 ∧ Bk (w2.setCell ⟨q, j, none⟩ (.bool true)) s 25 #[.slice A1 N c1, .slice A2 M c2] ∧ Bk (w2.setCell ⟨q, j, none⟩ (.bool true)) sb 37 #[.slice (some ⟨q, 0, none⟩) N N] ∧ Ow tV 4 (w2.setCell ⟨q, j, none⟩ (.bool true)) (s + 1) (.slice (some ⟨q, 0, none⟩) N N) (t.1.set j true) ∧ Below s w (w2.setCell ⟨q, j, none⟩ (.bool true)) ∧ (w2.setCell ⟨q, j, none⟩ (.bool true)).heap.size = w2.heap.size from by
            refine ⟨k1.far (p := ⟨q, j, none⟩) (show wb ≠ q by omega) _, k2.kept (grown_set w2 ⟨q, j, none⟩ (.bool true)) (by
              cases e : (Value.slice VA vl vc).ownBlock with
              | none => exact .inl rfl
              | some c => exact .inr (fun e2 => by injection e2 with e2; have e3 : c = q := e2; have := (k2.lt c e).1; omega)), H2.out.1.gb.far (p := ⟨q, j, none⟩) (show s ≠ q by omega) _, H2.out.1.sbk.far (p := ⟨q, j, none⟩) (show sb ≠ q by omega) _, ?_, hbs, hsz⟩
            obtain ⟨hj, _⟩ := List.getElem?_eq_some_iff.1 HJ.out
            exact H2.out.1.sn.set hj true)
          have HO := Lib.hid (And.intro hord hwbs)
          have HV := Lib.hid (And.intro hvl hwl)
          clear k1 k2 hvl hvc hbs hsz hord hwl
          go_wp2_with (at_builtin; refine wp_app oneI iV_one rfl (.tmp 28) (.tmp 30) rfl (wb + 1) _ t.2 rfl (K1.out.2.1.alloc _) (some ⟨w2.heap.size, 0, none⟩) 1 1 [(j : Int) + 1] rfl rfl (w2.heap.size + 1) (rd1_newS _ _ _ _ _) (by have := HV.out.2; simp; omega) (by decide) (by have := K1.out.2.2.2.2.2.2; have := HO.out.2; simp; omega) ?_; intro v5 w5 ho5 hb5 hg5 _; obtain ⟨VA5, vc5, rfl, _⟩ := ho5.form; have HL5 := Lib.hid (show (t.2 ++ [(j : Int) + 1]).length = vl + 1 from by rw [List.length_append, ← HV.out.1]; rfl); obtain ⟨n5, hn5⟩ : ∃ n, n = (t.2 ++ [(j : Int) + 1]).length := ⟨_, rfl⟩; rw [← hn5] at ho5 ⊢; clear hn5; have H5 := Lib.hid (And.intro ho5 hb5); have m5 := (K1.out.1.alloc (.cells #[.int .i64 ((j : Int) + 1)] 3)).below hb5 (by omega); have m50 := m5.cell 0; have m51 := m5.free 0; have M5 := Lib.hid m5; clear ho5 hb5 hg5 m5)
          have H6 := Lib.hid (show RS (w5.setCell ⟨wb, 0, none⟩ (.slice VA5 n5 vc5)) s q sb wb (.slice A1 N c1) (.slice A2 M c2) N (t.1.set j true) (t.2 ++ [(j : Int) + 1]) ∧ Below s w (w5.setCell ⟨wb, 0, none⟩ (.slice VA5 n5 vc5)) from by
            obtain ⟨o1, o2⟩ := HO.out
            obtain ⟨f1, f2, f3, f4, f5, f6, f7⟩ := K1.out
            obtain ⟨g1, g2⟩ := H5.out
            refine ⟨⟨((f3.alloc _).below g2 (by omega)).far (p := ⟨wb, 0, none⟩) (show s ≠ wb by omega) _, ((f4.alloc _).below g2 (by omega)).far (p := ⟨wb, 0, none⟩) (show sb ≠ wb by omega) _, ?_, ⟨_, M5.out.set 0 _, ?_⟩, o1⟩, ?_⟩
            · have h1 := f5.alloc (.cells #[.int .i64 ((j : Int) + 1)] 3)
              have e : ∀ k, (Value.slice (some ⟨q, 0, none⟩) N N).ownBlock = some k → k = q := fun k e => by injection e with e; exact e.symm
              obtain ⟨g3, g4⟩ := h1
              refine ⟨g3, ?_⟩
              rcases g4 with ⟨e1, _⟩ | ⟨gg, cap, cur, e1, r1, r2, r3⟩
              · cases e1
              · have e2 : gg = q := by injection e1 with e1; injection e1 with e1; injection e1 with e1; exact e1.symm
                subst e2
                refine .inr ⟨gg, cap, cur, e1, r1, ?_, r3⟩
                exact (Below.heap_setCell w5 ⟨wb, 0, none⟩ _ gg (show gg ≠ wb by omega)).trans ((g2.block gg (by omega)).trans r2)
            · exact g1.kept (grown_set w5 ⟨wb, 0, none⟩ _) (by
                cases e : (Value.slice VA5 n5 vc5).ownBlock with
                | none => exact .inl rfl
                | some c => exact .inr (fun e2 => by injection e2 with e2; have e3 : c = wb := e2; have := (g1.lt c e).1; omega))
            · exact ((f6.alloc (by omega) _).trans (g2.mono (by omega))).setCell (p := ⟨wb, 0, none⟩) (show s ≤ wb by omega) _)
          clear m50 m51 M5 H5 K1
          go_roundw
          case rel => exact ⟨k + 1, _, by go_num, by omega, Lib.hid (by rw [HNX.out.1, HE.out]), H6.out⟩
          case measure => (first | (simp [Go.RowKit.intOf]; done) | (simp [Go.RowKit.intOf]; omega))
    · have hfin : t = ps.foldl (stepS N) st := by
        rw [ht.out, List.take_of_length_le (by rw [← HLn.out]; omega)]
      have HF := Lib.hid (And.intro hS (And.intro hB hfin))
      clear hS hB hfin ht
      go_wp2_with fail
      go_end0
      rw [← HF.out.2.2]
      exact ⟨rfl, HF.out.1, HF.out.2.1⟩
end Go.Proofs.Ytidaimcndbhefaa
/- graph.Reach. Conditions: lengths. -/
namespace Go.Proofs.Ytidaimcndbhefaa
set_option linter.unusedVariables false
set_option linter.unusedSimpArgs false
open Go.RowKit
theorem Ow.shrink {α : Type} {f : α → Value} {E : TypeId} {w : World} {base g n cap : Nat} {xs : List α} {y : α} (h : Ow f E w base (.slice (some ⟨g, 0, none⟩) (n + 1) cap) (xs ++ [y])) : Ow f E w base (.slice (some ⟨g, 0, none⟩) n cap) xs := by
  obtain ⟨h1, h2⟩ := h
  rw [List.length_append, List.length_singleton] at h1 h2
  refine ⟨by simp, ?_⟩
  rcases h2 with ⟨e, _⟩ | ⟨g', cap', cur, e, hg, hh, hnc, hcm, hcs, htk⟩
  · cases e
  · injection e with e1 e2 e3
    subst e3
    have en : n = xs.length := by omega
    subst en
    refine .inr ⟨g', cap, cur, by rw [e1], hg, hh, by omega, hcm, hcs, ?_⟩
    have := congrArg (List.take xs.length) htk
    rw [Nat.mul_one] at this ⊢
    rw [List.take_take, Nat.min_eq_left (by omega)] at this
    rw [this, List.map_append, List.take_append_of_le_length (by simp), List.take_of_length_le (by simp)]
theorem RS.pop {W : World} {s q sb wb n vc ag : Nat} {vn vr : Value} {N : Nat} {seen : List Bool} {work : List Int} {p : Int} (h : RS W s q sb wb vn vr N seen (work ++ [p])) (hk : Bk W wb 26 #[.slice (some ⟨ag, 0, none⟩) (n + 1) vc]) (hn : n = work.length) :
    RS (W.setCell ⟨wb, 0, none⟩ (.slice (some ⟨ag, 0, none⟩) n vc)) s q sb wb vn vr N seen work := by
  obtain ⟨v, h1, h2⟩ := h.wk
  have e : v = .slice (some ⟨ag, 0, none⟩) (n + 1) vc := by
    have := (h1.symm.trans hk)
    injection this with this
    injection this with this
    simpa using this
  subst e
  have hord := h.ord
  refine ⟨h.gb.far (p := ⟨wb, 0, none⟩) (show s ≠ wb by omega) _, h.sbk.far (p := ⟨wb, 0, none⟩) (show sb ≠ wb by omega) _, h.sn.kept (grown_set W ⟨wb, 0, none⟩ _) (.inr (fun e => by injection e with e; have e3 : q = wb := e; omega)), ⟨_, hk.set 0 _, ?_⟩, hord⟩
  exact (Ow.shrink h2).kept (grown_set W ⟨wb, 0, none⟩ _) (.inr (fun e => by injection e with e; have e3 : ag = wb := e; have := (h2.lt ag rfl).1; omega))
set_option maxHeartbeats 2000000
set_option maxRecDepth 100000
theorem reach_c (w : World) (g : Gv) (hg : g.At w w.heap.size) (hs : g.Small) (A : Option Addr) (c : Nat) (fr : List Int) (hr : Rd iV w w.heap.size A fr) (hl : fr.length ≤ 1000000) :
    Calls Try.prog 13 #[g.v, .slice A fr.length c] w fun e w' => ∃ q L, e = .returned (.slice (some ⟨q, 0, none⟩) g.n.length g.n.length) ∧ Ow tV 4 w' (w.heap.size + 1) (.slice (some ⟨q, 0, none⟩) g.n.length g.n.length) L ∧ L.length = g.n.length ∧ (∀ p, hasG g.n.length p = true → (seenG L p = true ↔ Rch g.n fr p)) ∧ Below w.heap.size w w' := by
  have HG := Lib.hid hg
  have HSm := Lib.hid hs.2.2
  have HR := Lib.hid hr
  obtain ⟨GA, ca, A2, ca2, ns, rs⟩ := g
  obtain ⟨N, hN⟩ : ∃ N, N = ns.length := ⟨_, rfl⟩
  obtain ⟨M, hM⟩ : ∃ M, M = rs.length := ⟨_, rfl⟩
  have HN := Lib.hid (And.intro hN hM)
  obtain ⟨F, hF⟩ : ∃ F, F = fr.length := ⟨_, rfl⟩
  have HF := Lib.hid (And.intro hF hl)
  have q0 : (N : Int) ≤ 1000000 := by rw [hN]; exact Int.ofNat_le.2 hs.1
  unfold Gv.v Gv.vn Gv.vr
  simp only
  rw [← hN, ← hM, ← hF]
  clear hg hs hr hl hN hM hF
  go_enter Try.func13, Try.ntmps13
  go_wp2_with (at_make; refine wp_make (f := tV) oneT rfl _ _ rfl false rfl (w.heap.size + 1) N _ _ _ _ rfl rfl rfl rfl (by omega) (by decide) (by simp) ?_; rintro q w2 hq ho2 hb2 _; have H2 := Lib.hid (And.intro ho2 hb2); have HQ := Lib.hid (show q = w.heap.size + 1 from by rw [hq]; simp); have hz2 : w.heap.size + 2 ≤ w2.heap.size := (by have := ho2.ge.2; rw [hq] at this; simp at this; omega); clear ho2 hb2 hq)
  have hS0 : RS ((w2.alloc (.cells #[.slice (some ⟨q, 0, none⟩) N N] 37)).alloc (.cells #[.slice none 0 0] 26)) w.heap.size q w2.heap.size (w2.heap.size + 1) (.slice GA N ca) (.slice A2 M ca2) N (List.replicate N false) [] ∧ Below w.heap.size w ((w2.alloc (.cells #[.slice (some ⟨q, 0, none⟩) N N] 37)).alloc (.cells #[.slice none 0 0] 26)) := by
    obtain ⟨o1, o2⟩ := H2.out
    have hg0 := (Bk.new w 25 #[.slice GA N ca, .slice A2 M ca2]).below o2 (by omega)
    have hqq := HQ.out
    refine ⟨⟨(hg0.alloc _).alloc _, (Bk.new w2 _ _).alloc _, (o1.alloc _).alloc _, ⟨.slice none 0 0, ?_, Ow.nil_ _ _ _ _⟩, by omega⟩, ?_⟩
    · have := Bk.new (w2.alloc (.cells #[.slice (some ⟨q, 0, none⟩) N N] 37)) 26 #[.slice none 0 0]
      simpa using this
    · have b1 : Below w.heap.size w w2 := ((Below.refl _ _).alloc (Nat.le_refl _) _).trans (o2.mono (by omega))
      exact (b1.alloc b1.size _).alloc (by simp; omega) _
  obtain ⟨W3, hW3⟩ : ∃ W3, W3 = ((w2.alloc (.cells #[.slice (some ⟨q, 0, none⟩) N N] 37)).alloc (.cells #[.slice none 0 0] 26)) := ⟨_, rfl⟩
  rw [← hW3] at hS0 ⊢
  clear hW3
  obtain ⟨sb, hsb⟩ : ∃ sb, sb = w2.heap.size := ⟨_, rfl⟩
  rw [← hsb] at hS0 ⊢
  clear hsb
  have HC := Lib.hid (fun W (seen : List Bool) (work : List Int) (h : RS W w.heap.size q sb (sb + 1) (.slice GA N ca) (.slice A2 M ca2) N seen work) (hs : seen.length = N) (A : Option Addr) (c n : Nat) (ps : List Int) (hn : n = ps.length) (hr : Rd iV W w.heap.size A ps) (hl : ps.length ≤ 1000000) (hL : leftG (seen, work) ≤ 4000000) => show Calls Try.prog 30 #[.slice A n c, .pointer (some ⟨w.heap.size, 0, none⟩), .pointer (some ⟨sb, 0, none⟩), .pointer (some ⟨sb + 1, 0, none⟩)] W fun e w' => e = .returned (.tuple #[]) ∧ RS w' w.heap.size q sb (sb + 1) (.slice GA N ca) (.slice A2 M ca2) N (ps.foldl (stepS N) (seen, work)).1 (ps.foldl (stepS N) (seen, work)).2 ∧ Below w.heap.size W w' from by
    rw [hn]
    exact look_c W w.heap.size q sb (sb + 1) GA A2 N ca M ca2 seen work h hs A c ps hr hl hL (by omega))
  have HS0 := Lib.hid hS0
  clear hS0
  have hleft0 : leftG (List.replicate N false, []) ≤ 4000000 := by
    unfold leftG
    have : (List.replicate N false).count false ≤ N := by simp
    simp only [List.length_nil]
    omega
  have HL0 := Lib.hid hleft0
  clear hleft0
  refine Calls.mono (HC.out _ _ _ HS0.out.1 List.length_replicate A c F fr HF.out.1 (HR.out.below HS0.out.2) HF.out.2 HL0.out) ?_
  rintro r w4 ⟨rfl, h4, b4⟩
  have hstart := steps_inv fr (List.replicate ns.length false, []) (inv_start ns fr) (fun q hq hh => .base q hq hh)
  rw [← HN.out.1] at hstart
  have hlf4 : leftG (fr.foldl (stepS N) (List.replicate N false, [])) ≤ 4000000 := Nat.le_trans (steps_left _ _ List.length_replicate) HL0.out
  obtain ⟨st, hst⟩ : ∃ st, st = fr.foldl (stepS N) (List.replicate N false, []) := ⟨_, rfl⟩
  rw [← hst] at h4 hstart hlf4
  have HI := Lib.hid (And.intro hstart.1 hstart.2.1)
  have H4 := Lib.hid (And.intro h4 (And.intro (HS0.out.2.trans b4) hlf4))
  clear h4 b4 hstart hst hlf4 HS0
  go_wp2_with fail
  go_loopg [8] (leftG st) (fun gk p W => ∃ (seen : List Bool) (work : List Int), Hid (RS W w.heap.size q sb (sb + 1) (.slice GA N ca) (.slice A2 M ca2) N seen work) ∧ Hid (Inv ns fr seen work (fun _ => False) ∧ ∀ q ∈ fr, hasG N q = true → seenG seen q = true) ∧ Hid (leftG (seen, work) = gk ∧ gk ≤ 4000000) ∧ Hid (Below w.heap.size w W))
  case atStart => exact ⟨st.1, st.2, Lib.hid H4.out.1, Lib.hid HI.out, Lib.hid ⟨rfl, H4.out.2.2⟩, Lib.hid H4.out.2.1⟩
  case round =>
    obtain ⟨seen, work, hS, hI, hL, hB⟩ := hrel
    rcases List.eq_nil_or_concat work with rfl | ⟨init, p, rfl⟩
    · obtain ⟨v, k1, k2⟩ := hS.out.wk
      obtain ⟨VA, vc, rfl, _⟩ := k2.form
      have k10 : wr.cell? ⟨sb + 1, 0, none⟩ = some (.slice VA 0 vc) := k1.cell 0
      have s0 : wr.cell? ⟨sb, 0, none⟩ = some (.slice (some ⟨q, 0, none⟩) N N) := hS.out.sbk.cell 0
      clear k1 k2
      go_wp2_with fail
      go_ret
      have hend := inv_end hI.out.1 (by rw [← HN.out.1]; exact hI.out.2)
      refine ⟨q, seen, rfl, hS.out.sn, by rw [HN.out.1]; exact hI.out.1.len, fun p hp => ?_, hB.out⟩
      rw [HN.out.1] at hp
      exact hend p hp
    · rw [List.concat_eq_append] at hS hI hL
      have hp := hI.out.1.has p (by simp)
      obtain ⟨j, rfl, hj⟩ : ∃ j : Nat, p = (j : Int) + 1 ∧ j < N := by
        have := hasG_iff.1 hp.1
        rw [← HN.out.1] at this
        exact ⟨(p - 1).toNat, by omega, by omega⟩
      have hjl : j < ns.length := by rw [← HN.out.1]; exact hj
      obtain ⟨x, hx⟩ : ∃ x, x = ns[j] := ⟨_, rfl⟩
      have hpx : ptrsG ns ((j : Int) + 1) = x.ps := by
        unfold ptrsG
        rw [show ((j : Int) + 1 - 1).toNat = j by omega, List.getElem?_eq_getElem hjl, ← hx]
      have hround := inv_round hI.out.1
      rw [hpx, ← HN.out.1] at hround
      obtain ⟨n, hn⟩ : ∃ n, n = init.length := ⟨_, rfl⟩
      obtain ⟨v, k1, k2⟩ := hS.out.wk
      obtain ⟨ag, vc, rfl, hvc, hlast⟩ : ∃ ag vc, v = .slice (some ⟨ag, 0, none⟩) (n + 1) vc ∧ n + 1 ≤ vc ∧ wr.cell? ⟨ag, n, none⟩ = some (.int .i64 ((j : Int) + 1)) := by
        have k3 := k2
        rcases k2.2 with ⟨e, hn0⟩ | ⟨ag, cap, cur, e, _, _, h1, _⟩
        · simp at hn0
        · rw [List.length_append, List.length_singleton, ← hn] at h1 e
          refine ⟨ag, cap, e, h1, ?_⟩
          rw [e] at k3
          have := k3.cell (j := n) (by rw [List.length_append, ← hn]; simp)
          rw [this, List.getElem_append_right (by omega)]
          simp [iV, hn]
      obtain ⟨ad, rfl, hc2, hxa⟩ : ∃ ad, GA = some ad ∧ wr.cell? (ad.add (j * 2)) = some x.vp ∧ x.At wr w.heap.size := by
        obtain ⟨ad, e, _, h1, h2, h3⟩ := (HG.out.n.below hB.out) j hjl
        exact ⟨ad, e, by rw [hx]; exact h1, by rw [hx]; exact h3⟩
      have hsm := (HSm.out x (by rw [hx]; exact List.getElem_mem _)).1
      have hlft : leftG (seen, init) < gk ∧ leftG (seen, init) ≤ 4000000 := by
        have := hL.out
        unfold leftG at this ⊢
        simp only [List.length_append, List.length_singleton] at this ⊢
        omega
      have hS2 := hS.out.pop k1 hn
      have HP := Lib.hid (And.intro hround (And.intro hlft (And.intro hS2 (And.intro hxa (And.intro hsm hI.out)))))
      have k10 : wr.cell? ⟨sb + 1, 0, none⟩ = some (.slice (some ⟨ag, 0, none⟩) (n + 1) vc) := k1.cell 0
      have k1f := k1.free 0
      have g0 := hS.out.gb.two.1
      have hgne : ¬ w.heap.size = sb + 1 := by have := hS.out.ord; omega
      have hgne2 : ¬ sb + 1 = w.heap.size := by omega
      have hane : ¬ sb + 1 = ad.block := fun e => by
        obtain ⟨ad', e1, h2, _⟩ := HG.out.n j hjl
        injection e1 with e1
        have := hS.out.ord
        rw [← e1] at h2
        omega
      have hbsz : (ad.add (j * 2)).block < w.heap.size := by
        obtain ⟨ad', e1, h2, _⟩ := HG.out.n j hjl
        injection e1 with e1
        rw [add_block, e1]
        exact h2
      have hc2' : (wr.setCell ⟨sb + 1, 0, none⟩ (.slice (some ⟨ag, 0, none⟩) n vc)).cell? (ad.add (j * 2)) = some x.vp := by
        rw [World.cell?_setCell_other wr ⟨sb + 1, 0, none⟩ (ad.add (j * 2)) _ (fun e => by
          have h1 := hS.out.ord
          have h2 : sb + 1 = (ad.add (j * 2)).block := congrArg Addr.block e
          omega)]
        exact hc2
      obtain ⟨xA, xc, xD, xd, xps, xbs⟩ := x
      unfold Nv.vp at hc2 hc2'
      simp only at hc2 hc2' HP
      obtain ⟨xn, hxn⟩ : ∃ n, n = xps.length := ⟨_, rfl⟩
      rw [← hxn] at hc2 hc2'
      have HXn := Lib.hid hxn
      have HVC := Lib.hid (And.intro hvc hjl)
      have u1 : (n : Int) + 1 ≤ (vc : Int) := by omega
      have u2 : (0 : Int) ≤ (n : Int) := by omega
      have u3 : (j : Int) < (N : Int) := by omega
      have u4 : (0 : Int) ≤ (j : Int) := by omega
      have u5' : (n : Int) ≤ 5000000 := by have := hL.out; unfold leftG at this; simp at this; omega
      clear hp hj hjl hx hpx hround hn k1 k2 hvc hxa hsm hlft hS2 hxn hc2
      go_wp2_with fail
      obtain ⟨r1, r2, r3, r4, r5, r6⟩ := HP.out
      refine Calls.mono (HC.out _ seen init r3 (by rw [HN.out.1]; exact r6.1.len) xA xc xn xps HXn.out (r4.p.below (((Below.refl _ _).setCell (p := ⟨sb + 1, 0, none⟩) (show w.heap.size ≤ sb + 1 by have := hS.out.ord; omega) _))) r5 r2.2) ?_
      rintro r w6 ⟨rfl, h6, b6⟩
      have H6 := Lib.hid (And.intro h6 (And.intro ((hB.out.setCell (p := ⟨sb + 1, 0, none⟩) (show w.heap.size ≤ sb + 1 by have := hS.out.ord; omega) _).trans b6) (show leftG (xps.foldl (stepS N) (seen, init)) < gk ∧ leftG (xps.foldl (stepS N) (seen, init)) ≤ 4000000 from by
        have := steps_left (N := N) xps (seen, init) (by rw [HN.out.1]; exact r6.1.len)
        omega)))
      have HRd := Lib.hid (And.intro r1.1 (fun q hq hh => r1.2 q hh (r6.2 q hq hh)))
      clear h6 b6 r1 r2 r3 r4 r5 r6 k10 k1f g0 hlast hc2'
      go_wp2_with fail
      go_roundg (leftG (xps.foldl (stepS N) (seen, init)))
      case measure => exact H6.out.2.2.1
      case rel => exact ⟨_, _, Lib.hid H6.out.1, Lib.hid HRd.out, Lib.hid ⟨rfl, H6.out.2.2.2⟩, Lib.hid H6.out.2.1⟩
end Go.Proofs.Ytidaimcndbhefaa
