/- Texts joined: MapA HdK HdL GrS GrW GrB GrC GrT. -/
import Derived.Maps.OwnSet
import Derived.Maps.Ext
import Derived.Lib.SlKeysI
import Derived.Test.YtdppnggchpchgaaDoorRegV
import Derived.WalkSpells
import Derived.Test.YtdppnggchpchgaaDoorChecked
import Derived.Test.YtdppnggchpchgaaDoorBel
import Derived.Lib.Hide
import Derived.IntWalk
import Derived.Test.YtdppnggchpchgaaDoorGrR
import Derived.Test.YtdppnggchpchgaaDoorGrA
import Derived.Lib.Bytealg
import Derived.Laws.Cover1
/- Maps from numbers to numbers read as rising rows of pairs. No conditions. -/
namespace Go.Proofs.YtdppnggchpchgaaDoor
set_option linter.unusedVariables false
set_option linter.unusedSimpArgs false
open Go.RowKit Go.Maps
abbrev kI (k : Int) : Lit := .int .i64 k
abbrev vI (k : Int) : DataW Unit := .lit (.int .i64 k)
def enP (p : Int × Int) : Lit × DataW Unit := (kI p.1, vI p.2)
def mD (l : List (Int × Int)) : DataW Unit := .map (l.map enP)
def Rise (l : List (Int × Int)) : Prop := l.Pairwise (fun p q => p.1 < q.1)
def lookI : List (Int × Int) → Int → Option Int
  | [], _ => none
  | p :: r, k => if p.1 = k then some p.2 else lookI r k
def offI (l : List (Int × Int)) (k : Int) : List (Int × Int) := l.filter fun p => decide (p.1 ≠ k)
theorem same_kI (a b : Int) : (kI a).sameKey (kI b) = decide (a = b) := by simp [Lit.sameKey]
theorem at_mD (l : List (Int × Int)) (k : Int) (z : DataW Unit) : (mD l).atKey (kI k) z = match lookI l k with | some v => vI v | none => z := by
  induction l with
  | nil => rfl
  | cons p r ih =>
    have e : (enP p).1.sameKey (kI k) = decide (p.1 = k) := same_kI _ _
    unfold mD DataW.atKey at ih ⊢
    unfold lookI
    simp only at ih ⊢
    rw [List.map_cons, List.find?_cons]
    by_cases h : p.1 = k
    · simp only [e, h, decide_true, if_true]; rfl
    · simp only [e, h, decide_false, if_false]
      exact ih
theorem at_mD_z (l : List (Int × Int)) (k z : Int) : (mD l).atKey (kI k) (vI z) = vI ((lookI l k).getD z) := by
  rw [at_mD]; cases lookI l k <;> rfl
theorem strike_mD (l : List (Int × Int)) (k : Int) : (l.map enP).filter (fun p => !p.1.sameKey (kI k)) = (offI l k).map enP := by
  unfold offI
  rw [List.filter_map]
  congr 1
  apply List.filter_congr
  intro p _
  show (!(kI p.1).sameKey (kI k)) = _
  rw [same_kI]; simp
theorem del_mD (l : List (Int × Int)) (k : Int) : (mD l).del (kI k) = mD (offI l k) := by
  show DataW.map _ = _
  rw [strike_mD]; rfl
def putI (l : List (Int × Int)) (k v : Int) : List (Int × Int) := insI (k, v) (offI l k)
where insI (x : Int × Int) : List (Int × Int) → List (Int × Int)
  | [] => [x]
  | y :: r => if x.1 < y.1 then x :: y :: r else y :: insI x r
theorem ins_mD (x : Int × Int) (l : List (Int × Int)) : DataW.insert (enP x) (l.map enP) = (putI.insI x l).map enP := by
  induction l with
  | nil => rfl
  | cons y r ih =>
    have e : (enP x).1.before (enP y).1 = decide (x.1 < y.1) := rfl
    simp only [List.map_cons, DataW.insert, e, putI.insI]
    by_cases h : x.1 < y.1
    · simp [h]
    · simp [h, ih]
theorem put_mD (l : List (Int × Int)) (k v : Int) : (mD l).put (kI k) (vI v) = mD (putI l k v) := by
  show DataW.map (DataW.insert (enP (k, v)) ((l.map enP).filter (fun p => !p.1.sameKey (kI k)))) = _
  rw [strike_mD, ins_mD]; rfl
theorem size_mD (l : List (Int × Int)) : size (mD l) = l.length := by simp [mD, size]
theorem Rise.snoc {l : List (Int × Int)} {x : Int × Int} (h : Rise l) (hx : ∀ p ∈ l, p.1 < x.1) : Rise (l ++ [x]) :=
  List.pairwise_append.2 ⟨h, by simp, fun p hp q hq => by simp at hq; subst hq; exact hx p hp⟩
theorem Rise.off {l : List (Int × Int)} (h : Rise l) (k : Int) : Rise (offI l k) := h.filter _
theorem look_off (l : List (Int × Int)) (k j : Int) : lookI (offI l k) j = if j = k then none else lookI l j := by
  induction l with
  | nil => simp [offI, lookI]
  | cons y r ih =>
    unfold offI at ih ⊢
    rw [List.filter_cons]
    by_cases h : y.1 = k
    · simp only [h, ne_eq, not_true, decide_false, Bool.false_eq_true, if_false]
      rw [ih]
      by_cases hj : j = k
      · simp [hj]
      · simp [hj, lookI, h, show ¬ k = j by omega]
    · simp only [ne_eq, h, not_false_eq_true, decide_true, if_true, lookI]
      by_cases hy : y.1 = j
      · simp [hy, show ¬ j = k by omega]
      · simp only [hy, if_false]; simpa using ih
end Go.Proofs.YtdppnggchpchgaaDoor
/- What is left as it was but for some blocks; numbers as keys. No conditions. -/
namespace Go.Proofs.YtdppnggchpchgaaDoor
set_option linter.unusedVariables false
set_option linter.unusedSimpArgs false
open Go.RowKit Go.Maps
/-- All blocks but those of S are as they were. -/
structure Kept (S : Nat → Prop) (w w' : World) : Prop where
  os : w'.os = w.os
  tape : w'.tape = w.tape
  output : w'.output = w.output
  size : w.heap.size ≤ w'.heap.size
  block : ∀ k, k < w.heap.size → ¬ S k → w'.heap[k]? = w.heap[k]?
section
variable {S S' : Nat → Prop} {w w' w'' : World}
theorem Kept.refl (S : Nat → Prop) (w : World) : Kept S w w := ⟨rfl, rfl, rfl, Nat.le_refl _, fun _ _ _ => rfl⟩
theorem Kept.trans (h : Kept S w w') (k : Kept S w' w'') : Kept S w w'' :=
  ⟨k.os.trans h.os, k.tape.trans h.tape, k.output.trans h.output, Nat.le_trans h.size k.size, fun i hi hS => (k.block i (Nat.lt_of_lt_of_le hi h.size) hS).trans (h.block i hi hS)⟩
theorem Kept.more (h : Kept S w w') (hS : ∀ k, S k → S' k) : Kept S' w w' := ⟨h.os, h.tape, h.output, h.size, fun i hi hn => h.block i hi (fun hs => hn (hS i hs))⟩
theorem Kept.of_below (h : Below w.heap.size w w') (S : Nat → Prop) : Kept S w w' := ⟨h.os, h.tape, h.output, h.size, fun i hi _ => h.block i hi⟩
theorem Kept.below {B : Nat} (h : Kept S w w') (hB : B ≤ w.heap.size) (hS : ∀ k, S k → B ≤ k) : Below B w w' := ⟨h.os, h.tape, h.output, h.size, fun i hi => h.block i (by omega) (fun hs => by have := hS i hs; omega)⟩
theorem Kept.grown {row : Option Nat} (h : w.grownBy w' row) : Kept (fun k => row = some k) w w' := ⟨h.os, h.tape, h.output, h.size, fun i hi hn => h.block i hi (fun e => hn e.symm)⟩
theorem Kept.set (w : World) (g i : Nat) (u : Value) : Kept (fun k => k = g) w (w.setCell ⟨g, i, none⟩ u) := ⟨rfl, rfl, rfl, by simp [World.setCell], fun k _ hn => Below.heap_setCell _ _ _ _ hn⟩
theorem Kept.alloc (S : Nat → Prop) (w : World) (o : Obj) : Kept S w (w.alloc o) := Kept.of_below (Gw.alloc w o) S
theorem Kept.bk {g : Nat} {E : TypeId} {cs : Array Value} (h : Kept S w w') (hb : Bk w g E cs) (hn : ¬ S g) : Bk w' g E cs := (h.block g hb.lt hn).trans hb
theorem Kept.cell (h : Kept S w w') {p : Addr} (hp : p.block < w.heap.size) (hn : ¬ S p.block) : w'.cell? p = w.cell? p := World.cell?_of_block (w := w) (h.block p.block hp hn)
theorem Kept.ow {α : Type} {f : α → Value} {E : TypeId} {base : Nat} {v : Value} {xs : List α} (h : Kept S w w') (ho : Ow f E w base v xs) (hn : ∀ k, v.ownBlock = some k → ¬ S k) : Ow f E w' base v xs := by
  obtain ⟨h1, h2⟩ := ho
  refine ⟨h1, ?_⟩
  rcases h2 with h2 | ⟨g, cap, cur, e, hg, hh, r⟩
  · exact .inl h2
  · refine .inr ⟨g, cap, cur, e, hg, ?_, r⟩
    have hl : g < w.heap.size := by
      rcases Nat.lt_or_ge g w.heap.size with hl | hl
      · exact hl
      · rw [Array.getElem?_eq_none hl] at hh; cases hh
    rw [h.block g hl (hn g (by rw [e]; rfl))]; exact hh
theorem Kept.map {P : Program} {k : TypeId} {H : Type} {R : Value → Option (DataW H × List MemPlace)} {b n : Nat} {D : DataW H} (h : Kept S w w') (ho : w.ownsMap P k R b n D) (hn : ¬ S b) : w'.ownsMap P k R b n D := by
  have hl := ho.lt
  obtain ⟨es, clock, hb, r⟩ := ho
  exact ⟨es, clock, (h.block b hl hn).trans hb, r⟩
end
theorem zeroI (w : World) : (zeroValue 3).run Tryd.prog w = .ok (.int .i64 0) w := by kernel_rfl
theorem lawI : Keyed Tryd.prog 3 := int_keyed Tryd.underlying3
theorem keyI {k : Int} (h : (Lit.int .i64 k).wf = true) : keyOf Tryd.prog 3 (.int .i64 k) = some (kI k) := keyOf_int_mk Tryd.underlying3 h
end Go.Proofs.YtdppnggchpchgaaDoor
/- Maps from numbers to numbers in memory (as HdA, upon HdK). No conditions. -/
namespace Go.Proofs.YtdppnggchpchgaaDoor
set_option linter.unusedVariables false
set_option linter.unusedSimpArgs false
open Go.RowKit Go.Maps
set_option maxHeartbeats 400000
set_option maxRecDepth 100000
/-- A map's word mb stands for the row l. -/
def MapIs (w : World) : Option Nat → List (Int × Int) → Prop
  | none, l => l = []
  | some b, l => w.ownsMap Tryd.prog 3 (plainElem Tryd.prog 3) b l.length (mD l)
section
variable {w w' : World} {mb : Option Nat} {l : List (Int × Int)}
theorem tighten {b n : Nat} (h : w.ownsMap Tryd.prog 3 (plainElem Tryd.prog 3) b n (mD l)) : MapIs w (some b) l := by
  obtain ⟨es, clock, hb, F, hs, hD⟩ := h
  refine ⟨es, clock, hb, F, ?_, hD⟩
  have := congrArg size hD
  rw [size_mD] at this
  simp [size, length_sorted] at this
  omega
theorem MapIs.kept {S : Nat → Prop} (h : MapIs w mb l) (hk : Kept S w w') (hn : ∀ b, mb = some b → ¬ S b) : MapIs w' mb l := by
  cases mb with
  | none => exact h
  | some b => exact hk.map h (hn b rfl)
theorem MapIs.lt (h : MapIs w mb l) : ∀ b, mb = some b → b < w.heap.size := by
  rintro b rfl; exact World.ownsMap.lt h
theorem MapIs.look (h : MapIs w mb l) {k : Int} (hk : (Lit.int .i64 k).wf = true) : (Instr.lookup 58 (.map mb) (.int .i64 k) false).run Tryd.prog w = .ok (.int .i64 ((lookI l k).getD 0)) w := by
  cases mb with
  | none =>
    have e : l = [] := h
    subst e
    exact look_nil false lawI Tryd.underlying58 (zeroI w) (keyI hk)
  | some b =>
    obtain ⟨c, hrun, hat, _⟩ := World.ownsMap.lookup_int h lawI Tryd.underlying58 Tryd.underlying3 (zeroI w) (keyI hk)
    have e := at_mD_z l k 0
    have e2 : vI ((lookI l k).getD 0) = DataW.lit (.int .i64 c) := e.symm.trans hat
    injection e2 with e2
    injection e2 with _ e2
    rw [e2]; exact hrun
theorem MapIs.len (h : MapIs w mb l) (ty : TypeId) : (Builtin.len_ #[58] ty #[.map mb]).run Tryd.prog w = .ok (.int .i64 l.length) w := by
  cases mb with
  | none =>
    have e : l = [] := h
    subst e
    exact len_nil Tryd.underlying58 ty
  | some b =>
    have := World.ownsMap.len h Tryd.underlying58 ty
    rw [size_mD] at this; exact this
theorem MapIs.drop (h : MapIs w mb l) {k : Int} (hk : (Lit.int .i64 k).wf = true) (ty : TypeId) :
    ∃ w', (Builtin.delete_ #[58, 3] ty #[.map mb, .int .i64 k]).run Tryd.prog w = .ok (.tuple #[]) w' ∧ MapIs w' mb (offI l k) ∧ Kept (fun b => mb = some b) w w' := by
  cases mb with
  | none =>
    have e : l = [] := h
    subst e
    exact ⟨w, drop_nil lawI Tryd.underlying58 (keyI hk) ty, rfl, Kept.refl _ _⟩
  | some b =>
    obtain ⟨w', hrun, ho, ht⟩ := World.ownsMap.drop h lawI Tryd.underlying58 (keyI hk) ty
    rw [del_mD] at ho
    exact ⟨w', hrun, tighten ho, Kept.grown ht.grown⟩
theorem MapIs.put {b : Nat} (h : MapIs w (some b) l) {k v : Int} (hk : (Lit.int .i64 k).wf = true) (hv : (Lit.int .i64 v).wf = true) (hl : l.length ≤ 1000000) :
    ∃ w', (Instr.mapUpdate 58 (.map (some b)) (.int .i64 k) (.int .i64 v)).run Tryd.prog w = .ok () w' ∧ MapIs w' (some b) (putI l k v) ∧ Kept (fun c => some b = some c) w w' := by
  obtain ⟨w', hrun, ho, ht⟩ := World.ownsMap.update h lawI Tryd.underlying58 (by unfold maxLen; omega) (keyI hk) (plainElem_int Tryd.underlying3 hv)
  have ho' : w'.ownsMap Tryd.prog 3 (plainElem Tryd.prog 3) b (l.length + 1) (mD (putI l k v)) := (put_mD l k v) ▸ ho
  exact ⟨w', hrun, tighten ho', Kept.grown ht⟩
end
section
variable {w : World} {mb : Option Nat} {l : List (Int × Int)} {ops : Array Oper} {rest : List Oper} {o : Oper} {a : Act} {Q : Exit → Act → World → Prop}
theorem wp_put_is {b : Nat} (hg : o.guard = none) (m x v : Operand) (hop : o.op = Op.mapUpdate 58 m x v)
    (hm : a.eval m = .map (some b)) (h : MapIs w (some b) l) (k z : Int) (hx : a.eval x = .int .i64 k) (hv : a.eval v = .int .i64 z) (hk : (Lit.int .i64 k).wf = true) (hz : (Lit.int .i64 z).wf = true) (hl : l.length ≤ 1000000)
    (hK : ∀ w', MapIs w' (some b) (putI l k z) → Kept (fun c => some b = some c) w w' → wpList Tryd.prog ops Q rest (a.put o.dst undef) w') : wpList Tryd.prog ops Q (o :: rest) a w := by
  refine wpList_plain hg fun K' hK' => ?_
  obtain ⟨w', hrun, r1, r2⟩ := h.put hk hz hl
  unfold Oper.wp
  simp [execOp, hop, hm, hx, hv, hrun, Result.andThen]
  exact hK' _ _ (hK w' r1 r2)
end
end Go.Proofs.YtdppnggchpchgaaDoor
/- numbered: pointers by their new numbers. Conditions: lengths. -/
namespace Go.Proofs.YtdppnggchpchgaaDoor
set_option linter.unusedVariables false
set_option linter.unusedSimpArgs false
open Go.RowKit Go.Maps
def newP (l : List (Int × Int)) (p : Int) : Int := (lookI l p).getD 0
def partI (xs ys : List Int) (k : Nat) : List Int := ys.take k ++ List.replicate (xs.length - k) 0
set_option maxHeartbeats 1000000
set_option maxRecDepth 100000
theorem wfI {n : Int} (h1 : -9223372036854775808 ≤ n) (h2 : n ≤ 9223372036854775807) : (Lit.int .i64 n).wf = true := by
  simp [Lit.wf, IntKind.min, IntKind.max, IntKind.signed, IntKind.bits]; omega
end Go.Proofs.YtdppnggchpchgaaDoor
/- What Trim makes of a row of bools. No conditions. -/
namespace Go.Proofs.YtdppnggchpchgaaDoor
set_option linter.unusedVariables false
set_option linter.unusedSimpArgs false
open Go.RowKit Go.Maps
/-- Old numbers and new ones of what is reached. -/
def pairsB : List Bool → Nat → Nat → List (Int × Int)
  | [], _, _ => []
  | b :: r, i, c => if b = true then ((i : Int) + 1, (c : Int) + 1) :: pairsB r (i + 1) (c + 1) else pairsB r (i + 1) c
def toB : List Bool → Nat → List Int
  | [], _ => []
  | b :: r, c => if b = true then ((c : Int) + 1) :: toB r (c + 1) else 0 :: toB r c
def trimN (now : List (Int × Int)) : List Nv → List Bool → List (List Int × List (BitVec 8))
  | x :: r, b :: l => if b = true then (x.ps.map (newP now), x.bs) :: trimN now r l else trimN now r l
  | _, _ => []
end Go.Proofs.YtdppnggchpchgaaDoor
/- graph.named; graph.Check. Conditions: lengths. -/
namespace Go.Proofs.YtdppnggchpchgaaDoor
set_option linter.unusedVariables false
set_option linter.unusedSimpArgs false
open Go.RowKit
def goodS (s : ByteArray) : Bool := decide (1 ≤ s.size) && (decide (s.size ≤ 32) && decide (Lib.indexByte s.data.toList 0 < 0))
set_option maxHeartbeats 400000
set_option maxRecDepth 100000
end Go.Proofs.YtdppnggchpchgaaDoor
/- graph.Check. Conditions: lengths. -/
namespace Go.Proofs.YtdppnggchpchgaaDoor
set_option linter.unusedVariables false
set_option linter.unusedSimpArgs false
open Go.RowKit
def leS (a b : ByteArray) : Bool := Op.bytesLess a.toList b.toList || a.toList == b.toList
def ckNodes (N : Nat) : List Nv → Int
  | [] => 0
  | x :: r => if ckNode N x = 0 then ckNodes N r else ckNode N x
def ckRoots (N : Nat) : ByteArray → List Rv → Int
  | _, [] => 0
  | last, r :: l => if goodS r.s = true ∧ leS r.s last = false then (if okP N r.t = true then ckRoots N r.s l else 1) else 4
def emptyS : ByteArray := { data := #[] }
def ckG (g : Gv) : Int := if ckNodes g.n.length g.n = 0 then (if 64 < g.r.length then 3 else ckRoots g.n.length emptyS g.r) else ckNodes g.n.length g.n
theorem ckNodes_drop (N : Nat) (l : List Nv) (k : Nat) (h : k < l.length) : ckNodes N (l.drop k) = if ckNode N l[k] = 0 then ckNodes N (l.drop (k + 1)) else ckNode N l[k] := by
  rw [List.drop_eq_getElem_cons h]; rfl
theorem ckRoots_drop (N : Nat) (s : ByteArray) (l : List Rv) (k : Nat) (h : k < l.length) : ckRoots N s (l.drop k) = if goodS (l[k]).s = true ∧ leS (l[k]).s s = false then (if okP N (l[k]).t = true then ckRoots N (l[k]).s (l.drop (k + 1)) else 1) else 4 := by
  rw [List.drop_eq_getElem_cons h]; rfl
set_option maxHeartbeats 1000000
set_option maxRecDepth 100000
end Go.Proofs.YtdppnggchpchgaaDoor
/- What is reached: steps over seen and work. No conditions. -/
namespace Go.Proofs.YtdppnggchpchgaaDoor
set_option linter.unusedVariables false
set_option linter.unusedSimpArgs false
open Go.RowKit
theorem hasG_iff {N : Nat} {p : Int} : hasG N p = true ↔ 1 ≤ p ∧ p ≤ (N : Int) := decide_eq_true_iff
def seenG (s : List Bool) (p : Int) : Bool := s.getD (p - 1).toNat true
def stepS (N : Nat) (s : List Bool × List Int) (p : Int) : List Bool × List Int := if (hasG N p && !seenG s.1 p) = true then (s.1.set (p - 1).toNat true, s.2 ++ [p]) else s
/-- The pointers of a node. -/
def ptrsG (ns : List Nv) (p : Int) : List Int := match ns[(p - 1).toNat]? with | some x => x.ps | none => []
inductive Rch (ns : List Nv) (fr : List Int) : Int → Prop
  | base (p : Int) : p ∈ fr → hasG ns.length p = true → Rch ns fr p
  | step (p q : Int) : Rch ns fr p → q ∈ ptrsG ns p → hasG ns.length q = true → Rch ns fr q
theorem Rch.has {ns : List Nv} {fr : List Int} {p : Int} (h : Rch ns fr p) : hasG ns.length p = true := by cases h <;> assumption
/-- Seen: all that is seen is reached; what is seen is in the work, or what it points at is seen (but for what is behind t). -/
structure Inv (ns : List Nv) (fr : List Int) (seen : List Bool) (work : List Int) (open_ : Int → Prop) : Prop where
  len : seen.length = ns.length
  ok : ∀ p, hasG ns.length p = true → seenG seen p = true → Rch ns fr p
  next : ∀ p, hasG ns.length p = true → seenG seen p = true → p ∈ work ∨ open_ p ∨ ∀ q ∈ ptrsG ns p, hasG ns.length q = true → seenG seen q = true
  has : ∀ p ∈ work, hasG ns.length p = true ∧ seenG seen p = true
/-- How much is left: nodes that are not seen count twice. -/
def leftG (s : List Bool × List Int) : Nat := 2 * s.1.count false + s.2.length
theorem count_set (s : List Bool) (i : Nat) (h : s[i]? = some false) : (s.set i true).count false + 1 = s.count false := by
  induction s generalizing i with
  | nil => cases h
  | cons x r ih =>
    cases i with
    | zero =>
      have : x = false := by simpa using h
      subst this
      simp
    | succ i =>
      have := ih i (by simpa using h)
      rw [List.set_cons_succ, List.count_cons, List.count_cons]
      omega
end Go.Proofs.YtdppnggchpchgaaDoor
