/- Names of 32 bytes: their cells. No conditions. -/
import Derived.Test.YtdfhdgdhhgabbaaBitsB
import Derived.Test.YtdfhdgdhhgabbaaStr
import Derived.Test.YtdfhdgdhhgabbaaChecked
import Derived.Maps.Ext
import Derived.DeepKeys5
namespace Go.Proofs.Ytdfhdgdhhgabbaa
set_option linter.unusedVariables false
set_option linter.unusedSimpArgs false
open Go.RowKit Go.Maps
abbrev Nm := List (BitVec 8)
def nW (k : Nm) : Prop := k.length = 32
def nC (k : Nm) : Array Value := (k.map b8).toArray
def nV (k : Nm) : Value := .agg (nC k)
def litB (x : BitVec 8) : Lit := .int .u8 (U8 x)
def keyN (k : Nm) : Lit := .string (keyBytes (k.map litB))
theorem b8_inj {x y : BitVec 8} (h : b8 x = b8 y) : x = y := by unfold b8 at h; injection h with _ h; exact U8_inj h
theorem map_b8_inj : ∀ {k q : Nm}, k.map b8 = q.map b8 → k = q
  | [], [], _ => rfl
  | [], _ :: _, h => by cases h
  | _ :: _, [], h => by cases h
  | x :: k, y :: q, h => by
    simp only [List.map_cons, List.cons.injEq] at h
    rw [b8_inj h.1, map_b8_inj h.2]
theorem nV_inj {k q : Nm} (h : nV k = nV q) : k = q := by
  unfold nV nC at h
  injection h with h
  exact map_b8_inj (by simpa using h)
theorem wf8 (x : BitVec 8) : (Lit.int .u8 (U8 x)).wf = true := by
  have h1 := U8_lo x
  have h2 := U8_hi x
  simp [Lit.wf, IntKind.min, IntKind.max, IntKind.signed, IntKind.bits]; omega
theorem lits_u8 (m : Nat) (a : Value) : Try.prog.keyLits (m + 1) 5 [a] = match a with
    | .int q n => if q = .u8 ∧ (Lit.int .u8 n).wf = true then some [.int .u8 n] else none
    | _ => none := by
  unfold Program.keyLits
  rw [Try.underlying5]
  cases a <;> simp
theorem mapM_some {α β : Type} {f : α → Option β} {g : α → β} : ∀ l : List α, (∀ x ∈ l, f x = some (g x)) → l.mapM f = some (l.map g)
  | [], _ => rfl
  | x :: l, h => by
    rw [List.mapM_cons, h x List.mem_cons_self, mapM_some l (fun y hy => h y (List.mem_cons_of_mem _ hy))]
    rfl
theorem mapM_each {α β : Type} {f : α → Option β} : ∀ (l : List α) (r : List β), l.mapM f = some r → ∀ x ∈ l, ∃ y, f x = some y
  | [], _, _, x, hx => by cases hx
  | a :: l, r, h, x, hx => by
    rw [List.mapM_cons] at h
    cases ha : f a with
    | none => rw [ha] at h; cases h
    | some y =>
      cases hl : l.mapM f with
      | none => rw [ha, hl] at h; cases h
      | some ys =>
        rcases List.mem_cons.1 hx with rfl | hx
        · exact ⟨y, ha⟩
        · exact mapM_each l ys hl x hx
theorem flat_one {α : Type} (f : BitVec 8 → α) : ∀ k : Nm, (k.map fun x => [f x]).flatten = k.map f
  | [] => rfl
  | x :: k => by simp only [List.map_cons, List.flatten_cons, flat_one f k]; rfl
theorem cells32 : Try.prog.cellsOf 24 = 32 := by kernel_rfl
theorem cells1 : Try.prog.cellsOf 5 = 1 := by kernel_rfl
theorem lits_name (m : Nat) (cs : List Value) (h : cs.length = 32) : Try.prog.keyLits (m + 2) 24 cs = ((List.range 32).mapM fun i => Try.prog.keyLits (m + 1) 5 ((cs.drop i).take 1)).map List.flatten := by
  conv => lhs; unfold Program.keyLits
  rw [Try.underlying24]
  simp only [cells32, cells1, h, if_true, Nat.mul_one]
theorem lits_nm (m : Nat) (k : Nm) (h : nW k) : Try.prog.keyLits (m + 2) 24 (k.map b8) = some (k.map litB) := by
  rw [lits_name m _ (by rw [List.length_map]; exact h)]
  rw [mapM_some (g := fun i => [litB (k.getD i 0#8)]) _ (fun i hi => by
    have hi : i < k.length := by rw [h]; exact List.mem_range.1 hi
    have e : ((k.map b8).drop i).take 1 = [b8 k[i]] := by
      rw [List.drop_eq_getElem_cons (by rw [List.length_map]; exact hi)]
      simp
    rw [e]
    unfold b8
    rw [lits_u8]
    simp only [wf8, and_self, if_true]
    rw [List.getD_eq_getElem?_getD, List.getElem?_eq_getElem hi]
    rfl)]
  rw [Option.map_some, ← flat_one litB k]
  congr 2
  apply List.ext_getElem
  · simp; exact h.symm
  · intro i h1 h2
    have hi : i < k.length := by simpa using h2
    simp [List.getElem?_eq_getElem hi]
end Go.Proofs.Ytdfhdgdhhgabbaa
