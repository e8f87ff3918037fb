/- Keys of two numbers: as keys of a map; a set of such keys. No conditions. -/
import Derived.Test.YthmaofbnhfgfaaaKep
import Derived.Test.YthmaofbnhfgfaaaChecked
import Derived.Maps.Ext
import Derived.DeepKeys5
import Derived.Sort.KeysCollected
namespace Go.Proofs.Ythmaofbnhfgfaaa
set_option linter.unusedVariables false
set_option linter.unusedSimpArgs false
open Go.RowKit Go.Maps
theorem laidA : laidOutB Try.prog = true := by kernel_rfl
theorem lawK : Keyed Try.prog 29 := Keyed.of_law (deep_law_gate laidA (of_decide_eq_true (by kernel_rfl)) (of_decide_eq_true (by kernel_rfl)) (by kernel_rfl) (by kernel_rfl))
def kV (p : Int × Int) : Value := .agg #[.int .i64 p.1, .int .i64 p.2]
def kW (p : Int × Int) : Prop := (Lit.int .i64 p.1).wf = true ∧ (Lit.int .i64 p.2).wf = true
def keyL (p : Int × Int) : Lit := .string (keyBytes [.int .i64 p.1, .int .i64 p.2])
theorem kV_inj {p q : Int × Int} (h : kV p = kV q) : p = q := by
  unfold kV at h
  simp at h
  exact Prod.ext h.1 h.2
theorem lits_int (m : Nat) (a : Value) : Try.prog.keyLits (m + 1) 3 [a] = match a with
    | .int q n => if q = .i64 ∧ (Lit.int .i64 n).wf = true then some [.int .i64 n] else none
    | _ => none := by
  unfold Program.keyLits
  rw [Try.underlying3]
  cases a <;> simp
theorem lits_key (m : Nat) (a b : Value) : Try.prog.keyLits (m + 2) 29 [a, b] = (do
    let x ← Try.prog.keyLits (m + 1) 3 [a]
    let y ← Try.prog.keyLits (m + 1) 3 [b]
    pure (x ++ y)) := by
  conv => lhs; unfold Program.keyLits
  rw [Try.underlying29]
  simp only
  have hc1 : Try.prog.cellsOf 29 = 2 := by kernel_rfl
  have hc3 : Try.prog.cellsOf 3 = 1 := by kernel_rfl
  rw [if_pos (by rw [hc1]; simp)]
  simp only [hc3, List.mapM_cons, List.mapM_nil, List.drop_zero, List.take, List.drop]
  cases Try.prog.keyLits (m + 1) 3 [a] <;> cases Try.prog.keyLits (m + 1) 3 [b] <;> simp
theorem keyT : ∃ m, Try.prog.types.size + 1 = m + 2 := ⟨Try.prog.types.size - 1, by kernel_rfl⟩
theorem keyK {p : Int × Int} (h : kW p) : keyOf Try.prog 29 (kV p) = some (keyL p) := by
  obtain ⟨m, hm⟩ := keyT
  have hk : Try.prog.keyType 29 = true := by kernel_rfl
  have hf : (kV p).formed Try.prog 29 = true := by
    unfold kV Value.formed
    rw [Try.underlying29]
    kernel_rfl
  unfold keyOf
  rw [Try.underlying29]
  simp only [hk, hf, Bool.and_self, if_true]
  rw [hm, show (kV p).cells.toList = [.int .i64 p.1, .int .i64 p.2] from rfl, lits_key, lits_int, lits_int]
  simp [h.1, h.2, keyL]
theorem key_inv {v : Value} {kl : Lit} (h : keyOf Try.prog 29 v = some kl) : ∃ p, v = kV p ∧ kW p ∧ kl = keyL p := by
  obtain ⟨m, hm⟩ := keyT
  unfold keyOf at h
  rw [Try.underlying29] at h
  simp only at h
  split at h
  · rename_i hf
    rw [Bool.and_eq_true] at hf
    have hf2 := hf.2
    cases v with
    | agg cs =>
      unfold Value.formed at hf2
      rw [Try.underlying29] at hf2
      simp only at hf2
      have hc2 : Try.prog.cellsOf 29 = 2 := by kernel_rfl
      rw [hc2] at hf2
      obtain ⟨cs⟩ := cs
      match cs, hf2 with
      | [a, b], _ =>
        rw [hm, show (Value.agg #[a, b]).cells.toList = [a, b] from rfl, lits_key, lits_int, lits_int] at h
        cases a with
        | int q x =>
          cases b with
          | int r y =>
            by_cases h1 : q = .i64 ∧ (Lit.int .i64 x).wf = true
            · by_cases h2 : r = .i64 ∧ (Lit.int .i64 y).wf = true
              · obtain ⟨rfl, h1⟩ := h1
                obtain ⟨rfl, h2⟩ := h2
                simp [h1, h2] at h
                exact ⟨(x, y), rfl, ⟨h1, h2⟩, h.symm⟩
              · simp [h1, h2] at h
            · simp [h1] at h
          | _ => simp at h
        | _ => simp at h
    | _ => (unfold Value.formed at hf2; rw [Try.underlying29] at hf2; simp at hf2)
  · cases h
theorem keyL_inj {p q : Int × Int} (hp : kW p) (hq : kW q) (h : keyL p = keyL q) : p = q := by
  have h1 := keyK hp
  have h2 := keyK hq
  rw [h] at h1
  exact kV_inj (lawK.inj h1 h2)
theorem keyL_key {p : Int × Int} (hp : kW p) : WideAt.IsKeyLit (keyL p) := lawK.key (keyK hp)
theorem wfI {n : Int} (h1 : -9223372036854775808 ≤ n) (h2 : n ≤ 9223372036854775807) : (Lit.int .i64 n).wf = true := by
  simp [Lit.wf, IntKind.min, IntKind.max, IntKind.signed, IntKind.bits]; omega
/-- Block b is a map whose keys are those of m. -/
def SetIs (w : World) (b : Nat) (m : List (Int × Int)) : Prop := ∃ D : DataW Unit, w.ownsMap Try.prog 29 unitElem b m.length D ∧ size D = m.length ∧ (∀ p, kW p → has D (keyL p) = decide (p ∈ m)) ∧ (∀ p ∈ m, kW p) ∧ m.Nodup
theorem own_tight {P : Program} {k : TypeId} {H : Type} {R : Value → Option (DataW H × List MemPlace)} {w : World} {b n : Nat} {D : DataW H} (h : w.ownsMap P k R b n D) : w.ownsMap P k R b (size D) D := by
  obtain ⟨es, clock, hb, F, hs, rfl⟩ := h
  exact ⟨es, clock, hb, F, by simp [Maps.size, length_sorted], rfl⟩
section
variable {w w' : World} {b : Nat} {m : List (Int × Int)}
theorem SetIs.lt (h : SetIs w b m) : b < w.heap.size := by obtain ⟨D, h, _⟩ := h; exact h.lt
theorem SetIs.kept {S : Nat → Prop} (h : SetIs w b m) (hk : Kept S w w') (hn : ¬ S b) : SetIs w' b m := by
  obtain ⟨D, h1, h2⟩ := h
  exact ⟨D, hk.map h1 hn, h2⟩
theorem SetIs.below (h : SetIs w b m) (hb : Below w.heap.size w w') : SetIs w' b m := h.kept (Kept.of_below hb (fun _ => False)) (fun f => f)
theorem SetIs.made (w : World) : SetIs (w.alloc (.map #[] 0)) w.heap.size [] :=
  ⟨.map [], World.ownsMap_made _ _ _ _, rfl, fun p _ => by simp [has], fun _ h => (by cases h), List.nodup_nil⟩
def addK (m : List (Int × Int)) (p : Int × Int) : List (Int × Int) := if p ∈ m then m else m ++ [p]
def offK (m : List (Int × Int)) (p : Int × Int) : List (Int × Int) := m.filter fun q => decide (q ≠ p)
end
/-- A set: no block while nothing has come. -/
def SetO (w : World) (mb : Option Nat) (m : List (Int × Int)) : Prop := match mb with | none => m = [] | some b => SetIs w b m
end Go.Proofs.Ythmaofbnhfgfaaa
