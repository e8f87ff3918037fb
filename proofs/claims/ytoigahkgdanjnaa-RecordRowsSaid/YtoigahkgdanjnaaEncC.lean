/- What codec.Enc's Words does. Conditions: lengths. -/
import Derived.Test.YtoigahkgdanjnaaEncB
import Derived.Deep.RegionLaw
import Derived.Deep.AppendLies
namespace Go.Proofs.Ytoigahkgdanjnaa
set_option linter.unusedVariables false
set_option linter.unusedSimpArgs false
open Go.RowKit
theorem step_app1 {P : Program} {α : Type} {f : α → Value} {t e : TypeId} {z : Value} {bytes : Nat} {w : World} {ops : Array Oper} {o : Oper} {a : Act} {K : Act → World → Prop} {Q : Exit → Act → World → Prop} {E : Prop} (one : One P t e z bytes) (hf : ∀ x, (f x).oneCell' = true) (hgd : o.guard = none) (s x : Operand)
    (ho : o.op = .call { callee := .builtin .append, args := #[s, x], argTypes := #[t, t] })
    (base : Nat) (v : Value) (xs : List α) (hs : a.eval s = v) (hown : Ow f e w base v xs)
    (h : Nat) (c : Nat) (y : α) (hx : a.eval x = .slice (some ⟨h, 0, none⟩) 1 c) (hc : w.cell? ⟨h, 0, none⟩ = some (f y))
    (h63 : xs.length + 1 ≤ 4294967296) (hby : bytes ≤ 32768) (hbase : base ≤ w.heap.size)
    (hk : ∀ A n c w', Ow f e w' base (.slice A n c) (xs ++ [y]) → w.grownBy w' v.ownBlock → ((Value.slice A n c).ownBlock = v.ownBlock ∨ (Value.slice A n c).ownBlock = some w.heap.size) → K (a.put o.dst (.slice A n c)) w') :
    if Region.wanted o (yielded ops a.tmps) = true then Oper.wp P o a w K Q else E := by
  obtain ⟨i, hi, hz, hsize, hbytes⟩ := one.info
  have hzs : z.cells.size = 1 := by rw [one.cell]; rfl
  have hbb : (xs.length + 1) * bytes ≤ 140737488355328 := by
    have := Nat.mul_le_mul h63 hby
    omega
  refine step_append_lies (w := w) hgd s x t ho base e i z 1 bytes one.under hi hz hsize hbytes hzs (by decide) v xs.length (xs.map f) hs hown ⟨h, 0, none⟩ 1 c [f y] hx rfl ?_ ?_ (by decide) (by simp only [maxLen]; omega) hbb hbase w.heap.size rfl ?_
  · intro j u hu
    have hj : j = 0 := by
      have := (List.getElem?_eq_some_iff.1 hu).1
      simp at this; omega
    subst hj
    simp at hu
    subst hu
    exact hc
  · intro u hu
    rw [List.mem_singleton] at hu
    subst hu
    exact hf y
  · intro g cap w' h2 h3 h4 _
    refine hk (some ⟨g, 0, none⟩) (xs.length + 1) cap w' ?_ h3 ?_
    · unfold Ow
      rw [List.length_append, List.length_singleton, List.map_append]
      exact h2
    · rcases h4 with h4 | h4
      · left; rw [h4]; rfl
      · right; rw [h4]; rfl
def u64v (x : BitVec 64) : Value := .int .u64 (U64 x)
def wordsL (ws : List (BitVec 64)) : List (BitVec 8) := uintL (BitVec.ofNat 64 ws.length) ++ (ws.map fun x => lowN x 8).flatten
set_option maxHeartbeats 800000
set_option maxRecDepth 100000
end Go.Proofs.Ytoigahkgdanjnaa
