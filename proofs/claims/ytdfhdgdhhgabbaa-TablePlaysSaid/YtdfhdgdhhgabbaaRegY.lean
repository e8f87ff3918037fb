/- One operation of a region by its run, over any frame. No conditions. -/
import Derived.Test.YtdfhdgdhhgabbaaRegX
namespace Go.Proofs.Ytdfhdgdhhgabbaa
set_option linter.unusedVariables false
set_option linter.unusedSimpArgs false
open Go.RowKit
set_option maxHeartbeats 1000000
set_option maxRecDepth 100000
section
variable {P : Program} {ops : Array Oper} {Q : Exit → Act → World → Prop}
/-- One of the row, by its run. -/
theorem set_exec {i n : Nat} {is : List Nat} {W : World → Prop} {d : Option Tmp} {op : Op} {type : TypeId} {a : Act} {w w' : World} {v : Value} (ho : (ops[i]?).map (fun o => (o.op, o.type)) = some (op, type)) (hdo : (ops[i]?).map (·.dst) = some d) (hg : (ops[i]?).bind (·.guard) = none)
    (hrun : (execOp a.eval { dst := d, op, type, pos := "", after := #[], guard := none }).run P w = .ok (.value v) w') (hW : W w') (h : SpineS P ops Q W n is (a.put d v) w') : ∃ o, ops[i]? = some o ∧ o.guard = none ∧ Oper.wp P o a w (fun a' w' => a'.defers = a.defers ∧ W w' ∧ SpineS P ops Q W n is a' w') NoQ := by
  cases hi : ops[i]? with
  | none => rw [hi] at ho; cases ho
  | some o =>
    rw [hi] at ho hdo hg
    obtain ⟨dst, op', type', pos, after, guard⟩ := o
    simp only [Option.map_some, Option.some.injEq, Prod.mk.injEq] at ho hdo
    obtain ⟨rfl, rfl⟩ := ho
    subst hdo
    simp only [Option.bind_some] at hg
    subst hg
    refine ⟨_, rfl, rfl, ?_⟩
    have he : execOp a.eval { dst, op := op', type := type', pos, after, guard := none } = execOp a.eval { dst, op := op', type := type', pos := "", after := #[], guard := none } := by
      cases op' <;> rfl
    unfold Oper.wp
    rw [he, hrun]
    simp only [Oper.upon]
    exact ⟨by cases dst <;> rfl, hW, h⟩
theorem float_exec {i : Nat} {op : Op} {type : TypeId} {ρ : Operand → Value} {w : World} {v : Value} (ho : (ops[i]?).map (fun o => (o.op, o.type)) = some (op, type))
    (hrun : (execOp ρ { dst := none, op, type, pos := "", after := #[], guard := none }).run P w = .ok (.value v) w) : ∃ o, ops[i]? = some o ∧ (execOp ρ o).run P w = .ok (.value v) w := by
  cases hi : ops[i]? with
  | none => rw [hi] at ho; cases ho
  | some o =>
    rw [hi] at ho
    obtain ⟨dst, op', type', pos, after, guard⟩ := o
    simp only [Option.map_some, Option.some.injEq, Prod.mk.injEq] at ho
    obtain ⟨rfl, rfl⟩ := ho
    refine ⟨_, rfl, ?_⟩
    rw [← hrun]
    cases op' <;> rfl
theorem get_put (a : Act) (d t : Nat) (v : Value) (hd : d < a.tmps.size) : (a.put (some d) v).tmps.getD t undef = if d = t then v else a.tmps.getD t undef := by
  by_cases h : d = t
  · subst h; rw [if_pos rfl, put_same _ _ _ hd]
  · rw [if_neg h, put_other _ _ _ _ (fun e => h (by injection e))]
theorem put_comm (a : Act) (d e : Nat) (u v : Value) (h : d ≠ e) : (a.put (some d) u).put (some e) v = (a.put (some e) v).put (some d) u := by
  simp only [Act.put]
  rw [Array.setIfInBounds_comm _ _ h]
end
end Go.Proofs.Ytdfhdgdhhgabbaa
