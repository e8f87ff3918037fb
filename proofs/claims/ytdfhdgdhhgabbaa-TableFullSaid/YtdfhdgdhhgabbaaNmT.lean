/- Single operations of straight code. No conditions. -/
import Derived.Test.YtdfhdgdhhgabbaaNmK
namespace Go.Proofs.Ytdfhdgdhhgabbaa
set_option linter.unusedVariables false
set_option linter.unusedSimpArgs false
open Go.RowKit Go.Maps
section
variable {ops : Array Oper} {rest : List Oper} {o : Oper} {a : Act} {w : World} {Q : Exit → Act → World → Prop}
theorem wl_val (v : Value) (hw : Region.wanted o (yielded ops a.tmps) = true) (h : (execOp a.eval o).run Try.prog w = .ok (.value v) w) (hk : wpList Try.prog ops Q rest (a.put o.dst v) w) : wpList Try.prog ops Q (o :: rest) a w :=
  wpList_step fun _ hK => by
    rw [if_pos hw]
    unfold Oper.wp
    rw [h]
    exact hK _ _ hk
theorem wl_add {x y : Operand} (m n : Int) (hw : Region.wanted o (yielded ops a.tmps) = true) (ho : o.op = .binOp .add 3 x y 3) (hx : a.eval x = .int .i64 m) (hy : a.eval y = .int .i64 n) (h1 : 0 ≤ m) (h2 : m ≤ 100) (h3 : 0 ≤ n) (h4 : n ≤ 100) (hk : wpList Try.prog ops Q rest (a.put o.dst (.int .i64 (m + n))) w) :
    wpList Try.prog ops Q (o :: rest) a w := by
  refine wl_val (.int .i64 (m + n)) hw ?_ hk
  have k : IntKind.i64.wrap (m + n) = m + n := wrapIn (by omega) (by omega)
  unfold execOp
  simp only [ho, hx, hy]
  clear hk hw hx hy ho
  go_simp
theorem wl_eq {x y : Operand} (m : Int) (hw : Region.wanted o (yielded ops a.tmps) = true) (ho : o.op = .binOp .eql 3 x y 3) (hx : a.eval x = .int .i64 m) (hy : a.eval y = .int .i64 m) (hk : wpList Try.prog ops Q rest (a.put o.dst (.bool true)) w) :
    wpList Try.prog ops Q (o :: rest) a w := by
  refine wl_val (.bool true) hw ?_ hk
  unfold execOp
  simp only [ho, hx, hy]
  clear hk hw hx hy ho
  go_simp
end
end Go.Proofs.Ytdfhdgdhhgabbaa
