/- What loamlaw14.known and loamlaw14.Of answer, and how a header that comes in is opened. No conditions. -/
import Derived.Test.YtfodefgihicafaaDoorHeadE
import Derived.Test.YtfodefgihicafaaDoorFrame
import Derived.Lib.SmallJoins
namespace Go.Proofs.YtfodefgihicafaaDoor
set_option linter.unusedVariables false
set_option linter.unusedSimpArgs false
open Go.RowKit Go.Joins Go.WideShapes
theorem retp_as {P : Program} {f : FuncId} {args args' : Array Value} {w : World} {v v' : Value} (h : Calls P f args w (RetP v w)) (e1 : args = args') (e2 : v = v') : Calls P f args' w (RetP v' w) := e1 ▸ e2 ▸ h
theorem k_pack1 (w : World) : Calls Tryd.prog 59 #[.agg #[.int .i64 3, .int .i64 9, .bool false, .int .i64 0]] w (RetP (.tuple #[.int .u64 9223372036855365638, .int .i64 0]) w) := retp_as (pack_c 3 9 false 0 w) rfl (by kernel_rfl)
theorem k_pack2 (w : World) : Calls Tryd.prog 59 #[.agg #[.int .i64 0, .int .i64 0, .bool true, .int .i64 7]] w (RetP (.tuple #[.int .u64 9223372066919546881, .int .i64 0]) w) := retp_as (pack_c 0 0 true 7 w) rfl (by kernel_rfl)
theorem k_un1 (w : World) : Calls Tryd.prog 80 #[.int .u64 9223372036855365638] w (RetP (.tuple #[.agg #[.int .i64 3, .int .i64 9, .bool false, .int .i64 0], .int .i64 0]) w) := retp_as (unpack_c 9223372036855365638 w) (by kernel_rfl) (by kernel_rfl)
theorem k_un2 (w : World) : Calls Tryd.prog 80 #[.int .u64 0] w (RetP (.tuple #[.agg #[.int .i64 0, .int .i64 0, .bool false, .int .i64 0], .int .i64 2]) w) := retp_as (unpack_c 0 w) (by kernel_rfl) (by kernel_rfl)
theorem k_size (w : World) : Calls Tryd.prog 60 #[.agg #[.int .i64 3, .int .i64 9, .bool false, .int .i64 0]] w (RetP (.int .i64 6) w) := retp_as (size_c 3 9 false 0 w) rfl (by kernel_rfl)
theorem k_right1 (w : World) : Calls Tryd.prog 76 #[.agg #[.int .i64 3, .int .i64 9, .bool false, .int .i64 0]] w (RetP (.bool true) w) := retp_as (right_c 3 9 false 0 w) rfl (by kernel_rfl)
theorem k_right2 (w : World) : Calls Tryd.prog 76 #[.agg #[.int .i64 65, .int .i64 0, .bool false, .int .i64 0]] w (RetP (.bool false) w) := retp_as (right_c 65 0 false 0 w) rfl (by kernel_rfl)
set_option maxHeartbeats 800000
set_option maxRecDepth 100000
theorem open_head {H : Type} {enc : TypeId × Value → H} {W : World} {base : Nat} {v : Value} {d : DataW H} {q : List MemPlace}
    (hv : Value.okWide Tryd.prog W .any base 60 v) (h : DataW.Trod enc Tryd.prog W 0 (fun _ => true) true 60 v d q) :
    ∃ (p b : Int) (m : Bool) (t : Int), v = .agg #[.int .i64 p, .int .i64 b, .bool m, .int .i64 t] := by
  obtain ⟨c0, c1, c2, c3, y0, y1, y2, y3, n, rfl, _, _, h0, h1, h2, h3⟩ := open_agg4 Tryd.underlying60 (by kernel_rfl) (by kernel_rfl) hv h
  obtain ⟨p, e0, _, _⟩ := DataW.trod_int Tryd.underlying3 h0
  obtain ⟨b, e1, _, _⟩ := DataW.trod_int Tryd.underlying3 h1
  obtain ⟨m, e2, _⟩ := DataW.trod_bool Tryd.underlying4 h2
  obtain ⟨t, e3, _, _⟩ := DataW.trod_int Tryd.underlying3 h3
  simp at e0 e1 e2 e3
  subst e0 e1 e2 e3
  exact ⟨p, b, m, t, rfl⟩
end Go.Proofs.YtfodefgihicafaaDoor
