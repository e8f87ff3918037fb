/- Texts joined: SpC EnA EnB NmX NmC NmD NmZ NmW. -/
import Derived.Test.YtkkjnahjmomjgaaWc5
import Derived.Test.YtkkjnahjmomjgaaBitsA
import Derived.Test.YtkkjnahjmomjgaaBitsB
import Derived.Test.YtkkjnahjmomjgaaStr
import Derived.Test.YtkkjnahjmomjgaaChecked
import Derived.Maps.Ext
import Derived.DeepKeys5
import Derived.Test.YtkkjnahjmomjgaaRegT
import Derived.Lib.BytesEntry
import Derived.Lib.BufferWrite
import Derived.Laws.Rows
import Derived.Laws.Tables
import Derived.OwnWalk
/- space: Objects. Conditions: lengths. -/
namespace Go.Proofs.Ytkkjnahjmomjgaa
set_option linter.unusedVariables false
set_option linter.unusedSimpArgs false
open Go.RowKit
def iN (n : Nat) : Value := .int .i64 (n : Int)
theorem iN_one : ∀ x : Nat, (iN x).oneCell' = true := fun _ => rfl
def szX (x : BitVec 64) : Nat := (sizeH (fP x) (fB x) (fM x) (fT x)).toNat
def goodX (x : BitVec 64) (room : Nat) : Bool := okU x && (!fM x && decide (szX x ≤ room))
/-- The places of the objects from at to top; none: they are none. -/
def objF (ws : List (BitVec 64)) (top : Nat) : Nat → Nat → Option (List Nat)
  | 0, _ => some []
  | n + 1, a => if a < top then (if goodX (ws.getD a 0#64) (top - a) = true then (objF ws top n (a + szX (ws.getD a 0#64))).map (a :: ·) else none) else some []
theorem szX_pos {x : BitVec 64} (h : okU x = true) (hm : fM x = false) : sizeH (fP x) (fB x) false (fT x) = ((szX x : Nat) : Int) ∧ 1 ≤ szX x ∧ szX x ≤ 1000 := by
  obtain ⟨hr, _⟩ := okU_yes h
  rw [hm] at hr
  rcases rightH_out hr with ⟨h1, _⟩ | ⟨_, h2, h3, h4, h5, h6⟩
  · cases h1
  · have e : sizeH (fP x) (fB x) false (fT x) = 1 + fP x + (fB x + 7) / 8 := if_pos ⟨hr, rfl⟩
    have e2 : szX x = (1 + fP x + (fB x + 7) / 8).toNat := by unfold szX; rw [hm, e]
    rw [e, e2]
    omega
theorem of_rp {P : Program} {f : FuncId} {args : Array Value} {v : Value} {w : World} (h : Calls P f args w (RetP v w)) : Calls P f args w fun e w2 => ∃ u, e = .returned u ∧ Below w.heap.size w w2 ∧ IsV v u w2 :=
  h.mono fun _ _ h => ⟨_, h.1, h.2, rfl⟩
set_option maxHeartbeats 400000
set_option maxRecDepth 100000
theorem obj_e (Q : Exit → Act → World → Prop) (a0 : Act) (w : World)  (hsz : a0.tmps.size = 50) (sl7 : a0.tmps.getD 7 undef = .int .i64 2)
    (fin : ∀ (vals : Nat → Value) (w1 : World), Below w.heap.size w w1 → (IsV (.bool true)) (vals 16) w1 → Q .normal (putD vals [24, 25, 26, 27, 28, 29, 30, 31, 32, 33, 34, 35, 36, 37, 38, 39, 40] 0 a0) w1) :
    (Code.region 5 (regIn Try.f97 5) true).wp Try.prog Q a0 w := by
  refine region_by (G := fun w w1 => Below w.heap.size w w1) [IsV (.int .i64 2),
    IsV (.bool true),
    IsV (.bool true),
    IsV undef,
    IsV undef,
    IsV (.bool true),
    IsV (.bool true),
    IsV undef,
    IsV undef,
    IsV undef,
    IsV undef,
    IsV undef,
    IsV undef,
    IsV undef,
    IsV undef,
    IsV undef,
    IsV (.bool true)]
    [24, 25, 26, 27, 28, 29, 30, 31, 32, 33, 34, 35, 36, 37, 38, 39, 40] (by kernel_rfl) (Gw.drew _) Gw.trans (by rw [hsz]; kernel_rfl) (by kernel_rfl) ?_ ?_ ?_
  · intro f hf
    simp only [List.mem_cons, List.not_mem_nil, or_false] at hf
    rcases hf with rfl | rfl | rfl | rfl | rfl | rfl | rfl | rfl | rfl | rfl | rfl | rfl | rfl | rfl | rfl | rfl | rfl <;> intro v a b h g <;> first | exact IsV.mono h
  · refine ⟨?_, ?_, ?_, ?_, ?_, ?_, ?_, ?_, ?_, ?_, ?_, ?_, ?_, ?_, ?_, ?_, ?_, trivial⟩
    · exact owes_mv 7 (by kernel_rfl) (by kernel_rfl) (by kernel_rfl) sl7 (fun _ => rfl)
    · refine owes_v (Go.Op.binOp Go.BinOp.neq 34 (Go.Operand.tmp 24) (Go.Operand.const (Go.Value.int Go.IntKind.i64 0)) 34) 4 [0] (by kernel_rfl) (by kernel_rfl) (by kernel_rfl) rfl fun vals w1 ρ hG hF hρ hcst hfun => ?_
      have e24 : ρ (.tmp 24) = .int .i64 2 := ((hρ 24).trans (slotJ [0] (by rw [hsz]; decide) (by kernel_rfl))).trans (hF 0 (by decide))
      clear hρ hF hfun sl7 fin
      exact opv_val (by go_simp <;> rfl) ⟨gw_self _, rfl⟩
    · exact owes_mvj 1 25 (by kernel_rfl) (by kernel_rfl) (by kernel_rfl) (by kernel_rfl) (by rw [hsz]; decide) (fun v w h => h)
    · exact owes_no 2 true false (by decide) (by kernel_rfl) (by kernel_rfl) (fun _ _ h => h) (by rw [hsz]; kernel_rfl) (fun _ => rfl)
    · exact owes_no 2 true false (by decide) (by kernel_rfl) (by kernel_rfl) (fun _ _ h => h) (by rw [hsz]; kernel_rfl) (fun _ => rfl)
    · refine owes_v (Go.Op.pick (Go.Operand.tmp 26) (Go.Operand.const (Go.Value.bool true)) (Go.Operand.tmp 28)) 4 [2, 4] (by kernel_rfl) (by kernel_rfl) (by kernel_rfl) rfl fun vals w1 ρ hG hF hρ hcst hfun => ?_
      have e26 : ρ (.tmp 26) = .bool true := ((hρ 26).trans (slotJ [2, 4] (by rw [hsz]; decide) (by kernel_rfl))).trans (hF 2 (by decide))
      have e28 : ρ (.tmp 28) = undef := ((hρ 28).trans (slotJ [2, 4] (by rw [hsz]; decide) (by kernel_rfl))).trans (hF 4 (by decide))
      clear hρ hF hfun sl7 fin
      exact opv_val (by go_simp <;> rfl) ⟨gw_self _, rfl⟩
    · exact owes_mvj 5 29 (by kernel_rfl) (by kernel_rfl) (by kernel_rfl) (by kernel_rfl) (by rw [hsz]; decide) (fun v w h => h)
    · exact owes_no 6 true false (by decide) (by kernel_rfl) (by kernel_rfl) (fun _ _ h => h) (by rw [hsz]; kernel_rfl) (fun _ => rfl)
    · exact owes_no 6 true false (by decide) (by kernel_rfl) (by kernel_rfl) (fun _ _ h => h) (by rw [hsz]; kernel_rfl) (fun _ => rfl)
    · exact owes_no 6 true false (by decide) (by kernel_rfl) (by kernel_rfl) (fun _ _ h => h) (by rw [hsz]; kernel_rfl) (fun _ => rfl)
    · exact owes_no 6 true false (by decide) (by kernel_rfl) (by kernel_rfl) (fun _ _ h => h) (by rw [hsz]; kernel_rfl) (fun _ => rfl)
    · exact owes_no 6 true false (by decide) (by kernel_rfl) (by kernel_rfl) (fun _ _ h => h) (by rw [hsz]; kernel_rfl) (fun _ => rfl)
    · exact owes_no 6 true false (by decide) (by kernel_rfl) (by kernel_rfl) (fun _ _ h => h) (by rw [hsz]; kernel_rfl) (fun _ => rfl)
    · exact owes_no 6 true false (by decide) (by kernel_rfl) (by kernel_rfl) (fun _ _ h => h) (by rw [hsz]; kernel_rfl) (fun _ => rfl)
    · exact owes_no 6 true false (by decide) (by kernel_rfl) (by kernel_rfl) (fun _ _ h => h) (by rw [hsz]; kernel_rfl) (fun _ => rfl)
    · exact owes_no 6 true false (by decide) (by kernel_rfl) (by kernel_rfl) (fun _ _ h => h) (by rw [hsz]; kernel_rfl) (fun _ => rfl)
    · refine owes_v (Go.Op.pick (Go.Operand.tmp 30) (Go.Operand.const (Go.Value.bool true)) (Go.Operand.tmp 39)) 4 [6, 15] (by kernel_rfl) (by kernel_rfl) (by kernel_rfl) rfl fun vals w1 ρ hG hF hρ hcst hfun => ?_
      have e30 : ρ (.tmp 30) = .bool true := ((hρ 30).trans (slotJ [6, 15] (by rw [hsz]; decide) (by kernel_rfl))).trans (hF 6 (by decide))
      have e39 : ρ (.tmp 39) = undef := ((hρ 39).trans (slotJ [6, 15] (by rw [hsz]; decide) (by kernel_rfl))).trans (hF 15 (by decide))
      clear hρ hF hfun sl7 fin
      exact opv_val (by go_simp <;> rfl) ⟨gw_self _, rfl⟩
  · intro vals w1 hG hF
    exact fin vals w1 hG (hF 16 (by decide +kernel))
theorem obj_m (Q : Exit → Act → World → Prop) (a0 : Act) (w : World) (H : Nat) (p b t : Int) (hk : Bk w H 112 #[.int .i64 p, .int .i64 b, .bool true, .int .i64 t]) (hsz : a0.tmps.size = 50) (sl6 : a0.tmps.getD 6 undef = .pointer (some ⟨H, 0, none⟩)) (sl7 : a0.tmps.getD 7 undef = .int .i64 0)
    (fin : ∀ (vals : Nat → Value) (w1 : World), Below w.heap.size w w1 → (IsV (.bool true)) (vals 16) w1 → Q .normal (putD vals [24, 25, 26, 27, 28, 29, 30, 31, 32, 33, 34, 35, 36, 37, 38, 39, 40] 0 a0) w1) :
    (Code.region 5 (regIn Try.f97 5) true).wp Try.prog Q a0 w := by
  refine region_by (G := fun w w1 => Below w.heap.size w w1) [IsV (.int .i64 0),
    IsV (.bool false),
    IsV (.bool false),
    IsV (.pointer (some ⟨H, 2, none⟩)),
    IsV (.bool true),
    IsV (.bool true),
    IsV (.bool true),
    IsV undef,
    IsV undef,
    IsV undef,
    IsV undef,
    IsV undef,
    IsV undef,
    IsV undef,
    IsV undef,
    IsV undef,
    IsV (.bool true)]
    [24, 25, 26, 27, 28, 29, 30, 31, 32, 33, 34, 35, 36, 37, 38, 39, 40] (by kernel_rfl) (Gw.drew _) Gw.trans (by rw [hsz]; kernel_rfl) (by kernel_rfl) ?_ ?_ ?_
  · intro f hf
    simp only [List.mem_cons, List.not_mem_nil, or_false] at hf
    rcases hf with rfl | rfl | rfl | rfl | rfl | rfl | rfl | rfl | rfl | rfl | rfl | rfl | rfl | rfl | rfl | rfl | rfl <;> intro v a b h g <;> first | exact IsV.mono h
  · refine ⟨?_, ?_, ?_, ?_, ?_, ?_, ?_, ?_, ?_, ?_, ?_, ?_, ?_, ?_, ?_, ?_, ?_, trivial⟩
    · exact owes_mv 7 (by kernel_rfl) (by kernel_rfl) (by kernel_rfl) sl7 (fun _ => rfl)
    · refine owes_v (Go.Op.binOp Go.BinOp.neq 34 (Go.Operand.tmp 24) (Go.Operand.const (Go.Value.int Go.IntKind.i64 0)) 34) 4 [0] (by kernel_rfl) (by kernel_rfl) (by kernel_rfl) rfl fun vals w1 ρ hG hF hρ hcst hfun => ?_
      have e24 : ρ (.tmp 24) = .int .i64 0 := ((hρ 24).trans (slotJ [0] (by rw [hsz]; decide) (by kernel_rfl))).trans (hF 0 (by decide))
      clear hρ hF hfun sl6 sl7 fin
      exact opv_val (by go_simp <;> rfl) ⟨gw_self _, rfl⟩
    · exact owes_mvj 1 25 (by kernel_rfl) (by kernel_rfl) (by kernel_rfl) (by kernel_rfl) (by rw [hsz]; decide) (fun v w h => h)
    · refine owes_vt 2 false (Go.Op.fieldAddr 112 (Go.Operand.tmp 6) 2) 0 [] (by kernel_rfl) (by kernel_rfl) (by kernel_rfl) (fun _ _ h => h) (by rw [hsz]; kernel_rfl) (by kernel_rfl) rfl fun vals w1 ρ hG hF hρ hcst hfun => ?_
      have e6 : ρ (.tmp 6) = .pointer (some ⟨H, 0, none⟩) := ((hρ 6).trans (slotO [] (by kernel_rfl))).trans sl6
      clear hρ hF hcst hfun sl6 sl7 fin
      exact opv_val (by go_simp <;> rfl) ⟨gw_self _, rfl⟩
    · refine owes_vt 2 false (Go.Op.load 4 (Go.Operand.tmp 27)) 4 [3] (by kernel_rfl) (by kernel_rfl) (by kernel_rfl) (fun _ _ h => h) (by rw [hsz]; kernel_rfl) (by kernel_rfl) rfl fun vals w1 ρ hG hF hρ hcst hfun => ?_
      have e27 : ρ (.tmp 27) = .pointer (some ⟨H, 2, none⟩) := ((hρ 27).trans (slotJ [3] (by rw [hsz]; decide) (by kernel_rfl))).trans (hF 3 (by decide))
      have k := ((hk.below hG hk.lt).four).2.2.1
      clear hρ hF hcst hfun sl6 sl7 fin
      exact opv_val (by go_simp <;> rfl) ⟨gw_self _, rfl⟩
    · refine owes_v (Go.Op.pick (Go.Operand.tmp 26) (Go.Operand.const (Go.Value.bool true)) (Go.Operand.tmp 28)) 4 [2, 4] (by kernel_rfl) (by kernel_rfl) (by kernel_rfl) rfl fun vals w1 ρ hG hF hρ hcst hfun => ?_
      have e26 : ρ (.tmp 26) = .bool false := ((hρ 26).trans (slotJ [2, 4] (by rw [hsz]; decide) (by kernel_rfl))).trans (hF 2 (by decide))
      have e28 : ρ (.tmp 28) = .bool true := ((hρ 28).trans (slotJ [2, 4] (by rw [hsz]; decide) (by kernel_rfl))).trans (hF 4 (by decide))
      clear hρ hF hfun sl6 sl7 fin
      exact opv_val (by go_simp <;> rfl) ⟨gw_self _, rfl⟩
    · exact owes_mvj 5 29 (by kernel_rfl) (by kernel_rfl) (by kernel_rfl) (by kernel_rfl) (by rw [hsz]; decide) (fun v w h => h)
    · exact owes_no 6 true false (by decide) (by kernel_rfl) (by kernel_rfl) (fun _ _ h => h) (by rw [hsz]; kernel_rfl) (fun _ => rfl)
    · exact owes_no 6 true false (by decide) (by kernel_rfl) (by kernel_rfl) (fun _ _ h => h) (by rw [hsz]; kernel_rfl) (fun _ => rfl)
    · exact owes_no 6 true false (by decide) (by kernel_rfl) (by kernel_rfl) (fun _ _ h => h) (by rw [hsz]; kernel_rfl) (fun _ => rfl)
    · exact owes_no 6 true false (by decide) (by kernel_rfl) (by kernel_rfl) (fun _ _ h => h) (by rw [hsz]; kernel_rfl) (fun _ => rfl)
    · exact owes_no 6 true false (by decide) (by kernel_rfl) (by kernel_rfl) (fun _ _ h => h) (by rw [hsz]; kernel_rfl) (fun _ => rfl)
    · exact owes_no 6 true false (by decide) (by kernel_rfl) (by kernel_rfl) (fun _ _ h => h) (by rw [hsz]; kernel_rfl) (fun _ => rfl)
    · exact owes_no 6 true false (by decide) (by kernel_rfl) (by kernel_rfl) (fun _ _ h => h) (by rw [hsz]; kernel_rfl) (fun _ => rfl)
    · exact owes_no 6 true false (by decide) (by kernel_rfl) (by kernel_rfl) (fun _ _ h => h) (by rw [hsz]; kernel_rfl) (fun _ => rfl)
    · exact owes_no 6 true false (by decide) (by kernel_rfl) (by kernel_rfl) (fun _ _ h => h) (by rw [hsz]; kernel_rfl) (fun _ => rfl)
    · refine owes_v (Go.Op.pick (Go.Operand.tmp 30) (Go.Operand.const (Go.Value.bool true)) (Go.Operand.tmp 39)) 4 [6, 15] (by kernel_rfl) (by kernel_rfl) (by kernel_rfl) rfl fun vals w1 ρ hG hF hρ hcst hfun => ?_
      have e30 : ρ (.tmp 30) = .bool true := ((hρ 30).trans (slotJ [6, 15] (by rw [hsz]; decide) (by kernel_rfl))).trans (hF 6 (by decide))
      have e39 : ρ (.tmp 39) = undef := ((hρ 39).trans (slotJ [6, 15] (by rw [hsz]; decide) (by kernel_rfl))).trans (hF 15 (by decide))
      clear hρ hF hfun sl6 sl7 fin
      exact opv_val (by go_simp <;> rfl) ⟨gw_self _, rfl⟩
  · intro vals w1 hG hF
    exact fin vals w1 hG (hF 16 (by decide +kernel))
theorem obj_s (Q : Exit → Act → World → Prop) (a0 : Act) (w : World) (H s a top room sz : Nat) (p b t : Int) (r : Bool) (hk : Bk w H 112 #[.int .i64 p, .int .i64 b, .bool false, .int .i64 t]) (hs : s < w.heap.size) (ct : w.cell? ⟨s, 2, none⟩ = some (.int .i64 top)) (hz : sizeH p b false t = (sz : Int)) (d1 : (top : Int) - (a : Int) = (room : Int)) (d2 : (room : Int) ≤ 100000) (d3 : (0 : Int) ≤ (room : Int)) (hr : decide (room < sz) = r) (hsz : a0.tmps.size = 50) (sl0 : a0.tmps.getD 0 undef = .pointer (some ⟨s, 0, none⟩)) (sl5 : a0.tmps.getD 5 undef = .int .i64 a) (sl6 : a0.tmps.getD 6 undef = .pointer (some ⟨H, 0, none⟩)) (sl7 : a0.tmps.getD 7 undef = .int .i64 0)
    (fin : ∀ (vals : Nat → Value) (w1 : World), Below w.heap.size w w1 → (IsV (.bool r)) (vals 16) w1 → Q .normal (putD vals [24, 25, 26, 27, 28, 29, 30, 31, 32, 33, 34, 35, 36, 37, 38, 39, 40] 0 a0) w1) :
    (Code.region 5 (regIn Try.f97 5) true).wp Try.prog Q a0 w := by
  refine region_by (G := fun w w1 => Below w.heap.size w w1) [IsV (.int .i64 0),
    IsV (.bool false),
    IsV (.bool false),
    IsV (.pointer (some ⟨H, 2, none⟩)),
    IsV (.bool false),
    IsV (.bool false),
    IsV (.bool false),
    IsV (.agg #[.int .i64 p, .int .i64 b, .bool false, .int .i64 t]),
    IsV (.int .i64 sz),
    IsV (.pointer (some ⟨s, 0, none⟩)),
    IsV (.pointer (some ⟨s, 0, none⟩)),
    IsV (.pointer (some ⟨s, 2, none⟩)),
    IsV (.int .i64 top),
    IsV (.int .i64 a),
    IsV (.int .i64 room),
    IsV (.bool r),
    IsV (.bool r)]
    [24, 25, 26, 27, 28, 29, 30, 31, 32, 33, 34, 35, 36, 37, 38, 39, 40] (by kernel_rfl) (Gw.drew _) Gw.trans (by rw [hsz]; kernel_rfl) (by kernel_rfl) ?_ ?_ ?_
  · intro f hf
    simp only [List.mem_cons, List.not_mem_nil, or_false] at hf
    rcases hf with rfl | rfl | rfl | rfl | rfl | rfl | rfl | rfl | rfl | rfl | rfl | rfl | rfl | rfl | rfl | rfl | rfl <;> intro v a b h g <;> first | exact IsV.mono h
  · refine ⟨?_, ?_, ?_, ?_, ?_, ?_, ?_, ?_, ?_, ?_, ?_, ?_, ?_, ?_, ?_, ?_, ?_, trivial⟩
    · exact owes_mv 7 (by kernel_rfl) (by kernel_rfl) (by kernel_rfl) sl7 (fun _ => rfl)
    · refine owes_v (Go.Op.binOp Go.BinOp.neq 34 (Go.Operand.tmp 24) (Go.Operand.const (Go.Value.int Go.IntKind.i64 0)) 34) 4 [0] (by kernel_rfl) (by kernel_rfl) (by kernel_rfl) rfl fun vals w1 ρ hG hF hρ hcst hfun => ?_
      have e24 : ρ (.tmp 24) = .int .i64 0 := ((hρ 24).trans (slotJ [0] (by rw [hsz]; decide) (by kernel_rfl))).trans (hF 0 (by decide))
      clear hρ hF hfun sl0 sl5 sl6 sl7 fin
      exact opv_val (by go_simp <;> rfl) ⟨gw_self _, rfl⟩
    · exact owes_mvj 1 25 (by kernel_rfl) (by kernel_rfl) (by kernel_rfl) (by kernel_rfl) (by rw [hsz]; decide) (fun v w h => h)
    · refine owes_vt 2 false (Go.Op.fieldAddr 112 (Go.Operand.tmp 6) 2) 0 [] (by kernel_rfl) (by kernel_rfl) (by kernel_rfl) (fun _ _ h => h) (by rw [hsz]; kernel_rfl) (by kernel_rfl) rfl fun vals w1 ρ hG hF hρ hcst hfun => ?_
      have e6 : ρ (.tmp 6) = .pointer (some ⟨H, 0, none⟩) := ((hρ 6).trans (slotO [] (by kernel_rfl))).trans sl6
      clear hρ hF hcst hfun sl0 sl5 sl6 sl7 fin
      exact opv_val (by go_simp <;> rfl) ⟨gw_self _, rfl⟩
    · refine owes_vt 2 false (Go.Op.load 4 (Go.Operand.tmp 27)) 4 [3] (by kernel_rfl) (by kernel_rfl) (by kernel_rfl) (fun _ _ h => h) (by rw [hsz]; kernel_rfl) (by kernel_rfl) rfl fun vals w1 ρ hG hF hρ hcst hfun => ?_
      have e27 : ρ (.tmp 27) = .pointer (some ⟨H, 2, none⟩) := ((hρ 27).trans (slotJ [3] (by rw [hsz]; decide) (by kernel_rfl))).trans (hF 3 (by decide))
      have k := ((hk.below hG hk.lt).four).2.2.1
      clear hρ hF hcst hfun sl0 sl5 sl6 sl7 fin
      exact opv_val (by go_simp <;> rfl) ⟨gw_self _, rfl⟩
    · refine owes_v (Go.Op.pick (Go.Operand.tmp 26) (Go.Operand.const (Go.Value.bool true)) (Go.Operand.tmp 28)) 4 [2, 4] (by kernel_rfl) (by kernel_rfl) (by kernel_rfl) rfl fun vals w1 ρ hG hF hρ hcst hfun => ?_
      have e26 : ρ (.tmp 26) = .bool false := ((hρ 26).trans (slotJ [2, 4] (by rw [hsz]; decide) (by kernel_rfl))).trans (hF 2 (by decide))
      have e28 : ρ (.tmp 28) = .bool false := ((hρ 28).trans (slotJ [2, 4] (by rw [hsz]; decide) (by kernel_rfl))).trans (hF 4 (by decide))
      clear hρ hF hfun sl0 sl5 sl6 sl7 fin
      exact opv_val (by go_simp <;> rfl) ⟨gw_self _, rfl⟩
    · exact owes_mvj 5 29 (by kernel_rfl) (by kernel_rfl) (by kernel_rfl) (by kernel_rfl) (by rw [hsz]; decide) (fun v w h => h)
    · refine owes_vt 6 false (Go.Op.load 112 (Go.Operand.tmp 6)) 112 [] (by kernel_rfl) (by kernel_rfl) (by kernel_rfl) (fun _ _ h => h) (by rw [hsz]; kernel_rfl) (by kernel_rfl) rfl fun vals w1 ρ hG hF hρ hcst hfun => ?_
      have e6 : ρ (.tmp 6) = .pointer (some ⟨H, 0, none⟩) := ((hρ 6).trans (slotO [] (by kernel_rfl))).trans sl6
      obtain ⟨k1, k2, k3, k4⟩ := (hk.below hG hk.lt).four
      clear hρ hF hcst hfun sl0 sl5 sl6 sl7 fin
      exact opv_val (by go_simp <;> rfl) ⟨gw_self _, rfl⟩
    · refine owes_vt 6 false (Go.Op.call { callee := Go.Callee.value (Go.Operand.func 72), args := #[Go.Operand.tmp 31], argTypes := #[112] }) 3 [7] (by kernel_rfl) (by kernel_rfl) (by kernel_rfl) (fun _ _ h => h) (by rw [hsz]; kernel_rfl) (by kernel_rfl) rfl fun vals w1 ρ hG hF hρ hcst hfun => ?_
      have e31 : ρ (.tmp 31) = .agg #[.int .i64 p, .int .i64 b, .bool false, .int .i64 t] := ((hρ 31).trans (slotJ [7] (by rw [hsz]; decide) (by kernel_rfl))).trans (hF 7 (by decide))
      have kz := size_c p b false t w1
      rw [hz] at kz
      clear hρ hF hcst sl0 sl5 sl6 sl7 fin
      exact opv_enter (by go_simp <;> rfl) (of_rp kz)
    · refine owes_vt 6 false (Go.Op.move (Go.Operand.tmp 0)) 64 [] (by kernel_rfl) (by kernel_rfl) (by kernel_rfl) (fun _ _ h => h) (by rw [hsz]; kernel_rfl) (by kernel_rfl) rfl fun vals w1 ρ hG hF hρ hcst hfun => ?_
      have e0 : ρ (.tmp 0) = .pointer (some ⟨s, 0, none⟩) := ((hρ 0).trans (slotO [] (by kernel_rfl))).trans sl0
      clear hρ hF hcst hfun sl0 sl5 sl6 sl7 fin
      exact opv_val (by go_simp <;> rfl) ⟨gw_self _, rfl⟩
    · refine owes_vt 6 false (Go.Op.nilCheck (Go.Operand.tmp 33)) 0 [9] (by kernel_rfl) (by kernel_rfl) (by kernel_rfl) (fun _ _ h => h) (by rw [hsz]; kernel_rfl) (by kernel_rfl) rfl fun vals w1 ρ hG hF hρ hcst hfun => ?_
      have e33 : ρ (.tmp 33) = .pointer (some ⟨s, 0, none⟩) := ((hρ 33).trans (slotJ [9] (by rw [hsz]; decide) (by kernel_rfl))).trans (hF 9 (by decide))
      clear hρ hF hcst hfun sl0 sl5 sl6 sl7 fin
      exact opv_val (by go_simp <;> rfl) ⟨gw_self _, rfl⟩
    · refine owes_vt 6 false (Go.Op.fieldAddr 147 (Go.Operand.tmp 34) 2) 0 [10] (by kernel_rfl) (by kernel_rfl) (by kernel_rfl) (fun _ _ h => h) (by rw [hsz]; kernel_rfl) (by kernel_rfl) rfl fun vals w1 ρ hG hF hρ hcst hfun => ?_
      have e34 : ρ (.tmp 34) = .pointer (some ⟨s, 0, none⟩) := ((hρ 34).trans (slotJ [10] (by rw [hsz]; decide) (by kernel_rfl))).trans (hF 10 (by decide))
      clear hρ hF hcst hfun sl0 sl5 sl6 sl7 fin
      exact opv_val (by go_simp <;> rfl) ⟨gw_self _, rfl⟩
    · refine owes_vt 6 false (Go.Op.load 3 (Go.Operand.tmp 35)) 3 [11] (by kernel_rfl) (by kernel_rfl) (by kernel_rfl) (fun _ _ h => h) (by rw [hsz]; kernel_rfl) (by kernel_rfl) rfl fun vals w1 ρ hG hF hρ hcst hfun => ?_
      have e35 : ρ (.tmp 35) = .pointer (some ⟨s, 2, none⟩) := ((hρ 35).trans (slotJ [11] (by rw [hsz]; decide) (by kernel_rfl))).trans (hF 11 (by decide))
      have k := (hG.cell (p := ⟨s, 2, none⟩) hs).trans ct
      clear hρ hF hcst hfun sl0 sl5 sl6 sl7 fin
      exact opv_val (by go_simp <;> rfl) ⟨gw_self _, rfl⟩
    · refine owes_vt 6 false (Go.Op.move (Go.Operand.tmp 5)) 3 [] (by kernel_rfl) (by kernel_rfl) (by kernel_rfl) (fun _ _ h => h) (by rw [hsz]; kernel_rfl) (by kernel_rfl) rfl fun vals w1 ρ hG hF hρ hcst hfun => ?_
      have e5 : ρ (.tmp 5) = .int .i64 a := ((hρ 5).trans (slotO [] (by kernel_rfl))).trans sl5
      clear hρ hF hcst hfun sl0 sl5 sl6 sl7 fin
      exact opv_val (by go_simp <;> rfl) ⟨gw_self _, rfl⟩
    · refine owes_vt 6 false (Go.Op.binOp Go.BinOp.sub 3 (Go.Operand.tmp 36) (Go.Operand.tmp 37) 3) 3 [12, 13] (by kernel_rfl) (by kernel_rfl) (by kernel_rfl) (fun _ _ h => h) (by rw [hsz]; kernel_rfl) (by kernel_rfl) rfl fun vals w1 ρ hG hF hρ hcst hfun => ?_
      have e36 : ρ (.tmp 36) = .int .i64 top := ((hρ 36).trans (slotJ [12, 13] (by rw [hsz]; decide) (by kernel_rfl))).trans (hF 12 (by decide))
      have e37 : ρ (.tmp 37) = .int .i64 a := ((hρ 37).trans (slotJ [12, 13] (by rw [hsz]; decide) (by kernel_rfl))).trans (hF 13 (by decide))
      have kw0 : IntKind.i64.wrap ((room : Int)) = (room : Int) := wrapIn (by omega) (by omega)
      clear hρ hF hcst hfun sl0 sl5 sl6 sl7 fin
      exact opv_val (by go_simp <;> rfl) ⟨gw_self _, rfl⟩
    · refine owes_vt 6 false (Go.Op.binOp Go.BinOp.gtr 3 (Go.Operand.tmp 32) (Go.Operand.tmp 38) 3) 4 [8, 14] (by kernel_rfl) (by kernel_rfl) (by kernel_rfl) (fun _ _ h => h) (by rw [hsz]; kernel_rfl) (by kernel_rfl) rfl fun vals w1 ρ hG hF hρ hcst hfun => ?_
      have e32 : ρ (.tmp 32) = .int .i64 sz := ((hρ 32).trans (slotJ [8, 14] (by rw [hsz]; decide) (by kernel_rfl))).trans (hF 8 (by decide))
      have e38 : ρ (.tmp 38) = .int .i64 room := ((hρ 38).trans (slotJ [8, 14] (by rw [hsz]; decide) (by kernel_rfl))).trans (hF 14 (by decide))
      clear hρ hF hcst hfun sl0 sl5 sl6 sl7 fin
      exact opv_val (by go_simp <;> first | rfl | exact hr | rw [hr]) ⟨gw_self _, rfl⟩
    · refine owes_v (Go.Op.pick (Go.Operand.tmp 30) (Go.Operand.const (Go.Value.bool true)) (Go.Operand.tmp 39)) 4 [6, 15] (by kernel_rfl) (by kernel_rfl) (by kernel_rfl) rfl fun vals w1 ρ hG hF hρ hcst hfun => ?_
      have e30 : ρ (.tmp 30) = .bool false := ((hρ 30).trans (slotJ [6, 15] (by rw [hsz]; decide) (by kernel_rfl))).trans (hF 6 (by decide))
      have e39 : ρ (.tmp 39) = .bool r := ((hρ 39).trans (slotJ [6, 15] (by rw [hsz]; decide) (by kernel_rfl))).trans (hF 15 (by decide))
      clear hρ hF hfun sl0 sl5 sl6 sl7 fin
      exact opv_val (by go_simp <;> rfl) ⟨gw_self _, rfl⟩
  · intro vals w1 hG hF
    exact fin vals w1 hG (hF 16 (by decide +kernel))
def ObjP (r : Option (List Nat)) (w : World) (e : Ending) (w' : World) : Prop := match r with
  | some l => MkEP iN 3 l 0 w e w'
  | none => RetP (.tuple #[.slice none 0 0, .int .i64 2]) w e w'
theorem objF_end (ws : List (BitVec 64)) (top n a : Nat) (h : ¬ a < top) : objF ws top n a = some [] := by
  cases n with
  | zero => rfl
  | succ n => exact if_neg h
theorem unV_bad {x : BitVec 64} (h : okU x = false) : unV x = .tuple #[.agg #[.int .i64 0, .int .i64 0, .bool false, .int .i64 0], .int .i64 2] := unV_no h
theorem bk_kept {w w5 : World} {H : Nat} {E : TypeId} {cs : Array Value} {o : Obj} {row : Option Nat} (h : Bk w H E cs) (hg : (w.alloc o).grownBy w5 row) (hne : some H ≠ row) : Bk w5 H E cs := (hg.block H (h.alloc o).lt hne).trans (h.alloc o)
theorem objects_c (w : World) (B s g : Nat) (v : Value) (ws : List (BitVec 64)) (b t e : Nat) (p : SpAt w B s g v ws b t e) (hl : ws.length ≤ 100000) :
    Calls Try.prog 97 #[.pointer (some ⟨s, 0, none⟩)] w (ObjP (objF ws t (t + 1) b) w) := by
  have HP := Lib.hid p
  have HHd := Lib.hid (fun W (hb : Below w.heap.size w W) (i : Nat) (h1 : b ≤ i) (h2 : i < t) (hiw : i < ws.length) => sphead_in W B s g v ws b t e (p.below hb) i h1 h2 hl hiw)
  have htw : t ≤ ws.length := Nat.le_trans p.te p.el
  have HTW := Lib.hid htw
  obtain ⟨R, hR⟩ : ∃ R, R = objF ws t (t + 1) b := ⟨_, rfl⟩
  rw [← hR]
  have HRR := Lib.hid hR
  have hc1 := p.four.2.1
  have hc2 := p.four.2.2.1
  have hsl := p.blk.lt
  have q1 : (t : Int) ≤ 100000 := by omega
  have q2 : (b : Int) ≤ 100000 := by have := p.bt; omega
  clear p hl htw hR
  go_enter Try.func97, Try.ntmps97
  go_wp2_with fail
  go_loopw [4, 5] (fun o i W => ∃ (n a : Nat) (pre : List Nat), i = .int .i64 a ∧ Hid (b ≤ a) ∧ Hid (t < a + n) ∧ Hid (R = (objF ws t n a).map (pre ++ ·)) ∧ Hid (pre.length ≤ a) ∧ Ow iN 3 W w.heap.size o pre ∧ Below w.heap.size w W) (fun _ i _ => t - (Go.RowKit.intOf i).toNat)
  case atStart => exact ⟨t + 1, b, [], rfl, Lib.hid (Nat.le_refl _), Lib.hid (by omega), Lib.hid (by rw [HRR.out]; simp), Lib.hid (by simp), Ow.nil_ _ _ _ _, Below.refl _ _⟩
  case round =>
    obtain ⟨n, a, pre, rfl, hba, htn, hre, hpl, ho, hB⟩ := hrel
    have hp := HP.out.below hB
    have c2 := hp.four.2.2.1
    by_cases hlt : a < t
    · have p1 : (0 : Int) ≤ (a : Int) := by omega
      have haw : a < ws.length := Nat.lt_of_lt_of_le hlt HTW.out
      have HH := Lib.hid (HHd.out wr hB a hba.out hlt haw)
      obtain ⟨x, hx⟩ : ∃ x, x = ws[a] := ⟨_, rfl⟩
      rw [← hx] at HH
      obtain ⟨m, rfl⟩ : ∃ m, n = m + 1 := ⟨n - 1, by have := htn.out; omega⟩
      have hgx : ws.getD a 0#64 = x := by rw [List.getD_eq_getElem?_getD, List.getElem?_eq_getElem haw, hx]; rfl
      have hstep : R = (if goodX x (t - a) = true then (objF ws t m (a + szX x)).map (a :: ·) else none).map (pre ++ ·) := by
        have h := hre.out
        have e : objF ws t (m + 1) a = if goodX x (t - a) = true then (objF ws t m (a + szX x)).map (a :: ·) else none := by
          show (if a < t then _ else _) = _
          rw [if_pos hlt, hgx]
        rw [e] at h
        exact h
      have HST := Lib.hid hstep
      have HO := Lib.hid ho
      have HBB := Lib.hid hB
      have HPW := Lib.hid hp
      clear hre hx haw hgx hstep ho hp
      cases hok : okU x with
      | false =>
        rw [unV_bad hok] at HH
        have hbad : R = none := by
          rw [HST.out]
          have : goodX x (t - a) = false := by unfold goodX; rw [hok]; rfl
          rw [this]
          rfl
        have HRN := Lib.hid hbad
        clear hbad hok
        go_wp2_with fail
        refine Calls.mono HH.out ?_
        rintro r w2 ⟨rfl, b2⟩
        have HB2 := Lib.hid (hB.trans (b2.mono hB.size))
        clear b2
        go_wp2_with fail
        refine obj_e _ _ _ rfl rfl ?_
        intro vals w3 hG h40
        unfold IsV at h40
        simp only [putD, Act.put, List.setIfInBounds_toArray, List.set_cons_zero, List.set_cons_succ, h40]
        have HB3 := Lib.hid (((HB2.out.alloc HB2.out.size _)).trans (hG.mono (by have := HB2.out.size; simp; omega)))
        clear h40 hG
        go_wp2_with fail
        go_ret2
        rw [HRN.out]
        exact ⟨rfl, HB3.out⟩
      | true =>
        cases hm : fM x with
        | true =>
          have hv := unV_yes hok
          rw [hm] at hv
          rw [hv] at HH
          have hbad : R = none := by
            rw [HST.out]
            have : goodX x (t - a) = false := by unfold goodX; rw [hok, hm]; rfl
            rw [this]
            rfl
          have HRN := Lib.hid hbad
          clear hbad hok hm hv
          go_wp2_with fail
          refine Calls.mono HH.out ?_
          rintro r w2 ⟨rfl, b2⟩
          have HB2 := Lib.hid (hB.trans (b2.mono hB.size))
          clear b2
          go_wp2_with fail
          refine obj_m _ _ _ w2.heap.size (fP x) (fB x) (fT x) (Bk.new w2 _ _) rfl rfl rfl ?_
          intro vals w3 hG h40
          unfold IsV at h40
          simp only [putD, Act.put, List.setIfInBounds_toArray, List.set_cons_zero, List.set_cons_succ, h40]
          have HB3 := Lib.hid (((HB2.out.alloc HB2.out.size _)).trans (hG.mono (by have := HB2.out.size; simp; omega)))
          clear h40 hG
          go_wp2_with fail
          go_ret2
          rw [HRN.out]
          exact ⟨rfl, HB3.out⟩
        | false =>
          have hv := unV_yes hok
          rw [hm] at hv
          rw [hv] at HH
          obtain ⟨hz, hz1, hz2⟩ := szX_pos hok hm
          have hgood : goodX x (t - a) = decide (szX x ≤ t - a) := by unfold goodX; rw [hok, hm]; rfl
          obtain ⟨sz, hsz⟩ : ∃ sz, sz = szX x := ⟨_, rfl⟩
          obtain ⟨room, hroom⟩ : ∃ r, r = t - a := ⟨_, rfl⟩
          rw [← hsz] at hz hz1 hz2
          have hst2 := HST.out
          rw [hgood, ← hsz, ← hroom] at hst2
          have d1 : (t : Int) - (a : Int) = (room : Int) := by omega
          have d2 : (room : Int) ≤ 100000 := by omega
          have d3 : (0 : Int) ≤ (room : Int) := by omega
          have HZ := Lib.hid (fun W => size_c (fP x) (fB x) false (fT x) W)
          rw [hz] at HZ
          have HZZ := Lib.hid hz
          have HD := Lib.hid (And.intro d1 (And.intro d2 d3))
          have HST2 := Lib.hid hst2
          have hz3 : (sz : Int) ≤ 1000 := by omega
          have HS1 := Lib.hid hz1
          have HSL := Lib.hid HPW.out.blk.lt
          clear hv hok hm hz hz2 hgood hsz hst2 HST hz1 d1 d2 d3
          go_wp2_with fail
          refine Calls.mono HH.out ?_
          rintro r w2 ⟨rfl, b2⟩
          have HB2 := Lib.hid (hB.trans (b2.mono hB.size))
          have hk2 := Bk.new w2 112 #[.int .i64 (fP x), .int .i64 (fB x), .bool false, .int .i64 (fT x)]
          have HK2 := Lib.hid hk2
          have hb3 := Gw.alloc w2 (.cells #[.int .i64 (fP x), .int .i64 (fB x), .bool false, .int .i64 (fT x)] 112)
          have HB3 := Lib.hid (HB2.out.trans (hb3.mono HB2.out.size))
          have hw3 : (w2.alloc (.cells #[.int .i64 (fP x), .int .i64 (fB x), .bool false, .int .i64 (fT x)] 112)).cell? ⟨s, 2, none⟩ = some (.int .i64 t) := ((HPW.out.below b2).below hb3).four.2.2.1
          have HS3 : Hid (s < (w2.alloc (.cells #[.int .i64 (fP x), .int .i64 (fB x), .bool false, .int .i64 (fT x)] 112)).heap.size) := Lib.hid ((HPW.out.below b2).below hb3).blk.lt
          have HW3 := Lib.hid hw3
          have HO2 := Lib.hid ((HO.out.below b2).alloc (.cells #[.int .i64 (fP x), .int .i64 (fB x), .bool false, .int .i64 (fT x)] 112))
          have hol : ∀ k, u4.ownBlock = some k → k < w2.heap.size := fun k e => ((HO.out.below b2).lt k e).2
          have HOL := Lib.hid hol
          clear b2 hk2 hb3 hw3 hol
          go_wp2_with fail
          by_cases hfit : sz ≤ room
          · refine obj_s _ _ _ w2.heap.size s a t room sz (fP x) (fB x) (fT x) false HK2.out HS3.out HW3.out HZZ.out HD.out.1 HD.out.2.1 HD.out.2.2 (by simp; omega) rfl rfl rfl rfl rfl ?_
            intro vals w3 hG h40
            unfold IsV at h40
            simp only [putD, Act.put, List.setIfInBounds_toArray, List.set_cons_zero, List.set_cons_succ, h40]
            have hk3 := HK2.out.below hG HK2.out.lt
            obtain ⟨k0, k1, k2, k3⟩ := hk3.four
            have ho3 := HO2.out.below hG
            obtain ⟨A3, m3, n3, rfl⟩ : ∃ A m n, u4 = Value.slice A m n := by
              obtain ⟨A, c, e, _⟩ := ho3.form
              exact ⟨A, _, c, e⟩
            have HB4 := Lib.hid (HB3.out.trans (hG.mono HB3.out.size))
            have hsz4 := HB4.out.size
            have hlen : pre.length + 1 ≤ 4294967296 := by have := hpl.out; omega
            have hRn : R = (objF ws t m (a + sz)).map ((pre ++ [a]) ++ ·) := by
              have h := HST2.out
              have hd : decide (sz ≤ room) = true := by simp [hfit]
              rw [if_pos hd] at h
              rw [h]
              cases objF ws t m (a + sz) with
              | none => rfl
              | some l => simp
            have HRn := Lib.hid hRn
            have HK3 := Lib.hid hk3
            have HNE : Hid (some w2.heap.size ≠ (Value.slice A3 m3 n3).ownBlock) := Lib.hid (fun e => by have := HOL.out _ e.symm; omega)
            clear h40 hG hk3 hRn k0 k1 k2 k3
            go_wp2_with (at_builtin; refine wp_app oneI iN_one rfl (.tmp 41) (.tmp 43) rfl w.heap.size _ pre rfl (ho3.alloc _) (some ⟨w3.heap.size, 0, none⟩) 1 1 [a] rfl rfl (w3.heap.size + 1) (rd1_new rfl) hlen (by decide) (by simp; omega) ?_; intro v5 w5 ho5 hb5 hg5 _; have hk5 := bk_kept HK3.out hg5 HNE.out; obtain ⟨k0, k1, k2, k3⟩ := hk5.four)
            have HB5 := Lib.hid ((HB4.out.alloc hsz4 _).trans hb5)
            have HO5 := Lib.hid ho5
            have HZ5 := Lib.hid (HZ.out w5)
            obtain ⟨a2, ha2⟩ : ∃ a2, a2 = a + sz := ⟨_, rfl⟩
            have e2 : (a : Int) + (sz : Int) = (a2 : Int) := by omega
            have e3 : (a2 : Int) ≤ 200000 := by omega
            have e4 : (0 : Int) ≤ (a2 : Int) := by omega
            have HA2 := Lib.hid ha2
            clear hk5 ho5 hb5 hg5 ha2 HK3 HOL
            go_wp2_with fail
            refine Calls.mono HZ5.out ?_
            rintro r w6 ⟨rfl, b6⟩
            have HB6 := Lib.hid (HB5.out.trans (b6.mono HB5.out.size))
            have HO6 := Lib.hid (HO5.out.below b6)
            clear b6 HO5 HB5
            go_wp2_with fail
            go_roundw
            case rel =>
              refine ⟨m, a2, pre ++ [a], rfl, Lib.hid ?_, Lib.hid ?_, Lib.hid ?_, Lib.hid ?_, HO6.out, HB6.out⟩
              · have := HA2.out; have := hba.out; omega
              · have := HA2.out; have := htn.out; have := HS1.out; omega
              · rw [HA2.out]; exact HRn.out
              · have := HA2.out; have := hpl.out; have := HS1.out; rw [List.length_append]; simp; omega
            case measure => have := HA2.out; have := HS1.out; simp [Go.RowKit.intOf]; omega
          · refine obj_s _ _ _ w2.heap.size s a t room sz (fP x) (fB x) (fT x) true HK2.out HS3.out HW3.out HZZ.out HD.out.1 HD.out.2.1 HD.out.2.2 (by simp; omega) rfl rfl rfl rfl rfl ?_
            intro vals w3 hG h40
            unfold IsV at h40
            simp only [putD, Act.put, List.setIfInBounds_toArray, List.set_cons_zero, List.set_cons_succ, h40]
            have HB4 := Lib.hid (HB3.out.trans (hG.mono HB3.out.size))
            have hbad : R = none := by
              rw [HST2.out]
              have hd : decide (sz ≤ room) = false := by simp; omega
              rw [hd]
              rfl
            have HRN := Lib.hid hbad
            clear h40 hG hbad
            go_wp2_with fail
            go_ret2
            rw [HRN.out]
            exact ⟨rfl, HB4.out⟩
    · have hend := objF_end ws t n a hlt
      have h := hre.out
      rw [hend] at h
      have h2 : R = some pre := by rw [h]; simp
      have HO := Lib.hid ho
      have HR2 := Lib.hid h2
      clear hend h h2 ho hp
      go_wp2_with fail
      go_ret2
      rw [HR2.out]
      exact MkEP.of HO.out hB
end Go.Proofs.Ytkkjnahjmomjgaa
/- Rows of bytes in words; a place's word: the reference's. Conditions: lengths. -/
namespace Go.Proofs.Ytkkjnahjmomjgaa
set_option linter.unusedVariables false
set_option linter.unusedSimpArgs false
open Go.RowKit Go.Maps
set_option maxHeartbeats 4000000
set_option maxRecDepth 100000
/-- The first k words of bytes. -/
def wordsN (bs : List (BitVec 8)) (k : Nat) : List (BitVec 64) := (List.range k).map fun i => leN ((bs.drop (8 * i)).take 8)
def wordsW (bs : List (BitVec 8)) : List (BitVec 64) := wordsN bs ((bs.length + 7) / 8)
theorem wordsN_len (bs : List (BitVec 8)) (k : Nat) : (wordsN bs k).length = k := by unfold wordsN; simp
/-- The word that leads to a node: 0, or its place and 1. -/
def pointW (pl : List Nat) (p : Int) : BitVec 64 := if p = 0 then 0#64 else BitVec.ofNat 64 (pl.getD (p.toNat - 1) 0 + 1)
end Go.Proofs.Ytkkjnahjmomjgaa
/- A graph in words: the reference's, as a list (pure). Conditions: a graph that Check lets. -/
namespace Go.Proofs.Ytkkjnahjmomjgaa
set_option linter.unusedVariables false
set_option linter.unusedSimpArgs false
open Go.RowKit
set_option maxHeartbeats 1000000
def szG (x : Nv) : Nat := 1 + x.ps.length + (x.bs.length + 7) / 8
/-- The places of nodes, one behind the other; where they end. -/
def placeL : List Nv → Nat → List Nat
  | [], _ => []
  | x :: r, a => a :: placeL r (a + szG x)
def endL : List Nv → Nat → Nat
  | [], a => a
  | x :: r, a => endL r (a + szG x)
theorem placeL_len : ∀ (l : List Nv) (a : Nat), (placeL l a).length = l.length
  | [], _ => rfl
  | x :: r, a => by unfold placeL; rw [List.length_cons, List.length_cons, placeL_len r]
theorem endL_snoc (x : Nv) : ∀ (l : List Nv) (a : Nat), endL (l ++ [x]) a = endL l a + szG x
  | [], _ => rfl
  | y :: r, a => by rw [List.cons_append]; unfold endL; exact endL_snoc x r _
theorem placeL_snoc (x : Nv) : ∀ (l : List Nv) (a : Nat), placeL (l ++ [x]) a = placeL l a ++ [endL l a]
  | [], _ => rfl
  | y :: r, a => by rw [List.cons_append]; unfold placeL endL; rw [placeL_snoc x r]; rfl
theorem endL_ge : ∀ (l : List Nv) (a : Nat), a ≤ endL l a
  | [], _ => Nat.le_refl _
  | x :: r, a => Nat.le_trans (Nat.le_add_right _ _) (endL_ge r _)
theorem endL_add : ∀ (l : List Nv) (a : Nat), endL l a = a + endL l 0
  | [], _ => rfl
  | x :: r, a => by unfold endL; rw [endL_add r (a + szG x), endL_add r (0 + szG x)]; omega
theorem endL_take_le : ∀ (l : List Nv) (k a : Nat), endL (l.take k) a ≤ endL l a
  | [], k, a => by simp
  | x :: r, 0, a => endL_ge _ _
  | x :: r, k + 1, a => by rw [List.take_succ_cons]; unfold endL; exact endL_take_le r k _
theorem placeL_lt : ∀ (l : List Nv) (a : Nat), ∀ y ∈ placeL l a, a ≤ y ∧ y < endL l a
  | [], _, y, h => by cases h
  | x :: r, a, y, h => by
    unfold placeL at h
    unfold endL
    have h1 := endL_ge r (a + szG x)
    have h2 : 1 ≤ szG x := by unfold szG; omega
    rcases List.mem_cons.1 h with rfl | h
    · omega
    · have := placeL_lt r _ y h; omega
theorem ckNode_ok {N : Nat} {x : Nv} (h : ckNode N x = 0) : (∀ p ∈ x.ps, okP N p = true) ∧ x.ps.length ≤ 64 ∧ x.bs.length ≤ 1024 := by
  unfold ckNode at h
  by_cases h1 : x.ps.all (okP N) = true
  · rw [if_pos h1] at h
    by_cases h2 : 64 < x.ps.length ∨ 1024 < x.bs.length
    · rw [if_pos h2] at h; cases h
    · exact ⟨fun p hp => List.all_eq_true.1 h1 p hp, by omega, by omega⟩
  · rw [if_neg h1] at h; cases h
theorem ckNodes_all {N : Nat} : ∀ {l : List Nv}, ckNodes N l = 0 → ∀ x ∈ l, ckNode N x = 0
  | [], _, x, hx => by cases hx
  | y :: l, h, x, hx => by
    unfold ckNodes at h
    by_cases h1 : ckNode N y = 0
    · rw [if_pos h1] at h
      rcases List.mem_cons.1 hx with rfl | hx
      · exact h1
      · exact ckNodes_all h x hx
    · rw [if_neg h1] at h; exact absurd h h1
theorem ckRoots_all {N : Nat} : ∀ {l : List Rv} {s : ByteArray}, ckRoots N s l = 0 → ∀ r ∈ l, goodS r.s = true ∧ okP N r.t = true
  | [], _, _, r, hr => by cases hr
  | y :: l, s, h, r, hr => by
    unfold ckRoots at h
    by_cases h1 : goodS y.s = true ∧ leS y.s s = false
    · rw [if_pos h1] at h
      by_cases h2 : okP N y.t = true
      · rw [if_pos h2] at h
        rcases List.mem_cons.1 hr with rfl | hr
        · exact ⟨h1.1, h2⟩
        · exact ckRoots_all h r hr
      · rw [if_neg h2] at h; cases h
    · rw [if_neg h1] at h; cases h
theorem ckG_ok {g : Gv} (h : ckG g = 0) : (∀ x ∈ g.n, (∀ p ∈ x.ps, okP g.n.length p = true) ∧ x.ps.length ≤ 64 ∧ x.bs.length ≤ 1024) ∧ g.r.length ≤ 64 ∧ ∀ r ∈ g.r, goodS r.s = true ∧ okP g.n.length r.t = true := by
  unfold ckG at h
  by_cases h1 : ckNodes g.n.length g.n = 0
  · rw [if_pos h1] at h
    by_cases h2 : 64 < g.r.length
    · rw [if_pos h2] at h; cases h
    · rw [if_neg h2] at h
      exact ⟨fun x hx => ckNode_ok (ckNodes_all h1 x hx), by omega, ckRoots_all h⟩
  · rw [if_neg h1] at h; exact absurd h h1
theorem goodS_size {s : ByteArray} (h : goodS s = true) : 1 ≤ s.size ∧ s.size ≤ 32 := by
  unfold goodS at h
  simp only [Bool.and_eq_true, decide_eq_true_eq] at h
  exact ⟨h.1, h.2.1⟩
theorem szN_szG {x : Nv} (h1 : x.ps.length ≤ 64) (h2 : x.bs.length ≤ 1024) : szN x = (szG x : Int) := by
  have h : rightH (x.ps.length : Int) (x.bs.length : Int) false 0 = true := by unfold rightH; simp; omega
  unfold szN sizeH szG
  rw [if_pos ⟨h, rfl⟩]
  omega
theorem wordsL_end : ∀ (l : List Nv), (∀ x ∈ l, x.ps.length ≤ 64 ∧ x.bs.length ≤ 1024) → wordsL l = (endL l 0 : Int)
  | [], _ => rfl
  | x :: r, h => by
    have h1 := h x (List.mem_cons_self ..)
    have ih := wordsL_end r (fun y hy => h y (List.mem_cons_of_mem _ hy))
    show szN x + wordsL r = _
    rw [szN_szG h1.1 h1.2, ih]
    show _ = ((endL r (0 + szG x) : Nat) : Int)
    rw [endL_add r (0 + szG x)]
    omega
/-- A name's bytes, filled up. -/
def nameW (s : ByteArray) : List (BitVec 8) := s.data.toList.map (·.toBitVec) ++ List.replicate (32 - s.size) 0#8
theorem nameW_len {s : ByteArray} (h : s.size ≤ 32) : (nameW s).length = 32 := by
  have e : s.data.toList.length = s.size := rfl
  unfold nameW
  rw [List.length_append, List.length_map, List.length_replicate, e]
  omega
theorem wordsW_len (bs : List (BitVec 8)) : (wordsW bs).length = (bs.length + 7) / 8 := wordsN_len bs _
def rootW (pl : List Nat) (r : Rv) : List (BitVec 64) := wordsW (nameW r.s) ++ [pointW pl r.t]
theorem rootW_len (pl : List Nat) {r : Rv} (h : r.s.size ≤ 32) : (rootW pl r).length = 5 := by
  unfold rootW
  rw [List.length_append, wordsW_len, nameW_len h]
  rfl
def headW (x : Nv) : BitVec 64 := packH x.ps.length x.bs.length false 0
def nodeW (pl : List Nat) (x : Nv) : List (BitVec 64) := headW x :: (x.ps.map (pointW pl) ++ wordsW x.bs)
theorem nodeW_len (pl : List Nat) (x : Nv) : (nodeW pl x).length = szG x := by
  unfold nodeW szG
  rw [List.length_cons, List.length_append, List.length_map, wordsW_len]
  omega
def frontW (R t : Nat) : List (BitVec 64) := [1296125772#64, BitVec.ofNat 64 (R + t * 65536)]
def encW (ns : List Nv) (rs : List Rv) : List (BitVec 64) :=
  frontW rs.length (endL ns (2 + 5 * rs.length)) ++ rs.flatMap (rootW (placeL ns (2 + 5 * rs.length))) ++ ns.flatMap (nodeW (placeL ns (2 + 5 * rs.length)))
theorem roots_len (pl : List Nat) : ∀ (rs : List Rv), (∀ r ∈ rs, r.s.size ≤ 32) → (rs.flatMap (rootW pl)).length = 5 * rs.length
  | [], _ => rfl
  | r :: rs, h => by
    rw [List.flatMap_cons, List.length_append, rootW_len pl (h r (List.mem_cons_self ..)), roots_len pl rs (fun y hy => h y (List.mem_cons_of_mem _ hy)), List.length_cons]
    omega
theorem nodes_len (pl : List Nat) : ∀ (ns : List Nv), (ns.flatMap (nodeW pl)).length = endL ns 0
  | [] => rfl
  | x :: ns => by
    rw [List.flatMap_cons, List.length_append, nodeW_len, nodes_len pl ns]
    show _ = endL ns (0 + szG x)
    rw [endL_add ns (0 + szG x)]
    omega
theorem encW_len (ns : List Nv) (rs : List Rv) (h : ∀ r ∈ rs, r.s.size ≤ 32) : (encW ns rs).length = endL ns (2 + 5 * rs.length) := by
  unfold encW
  rw [List.length_append, List.length_append, roots_len _ rs h, nodes_len, endL_add ns (2 + 5 * rs.length)]
  rfl
end Go.Proofs.Ytkkjnahjmomjgaa
/- Names of 32 bytes: their cells. No conditions. -/
namespace Go.Proofs.Ytkkjnahjmomjgaa
set_option linter.unusedVariables false
set_option linter.unusedSimpArgs false
open Go.RowKit Go.Maps
abbrev Nm := List (BitVec 8)
def nW (k : Nm) : Prop := k.length = 32
def nC (k : Nm) : Array Value := (k.map b8).toArray
def nV (k : Nm) : Value := .agg (nC k)
def litB (x : BitVec 8) : Lit := .int .u8 (U8 x)
def keyN (k : Nm) : Lit := .string (keyBytes (k.map litB))
theorem wf8 (x : BitVec 8) : (Lit.int .u8 (U8 x)).wf = true := by
  have h1 := U8_lo x
  have h2 := U8_hi x
  simp [Lit.wf, IntKind.min, IntKind.max, IntKind.signed, IntKind.bits]; omega
theorem lits_u8 (m : Nat) (a : Value) : Try.prog.keyLits (m + 1) 5 [a] = match a with
    | .int q n => if q = .u8 ∧ (Lit.int .u8 n).wf = true then some [.int .u8 n] else none
    | _ => none := by
  unfold Program.keyLits
  rw [Try.underlying5]
  cases a <;> simp
theorem mapM_some {α β : Type} {f : α → Option β} {g : α → β} : ∀ l : List α, (∀ x ∈ l, f x = some (g x)) → l.mapM f = some (l.map g)
  | [], _ => rfl
  | x :: l, h => by
    rw [List.mapM_cons, h x List.mem_cons_self, mapM_some l (fun y hy => h y (List.mem_cons_of_mem _ hy))]
    rfl
theorem flat_one {α : Type} (f : BitVec 8 → α) : ∀ k : Nm, (k.map fun x => [f x]).flatten = k.map f
  | [] => rfl
  | x :: k => by simp only [List.map_cons, List.flatten_cons, flat_one f k]; rfl
theorem cells32 : Try.prog.cellsOf 120 = 32 := by kernel_rfl
theorem cells1 : Try.prog.cellsOf 5 = 1 := by kernel_rfl
theorem lits_name (m : Nat) (cs : List Value) (h : cs.length = 32) : Try.prog.keyLits (m + 2) 120 cs = ((List.range 32).mapM fun i => Try.prog.keyLits (m + 1) 5 ((cs.drop i).take 1)).map List.flatten := by
  conv => lhs; unfold Program.keyLits
  rw [Try.underlying120]
  simp only [cells32, cells1, h, if_true, Nat.mul_one]
theorem lits_nm (m : Nat) (k : Nm) (h : nW k) : Try.prog.keyLits (m + 2) 120 (k.map b8) = some (k.map litB) := by
  rw [lits_name m _ (by rw [List.length_map]; exact h)]
  rw [mapM_some (g := fun i => [litB (k.getD i 0#8)]) _ (fun i hi => by
    have hi : i < k.length := by rw [h]; exact List.mem_range.1 hi
    have e : ((k.map b8).drop i).take 1 = [b8 k[i]] := by
      rw [List.drop_eq_getElem_cons (by rw [List.length_map]; exact hi)]
      simp
    rw [e]
    unfold b8
    rw [lits_u8]
    simp only [wf8, and_self, if_true]
    rw [List.getD_eq_getElem?_getD, List.getElem?_eq_getElem hi]
    rfl)]
  rw [Option.map_some, ← flat_one litB k]
  congr 2
  apply List.ext_getElem
  · simp; exact h.symm
  · intro i h1 h2
    have hi : i < k.length := by simpa using h2
    simp [List.getElem?_eq_getElem hi]
end Go.Proofs.Ytkkjnahjmomjgaa
/- Names: compared; loaded, stored, copied as whole rows; (table.Name).String. No conditions. -/
namespace Go.Proofs.Ytkkjnahjmomjgaa
set_option linter.unusedVariables false
set_option linter.unusedSimpArgs false
open Go.RowKit Go.Maps
set_option maxRecDepth 100000
set_option maxHeartbeats 400000
theorem litB_inj {x y : BitVec 8} (h : litB x = litB y) : x = y := by unfold litB at h; injection h with _ h; exact U8_inj h
theorem map_lit_inj : ∀ {k q : Nm}, k.map litB = q.map litB → k = q
  | [], [], _ => rfl
  | [], _ :: _, h => by cases h
  | _ :: _, [], h => by cases h
  | x :: k, y :: q, h => by
    simp only [List.map_cons, List.cons.injEq] at h
    rw [litB_inj h.1, map_lit_inj h.2]
theorem formedN {k : Nm} (h : nW k) : (nV k).formed Try.prog 120 = true := by
  unfold nV Value.formed
  rw [Try.underlying120]
  simp only [cells32]
  have : (nC k).size = 32 := by unfold nC; simp; exact h
  simp [this]
theorem eqN (k q : Nm) (hk : nW k) (hq : nW q) (W : World) : (Op.equalIn 10000 120 (.agg (nC k)) (.agg (nC q))).run Try.prog W = .ok (decide (k = q)) W := by
  obtain ⟨r, hr, hiff⟩ := run_equalIn_deep (P := Try.prog) 9998 2 120 (by kernel_rfl) W 2 2 (nV k) (nV q) (k.map litB) (q.map litB) (formedN hk) (formedN hq)
    (by rw [show (nV k).cells.toList = k.map b8 from by unfold nV nC Value.cells; simp]; exact lits_nm 0 k hk) (by rw [show (nV q).cells.toList = q.map b8 from by unfold nV nC Value.cells; simp]; exact lits_nm 0 q hq)
  have e : r = decide (k = q) := by
    rw [Bool.eq_iff_iff, hiff, decide_eq_true_eq]
    exact ⟨map_lit_inj, fun e => by rw [e]⟩
  rw [← e]
  exact hr
def zN : Nm := List.replicate 32 0#8
theorem zN_w : nW zN := List.length_replicate ..
theorem nC_size {k : Nm} (h : nW k) : (nC k).size = 32 := by unfold nC; simp; exact h
theorem nC_one (k : Nm) : (nC k).all (·.oneCell') = true := by
  unfold nC
  simp [b8_one]
theorem zeroN (W : World) : (zeroValue 120).run Try.prog W = .ok (.agg (nC zN)) W := by
  have e : nC zN = Array.replicate 32 (.int .u8 0) := by
    unfold nC zN
    apply Array.ext'
    simp [b8, U8]
  have h : (zeroValue 120).run Try.prog W = .ok (.agg (Array.replicate 32 (.int .u8 0))) W := by kernel_rfl
  rw [e]; exact h
theorem nrd {w : World} {g B : Nat} {E : TypeId} {k : Nm} (h : Bk w g E (nC k)) (hB : g < B) : Rd b8 w B (some ⟨g, 0, none⟩) k := h.rd rfl hB
theorem setRow_below {w : World} {B g : Nat} (hB : B ≤ g) (cs : Array Value) : Below B w (w.setRow g cs) :=
  ⟨rfl, rfl, rfl, by simp, fun k hk => setRow_other w g k cs (by omega)⟩
section
variable {ops : Array Oper} {rest : List Oper} {o : Oper} {a : Act} {w : World} {Q : Exit → Act → World → Prop}
theorem wp_loadN (hg : o.guard = none) (x : Operand) (ho : o.op = .load 120 x) (g : Nat) (hx : a.eval x = .pointer (some ⟨g, 0, none⟩)) (E : TypeId) (cs : Array Value) (hb : Bk w g E cs) (hs : cs.size = 32)
    (h : wpList Try.prog ops Q rest (a.put o.dst (.agg cs)) w) : wpList Try.prog ops Q (o :: rest) a w :=
  wpList_load_row hg 120 x ho g hx E cs (0, 0) _ hb Try.underlying120 rfl (by rw [hs]; kernel_rfl) h
/-- .. at an operation whose guard holds. -/
theorem wp_loadG (hw : Region.wanted o (yielded ops a.tmps) = true) (x : Operand) (ho : o.op = .load 120 x) (g : Nat) (hx : a.eval x = .pointer (some ⟨g, 0, none⟩)) (E : TypeId) (cs : Array Value) (hb : Bk w g E cs) (hs : cs.size = 32)
    (h : wpList Try.prog ops Q rest (a.put o.dst (.agg cs)) w) : wpList Try.prog ops Q (o :: rest) a w :=
  wpList_step fun _ hK => by
    rw [if_pos hw]
    exact wp_load_row 120 x ho g hx E cs (0, 0) _ hb Try.underlying120 rfl (by rw [hs]; kernel_rfl) (hK _ _ h)
theorem wp_storeN (hg : o.guard = none) (x y : Operand) (ho : o.op = .store 120 x y) (g : Nat) (cs : Array Value) (hx : a.eval x = .pointer (some ⟨g, 0, none⟩)) (hy : a.eval y = .agg cs) (E : TypeId) (old : Array Value) (hb : Bk w g E old)
    (hs : cs.size = 32) (hold : old.size = 32) (h1 : cs.all (·.oneCell') = true)
    (h : ∀ w', Bk w' g E cs → (∀ B, B ≤ g → Below B w w') → (∀ k, k ≠ g → w'.heap[k]? = w.heap[k]?) → wpList Try.prog ops Q rest (a.put o.dst undef) w') : wpList Try.prog ops Q (o :: rest) a w :=
  wpList_store_row hg 120 x y ho g cs hx hy E old hb (by rw [hs]; kernel_rfl) (by rw [hs, hold]) h1
    (h _ (setRow_heap w g old cs E (0, 0) hb) (fun B hB => setRow_below hB cs) (fun k hk => setRow_other w g k cs hk))
theorem wp_copyN (hg : o.guard = none) (d x : Operand) (hop : o.op = Op.call { callee := Callee.builtin Builtin.copy, args := #[d, x], argTypes := #[52, 9] })
    (g : Nat) (hd : a.eval d = .slice (some ⟨g, 0, none⟩) 32 32) (s : ByteArray) (hx : a.eval x = .string s) (E : TypeId) (cur : Array Value) (hb : Bk w g E cur) (hs : cur.size = 32) (hle : s.size ≤ 32)
    (h : ∀ w', Bk w' g E (Lib.byteCells s.data.toList ++ cur.toList.drop s.size).toArray → (∀ B, B ≤ g → Below B w w') → (∀ k, k ≠ g → w'.heap[k]? = w.heap[k]?) → wpList Try.prog ops Q rest (a.put o.dst (.int .i64 s.size)) w') : wpList Try.prog ops Q (o :: rest) a w := by
  refine wpList_plain hg fun K' hK' => ?_
  have hrun := Lib.run_copy_row_string (P := Try.prog) w 52 9 o.type 5 g 0 32 32 s cur E Try.underlying52 (by kernel_rfl) hb hle (by omega)
  unfold Oper.wp execOp
  simp only [hop, resolve, invoke, builtin, Sem.run_bind, Sem.run_pure, Result.andThen_ok, List.map_toArray, List.map_cons, List.map_nil, hd, hx, hrun]
  have e : ((cur.toList.take 0 ++ Lib.byteCells s.data.toList ++ cur.toList.drop (0 + s.size)).toArray) = (Lib.byteCells s.data.toList ++ cur.toList.drop s.size).toArray := by simp
  rw [e]
  exact hK' _ _ (h _ (setRow_heap w g cur _ E (0, 0) hb) (fun B hB => setRow_below hB _) (fun k hk => setRow_other w g k _ hk))
end
/-- The bytes ahead of the first 0. -/
def cutN (k : Nm) : Nm := k.takeWhile fun x => decide (x ≠ 0#8)
theorem cut_len : ∀ k : Nm, (cutN k).length ≤ k.length
  | [] => Nat.le_refl _
  | x :: k => by
    have := cut_len k
    unfold cutN at this ⊢
    rw [List.takeWhile_cons]
    split
    · rw [List.length_cons, List.length_cons]; omega
    · simp
theorem cut_take : ∀ k : Nm, k.take (cutN k).length = cutN k
  | [] => rfl
  | x :: k => by
    have ih := cut_take k
    unfold cutN at ih ⊢
    rw [List.takeWhile_cons]
    split
    · rw [List.length_cons, List.take_succ_cons, ih]
    · rfl
theorem idx_z : ∀ k : Nm, Lib.indexByte (Lib.bytesOf (k.map U8)) 0 = if (cutN k).length < k.length then ((cutN k).length : Int) else -1
  | [] => rfl
  | x :: k => by
    have ih := idx_z k
    show (if (UInt8.ofNat (U8 x).toNat == 0) = true then (0 : Int) else if (Lib.indexByte (Lib.bytesOf (k.map U8)) 0 == -1) = true then -1 else Lib.indexByte (Lib.bytesOf (k.map U8)) 0 + 1) = _
    by_cases hx : x = 0#8
    · subst hx
      have e : cutN (0#8 :: k) = [] := by unfold cutN; rw [List.takeWhile_cons]; simp
      rw [e, if_pos (by decide)]
      simp
    · have e : cutN (x :: k) = x :: cutN k := by unfold cutN; rw [List.takeWhile_cons]; simp [hx]
      have hb : (UInt8.ofNat (U8 x).toNat == 0) = false := by
        rw [beq_eq_false_iff_ne]
        intro h
        apply hx
        have h2 := congrArg UInt8.toNat h
        have hl := x.isLt
        have h3 : (U8 x).toNat = x.toNat := by unfold U8; omega
        rw [h3] at h2
        apply BitVec.eq_of_toNat_eq
        simp at h2 ⊢
        omega
      rw [hb, ih, e]
      have := cut_len k
      simp only [Bool.false_eq_true, if_false, List.length_cons]
      by_cases h : (cutN k).length < k.length
      · have e1 : ((((cutN k).length : Nat) : Int) == -1) = false := by rw [beq_eq_false_iff_ne]; omega
        rw [if_pos h, e1, if_neg (by decide), if_pos (show (cutN k).length + 1 < k.length + 1 by omega)]
        omega
      · rw [if_neg h, if_pos (show ((-1 : Int) == -1) = true by decide), if_neg (show ¬ (cutN k).length + 1 < k.length + 1 by omega)]
theorem ibyte_c (w : World) (g : Nat) (E : TypeId) (k : Nm) (hb : Bk w g E (nC k)) (hk : nW k) : Calls Try.prog 116 #[.slice (some ⟨g, 0, none⟩) 32 32, .int .u8 0] w fun e w' => e = .returned (.int .i64 (if (cutN k).length < 32 then ((cutN k).length : Int) else -1)) ∧ w' = w := by
  have hx : (k.map U8).length = 32 := by rw [List.length_map]; exact hk
  have hc : ∀ i, i < 32 → w.cell? ⟨g, 0 + i, none⟩ = some (.int .u8 ((k.map U8).getD i 0)) := fun i hi => by
    have hi' : i < k.length := by rw [hk]; exact hi
    rw [Nat.zero_add, hb.cell, nC, List.getElem?_toArray, List.getElem?_map, List.getElem?_eq_getElem hi', List.getD_eq_getElem?_getD, List.getElem?_map, List.getElem?_eq_getElem hi']
    rfl
  have hz := idx_z k
  rw [hk] at hz
  rw [← hz]
  have HX := Lib.hid (Lib.run_indexByteSlice (P := Try.prog) (w := w) g 0 32 32 (k.map U8) hx hc 0)
  clear hx hc hb hk hz
  go_enter Try.func116, Try.ntmps116
  go_wp2
  rw [run_callFunc_extern Try.func120 (by kernel_rfl) (by kernel_rfl) (by kernel_rfl) (e := Extern.BytealgIndexByte.indexByte) (by kernel_rfl), HX.out]
  simp only [Result.andThen]
  rw [Oper.upon_value]
  go_wp2
  go_ret
  exact ⟨rfl, rfl⟩
theorem index0_c (w : World) (g q : Nat) (E F : TypeId) (k : Nm) (hb : Bk w g E (nC k)) (hk : nW k) (hq : Bk w q F #[.int .u8 0]) : Calls Try.prog 113 #[.slice (some ⟨g, 0, none⟩) 32 32, .slice (some ⟨q, 0, none⟩) 1 1] w fun e w' => e = .returned (.int .i64 (if (cutN k).length < 32 then ((cutN k).length : Int) else -1)) ∧ w' = w := by
  have HC := Lib.hid (ibyte_c w g E k hb hk)
  obtain ⟨ix, hix⟩ : ∃ ix, ix = (if (cutN k).length < 32 then ((cutN k).length : Int) else -1) := ⟨_, rfl⟩
  rw [← hix] at HC ⊢
  clear hix
  have c0 := hq.cell 0
  clear hb hk hq
  go_enter Try.func113, Try.ntmps113
  go_wp2_with fail
  refine Calls.mono HC.out ?_
  rintro e w' ⟨rfl, rfl⟩
  go_wp2_with fail
  go_ret
  exact ⟨rfl, rfl⟩
theorem cut_reg (Q : Exit → Act → World → Prop) (a0 : Act) (w : World) (A B : Option Addr) (i j : Nat) (hi : i ≤ 32) (hj : Hid ((i : Int) + 1 = (j : Int))) (hj2 : j ≤ 32) (hsz : a0.tmps.size = 23) (sl0 : a0.tmps.getD 0 undef = .slice A 32 32) (sl1 : a0.tmps.getD 1 undef = .slice B 1 1) (sl7 : a0.tmps.getD 7 undef = .int .i64 (i : Int))
    (fin : ∀ (vals : Nat → Value) (w1 : World), Below w.heap.size w w1 → (IsV (.slice A i 32)) (vals 9) w1 → (IsV (.slice (cutA A 32 j) (32 - j) (32 - j))) (vals 10) w1 → (IsV (Go.Value.bool true)) (vals 11) w1 → Q .normal (putD vals [13, 14, 15, 16, 17, 18, 19, 20, 21, 4, 5, 6] 0 a0) w1) :
    (Code.region 3 (regIn Try.f107 3) true).wp Try.prog Q a0 w := by
  refine region_by (G := fun w w1 => Below w.heap.size w w1) [IsV (.slice A 32 32),
    IsV (.int .i64 (i : Int)),
    IsV (.slice A i 32),
    IsV (.slice A 32 32),
    IsV (.int .i64 (i : Int)),
    IsV (.slice B 1 1),
    IsV (.int .i64 1),
    IsV (.int .i64 (j : Int)),
    IsV (.slice (cutA A 32 j) (32 - j) (32 - j)),
    IsV (.slice A i 32),
    IsV (.slice (cutA A 32 j) (32 - j) (32 - j)),
    IsV (Go.Value.bool true)]
    [13, 14, 15, 16, 17, 18, 19, 20, 21, 4, 5, 6] (by kernel_rfl) (Gw.drew _) Gw.trans (by rw [hsz]; kernel_rfl) (by kernel_rfl) ?_ ?_ ?_
  · intro f hf
    simp only [List.mem_cons, List.not_mem_nil, or_false] at hf
    rcases hf with rfl | rfl | rfl | rfl | rfl | rfl | rfl | rfl | rfl | rfl | rfl | rfl <;> intro v a b h g <;> first | exact IsV.mono h
  · refine ⟨?_, ?_, ?_, ?_, ?_, ?_, ?_, ?_, ?_, ?_, ?_, ?_, trivial⟩
    · exact owes_mv 0 (by kernel_rfl) (by kernel_rfl) (by kernel_rfl) sl0 (fun _ => rfl)
    · exact owes_mv 7 (by kernel_rfl) (by kernel_rfl) (by kernel_rfl) sl7 (fun _ => rfl)
    · refine owes_v (Go.Op.slice 52 (Go.Operand.tmp 13) none (some (Go.Operand.tmp 14)) none) 52 [0, 1] (by kernel_rfl) (by kernel_rfl) (by kernel_rfl) rfl fun vals w1 ρ hG hF hρ hcst hfun => ?_
      have e13 : ρ (.tmp 13) = .slice A 32 32 := ((hρ 13).trans (slotJ [0, 1] (by rw [hsz]; decide) (by kernel_rfl))).trans (hF 0 (by decide))
      have e14 : ρ (.tmp 14) = .int .i64 (i : Int) := ((hρ 14).trans (slotJ [0, 1] (by rw [hsz]; decide) (by kernel_rfl))).trans (hF 1 (by decide))
      have p1 : (0 : Int) ≤ (i : Int) := by omega
      have p2 : (i : Int) ≤ (32 : Int) := by omega
      clear hρ hF hcst hfun sl0 sl1 sl7 fin
      exact opv_val (by go_simp <;> rfl) ⟨gw_self _, rfl⟩
    · exact owes_mv 0 (by kernel_rfl) (by kernel_rfl) (by kernel_rfl) sl0 (fun _ => rfl)
    · exact owes_mv 7 (by kernel_rfl) (by kernel_rfl) (by kernel_rfl) sl7 (fun _ => rfl)
    · exact owes_mv 1 (by kernel_rfl) (by kernel_rfl) (by kernel_rfl) sl1 (fun _ => rfl)
    · refine owes_v (Go.Op.call { callee := Go.Callee.builtin Go.Builtin.len, args := #[Go.Operand.tmp 18], argTypes := #[52] }) 3 [5] (by kernel_rfl) (by kernel_rfl) (by kernel_rfl) rfl fun vals w1 ρ hG hF hρ hcst hfun => ?_
      have e18 : ρ (.tmp 18) = .slice B 1 1 := ((hρ 18).trans (slotJ [5] (by rw [hsz]; decide) (by kernel_rfl))).trans (hF 5 (by decide))
      clear hρ hF hcst hfun sl0 sl1 sl7 fin
      exact opv_val (by go_simp <;> rfl) ⟨gw_self _, rfl⟩
    · refine owes_v (Go.Op.binOp Go.BinOp.add 3 (Go.Operand.tmp 17) (Go.Operand.tmp 19) 3) 3 [4, 6] (by kernel_rfl) (by kernel_rfl) (by kernel_rfl) rfl fun vals w1 ρ hG hF hρ hcst hfun => ?_
      have e17 : ρ (.tmp 17) = .int .i64 (i : Int) := ((hρ 17).trans (slotJ [4, 6] (by rw [hsz]; decide) (by kernel_rfl))).trans (hF 4 (by decide))
      have e19 : ρ (.tmp 19) = .int .i64 1 := ((hρ 19).trans (slotJ [4, 6] (by rw [hsz]; decide) (by kernel_rfl))).trans (hF 6 (by decide))
      have k : IntKind.i64.wrap ((i : Int) + 1) = (j : Int) := by rw [hj.out]; exact wrapIn (by omega) (by omega)
      clear hρ hF hcst hfun sl0 sl1 sl7 fin
      exact opv_val (by go_simp <;> rfl) ⟨gw_self _, rfl⟩
    · refine owes_v (Go.Op.slice 52 (Go.Operand.tmp 16) (some (Go.Operand.tmp 20)) none none) 52 [3, 7] (by kernel_rfl) (by kernel_rfl) (by kernel_rfl) rfl fun vals w1 ρ hG hF hρ hcst hfun => ?_
      have e16 : ρ (.tmp 16) = .slice A 32 32 := ((hρ 16).trans (slotJ [3, 7] (by rw [hsz]; decide) (by kernel_rfl))).trans (hF 3 (by decide))
      have e20 : ρ (.tmp 20) = .int .i64 (j : Int) := ((hρ 20).trans (slotJ [3, 7] (by rw [hsz]; decide) (by kernel_rfl))).trans (hF 7 (by decide))
      have p1 : (0 : Int) ≤ (j : Int) := by omega
      have p2 : (j : Int) ≤ (32 : Int) := by omega
      have p3 := sliced_cut A j 32 32
      clear hρ hF hcst hfun sl0 sl1 sl7 fin
      exact opv_val (by go_simp <;> rfl) ⟨gw_self _, rfl⟩
    · exact owes_mvj 2 15 (by kernel_rfl) (by kernel_rfl) (by kernel_rfl) (by kernel_rfl) (by rw [hsz]; decide) (fun v w h => h)
    · exact owes_mvj 8 21 (by kernel_rfl) (by kernel_rfl) (by kernel_rfl) (by kernel_rfl) (by rw [hsz]; decide) (fun v w h => h)
    · refine owes_v (Go.Op.assign (Go.Operand.const (Go.Value.bool true))) 4 [] (by kernel_rfl) (by kernel_rfl) (by kernel_rfl) rfl fun vals w1 ρ hG hF hρ hcst hfun => ?_
      clear hρ hF hfun sl0 sl1 sl7 fin
      exact opv_val (by go_simp <;> rfl) ⟨gw_self _, rfl⟩
  · intro vals w1 hG hF
    exact fin vals w1 hG (hF 9 (by decide +kernel)) (hF 10 (by decide +kernel)) (hF 11 (by decide +kernel))
theorem cut0_c (w : World) (g q : Nat) (E F : TypeId) (k : Nm) (hb : Bk w g E (nC k)) (hk : nW k) (hq : Bk w q F #[.int .u8 0]) : Calls Try.prog 107 #[.slice (some ⟨g, 0, none⟩) 32 32, .slice (some ⟨q, 0, none⟩) 1 1] w fun e w' => ∃ v f, e = .returned (.tuple #[.slice (some ⟨g, 0, none⟩) (cutN k).length 32, v, .bool f]) ∧ Below w.heap.size w w' := by
  have HI := Lib.hid (index0_c w g q E F k hb hk hq)
  have hl := cut_len k
  rw [hk] at hl
  obtain ⟨n, hn⟩ : ∃ n, n = (cutN k).length := ⟨_, rfl⟩
  rw [← hn] at HI hl ⊢
  clear hn hb hk hq
  by_cases h : n < 32
  · rw [if_pos h] at HI
    have p1 : (0 : Int) ≤ (n : Int) := by omega
    go_enter Try.func107, Try.ntmps107
    go_wp2_with fail
    refine Calls.mono HI.out ?_
    rintro e w' ⟨rfl, rfl⟩
    go_wp2_with fail
    refine cut_reg _ _ _ (some ⟨g, 0, none⟩) (some ⟨q, 0, none⟩) n (n + 1) hl (Lib.hid (by omega)) (by omega) rfl rfl rfl rfl ?_
    intro vals w1 hG h4 h5 h6
    unfold IsV at h4 h5 h6
    simp only [putD, Act.put, List.setIfInBounds_toArray, List.set_cons_zero, List.set_cons_succ, h4, h5, h6]
    have HB := Lib.hid hG
    clear h4 h5 h6 hG
    go_wp2_with fail
    go_ret3
    exact ⟨_, _, rfl, HB.out⟩
  · have e : n = 32 := by omega
    subst e
    rw [if_neg h] at HI
    clear h hl
    go_enter Try.func107, Try.ntmps107
    go_wp2_with fail
    refine Calls.mono HI.out ?_
    rintro e w' ⟨rfl, rfl⟩
    go_wp2_with fail
    go_ret3
    exact ⟨_, _, rfl, Below.refl _ _⟩
theorem string_c (w : World) (k : Nm) (hk : nW k) : Calls Try.prog 95 #[nV k] w (RetP (.string (strB (cutN k))) w) := by
  have HS := Lib.hid (nC_size hk)
  have HK := Lib.hid hk
  obtain ⟨arr, harr⟩ : ∃ arr, arr = nC k := ⟨_, rfl⟩
  have HA := Lib.hid harr
  unfold nV
  rw [← harr]
  rw [← harr] at HS
  have HB := Lib.hid (Bk.new w 120 arr)
  have HW := Lib.hid (Gw.alloc w (.cells arr 120))
  clear harr hk
  go_enter Try.func95, Try.ntmps95
  go_wp2_with fail
  refine Calls.mono (cut0_c _ w.heap.size (w.heap.size + 1) 120 5 k (by rw [← HA.out]; exact HB.out.alloc _) HK.out (by have q := Bk.new (w.alloc (.cells arr 120)) 5 #[.int .u8 0]; simpa using q)) ?_
  rintro e w1 ⟨v, f, rfl, b1⟩
  have hrd : Rd b8 w1 w1.heap.size (some ⟨w.heap.size, 0, none⟩) (cutN k) := by
    have q := nrd (k := k) (by rw [← HA.out]; exact (HB.out.alloc _).below b1 (HB.out.alloc _).lt) (Nat.lt_of_lt_of_le (HB.out.alloc (.cells #[.int .u8 0] 5)).lt b1.size)
    have := q.take (cutN k).length
    rwa [cut_take] at this
  have kc := str_conv (cutN k) (some ⟨w.heap.size, 0, none⟩) 32 _ w1 hrd
  have HF := Lib.hid (show Below w.heap.size w w1 from (HW.out.trans ((Gw.alloc _ _).mono (by simp))).trans (b1.mono (by simp; omega)))
  clear b1 hrd
  go_wp2_with fail
  go_ret
  exact ⟨rfl, HF.out⟩
end Go.Proofs.Ytkkjnahjmomjgaa
/- What table.Fix answers. No conditions. -/
namespace Go.Proofs.Ytkkjnahjmomjgaa
set_option linter.unusedVariables false
set_option linter.unusedSimpArgs false
open Go.RowKit Go.Maps
set_option maxRecDepth 100000
set_option maxHeartbeats 800000
theorem strB_size (bs : Nm) : (strB bs).size = bs.length := by
  show (strL bs).toArray.size = _
  simp [strL]
theorem strB_cells (bs : Nm) : Lib.byteCells (strB bs).data.toList = bs.map b8 := by
  show Lib.byteCells (strL bs).toArray.toList = _
  unfold Lib.byteCells strL
  simp only [List.map_map]
  rfl
theorem str_eq (x y : Nm) : ((strB x).toList == (strB y).toList) = decide (x = y) := by
  by_cases h : x = y
  · subst h; simp
  · have hne : ¬ (strB x).toList = (strB y).toList := fun e => h (strB_inj (by
      rw [ByteArray.toList_eq, ByteArray.toList_eq] at e
      exact ByteArray.ext (Array.toList_inj.1 e)))
    simp [h, hne]
/-- A text as a name. -/
def padNm (bs : Nm) : Nm := bs ++ List.replicate (32 - bs.length) 0#8
theorem padNm_w {bs : Nm} (h : bs.length ≤ 32) : nW (padNm bs) := by
  unfold nW padNm
  rw [List.length_append, List.length_replicate]
  omega
theorem nC_list (k : Nm) : (nC k).toList = k.map b8 := by unfold nC; simp
theorem pad_cells {bs : Nm} (h : bs.length ≤ 32) : (Lib.byteCells (strB bs).data.toList ++ (nC zN).toList.drop (strB bs).size).toArray = nC (padNm bs) := by
  rw [strB_cells, strB_size, nC_list]
  unfold nC padNm zN
  rw [List.map_append, List.map_replicate, List.map_replicate, List.drop_replicate]
def fixR (bs : Nm) (e1 e2 : Bool) : Value := match e1, e2 with
  | false, true => .tuple #[nV (padNm bs), .int .i64 0]
  | _, _ => .tuple #[nV zN, .int .i64 4]
theorem fix_res {tmps : Array Value} {W : World} {g : Nat} {E : TypeId} {k : Nm} {y : Value} (hk : nW k) (hb : Bk W g E (nC k)) (h2 : tmps.getD 2 undef = .pointer (some ⟨g, 0, none⟩)) (h3 : tmps.getD 3 undef = y) :
    (results Try.f67 tmps).run Try.prog W = .ok (.tuple #[nV k, y]) W := by
  have hl := run_loadVar_row (P := Try.prog) W g E 120 (nC k) (0, 0) _ hb Try.underlying120 rfl (by rw [nC_size hk]; kernel_rfl)
  have h2' : tmps[2]?.getD undef = .pointer (some ⟨g, 0, none⟩) := by simpa using h2
  have h3' : tmps[3]?.getD undef = y := by simpa using h3
  unfold nV
  simp [results, Try.results67, h2', h3', asAddr, hl]
theorem fix_c (bs : Nm) (w : World) (h : bs.length ≤ 32) (e1 e2 : Bool) (h1 : e1 = decide (padNm bs = zN)) (h2 : e2 = decide (cutN (padNm bs) = bs)) : Calls Try.prog 67 #[.string (strB bs)] w (RetP (fixR bs e1 e2) w) := by
  obtain ⟨s, hs⟩ : ∃ s, s = strB bs := ⟨_, rfl⟩
  have hz : s.size = bs.length := by rw [hs]; exact strB_size bs
  have hpc := pad_cells h
  have hpw := padNm_w h
  have HST := Lib.hid (fun W => string_c W (padNm bs) hpw)
  have hse := str_eq (cutN (padNm bs)) bs
  rw [← h2] at hse
  rw [← hs] at hpc hse ⊢
  have q1 : decide ((32 : Int) < (s.size : Int)) = false := by simp; omega
  obtain ⟨za, hza⟩ : ∃ za, za = nC zN := ⟨_, rfl⟩
  obtain ⟨pa, hpa⟩ : ∃ pa, pa = nC (padNm bs) := ⟨_, rfl⟩
  have hzero := zeroN
  have heq := eqN (padNm bs) zN hpw zN_w
  rw [← hza] at hzero hpc heq
  rw [← hpa] at hpc heq
  rw [← h1] at heq
  unfold nV at HST
  rw [← hpa] at HST
  have HZ := Lib.hid hza
  have HP := Lib.hid hpa
  have HPW := Lib.hid hpw
  have HZS := Lib.hid (show za.size = 32 from by rw [hza]; exact nC_size zN_w)
  have HZO := Lib.hid (show za.all (·.oneCell') = true from by rw [hza]; exact nC_one zN)
  have HPS := Lib.hid (show pa.size = 32 from by rw [hpa]; exact nC_size hpw)
  have HPO := Lib.hid (show pa.all (·.oneCell') = true from by rw [hpa]; exact nC_one _)
  have HSZ := Lib.hid (show s.size ≤ 32 from by omega)
  have HPC := Lib.hid hpc
  obtain ⟨cs, hcs⟩ : ∃ cs, cs = strB (cutN (padNm bs)) := ⟨_, rfl⟩
  rw [← hcs] at hse HST
  have HB := Lib.hid (show Bk ((w.alloc (.cells za 120)).alloc (.cells za 120)) w.heap.size 120 za ∧ Bk ((w.alloc (.cells za 120)).alloc (.cells za 120)) (w.heap.size + 1) 120 za ∧ Below w.heap.size w ((w.alloc (.cells za 120)).alloc (.cells za 120)) from by
    refine ⟨(Bk.new w _ _).alloc _, ?_, (Gw.alloc w _).trans ((Gw.alloc _ _).mono (by simp))⟩
    have q := Bk.new (w.alloc (.cells za 120)) 120 za
    simpa using q)
  obtain ⟨n1, hn1⟩ : ∃ n, n = w.heap.size + 1 := ⟨_, rfl⟩
  have HN := Lib.hid (show w.heap.size ≤ n1 ∧ w.heap.size ≠ n1 from by omega)
  clear h hs hz hza hpa hpc hpw h1 h2 hcs
  cases e1
  · cases e2
    · go_enter Try.func67, Try.ntmps67
      go_wp2_with (first
        | (refine wp_copyN rfl _ _ rfl (w.heap.size + 1) rfl s rfl 120 za HB.out.2.1 HZS.out HSZ.out ?_; intro w3 k3 b3 o3; rw [HPC.out] at k3; have HK3 := Lib.hid k3; have HB3 := Lib.hid (HB.out.2.2.trans (b3 w.heap.size (by omega))); have HR3 := Lib.hid (show Bk w3 w.heap.size 120 za from (o3 _ (by omega)).trans HB.out.1); clear k3 b3 o3)
        | (refine wp_loadG rfl _ rfl (w.heap.size + 1) rfl 120 pa HK3.out HPS.out ?_))
      refine Calls.mono (HST.out _) ?_
      rintro e w4 ⟨rfl, b4⟩
      have HR4 := Lib.hid (HR3.out.below b4 HR3.out.lt)
      have HB4 := Lib.hid (HB3.out.trans (b4.mono HB3.out.size))
      clear b4
      go_wp2_with (refine wp_storeN rfl _ _ rfl w.heap.size za rfl rfl 120 za HR4.out HZS.out HZS.out HZO.out ?_; intro w5 k5 b5 o5)
      refine bodyPost_ret (v := .tuple #[nV zN, .int .i64 4]) (fix_res zN_w (by rw [← HZ.out]; exact k5) rfl rfl) rfl ⟨rfl, ?_⟩
      exact HB4.out.trans (b5 _ (Nat.le_refl _))
    · go_enter Try.func67, Try.ntmps67
      go_wp2_with (first
        | (refine wp_copyN rfl _ _ rfl (w.heap.size + 1) rfl s rfl 120 za HB.out.2.1 HZS.out HSZ.out ?_; intro w3 k3 b3 o3; rw [HPC.out] at k3; have HK3 := Lib.hid k3; have HB3 := Lib.hid (HB.out.2.2.trans (b3 w.heap.size (by omega))); have HR3 := Lib.hid (show Bk w3 w.heap.size 120 za from (o3 _ (by omega)).trans HB.out.1); clear k3 b3 o3)
        | (refine wp_loadG rfl _ rfl (w.heap.size + 1) rfl 120 pa HK3.out HPS.out ?_))
      refine Calls.mono (HST.out _) ?_
      rintro e w4 ⟨rfl, b4⟩
      have HR4 := Lib.hid (HR3.out.below b4 HR3.out.lt)
      have HK4 := Lib.hid (HK3.out.below b4 HK3.out.lt)
      have HB4 := Lib.hid (HB3.out.trans (b4.mono HB3.out.size))
      clear b4
      go_wp2_with (first
        | (refine wp_loadN rfl _ rfl (w.heap.size + 1) rfl 120 pa HK4.out HPS.out ?_)
        | (refine wp_storeN rfl _ _ rfl w.heap.size pa rfl rfl 120 za HR4.out HPS.out HZS.out HPO.out ?_; intro w5 k5 b5 o5))
      refine bodyPost_ret (v := .tuple #[nV (padNm bs), .int .i64 0]) (fix_res HPW.out (by rw [← HP.out]; exact k5) rfl rfl) rfl ⟨rfl, ?_⟩
      exact HB4.out.trans (b5 _ (Nat.le_refl _))
  · go_enter Try.func67, Try.ntmps67
    go_wp2_with (first
      | (refine wp_copyN rfl _ _ rfl (w.heap.size + 1) rfl s rfl 120 za HB.out.2.1 HZS.out HSZ.out ?_; intro w3 k3 b3 o3; rw [HPC.out] at k3; have HK3 := Lib.hid k3; have HB3 := Lib.hid (HB.out.2.2.trans (b3 w.heap.size (by omega))); have HR3 := Lib.hid (show Bk w3 w.heap.size 120 za from (o3 _ (by omega)).trans HB.out.1); clear k3 b3 o3)
      | (refine wp_loadG rfl _ rfl (w.heap.size + 1) rfl 120 pa HK3.out HPS.out ?_)
      | (refine wp_storeN rfl _ _ rfl w.heap.size za rfl rfl 120 za HR3.out HZS.out HZS.out HZO.out ?_; intro w5 k5 b5 o5))
    refine bodyPost_ret (v := .tuple #[nV zN, .int .i64 4]) (fix_res zN_w (by rw [← HZ.out]; exact k5) rfl rfl) rfl ⟨by cases e2 <;> rfl, ?_⟩
    exact HB3.out.trans (b5 _ (Nat.le_refl _))
end Go.Proofs.Ytkkjnahjmomjgaa
/- Which names may be; table.Fix. No conditions. -/
namespace Go.Proofs.Ytkkjnahjmomjgaa
set_option linter.unusedVariables false
set_option linter.unusedSimpArgs false
open Go.RowKit Go.Maps
set_option maxRecDepth 100000
set_option maxHeartbeats 800000
/-- May a name be? -/
def goodN (bs : Nm) : Prop := 1 ≤ bs.length ∧ bs.length ≤ 32 ∧ ∀ x ∈ bs, x ≠ 0#8
instance decGood (bs : Nm) : Decidable (goodN bs) := inferInstanceAs (Decidable (1 ≤ bs.length ∧ bs.length ≤ 32 ∧ ∀ x ∈ bs, x ≠ 0#8))
theorem cut_app : ∀ (bs : Nm) (n : Nat), (∀ x ∈ bs, x ≠ 0#8) → cutN (bs ++ List.replicate n 0#8) = bs
  | [], 0, _ => rfl
  | [], n + 1, _ => by
    unfold cutN
    rw [List.nil_append, List.replicate_succ, List.takeWhile_cons]
    simp
  | x :: bs, n, h => by
    have ih := cut_app bs n (fun y hy => h y (List.mem_cons_of_mem _ hy))
    have hx := h x List.mem_cons_self
    unfold cutN at ih ⊢
    rw [List.cons_append, List.takeWhile_cons, if_pos (by simpa using hx), ih]
theorem good_cut {bs : Nm} (h : goodN bs) : cutN (padNm bs) = bs := cut_app bs _ h.2.2
theorem cut_zero : cutN zN = [] := by decide +kernel
theorem good_ne {bs : Nm} (h : goodN bs) : padNm bs ≠ zN := fun e => by
  have h1 := good_cut h
  rw [e, cut_zero] at h1
  have h2 := h.1
  rw [← h1] at h2
  simp at h2
theorem fix_ok (bs : Nm) (w : World) (h : goodN bs) : Calls Try.prog 67 #[.string (strB bs)] w (RetP (.tuple #[nV (padNm bs), .int .i64 0]) w) :=
  fix_c bs w h.2.1 false true (by symm; rw [decide_eq_false_iff_not]; exact good_ne h) (by symm; rw [decide_eq_true_eq]; exact good_cut h)
end Go.Proofs.Ytkkjnahjmomjgaa
/- The names that Check lets, as bytes. No conditions. -/
namespace Go.Proofs.Ytkkjnahjmomjgaa
set_option linter.unusedVariables false
set_option linter.unusedSimpArgs false
open Go.RowKit Go.Maps
set_option maxHeartbeats 1000000
theorem index_neg : ∀ l : List UInt8, Lib.indexByte l 0 < 0 → ∀ b ∈ l, b ≠ 0
  | [], _, b, hb => by cases hb
  | x :: l, h, b, hb => by
    have e : Lib.indexByte (x :: l) 0 = if (x == 0) = true then 0 else if (Lib.indexByte l 0 == -1) = true then -1 else Lib.indexByte l 0 + 1 := rfl
    rw [e] at h
    by_cases h1 : (x == 0) = true
    · rw [if_pos h1] at h; omega
    · rw [if_neg h1] at h
      have hl : Lib.indexByte l 0 < 0 := by
        by_cases h2 : (Lib.indexByte l 0 == -1) = true
        · have := eq_of_beq h2; omega
        · rw [if_neg h2] at h; omega
      rcases List.mem_cons.1 hb with rfl | hb
      · intro e0; rw [e0] at h1; exact h1 rfl
      · exact index_neg l hl b hb
def bitsOf (s : ByteArray) : Nm := s.data.toList.map UInt8.toBitVec
theorem strB_bits (s : ByteArray) : strB (bitsOf s) = s := by
  apply ByteArray.ext
  show (strL (s.data.toList.map UInt8.toBitVec)).toArray = s.data
  unfold strL
  rw [List.map_map, show (UInt8.ofBitVec ∘ UInt8.toBitVec) = id from rfl, List.map_id]
theorem bitsOf_len (s : ByteArray) : (bitsOf s).length = s.size := by
  unfold bitsOf
  rw [List.length_map]
  rfl
theorem good_bits {s : ByteArray} (h : goodS s = true) : goodN (bitsOf s) := by
  obtain ⟨h1, h2⟩ := goodS_size h
  have hl := bitsOf_len s
  refine ⟨by omega, by omega, fun x hx e => ?_⟩
  unfold goodS at h
  simp only [Bool.and_eq_true, decide_eq_true_eq] at h
  unfold bitsOf at hx
  obtain ⟨b, hb, rfl⟩ := List.mem_map.1 hx
  refine index_neg _ h.2.2 b hb ?_
  have := congrArg UInt8.ofBitVec e
  exact this
theorem nameW_pad (s : ByteArray) : nameW s = padNm (bitsOf s) := by
  unfold nameW padNm
  rw [bitsOf_len]
  rfl
end Go.Proofs.Ytkkjnahjmomjgaa
