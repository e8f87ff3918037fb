/- space: Objects. Conditions: lengths. -/
import Derived.Test.YtfodefgihicafaaDoorSpB
namespace Go.Proofs.YtfodefgihicafaaDoor
set_option linter.unusedVariables false
set_option linter.unusedSimpArgs false
open Go.RowKit
def iN (n : Nat) : Value := .int .i64 (n : Int)
theorem iN_one : ∀ x : Nat, (iN x).oneCell' = true := fun _ => rfl
theorem oneI : One Tryd.prog 62 3 (.int .i64 0) 8 :=
  ⟨by kernel_rfl, by
    have h : (Tryd.prog.info? 3).map (fun i => (i.zero, i.size, i.bytes)) = some (some (.int .i64 0), 1, 8) := by kernel_rfl
    obtain ⟨i, h1, h2, h3, h4⟩ := info_parts h
    exact ⟨i, h1, h2, h3, h4⟩, rfl⟩
def szX (x : BitVec 64) : Nat := (sizeH (fP x) (fB x) (fM x) (fT x)).toNat
def goodX (x : BitVec 64) (room : Nat) : Bool := okU x && (!fM x && decide (szX x ≤ room))
/-- The places of the objects from at to top; none: they are none. -/
def objF (ws : List (BitVec 64)) (top : Nat) : Nat → Nat → Option (List Nat)
  | 0, _ => some []
  | n + 1, a => if a < top then (if goodX (ws.getD a 0#64) (top - a) = true then (objF ws top n (a + szX (ws.getD a 0#64))).map (a :: ·) else none) else some []
theorem szX_pos {x : BitVec 64} (h : okU x = true) (hm : fM x = false) : sizeH (fP x) (fB x) false (fT x) = ((szX x : Nat) : Int) ∧ 1 ≤ szX x ∧ szX x ≤ 1000 := by
  obtain ⟨hr, _⟩ := okU_yes h
  rw [hm] at hr
  rcases rightH_out hr with ⟨h1, _⟩ | ⟨_, h2, h3, h4, h5, h6⟩
  · cases h1
  · have e : sizeH (fP x) (fB x) false (fT x) = 1 + fP x + (fB x + 7) / 8 := if_pos ⟨hr, rfl⟩
    have e2 : szX x = (1 + fP x + (fB x + 7) / 8).toNat := by unfold szX; rw [hm, e]
    rw [e, e2]
    omega
theorem of_rp {P : Program} {f : FuncId} {args : Array Value} {v : Value} {w : World} (h : Calls P f args w (RetP v w)) : Calls P f args w fun e w2 => ∃ u, e = .returned u ∧ Below w.heap.size w w2 ∧ IsV v u w2 :=
  h.mono fun _ _ h => ⟨_, h.1, h.2, rfl⟩
set_option maxHeartbeats 400000
set_option maxRecDepth 100000
theorem obj_e (Q : Exit → Act → World → Prop) (a0 : Act) (w : World)  (hsz : a0.tmps.size = 50) (sl7 : a0.tmps.getD 7 undef = .int .i64 2)
    (fin : ∀ (vals : Nat → Value) (w1 : World), Below w.heap.size w w1 → (IsV (.bool true)) (vals 16) w1 → Q .normal (putD vals [24, 25, 26, 27, 28, 29, 30, 31, 32, 33, 34, 35, 36, 37, 38, 39, 40] 0 a0) w1) :
    (Code.region 5 (regIn Tryd.f42 5) true).wp Tryd.prog Q a0 w := by
  refine region_by (G := fun w w1 => Below w.heap.size w w1) [IsV (.int .i64 2),
    IsV (.bool true),
    IsV (.bool true),
    IsV undef,
    IsV undef,
    IsV (.bool true),
    IsV (.bool true),
    IsV undef,
    IsV undef,
    IsV undef,
    IsV undef,
    IsV undef,
    IsV undef,
    IsV undef,
    IsV undef,
    IsV undef,
    IsV (.bool true)]
    [24, 25, 26, 27, 28, 29, 30, 31, 32, 33, 34, 35, 36, 37, 38, 39, 40] (by kernel_rfl) (Gw.drew _) Gw.trans (by rw [hsz]; kernel_rfl) (by kernel_rfl) ?_ ?_ ?_
  · intro f hf
    simp only [List.mem_cons, List.not_mem_nil, or_false] at hf
    rcases hf with rfl | rfl | rfl | rfl | rfl | rfl | rfl | rfl | rfl | rfl | rfl | rfl | rfl | rfl | rfl | rfl | rfl <;> intro v a b h g <;> first | exact IsV.mono h
  · refine ⟨?_, ?_, ?_, ?_, ?_, ?_, ?_, ?_, ?_, ?_, ?_, ?_, ?_, ?_, ?_, ?_, ?_, trivial⟩
    · exact owes_mv 7 (by kernel_rfl) (by kernel_rfl) (by kernel_rfl) sl7 (fun _ => rfl)
    · refine owes_v (Go.Op.binOp Go.BinOp.neq 33 (Go.Operand.tmp 24) (Go.Operand.const (Go.Value.int Go.IntKind.i64 0)) 33) 4 [0] (by kernel_rfl) (by kernel_rfl) (by kernel_rfl) rfl fun vals w1 ρ hG hF hρ hcst hfun => ?_
      have e24 : ρ (.tmp 24) = .int .i64 2 := ((hρ 24).trans (slotJ [0] (by rw [hsz]; decide) (by kernel_rfl))).trans (hF 0 (by decide))
      clear hρ hF hfun sl7 fin
      exact opv_val (by go_simp <;> rfl) ⟨gw_self _, rfl⟩
    · exact owes_mvj 1 25 (by kernel_rfl) (by kernel_rfl) (by kernel_rfl) (by kernel_rfl) (by rw [hsz]; decide) (fun v w h => h)
    · exact owes_no 2 true false (by decide) (by kernel_rfl) (by kernel_rfl) (fun _ _ h => h) (by rw [hsz]; kernel_rfl) (fun _ => rfl)
    · exact owes_no 2 true false (by decide) (by kernel_rfl) (by kernel_rfl) (fun _ _ h => h) (by rw [hsz]; kernel_rfl) (fun _ => rfl)
    · refine owes_v (Go.Op.pick (Go.Operand.tmp 26) (Go.Operand.const (Go.Value.bool true)) (Go.Operand.tmp 28)) 4 [2, 4] (by kernel_rfl) (by kernel_rfl) (by kernel_rfl) rfl fun vals w1 ρ hG hF hρ hcst hfun => ?_
      have e26 : ρ (.tmp 26) = .bool true := ((hρ 26).trans (slotJ [2, 4] (by rw [hsz]; decide) (by kernel_rfl))).trans (hF 2 (by decide))
      have e28 : ρ (.tmp 28) = undef := ((hρ 28).trans (slotJ [2, 4] (by rw [hsz]; decide) (by kernel_rfl))).trans (hF 4 (by decide))
      clear hρ hF hfun sl7 fin
      exact opv_val (by go_simp <;> rfl) ⟨gw_self _, rfl⟩
    · exact owes_mvj 5 29 (by kernel_rfl) (by kernel_rfl) (by kernel_rfl) (by kernel_rfl) (by rw [hsz]; decide) (fun v w h => h)
    · exact owes_no 6 true false (by decide) (by kernel_rfl) (by kernel_rfl) (fun _ _ h => h) (by rw [hsz]; kernel_rfl) (fun _ => rfl)
    · exact owes_no 6 true false (by decide) (by kernel_rfl) (by kernel_rfl) (fun _ _ h => h) (by rw [hsz]; kernel_rfl) (fun _ => rfl)
    · exact owes_no 6 true false (by decide) (by kernel_rfl) (by kernel_rfl) (fun _ _ h => h) (by rw [hsz]; kernel_rfl) (fun _ => rfl)
    · exact owes_no 6 true false (by decide) (by kernel_rfl) (by kernel_rfl) (fun _ _ h => h) (by rw [hsz]; kernel_rfl) (fun _ => rfl)
    · exact owes_no 6 true false (by decide) (by kernel_rfl) (by kernel_rfl) (fun _ _ h => h) (by rw [hsz]; kernel_rfl) (fun _ => rfl)
    · exact owes_no 6 true false (by decide) (by kernel_rfl) (by kernel_rfl) (fun _ _ h => h) (by rw [hsz]; kernel_rfl) (fun _ => rfl)
    · exact owes_no 6 true false (by decide) (by kernel_rfl) (by kernel_rfl) (fun _ _ h => h) (by rw [hsz]; kernel_rfl) (fun _ => rfl)
    · exact owes_no 6 true false (by decide) (by kernel_rfl) (by kernel_rfl) (fun _ _ h => h) (by rw [hsz]; kernel_rfl) (fun _ => rfl)
    · exact owes_no 6 true false (by decide) (by kernel_rfl) (by kernel_rfl) (fun _ _ h => h) (by rw [hsz]; kernel_rfl) (fun _ => rfl)
    · refine owes_v (Go.Op.pick (Go.Operand.tmp 30) (Go.Operand.const (Go.Value.bool true)) (Go.Operand.tmp 39)) 4 [6, 15] (by kernel_rfl) (by kernel_rfl) (by kernel_rfl) rfl fun vals w1 ρ hG hF hρ hcst hfun => ?_
      have e30 : ρ (.tmp 30) = .bool true := ((hρ 30).trans (slotJ [6, 15] (by rw [hsz]; decide) (by kernel_rfl))).trans (hF 6 (by decide))
      have e39 : ρ (.tmp 39) = undef := ((hρ 39).trans (slotJ [6, 15] (by rw [hsz]; decide) (by kernel_rfl))).trans (hF 15 (by decide))
      clear hρ hF hfun sl7 fin
      exact opv_val (by go_simp <;> rfl) ⟨gw_self _, rfl⟩
  · intro vals w1 hG hF
    exact fin vals w1 hG (hF 16 (by decide +kernel))
theorem obj_m (Q : Exit → Act → World → Prop) (a0 : Act) (w : World) (H : Nat) (p b t : Int) (hk : Bk w H 60 #[.int .i64 p, .int .i64 b, .bool true, .int .i64 t]) (hsz : a0.tmps.size = 50) (sl6 : a0.tmps.getD 6 undef = .pointer (some ⟨H, 0, none⟩)) (sl7 : a0.tmps.getD 7 undef = .int .i64 0)
    (fin : ∀ (vals : Nat → Value) (w1 : World), Below w.heap.size w w1 → (IsV (.bool true)) (vals 16) w1 → Q .normal (putD vals [24, 25, 26, 27, 28, 29, 30, 31, 32, 33, 34, 35, 36, 37, 38, 39, 40] 0 a0) w1) :
    (Code.region 5 (regIn Tryd.f42 5) true).wp Tryd.prog Q a0 w := by
  refine region_by (G := fun w w1 => Below w.heap.size w w1) [IsV (.int .i64 0),
    IsV (.bool false),
    IsV (.bool false),
    IsV (.pointer (some ⟨H, 2, none⟩)),
    IsV (.bool true),
    IsV (.bool true),
    IsV (.bool true),
    IsV undef,
    IsV undef,
    IsV undef,
    IsV undef,
    IsV undef,
    IsV undef,
    IsV undef,
    IsV undef,
    IsV undef,
    IsV (.bool true)]
    [24, 25, 26, 27, 28, 29, 30, 31, 32, 33, 34, 35, 36, 37, 38, 39, 40] (by kernel_rfl) (Gw.drew _) Gw.trans (by rw [hsz]; kernel_rfl) (by kernel_rfl) ?_ ?_ ?_
  · intro f hf
    simp only [List.mem_cons, List.not_mem_nil, or_false] at hf
    rcases hf with rfl | rfl | rfl | rfl | rfl | rfl | rfl | rfl | rfl | rfl | rfl | rfl | rfl | rfl | rfl | rfl | rfl <;> intro v a b h g <;> first | exact IsV.mono h
  · refine ⟨?_, ?_, ?_, ?_, ?_, ?_, ?_, ?_, ?_, ?_, ?_, ?_, ?_, ?_, ?_, ?_, ?_, trivial⟩
    · exact owes_mv 7 (by kernel_rfl) (by kernel_rfl) (by kernel_rfl) sl7 (fun _ => rfl)
    · refine owes_v (Go.Op.binOp Go.BinOp.neq 33 (Go.Operand.tmp 24) (Go.Operand.const (Go.Value.int Go.IntKind.i64 0)) 33) 4 [0] (by kernel_rfl) (by kernel_rfl) (by kernel_rfl) rfl fun vals w1 ρ hG hF hρ hcst hfun => ?_
      have e24 : ρ (.tmp 24) = .int .i64 0 := ((hρ 24).trans (slotJ [0] (by rw [hsz]; decide) (by kernel_rfl))).trans (hF 0 (by decide))
      clear hρ hF hfun sl6 sl7 fin
      exact opv_val (by go_simp <;> rfl) ⟨gw_self _, rfl⟩
    · exact owes_mvj 1 25 (by kernel_rfl) (by kernel_rfl) (by kernel_rfl) (by kernel_rfl) (by rw [hsz]; decide) (fun v w h => h)
    · refine owes_vt 2 false (Go.Op.fieldAddr 60 (Go.Operand.tmp 6) 2) 0 [] (by kernel_rfl) (by kernel_rfl) (by kernel_rfl) (fun _ _ h => h) (by rw [hsz]; kernel_rfl) (by kernel_rfl) rfl fun vals w1 ρ hG hF hρ hcst hfun => ?_
      have e6 : ρ (.tmp 6) = .pointer (some ⟨H, 0, none⟩) := ((hρ 6).trans (slotO [] (by kernel_rfl))).trans sl6
      clear hρ hF hcst hfun sl6 sl7 fin
      exact opv_val (by go_simp <;> rfl) ⟨gw_self _, rfl⟩
    · refine owes_vt 2 false (Go.Op.load 4 (Go.Operand.tmp 27)) 4 [3] (by kernel_rfl) (by kernel_rfl) (by kernel_rfl) (fun _ _ h => h) (by rw [hsz]; kernel_rfl) (by kernel_rfl) rfl fun vals w1 ρ hG hF hρ hcst hfun => ?_
      have e27 : ρ (.tmp 27) = .pointer (some ⟨H, 2, none⟩) := ((hρ 27).trans (slotJ [3] (by rw [hsz]; decide) (by kernel_rfl))).trans (hF 3 (by decide))
      have k := ((hk.below hG hk.lt).four).2.2.1
      clear hρ hF hcst hfun sl6 sl7 fin
      exact opv_val (by go_simp <;> rfl) ⟨gw_self _, rfl⟩
    · refine owes_v (Go.Op.pick (Go.Operand.tmp 26) (Go.Operand.const (Go.Value.bool true)) (Go.Operand.tmp 28)) 4 [2, 4] (by kernel_rfl) (by kernel_rfl) (by kernel_rfl) rfl fun vals w1 ρ hG hF hρ hcst hfun => ?_
      have e26 : ρ (.tmp 26) = .bool false := ((hρ 26).trans (slotJ [2, 4] (by rw [hsz]; decide) (by kernel_rfl))).trans (hF 2 (by decide))
      have e28 : ρ (.tmp 28) = .bool true := ((hρ 28).trans (slotJ [2, 4] (by rw [hsz]; decide) (by kernel_rfl))).trans (hF 4 (by decide))
      clear hρ hF hfun sl6 sl7 fin
      exact opv_val (by go_simp <;> rfl) ⟨gw_self _, rfl⟩
    · exact owes_mvj 5 29 (by kernel_rfl) (by kernel_rfl) (by kernel_rfl) (by kernel_rfl) (by rw [hsz]; decide) (fun v w h => h)
    · exact owes_no 6 true false (by decide) (by kernel_rfl) (by kernel_rfl) (fun _ _ h => h) (by rw [hsz]; kernel_rfl) (fun _ => rfl)
    · exact owes_no 6 true false (by decide) (by kernel_rfl) (by kernel_rfl) (fun _ _ h => h) (by rw [hsz]; kernel_rfl) (fun _ => rfl)
    · exact owes_no 6 true false (by decide) (by kernel_rfl) (by kernel_rfl) (fun _ _ h => h) (by rw [hsz]; kernel_rfl) (fun _ => rfl)
    · exact owes_no 6 true false (by decide) (by kernel_rfl) (by kernel_rfl) (fun _ _ h => h) (by rw [hsz]; kernel_rfl) (fun _ => rfl)
    · exact owes_no 6 true false (by decide) (by kernel_rfl) (by kernel_rfl) (fun _ _ h => h) (by rw [hsz]; kernel_rfl) (fun _ => rfl)
    · exact owes_no 6 true false (by decide) (by kernel_rfl) (by kernel_rfl) (fun _ _ h => h) (by rw [hsz]; kernel_rfl) (fun _ => rfl)
    · exact owes_no 6 true false (by decide) (by kernel_rfl) (by kernel_rfl) (fun _ _ h => h) (by rw [hsz]; kernel_rfl) (fun _ => rfl)
    · exact owes_no 6 true false (by decide) (by kernel_rfl) (by kernel_rfl) (fun _ _ h => h) (by rw [hsz]; kernel_rfl) (fun _ => rfl)
    · exact owes_no 6 true false (by decide) (by kernel_rfl) (by kernel_rfl) (fun _ _ h => h) (by rw [hsz]; kernel_rfl) (fun _ => rfl)
    · refine owes_v (Go.Op.pick (Go.Operand.tmp 30) (Go.Operand.const (Go.Value.bool true)) (Go.Operand.tmp 39)) 4 [6, 15] (by kernel_rfl) (by kernel_rfl) (by kernel_rfl) rfl fun vals w1 ρ hG hF hρ hcst hfun => ?_
      have e30 : ρ (.tmp 30) = .bool true := ((hρ 30).trans (slotJ [6, 15] (by rw [hsz]; decide) (by kernel_rfl))).trans (hF 6 (by decide))
      have e39 : ρ (.tmp 39) = undef := ((hρ 39).trans (slotJ [6, 15] (by rw [hsz]; decide) (by kernel_rfl))).trans (hF 15 (by decide))
      clear hρ hF hfun sl6 sl7 fin
      exact opv_val (by go_simp <;> rfl) ⟨gw_self _, rfl⟩
  · intro vals w1 hG hF
    exact fin vals w1 hG (hF 16 (by decide +kernel))
theorem obj_s (Q : Exit → Act → World → Prop) (a0 : Act) (w : World) (H s a top room sz : Nat) (p b t : Int) (r : Bool) (hk : Bk w H 60 #[.int .i64 p, .int .i64 b, .bool false, .int .i64 t]) (hs : s < w.heap.size) (ct : w.cell? ⟨s, 2, none⟩ = some (.int .i64 top)) (hz : sizeH p b false t = (sz : Int)) (d1 : (top : Int) - (a : Int) = (room : Int)) (d2 : (room : Int) ≤ 100000) (d3 : (0 : Int) ≤ (room : Int)) (hr : decide (room < sz) = r) (hsz : a0.tmps.size = 50) (sl0 : a0.tmps.getD 0 undef = .pointer (some ⟨s, 0, none⟩)) (sl5 : a0.tmps.getD 5 undef = .int .i64 a) (sl6 : a0.tmps.getD 6 undef = .pointer (some ⟨H, 0, none⟩)) (sl7 : a0.tmps.getD 7 undef = .int .i64 0)
    (fin : ∀ (vals : Nat → Value) (w1 : World), Below w.heap.size w w1 → (IsV (.bool r)) (vals 16) w1 → Q .normal (putD vals [24, 25, 26, 27, 28, 29, 30, 31, 32, 33, 34, 35, 36, 37, 38, 39, 40] 0 a0) w1) :
    (Code.region 5 (regIn Tryd.f42 5) true).wp Tryd.prog Q a0 w := by
  refine region_by (G := fun w w1 => Below w.heap.size w w1) [IsV (.int .i64 0),
    IsV (.bool false),
    IsV (.bool false),
    IsV (.pointer (some ⟨H, 2, none⟩)),
    IsV (.bool false),
    IsV (.bool false),
    IsV (.bool false),
    IsV (.agg #[.int .i64 p, .int .i64 b, .bool false, .int .i64 t]),
    IsV (.int .i64 sz),
    IsV (.pointer (some ⟨s, 0, none⟩)),
    IsV (.pointer (some ⟨s, 0, none⟩)),
    IsV (.pointer (some ⟨s, 2, none⟩)),
    IsV (.int .i64 top),
    IsV (.int .i64 a),
    IsV (.int .i64 room),
    IsV (.bool r),
    IsV (.bool r)]
    [24, 25, 26, 27, 28, 29, 30, 31, 32, 33, 34, 35, 36, 37, 38, 39, 40] (by kernel_rfl) (Gw.drew _) Gw.trans (by rw [hsz]; kernel_rfl) (by kernel_rfl) ?_ ?_ ?_
  · intro f hf
    simp only [List.mem_cons, List.not_mem_nil, or_false] at hf
    rcases hf with rfl | rfl | rfl | rfl | rfl | rfl | rfl | rfl | rfl | rfl | rfl | rfl | rfl | rfl | rfl | rfl | rfl <;> intro v a b h g <;> first | exact IsV.mono h
  · refine ⟨?_, ?_, ?_, ?_, ?_, ?_, ?_, ?_, ?_, ?_, ?_, ?_, ?_, ?_, ?_, ?_, ?_, trivial⟩
    · exact owes_mv 7 (by kernel_rfl) (by kernel_rfl) (by kernel_rfl) sl7 (fun _ => rfl)
    · refine owes_v (Go.Op.binOp Go.BinOp.neq 33 (Go.Operand.tmp 24) (Go.Operand.const (Go.Value.int Go.IntKind.i64 0)) 33) 4 [0] (by kernel_rfl) (by kernel_rfl) (by kernel_rfl) rfl fun vals w1 ρ hG hF hρ hcst hfun => ?_
      have e24 : ρ (.tmp 24) = .int .i64 0 := ((hρ 24).trans (slotJ [0] (by rw [hsz]; decide) (by kernel_rfl))).trans (hF 0 (by decide))
      clear hρ hF hfun sl0 sl5 sl6 sl7 fin
      exact opv_val (by go_simp <;> rfl) ⟨gw_self _, rfl⟩
    · exact owes_mvj 1 25 (by kernel_rfl) (by kernel_rfl) (by kernel_rfl) (by kernel_rfl) (by rw [hsz]; decide) (fun v w h => h)
    · refine owes_vt 2 false (Go.Op.fieldAddr 60 (Go.Operand.tmp 6) 2) 0 [] (by kernel_rfl) (by kernel_rfl) (by kernel_rfl) (fun _ _ h => h) (by rw [hsz]; kernel_rfl) (by kernel_rfl) rfl fun vals w1 ρ hG hF hρ hcst hfun => ?_
      have e6 : ρ (.tmp 6) = .pointer (some ⟨H, 0, none⟩) := ((hρ 6).trans (slotO [] (by kernel_rfl))).trans sl6
      clear hρ hF hcst hfun sl0 sl5 sl6 sl7 fin
      exact opv_val (by go_simp <;> rfl) ⟨gw_self _, rfl⟩
    · refine owes_vt 2 false (Go.Op.load 4 (Go.Operand.tmp 27)) 4 [3] (by kernel_rfl) (by kernel_rfl) (by kernel_rfl) (fun _ _ h => h) (by rw [hsz]; kernel_rfl) (by kernel_rfl) rfl fun vals w1 ρ hG hF hρ hcst hfun => ?_
      have e27 : ρ (.tmp 27) = .pointer (some ⟨H, 2, none⟩) := ((hρ 27).trans (slotJ [3] (by rw [hsz]; decide) (by kernel_rfl))).trans (hF 3 (by decide))
      have k := ((hk.below hG hk.lt).four).2.2.1
      clear hρ hF hcst hfun sl0 sl5 sl6 sl7 fin
      exact opv_val (by go_simp <;> rfl) ⟨gw_self _, rfl⟩
    · refine owes_v (Go.Op.pick (Go.Operand.tmp 26) (Go.Operand.const (Go.Value.bool true)) (Go.Operand.tmp 28)) 4 [2, 4] (by kernel_rfl) (by kernel_rfl) (by kernel_rfl) rfl fun vals w1 ρ hG hF hρ hcst hfun => ?_
      have e26 : ρ (.tmp 26) = .bool false := ((hρ 26).trans (slotJ [2, 4] (by rw [hsz]; decide) (by kernel_rfl))).trans (hF 2 (by decide))
      have e28 : ρ (.tmp 28) = .bool false := ((hρ 28).trans (slotJ [2, 4] (by rw [hsz]; decide) (by kernel_rfl))).trans (hF 4 (by decide))
      clear hρ hF hfun sl0 sl5 sl6 sl7 fin
      exact opv_val (by go_simp <;> rfl) ⟨gw_self _, rfl⟩
    · exact owes_mvj 5 29 (by kernel_rfl) (by kernel_rfl) (by kernel_rfl) (by kernel_rfl) (by rw [hsz]; decide) (fun v w h => h)
    · refine owes_vt 6 false (Go.Op.load 60 (Go.Operand.tmp 6)) 60 [] (by kernel_rfl) (by kernel_rfl) (by kernel_rfl) (fun _ _ h => h) (by rw [hsz]; kernel_rfl) (by kernel_rfl) rfl fun vals w1 ρ hG hF hρ hcst hfun => ?_
      have e6 : ρ (.tmp 6) = .pointer (some ⟨H, 0, none⟩) := ((hρ 6).trans (slotO [] (by kernel_rfl))).trans sl6
      obtain ⟨k1, k2, k3, k4⟩ := (hk.below hG hk.lt).four
      clear hρ hF hcst hfun sl0 sl5 sl6 sl7 fin
      exact opv_val (by go_simp <;> rfl) ⟨gw_self _, rfl⟩
    · refine owes_vt 6 false (Go.Op.call { callee := Go.Callee.value (Go.Operand.func 60), args := #[Go.Operand.tmp 31], argTypes := #[60] }) 3 [7] (by kernel_rfl) (by kernel_rfl) (by kernel_rfl) (fun _ _ h => h) (by rw [hsz]; kernel_rfl) (by kernel_rfl) rfl fun vals w1 ρ hG hF hρ hcst hfun => ?_
      have e31 : ρ (.tmp 31) = .agg #[.int .i64 p, .int .i64 b, .bool false, .int .i64 t] := ((hρ 31).trans (slotJ [7] (by rw [hsz]; decide) (by kernel_rfl))).trans (hF 7 (by decide))
      have kz := size_c p b false t w1
      rw [hz] at kz
      clear hρ hF hcst sl0 sl5 sl6 sl7 fin
      exact opv_enter (by go_simp <;> rfl) (of_rp kz)
    · refine owes_vt 6 false (Go.Op.move (Go.Operand.tmp 0)) 25 [] (by kernel_rfl) (by kernel_rfl) (by kernel_rfl) (fun _ _ h => h) (by rw [hsz]; kernel_rfl) (by kernel_rfl) rfl fun vals w1 ρ hG hF hρ hcst hfun => ?_
      have e0 : ρ (.tmp 0) = .pointer (some ⟨s, 0, none⟩) := ((hρ 0).trans (slotO [] (by kernel_rfl))).trans sl0
      clear hρ hF hcst hfun sl0 sl5 sl6 sl7 fin
      exact opv_val (by go_simp <;> rfl) ⟨gw_self _, rfl⟩
    · refine owes_vt 6 false (Go.Op.nilCheck (Go.Operand.tmp 33)) 0 [9] (by kernel_rfl) (by kernel_rfl) (by kernel_rfl) (fun _ _ h => h) (by rw [hsz]; kernel_rfl) (by kernel_rfl) rfl fun vals w1 ρ hG hF hρ hcst hfun => ?_
      have e33 : ρ (.tmp 33) = .pointer (some ⟨s, 0, none⟩) := ((hρ 33).trans (slotJ [9] (by rw [hsz]; decide) (by kernel_rfl))).trans (hF 9 (by decide))
      clear hρ hF hcst hfun sl0 sl5 sl6 sl7 fin
      exact opv_val (by go_simp <;> rfl) ⟨gw_self _, rfl⟩
    · refine owes_vt 6 false (Go.Op.fieldAddr 65 (Go.Operand.tmp 34) 2) 0 [10] (by kernel_rfl) (by kernel_rfl) (by kernel_rfl) (fun _ _ h => h) (by rw [hsz]; kernel_rfl) (by kernel_rfl) rfl fun vals w1 ρ hG hF hρ hcst hfun => ?_
      have e34 : ρ (.tmp 34) = .pointer (some ⟨s, 0, none⟩) := ((hρ 34).trans (slotJ [10] (by rw [hsz]; decide) (by kernel_rfl))).trans (hF 10 (by decide))
      clear hρ hF hcst hfun sl0 sl5 sl6 sl7 fin
      exact opv_val (by go_simp <;> rfl) ⟨gw_self _, rfl⟩
    · refine owes_vt 6 false (Go.Op.load 3 (Go.Operand.tmp 35)) 3 [11] (by kernel_rfl) (by kernel_rfl) (by kernel_rfl) (fun _ _ h => h) (by rw [hsz]; kernel_rfl) (by kernel_rfl) rfl fun vals w1 ρ hG hF hρ hcst hfun => ?_
      have e35 : ρ (.tmp 35) = .pointer (some ⟨s, 2, none⟩) := ((hρ 35).trans (slotJ [11] (by rw [hsz]; decide) (by kernel_rfl))).trans (hF 11 (by decide))
      have k := (hG.cell (p := ⟨s, 2, none⟩) hs).trans ct
      clear hρ hF hcst hfun sl0 sl5 sl6 sl7 fin
      exact opv_val (by go_simp <;> rfl) ⟨gw_self _, rfl⟩
    · refine owes_vt 6 false (Go.Op.move (Go.Operand.tmp 5)) 3 [] (by kernel_rfl) (by kernel_rfl) (by kernel_rfl) (fun _ _ h => h) (by rw [hsz]; kernel_rfl) (by kernel_rfl) rfl fun vals w1 ρ hG hF hρ hcst hfun => ?_
      have e5 : ρ (.tmp 5) = .int .i64 a := ((hρ 5).trans (slotO [] (by kernel_rfl))).trans sl5
      clear hρ hF hcst hfun sl0 sl5 sl6 sl7 fin
      exact opv_val (by go_simp <;> rfl) ⟨gw_self _, rfl⟩
    · refine owes_vt 6 false (Go.Op.binOp Go.BinOp.sub 3 (Go.Operand.tmp 36) (Go.Operand.tmp 37) 3) 3 [12, 13] (by kernel_rfl) (by kernel_rfl) (by kernel_rfl) (fun _ _ h => h) (by rw [hsz]; kernel_rfl) (by kernel_rfl) rfl fun vals w1 ρ hG hF hρ hcst hfun => ?_
      have e36 : ρ (.tmp 36) = .int .i64 top := ((hρ 36).trans (slotJ [12, 13] (by rw [hsz]; decide) (by kernel_rfl))).trans (hF 12 (by decide))
      have e37 : ρ (.tmp 37) = .int .i64 a := ((hρ 37).trans (slotJ [12, 13] (by rw [hsz]; decide) (by kernel_rfl))).trans (hF 13 (by decide))
      have kw0 : IntKind.i64.wrap ((room : Int)) = (room : Int) := wrapIn (by omega) (by omega)
      clear hρ hF hcst hfun sl0 sl5 sl6 sl7 fin
      exact opv_val (by go_simp <;> rfl) ⟨gw_self _, rfl⟩
    · refine owes_vt 6 false (Go.Op.binOp Go.BinOp.gtr 3 (Go.Operand.tmp 32) (Go.Operand.tmp 38) 3) 4 [8, 14] (by kernel_rfl) (by kernel_rfl) (by kernel_rfl) (fun _ _ h => h) (by rw [hsz]; kernel_rfl) (by kernel_rfl) rfl fun vals w1 ρ hG hF hρ hcst hfun => ?_
      have e32 : ρ (.tmp 32) = .int .i64 sz := ((hρ 32).trans (slotJ [8, 14] (by rw [hsz]; decide) (by kernel_rfl))).trans (hF 8 (by decide))
      have e38 : ρ (.tmp 38) = .int .i64 room := ((hρ 38).trans (slotJ [8, 14] (by rw [hsz]; decide) (by kernel_rfl))).trans (hF 14 (by decide))
      clear hρ hF hcst hfun sl0 sl5 sl6 sl7 fin
      exact opv_val (by go_simp <;> first | rfl | exact hr | rw [hr]) ⟨gw_self _, rfl⟩
    · refine owes_v (Go.Op.pick (Go.Operand.tmp 30) (Go.Operand.const (Go.Value.bool true)) (Go.Operand.tmp 39)) 4 [6, 15] (by kernel_rfl) (by kernel_rfl) (by kernel_rfl) rfl fun vals w1 ρ hG hF hρ hcst hfun => ?_
      have e30 : ρ (.tmp 30) = .bool false := ((hρ 30).trans (slotJ [6, 15] (by rw [hsz]; decide) (by kernel_rfl))).trans (hF 6 (by decide))
      have e39 : ρ (.tmp 39) = .bool r := ((hρ 39).trans (slotJ [6, 15] (by rw [hsz]; decide) (by kernel_rfl))).trans (hF 15 (by decide))
      clear hρ hF hfun sl0 sl5 sl6 sl7 fin
      exact opv_val (by go_simp <;> rfl) ⟨gw_self _, rfl⟩
  · intro vals w1 hG hF
    exact fin vals w1 hG (hF 16 (by decide +kernel))
def ObjP (r : Option (List Nat)) (w : World) (e : Ending) (w' : World) : Prop := match r with
  | some l => MkEP iN 3 l 0 w e w'
  | none => RetP (.tuple #[.slice none 0 0, .int .i64 2]) w e w'
theorem objF_end (ws : List (BitVec 64)) (top n a : Nat) (h : ¬ a < top) : objF ws top n a = some [] := by
  cases n with
  | zero => rfl
  | succ n => exact if_neg h
theorem unV_bad {x : BitVec 64} (h : okU x = false) : unV x = .tuple #[.agg #[.int .i64 0, .int .i64 0, .bool false, .int .i64 0], .int .i64 2] := unV_no h
theorem bk_kept {w w5 : World} {H : Nat} {E : TypeId} {cs : Array Value} {o : Obj} {row : Option Nat} (h : Bk w H E cs) (hg : (w.alloc o).grownBy w5 row) (hne : some H ≠ row) : Bk w5 H E cs := (hg.block H (h.alloc o).lt hne).trans (h.alloc o)
theorem objects_c (w : World) (B s g : Nat) (v : Value) (ws : List (BitVec 64)) (b t e : Nat) (p : SpAt w B s g v ws b t e) (hl : ws.length ≤ 100000) :
    Calls Tryd.prog 42 #[.pointer (some ⟨s, 0, none⟩)] w (ObjP (objF ws t (t + 1) b) w) := by
  have HP := Lib.hid p
  have HHd := Lib.hid (fun W (hb : Below w.heap.size w W) (i : Nat) (h1 : b ≤ i) (h2 : i < t) (hiw : i < ws.length) => sphead_in W B s g v ws b t e (p.below hb) i h1 h2 hl hiw)
  have htw : t ≤ ws.length := Nat.le_trans p.te p.el
  have HTW := Lib.hid htw
  obtain ⟨R, hR⟩ : ∃ R, R = objF ws t (t + 1) b := ⟨_, rfl⟩
  rw [← hR]
  have HRR := Lib.hid hR
  have hc1 := p.four.2.1
  have hc2 := p.four.2.2.1
  have hsl := p.blk.lt
  have q1 : (t : Int) ≤ 100000 := by omega
  have q2 : (b : Int) ≤ 100000 := by have := p.bt; omega
  clear p hl htw hR
  go_enter Tryd.func42, Tryd.ntmps42
  go_wp2_with fail
  go_loopw [4, 5] (fun o i W => ∃ (n a : Nat) (pre : List Nat), i = .int .i64 a ∧ Hid (b ≤ a) ∧ Hid (t < a + n) ∧ Hid (R = (objF ws t n a).map (pre ++ ·)) ∧ Hid (pre.length ≤ a) ∧ Ow iN 3 W w.heap.size o pre ∧ Below w.heap.size w W) (fun _ i _ => t - (intOf i).toNat)
  case atStart => exact ⟨t + 1, b, [], rfl, Lib.hid (Nat.le_refl _), Lib.hid (by omega), Lib.hid (by rw [HRR.out]; simp), Lib.hid (by simp), Ow.nil_ _ _ _ _, Below.refl _ _⟩
  case round =>
    obtain ⟨n, a, pre, rfl, hba, htn, hre, hpl, ho, hB⟩ := hrel
    have hp := HP.out.below hB
    have c2 := hp.four.2.2.1
    by_cases hlt : a < t
    · have p1 : (0 : Int) ≤ (a : Int) := by omega
      have haw : a < ws.length := Nat.lt_of_lt_of_le hlt HTW.out
      have HH := Lib.hid (HHd.out wr hB a hba.out hlt haw)
      obtain ⟨x, hx⟩ : ∃ x, x = ws[a] := ⟨_, rfl⟩
      rw [← hx] at HH
      obtain ⟨m, rfl⟩ : ∃ m, n = m + 1 := ⟨n - 1, by have := htn.out; omega⟩
      have hgx : ws.getD a 0#64 = x := by rw [List.getD_eq_getElem?_getD, List.getElem?_eq_getElem haw, hx]; rfl
      have hstep : R = (if goodX x (t - a) = true then (objF ws t m (a + szX x)).map (a :: ·) else none).map (pre ++ ·) := by
        have h := hre.out
        have e : objF ws t (m + 1) a = if goodX x (t - a) = true then (objF ws t m (a + szX x)).map (a :: ·) else none := by
          show (if a < t then _ else _) = _
          rw [if_pos hlt, hgx]
        rw [e] at h
        exact h
      have HST := Lib.hid hstep
      have HO := Lib.hid ho
      have HBB := Lib.hid hB
      have HPW := Lib.hid hp
      clear hre hx haw hgx hstep ho hp
      cases hok : okU x with
      | false =>
        rw [unV_bad hok] at HH
        have hbad : R = none := by
          rw [HST.out]
          have : goodX x (t - a) = false := by unfold goodX; rw [hok]; rfl
          rw [this]
          rfl
        have HRN := Lib.hid hbad
        clear hbad hok
        go_wp2_with fail
        refine Calls.mono HH.out ?_
        rintro r w2 ⟨rfl, b2⟩
        have HB2 := Lib.hid (hB.trans (b2.mono hB.size))
        clear b2
        go_wp2_with fail
        refine obj_e _ _ _ rfl rfl ?_
        intro vals w3 hG h40
        unfold IsV at h40
        simp only [putD, Act.put, List.setIfInBounds_toArray, List.set_cons_zero, List.set_cons_succ, h40]
        have HB3 := Lib.hid (((HB2.out.alloc HB2.out.size _)).trans (hG.mono (by have := HB2.out.size; simp; omega)))
        clear h40 hG
        go_wp2_with fail
        go_ret2
        rw [HRN.out]
        exact ⟨rfl, HB3.out⟩
      | true =>
        cases hm : fM x with
        | true =>
          have hv := unV_yes hok
          rw [hm] at hv
          rw [hv] at HH
          have hbad : R = none := by
            rw [HST.out]
            have : goodX x (t - a) = false := by unfold goodX; rw [hok, hm]; rfl
            rw [this]
            rfl
          have HRN := Lib.hid hbad
          clear hbad hok hm hv
          go_wp2_with fail
          refine Calls.mono HH.out ?_
          rintro r w2 ⟨rfl, b2⟩
          have HB2 := Lib.hid (hB.trans (b2.mono hB.size))
          clear b2
          go_wp2_with fail
          refine obj_m _ _ _ w2.heap.size (fP x) (fB x) (fT x) (Bk.new w2 _ _) rfl rfl rfl ?_
          intro vals w3 hG h40
          unfold IsV at h40
          simp only [putD, Act.put, List.setIfInBounds_toArray, List.set_cons_zero, List.set_cons_succ, h40]
          have HB3 := Lib.hid (((HB2.out.alloc HB2.out.size _)).trans (hG.mono (by have := HB2.out.size; simp; omega)))
          clear h40 hG
          go_wp2_with fail
          go_ret2
          rw [HRN.out]
          exact ⟨rfl, HB3.out⟩
        | false =>
          have hv := unV_yes hok
          rw [hm] at hv
          rw [hv] at HH
          obtain ⟨hz, hz1, hz2⟩ := szX_pos hok hm
          have hgood : goodX x (t - a) = decide (szX x ≤ t - a) := by unfold goodX; rw [hok, hm]; rfl
          obtain ⟨sz, hsz⟩ : ∃ sz, sz = szX x := ⟨_, rfl⟩
          obtain ⟨room, hroom⟩ : ∃ r, r = t - a := ⟨_, rfl⟩
          rw [← hsz] at hz hz1 hz2
          have hst2 := HST.out
          rw [hgood, ← hsz, ← hroom] at hst2
          have d1 : (t : Int) - (a : Int) = (room : Int) := by omega
          have d2 : (room : Int) ≤ 100000 := by omega
          have d3 : (0 : Int) ≤ (room : Int) := by omega
          have HZ := Lib.hid (fun W => size_c (fP x) (fB x) false (fT x) W)
          rw [hz] at HZ
          have HZZ := Lib.hid hz
          have HD := Lib.hid (And.intro d1 (And.intro d2 d3))
          have HST2 := Lib.hid hst2
          have hz3 : (sz : Int) ≤ 1000 := by omega
          have HS1 := Lib.hid hz1
          have HSL := Lib.hid HPW.out.blk.lt
          clear hv hok hm hz hz2 hgood hsz hst2 HST hz1 d1 d2 d3
          go_wp2_with fail
          refine Calls.mono HH.out ?_
          rintro r w2 ⟨rfl, b2⟩
          have HB2 := Lib.hid (hB.trans (b2.mono hB.size))
          have hk2 := Bk.new w2 60 #[.int .i64 (fP x), .int .i64 (fB x), .bool false, .int .i64 (fT x)]
          have HK2 := Lib.hid hk2
          have hb3 := Gw.alloc w2 (.cells #[.int .i64 (fP x), .int .i64 (fB x), .bool false, .int .i64 (fT x)] 60)
          have HB3 := Lib.hid (HB2.out.trans (hb3.mono HB2.out.size))
          have hw3 : (w2.alloc (.cells #[.int .i64 (fP x), .int .i64 (fB x), .bool false, .int .i64 (fT x)] 60)).cell? ⟨s, 2, none⟩ = some (.int .i64 t) := ((HPW.out.below b2).below hb3).four.2.2.1
          have HS3 : Hid (s < (w2.alloc (.cells #[.int .i64 (fP x), .int .i64 (fB x), .bool false, .int .i64 (fT x)] 60)).heap.size) := Lib.hid ((HPW.out.below b2).below hb3).blk.lt
          have HW3 := Lib.hid hw3
          have HO2 := Lib.hid ((HO.out.below b2).alloc (.cells #[.int .i64 (fP x), .int .i64 (fB x), .bool false, .int .i64 (fT x)] 60))
          have hol : ∀ k, u4.ownBlock = some k → k < w2.heap.size := fun k e => ((HO.out.below b2).lt k e).2
          have HOL := Lib.hid hol
          clear b2 hk2 hb3 hw3 hol
          go_wp2_with fail
          by_cases hfit : sz ≤ room
          · refine obj_s _ _ _ w2.heap.size s a t room sz (fP x) (fB x) (fT x) false HK2.out HS3.out HW3.out HZZ.out HD.out.1 HD.out.2.1 HD.out.2.2 (by simp; omega) rfl rfl rfl rfl rfl ?_
            intro vals w3 hG h40
            unfold IsV at h40
            simp only [putD, Act.put, List.setIfInBounds_toArray, List.set_cons_zero, List.set_cons_succ, h40]
            have hk3 := HK2.out.below hG HK2.out.lt
            obtain ⟨k0, k1, k2, k3⟩ := hk3.four
            have ho3 := HO2.out.below hG
            obtain ⟨A3, m3, n3, rfl⟩ : ∃ A m n, u4 = Value.slice A m n := by
              obtain ⟨A, c, e, _⟩ := ho3.form
              exact ⟨A, _, c, e⟩
            have HB4 := Lib.hid (HB3.out.trans (hG.mono HB3.out.size))
            have hsz4 := HB4.out.size
            have hlen : pre.length + 1 ≤ 4294967296 := by have := hpl.out; omega
            have hRn : R = (objF ws t m (a + sz)).map ((pre ++ [a]) ++ ·) := by
              have h := HST2.out
              have hd : decide (sz ≤ room) = true := by simp [hfit]
              rw [if_pos hd] at h
              rw [h]
              cases objF ws t m (a + sz) with
              | none => rfl
              | some l => simp
            have HRn := Lib.hid hRn
            have HK3 := Lib.hid hk3
            have HNE : Hid (some w2.heap.size ≠ (Value.slice A3 m3 n3).ownBlock) := Lib.hid (fun e => by have := HOL.out _ e.symm; omega)
            clear h40 hG hk3 hRn k0 k1 k2 k3
            go_wp2_with (at_builtin; refine wp_app oneI iN_one rfl (.tmp 41) (.tmp 43) rfl w.heap.size _ pre rfl (ho3.alloc _) (some ⟨w3.heap.size, 0, none⟩) 1 1 [a] rfl rfl (w3.heap.size + 1) (rd1_new rfl) hlen (by decide) (by simp; omega) ?_; intro v5 w5 ho5 hb5 hg5 _; have hk5 := bk_kept HK3.out hg5 HNE.out; obtain ⟨k0, k1, k2, k3⟩ := hk5.four)
            have HB5 := Lib.hid ((HB4.out.alloc hsz4 _).trans hb5)
            have HO5 := Lib.hid ho5
            have HZ5 := Lib.hid (HZ.out w5)
            obtain ⟨a2, ha2⟩ : ∃ a2, a2 = a + sz := ⟨_, rfl⟩
            have e2 : (a : Int) + (sz : Int) = (a2 : Int) := by omega
            have e3 : (a2 : Int) ≤ 200000 := by omega
            have e4 : (0 : Int) ≤ (a2 : Int) := by omega
            have HA2 := Lib.hid ha2
            clear hk5 ho5 hb5 hg5 ha2 HK3 HOL
            go_wp2_with fail
            refine Calls.mono HZ5.out ?_
            rintro r w6 ⟨rfl, b6⟩
            have HB6 := Lib.hid (HB5.out.trans (b6.mono HB5.out.size))
            have HO6 := Lib.hid (HO5.out.below b6)
            clear b6 HO5 HB5
            go_wp2_with fail
            go_roundw
            case rel =>
              refine ⟨m, a2, pre ++ [a], rfl, Lib.hid ?_, Lib.hid ?_, Lib.hid ?_, Lib.hid ?_, HO6.out, HB6.out⟩
              · have := HA2.out; have := hba.out; omega
              · have := HA2.out; have := htn.out; have := HS1.out; omega
              · rw [HA2.out]; exact HRn.out
              · have := HA2.out; have := hpl.out; have := HS1.out; rw [List.length_append]; simp; omega
            case measure => have := HA2.out; have := HS1.out; simp [intOf]; omega
          · refine obj_s _ _ _ w2.heap.size s a t room sz (fP x) (fB x) (fT x) true HK2.out HS3.out HW3.out HZZ.out HD.out.1 HD.out.2.1 HD.out.2.2 (by simp; omega) rfl rfl rfl rfl rfl ?_
            intro vals w3 hG h40
            unfold IsV at h40
            simp only [putD, Act.put, List.setIfInBounds_toArray, List.set_cons_zero, List.set_cons_succ, h40]
            have HB4 := Lib.hid (HB3.out.trans (hG.mono HB3.out.size))
            have hbad : R = none := by
              rw [HST2.out]
              have hd : decide (sz ≤ room) = false := by simp; omega
              rw [hd]
              rfl
            have HRN := Lib.hid hbad
            clear h40 hG hbad
            go_wp2_with fail
            go_ret2
            rw [HRN.out]
            exact ⟨rfl, HB4.out⟩
    · have hend := objF_end ws t n a hlt
      have h := hre.out
      rw [hend] at h
      have h2 : R = some pre := by rw [h]; simp
      have HO := Lib.hid ho
      have HR2 := Lib.hid h2
      clear hend h h2 ho hp
      go_wp2_with fail
      go_ret2
      rw [HR2.out]
      exact MkEP.of HO.out hB
end Go.Proofs.YtfodefgihicafaaDoor
