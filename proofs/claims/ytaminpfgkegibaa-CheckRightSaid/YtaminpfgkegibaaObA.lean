/- obj.look: the header of an object that stands there whole. Conditions: lengths. -/
import Derived.Test.YtaminpfgkegibaaSpI
import Derived.Test.YtaminpfgkegibaaSpF
import Derived.Test.YtaminpfgkegibaaObS
namespace Go.Proofs.Ytaminpfgkegibaa
set_option linter.unusedVariables false
set_option linter.unusedSimpArgs false
open Go.RowKit
theorem goodX_out {x : BitVec 64} {room : Nat} (h : goodX x room = true) : okU x = true ∧ fM x = false ∧ szX x ≤ room := by
  unfold goodX at h
  rw [Bool.and_eq_true, Bool.and_eq_true, decide_eq_true_eq, Bool.not_eq_true'] at h
  exact ⟨h.1, h.2.1, h.2.2⟩
/-- What a good header says, as numbers. -/
theorem head_nums {x : BitVec 64} (h : okU x = true) (hm : fM x = false) : ∃ P N : Nat, fP x = (P : Int) ∧ fB x = (N : Int) ∧ fT x = 0 ∧ P ≤ 64 ∧ N ≤ 1024 ∧ szX x = 1 + P + (N + 7) / 8 ∧ sizeH (P : Int) (N : Int) false 0 = (szX x : Int) := by
  obtain ⟨hr, _⟩ := okU_yes h
  obtain ⟨hs, _⟩ := szX_pos h hm
  rw [hm] at hr
  have hr2 := hr
  rcases rightH_out hr with ⟨h1, _⟩ | ⟨_, h2, h3, h4, h5, h6⟩
  · cases h1
  · refine ⟨(fP x).toNat, (fB x).toNat, by omega, by omega, h2, by omega, by omega, ?_, ?_⟩
    · have e : sizeH (fP x) (fB x) false (fT x) = 1 + fP x + (fB x + 7) / 8 := if_pos ⟨hr2, rfl⟩
      rw [e] at hs
      omega
    · rw [show (((fP x).toNat : Nat) : Int) = fP x by omega, show (((fB x).toNat : Nat) : Int) = fB x by omega]
      rw [h2] at hs
      exact hs
def P0 (x : BitVec 64) : Nat := (fP x).toNat
def B0 (x : BitVec 64) : Nat := (fB x).toNat
theorem head_of {x : BitVec 64} {room : Nat} (h : goodX x room = true) : unV x = .tuple #[.agg #[.int .i64 (P0 x : Int), .int .i64 (B0 x : Int), .bool false, .int .i64 0], .int .i64 0] ∧ P0 x ≤ 64 ∧ B0 x ≤ 1024 ∧ szX x = 1 + P0 x + (B0 x + 7) / 8 ∧ sizeH (P0 x : Int) (B0 x : Int) false 0 = (szX x : Int) ∧ szX x ≤ room := by
  obtain ⟨h1, h2, h3⟩ := goodX_out h
  obtain ⟨P, N, e1, e2, e3, e4, e5, e6, e7⟩ := head_nums h1 h2
  have p : P0 x = P := by unfold P0; omega
  have q : B0 x = N := by unfold B0; omega
  rw [unV_yes h1, e1, e2, e3, h2, p, q]
  exact ⟨rfl, e4, e5, e6, e7, h3⟩
def zH : Value := .agg #[.int .i64 0, .int .i64 0, .bool false, .int .i64 0]
set_option maxHeartbeats 1000000
set_option maxRecDepth 100000
theorem lk_m (Q : Exit → Act → World → Prop) (a0 : Act) (w : World) (H : Nat) (p b t : Int) (hk : Bk w H 111 #[.int .i64 p, .int .i64 b, .bool true, .int .i64 t]) (hsz : a0.tmps.size = 33) (sl6 : a0.tmps.getD 6 undef = .pointer (some ⟨H, 0, none⟩))
    (fin : ∀ (vals : Nat → Value) (w1 : World), Below w.heap.size w w1 → (IsV (.bool true)) (vals 12) w1 → Q .normal (putD vals [18, 19, 20, 21, 22, 23, 24, 25, 26, 27, 28, 29, 30] 0 a0) w1) :
    (Code.region 4 (regIn Try.f96 4) true).wp Try.prog Q a0 w := by
  refine region_by (G := fun w w1 => Below w.heap.size w w1) [IsV (.pointer (some ⟨H, 2, none⟩)),
    IsV (.bool true),
    IsV (.bool true),
    IsV undef,
    IsV undef,
    IsV undef,
    IsV undef,
    IsV undef,
    IsV undef,
    IsV undef,
    IsV undef,
    IsV undef,
    IsV (.bool true)]
    [18, 19, 20, 21, 22, 23, 24, 25, 26, 27, 28, 29, 30] (by kernel_rfl) (Gw.drew _) Gw.trans (by rw [hsz]; kernel_rfl) (by kernel_rfl) ?_ ?_ ?_
  · intro f hf
    simp only [List.mem_cons, List.not_mem_nil, or_false] at hf
    rcases hf with rfl | rfl | rfl | rfl | rfl | rfl | rfl | rfl | rfl | rfl | rfl | rfl | rfl <;> intro v a b h g <;> first | exact IsV.mono h
  · refine ⟨?_, ?_, ?_, ?_, ?_, ?_, ?_, ?_, ?_, ?_, ?_, ?_, ?_, trivial⟩
    · refine owes_v (Go.Op.fieldAddr 111 (Go.Operand.tmp 6) 2) 0 [] (by kernel_rfl) (by kernel_rfl) (by kernel_rfl) rfl fun vals w1 ρ hG hF hρ hcst hfun => ?_
      have e6 : ρ (.tmp 6) = .pointer (some ⟨H, 0, none⟩) := ((hρ 6).trans (slotO [] (by kernel_rfl))).trans sl6
      clear hρ hF hcst hfun sl6 fin
      exact opv_val (by go_simp <;> rfl) ⟨gw_self _, rfl⟩
    · refine owes_v (Go.Op.load 4 (Go.Operand.tmp 18)) 4 [0] (by kernel_rfl) (by kernel_rfl) (by kernel_rfl) rfl fun vals w1 ρ hG hF hρ hcst hfun => ?_
      have e18 : ρ (.tmp 18) = .pointer (some ⟨H, 2, none⟩) := ((hρ 18).trans (slotJ [0] (by rw [hsz]; decide) (by kernel_rfl))).trans (hF 0 (by decide))
      have k := ((hk.below hG hk.lt).four).2.2.1
      clear hρ hF hcst hfun sl6 fin
      exact opv_val (by go_simp <;> rfl) ⟨gw_self _, rfl⟩
    · exact owes_mvj 1 19 (by kernel_rfl) (by kernel_rfl) (by kernel_rfl) (by kernel_rfl) (by rw [hsz]; decide) (fun v w h => h)
    · exact owes_no 2 true false (by decide) (by kernel_rfl) (by kernel_rfl) (fun _ _ h => h) (by rw [hsz]; kernel_rfl) (fun _ => rfl)
    · exact owes_no 2 true false (by decide) (by kernel_rfl) (by kernel_rfl) (fun _ _ h => h) (by rw [hsz]; kernel_rfl) (fun _ => rfl)
    · exact owes_no 2 true false (by decide) (by kernel_rfl) (by kernel_rfl) (fun _ _ h => h) (by rw [hsz]; kernel_rfl) (fun _ => rfl)
    · exact owes_no 2 true false (by decide) (by kernel_rfl) (by kernel_rfl) (fun _ _ h => h) (by rw [hsz]; kernel_rfl) (fun _ => rfl)
    · exact owes_no 2 true false (by decide) (by kernel_rfl) (by kernel_rfl) (fun _ _ h => h) (by rw [hsz]; kernel_rfl) (fun _ => rfl)
    · exact owes_no 2 true false (by decide) (by kernel_rfl) (by kernel_rfl) (fun _ _ h => h) (by rw [hsz]; kernel_rfl) (fun _ => rfl)
    · exact owes_no 2 true false (by decide) (by kernel_rfl) (by kernel_rfl) (fun _ _ h => h) (by rw [hsz]; kernel_rfl) (fun _ => rfl)
    · exact owes_no 2 true false (by decide) (by kernel_rfl) (by kernel_rfl) (fun _ _ h => h) (by rw [hsz]; kernel_rfl) (fun _ => rfl)
    · exact owes_no 2 true false (by decide) (by kernel_rfl) (by kernel_rfl) (fun _ _ h => h) (by rw [hsz]; kernel_rfl) (fun _ => rfl)
    · refine owes_v (Go.Op.pick (Go.Operand.tmp 20) (Go.Operand.const (Go.Value.bool true)) (Go.Operand.tmp 29)) 4 [2, 11] (by kernel_rfl) (by kernel_rfl) (by kernel_rfl) rfl fun vals w1 ρ hG hF hρ hcst hfun => ?_
      have e20 : ρ (.tmp 20) = .bool true := ((hρ 20).trans (slotJ [2, 11] (by rw [hsz]; decide) (by kernel_rfl))).trans (hF 2 (by decide))
      have e29 : ρ (.tmp 29) = undef := ((hρ 29).trans (slotJ [2, 11] (by rw [hsz]; decide) (by kernel_rfl))).trans (hF 11 (by decide))
      clear hρ hF hfun sl6 fin
      exact opv_val (by go_simp <;> rfl) ⟨gw_self _, rfl⟩
  · intro vals w1 hG hF
    exact fin vals w1 hG (hF 12 (by decide +kernel))
theorem lk_s (Q : Exit → Act → World → Prop) (a0 : Act) (w : World) (H s a top room sz : Nat) (p b t : Int) (r : Bool) (hk : Bk w H 111 #[.int .i64 p, .int .i64 b, .bool false, .int .i64 t]) (hs : s < w.heap.size) (ct : w.cell? ⟨s, 2, none⟩ = some (.int .i64 top)) (hz : sizeH p b false t = (sz : Int)) (d1 : (top : Int) - (a : Int) = (room : Int)) (d2 : (room : Int) ≤ 100000) (d3 : (0 : Int) ≤ (room : Int)) (hr : decide (room < sz) = r) (hsz : a0.tmps.size = 33) (sl0 : a0.tmps.getD 0 undef = .pointer (some ⟨s, 0, none⟩)) (sl1 : a0.tmps.getD 1 undef = .int .i64 a) (sl6 : a0.tmps.getD 6 undef = .pointer (some ⟨H, 0, none⟩))
    (fin : ∀ (vals : Nat → Value) (w1 : World), Below w.heap.size w w1 → (IsV (.bool r)) (vals 12) w1 → Q .normal (putD vals [18, 19, 20, 21, 22, 23, 24, 25, 26, 27, 28, 29, 30] 0 a0) w1) :
    (Code.region 4 (regIn Try.f96 4) true).wp Try.prog Q a0 w := by
  refine region_by (G := fun w w1 => Below w.heap.size w w1) [IsV (.pointer (some ⟨H, 2, none⟩)),
    IsV (.bool false),
    IsV (.bool false),
    IsV (.agg #[.int .i64 p, .int .i64 b, .bool false, .int .i64 t]),
    IsV (.int .i64 sz),
    IsV (.pointer (some ⟨s, 0, none⟩)),
    IsV (.pointer (some ⟨s, 0, none⟩)),
    IsV (.pointer (some ⟨s, 2, none⟩)),
    IsV (.int .i64 top),
    IsV (.int .i64 a),
    IsV (.int .i64 room),
    IsV (.bool r),
    IsV (.bool r)]
    [18, 19, 20, 21, 22, 23, 24, 25, 26, 27, 28, 29, 30] (by kernel_rfl) (Gw.drew _) Gw.trans (by rw [hsz]; kernel_rfl) (by kernel_rfl) ?_ ?_ ?_
  · intro f hf
    simp only [List.mem_cons, List.not_mem_nil, or_false] at hf
    rcases hf with rfl | rfl | rfl | rfl | rfl | rfl | rfl | rfl | rfl | rfl | rfl | rfl | rfl <;> intro v a b h g <;> first | exact IsV.mono h
  · refine ⟨?_, ?_, ?_, ?_, ?_, ?_, ?_, ?_, ?_, ?_, ?_, ?_, ?_, trivial⟩
    · refine owes_v (Go.Op.fieldAddr 111 (Go.Operand.tmp 6) 2) 0 [] (by kernel_rfl) (by kernel_rfl) (by kernel_rfl) rfl fun vals w1 ρ hG hF hρ hcst hfun => ?_
      have e6 : ρ (.tmp 6) = .pointer (some ⟨H, 0, none⟩) := ((hρ 6).trans (slotO [] (by kernel_rfl))).trans sl6
      clear hρ hF hcst hfun sl0 sl1 sl6 fin
      exact opv_val (by go_simp <;> rfl) ⟨gw_self _, rfl⟩
    · refine owes_v (Go.Op.load 4 (Go.Operand.tmp 18)) 4 [0] (by kernel_rfl) (by kernel_rfl) (by kernel_rfl) rfl fun vals w1 ρ hG hF hρ hcst hfun => ?_
      have e18 : ρ (.tmp 18) = .pointer (some ⟨H, 2, none⟩) := ((hρ 18).trans (slotJ [0] (by rw [hsz]; decide) (by kernel_rfl))).trans (hF 0 (by decide))
      have k := ((hk.below hG hk.lt).four).2.2.1
      clear hρ hF hcst hfun sl0 sl1 sl6 fin
      exact opv_val (by go_simp <;> rfl) ⟨gw_self _, rfl⟩
    · exact owes_mvj 1 19 (by kernel_rfl) (by kernel_rfl) (by kernel_rfl) (by kernel_rfl) (by rw [hsz]; decide) (fun v w h => h)
    · refine owes_vt 2 false (Go.Op.load 111 (Go.Operand.tmp 6)) 111 [] (by kernel_rfl) (by kernel_rfl) (by kernel_rfl) (fun _ _ h => h) (by rw [hsz]; kernel_rfl) (by kernel_rfl) rfl fun vals w1 ρ hG hF hρ hcst hfun => ?_
      have e6 : ρ (.tmp 6) = .pointer (some ⟨H, 0, none⟩) := ((hρ 6).trans (slotO [] (by kernel_rfl))).trans sl6
      obtain ⟨k1, k2, k3, k4⟩ := (hk.below hG hk.lt).four
      clear hρ hF hcst hfun sl0 sl1 sl6 fin
      exact opv_val (by go_simp <;> rfl) ⟨gw_self _, rfl⟩
    · refine owes_vt 2 false (Go.Op.call { callee := Go.Callee.value (Go.Operand.func 48), args := #[Go.Operand.tmp 21], argTypes := #[111] }) 3 [3] (by kernel_rfl) (by kernel_rfl) (by kernel_rfl) (fun _ _ h => h) (by rw [hsz]; kernel_rfl) (by kernel_rfl) rfl fun vals w1 ρ hG hF hρ hcst hfun => ?_
      have e21 : ρ (.tmp 21) = .agg #[.int .i64 p, .int .i64 b, .bool false, .int .i64 t] := ((hρ 21).trans (slotJ [3] (by rw [hsz]; decide) (by kernel_rfl))).trans (hF 3 (by decide))
      have kz := size_c p b false t w1
      rw [hz] at kz
      clear hρ hF hcst sl0 sl1 sl6 fin
      exact opv_enter (by go_simp <;> rfl) (of_rp kz)
    · refine owes_vt 2 false (Go.Op.move (Go.Operand.tmp 0)) 37 [] (by kernel_rfl) (by kernel_rfl) (by kernel_rfl) (fun _ _ h => h) (by rw [hsz]; kernel_rfl) (by kernel_rfl) rfl fun vals w1 ρ hG hF hρ hcst hfun => ?_
      have e0 : ρ (.tmp 0) = .pointer (some ⟨s, 0, none⟩) := ((hρ 0).trans (slotO [] (by kernel_rfl))).trans sl0
      clear hρ hF hcst hfun sl0 sl1 sl6 fin
      exact opv_val (by go_simp <;> rfl) ⟨gw_self _, rfl⟩
    · refine owes_vt 2 false (Go.Op.nilCheck (Go.Operand.tmp 23)) 0 [5] (by kernel_rfl) (by kernel_rfl) (by kernel_rfl) (fun _ _ h => h) (by rw [hsz]; kernel_rfl) (by kernel_rfl) rfl fun vals w1 ρ hG hF hρ hcst hfun => ?_
      have e23 : ρ (.tmp 23) = .pointer (some ⟨s, 0, none⟩) := ((hρ 23).trans (slotJ [5] (by rw [hsz]; decide) (by kernel_rfl))).trans (hF 5 (by decide))
      clear hρ hF hcst hfun sl0 sl1 sl6 fin
      exact opv_val (by go_simp <;> rfl) ⟨gw_self _, rfl⟩
    · refine owes_vt 2 false (Go.Op.fieldAddr 67 (Go.Operand.tmp 24) 2) 0 [6] (by kernel_rfl) (by kernel_rfl) (by kernel_rfl) (fun _ _ h => h) (by rw [hsz]; kernel_rfl) (by kernel_rfl) rfl fun vals w1 ρ hG hF hρ hcst hfun => ?_
      have e24 : ρ (.tmp 24) = .pointer (some ⟨s, 0, none⟩) := ((hρ 24).trans (slotJ [6] (by rw [hsz]; decide) (by kernel_rfl))).trans (hF 6 (by decide))
      clear hρ hF hcst hfun sl0 sl1 sl6 fin
      exact opv_val (by go_simp <;> rfl) ⟨gw_self _, rfl⟩
    · refine owes_vt 2 false (Go.Op.load 3 (Go.Operand.tmp 25)) 3 [7] (by kernel_rfl) (by kernel_rfl) (by kernel_rfl) (fun _ _ h => h) (by rw [hsz]; kernel_rfl) (by kernel_rfl) rfl fun vals w1 ρ hG hF hρ hcst hfun => ?_
      have e25 : ρ (.tmp 25) = .pointer (some ⟨s, 2, none⟩) := ((hρ 25).trans (slotJ [7] (by rw [hsz]; decide) (by kernel_rfl))).trans (hF 7 (by decide))
      have k := (hG.cell (p := ⟨s, 2, none⟩) hs).trans ct
      clear hρ hF hcst hfun sl0 sl1 sl6 fin
      exact opv_val (by go_simp <;> rfl) ⟨gw_self _, rfl⟩
    · refine owes_vt 2 false (Go.Op.move (Go.Operand.tmp 1)) 3 [] (by kernel_rfl) (by kernel_rfl) (by kernel_rfl) (fun _ _ h => h) (by rw [hsz]; kernel_rfl) (by kernel_rfl) rfl fun vals w1 ρ hG hF hρ hcst hfun => ?_
      have e1 : ρ (.tmp 1) = .int .i64 a := ((hρ 1).trans (slotO [] (by kernel_rfl))).trans sl1
      clear hρ hF hcst hfun sl0 sl1 sl6 fin
      exact opv_val (by go_simp <;> rfl) ⟨gw_self _, rfl⟩
    · refine owes_vt 2 false (Go.Op.binOp Go.BinOp.sub 3 (Go.Operand.tmp 26) (Go.Operand.tmp 27) 3) 3 [8, 9] (by kernel_rfl) (by kernel_rfl) (by kernel_rfl) (fun _ _ h => h) (by rw [hsz]; kernel_rfl) (by kernel_rfl) rfl fun vals w1 ρ hG hF hρ hcst hfun => ?_
      have e26 : ρ (.tmp 26) = .int .i64 top := ((hρ 26).trans (slotJ [8, 9] (by rw [hsz]; decide) (by kernel_rfl))).trans (hF 8 (by decide))
      have e27 : ρ (.tmp 27) = .int .i64 a := ((hρ 27).trans (slotJ [8, 9] (by rw [hsz]; decide) (by kernel_rfl))).trans (hF 9 (by decide))
      have kw0 : IntKind.i64.wrap ((room : Int)) = (room : Int) := wrapIn (by omega) (by omega)
      clear hρ hF hcst hfun sl0 sl1 sl6 fin
      exact opv_val (by go_simp <;> rfl) ⟨gw_self _, rfl⟩
    · refine owes_vt 2 false (Go.Op.binOp Go.BinOp.gtr 3 (Go.Operand.tmp 22) (Go.Operand.tmp 28) 3) 4 [4, 10] (by kernel_rfl) (by kernel_rfl) (by kernel_rfl) (fun _ _ h => h) (by rw [hsz]; kernel_rfl) (by kernel_rfl) rfl fun vals w1 ρ hG hF hρ hcst hfun => ?_
      have e22 : ρ (.tmp 22) = .int .i64 sz := ((hρ 22).trans (slotJ [4, 10] (by rw [hsz]; decide) (by kernel_rfl))).trans (hF 4 (by decide))
      have e28 : ρ (.tmp 28) = .int .i64 room := ((hρ 28).trans (slotJ [4, 10] (by rw [hsz]; decide) (by kernel_rfl))).trans (hF 10 (by decide))
      clear hρ hF hcst hfun sl0 sl1 sl6 fin
      exact opv_val (by go_simp <;> first | rfl | exact hr | rw [hr]) ⟨gw_self _, rfl⟩
    · refine owes_v (Go.Op.pick (Go.Operand.tmp 20) (Go.Operand.const (Go.Value.bool true)) (Go.Operand.tmp 29)) 4 [2, 11] (by kernel_rfl) (by kernel_rfl) (by kernel_rfl) rfl fun vals w1 ρ hG hF hρ hcst hfun => ?_
      have e20 : ρ (.tmp 20) = .bool false := ((hρ 20).trans (slotJ [2, 11] (by rw [hsz]; decide) (by kernel_rfl))).trans (hF 2 (by decide))
      have e29 : ρ (.tmp 29) = .bool r := ((hρ 29).trans (slotJ [2, 11] (by rw [hsz]; decide) (by kernel_rfl))).trans (hF 11 (by decide))
      clear hρ hF hfun sl0 sl1 sl6 fin
      exact opv_val (by go_simp <;> rfl) ⟨gw_self _, rfl⟩
  · intro vals w1 hG hF
    exact fin vals w1 hG (hF 12 (by decide +kernel))
theorem head_set {W : World} {g : Nat} {a b c d a' b' c' d' : Value} (h : Bk W g 111 #[a, b, c, d]) : Bk ((((W.setCell ⟨g, 0, none⟩ a').setCell ⟨g, 1, none⟩ b').setCell ⟨g, 2, none⟩ c').setCell ⟨g, 3, none⟩ d') g 111 #[a', b', c', d'] := by
  have k := (((h.set 0 a').set 1 b').set 2 c').set 3 d'
  simpa using k
theorem head_below {W w : World} {B g : Nat} {a' b' c' d' : Value} (h : Below B w W) (hg : B ≤ g) : Below B w ((((W.setCell ⟨g, 0, none⟩ a').setCell ⟨g, 1, none⟩ b').setCell ⟨g, 2, none⟩ c').setCell ⟨g, 3, none⟩ d') :=
  (((h.setCell (p := ⟨g, 0, none⟩) hg _).setCell (p := ⟨g, 1, none⟩) hg _).setCell (p := ⟨g, 2, none⟩) hg _).setCell (p := ⟨g, 3, none⟩) hg _
theorem look_res {tmps : Array Value} {W : World} {g : Nat} {a b c d y : Value} (hb : Bk W g 111 #[a, b, c, d]) (h2 : tmps.getD 4 undef = .pointer (some ⟨g, 0, none⟩)) (h3 : tmps.getD 5 undef = y) :
    (results Try.f96 tmps).run Try.prog W = .ok (.tuple #[.agg #[a, b, c, d], y]) W := by
  have hl := run_loadVar_row (P := Try.prog) W g 111 111 #[a, b, c, d] (0, 0) _ hb Try.underlying111 rfl (by kernel_rfl)
  have h2' : tmps[4]?.getD undef = .pointer (some ⟨g, 0, none⟩) := by simpa using h2
  have h3' : tmps[5]?.getD undef = y := by simpa using h3
  simp [results, Try.results96, h2', h3', asAddr, hl]
theorem look_ok (w : World) (B s g : Nat) (v : Value) (ws : List (BitVec 64)) (b t e : Nat) (p : SpAt w B s g v ws b t e) (hl : ws.length ≤ 100000) (i : Nat) (hi1 : b ≤ i) (hi2 : i < t) (hg : goodX (ws.getD i 0#64) (t - i) = true) :
    Calls Try.prog 96 #[.pointer (some ⟨s, 0, none⟩), .int .i64 i] w (RetP (.tuple #[.agg #[.int .i64 (P0 (ws.getD i 0#64) : Int), .int .i64 (B0 (ws.getD i 0#64) : Int), .bool false, .int .i64 0], .int .i64 0]) w) := by
  have hb := Gw.alloc w (.cells #[.int .i64 0, .int .i64 0, .bool false, .int .i64 0] 111)
  have hp := p.below hb
  have hiw : i < ws.length := by have := p.te; have := p.el; omega
  have HH := Lib.hid (sphead_in _ B s g v ws b t e hp i hi1 hi2 hl hiw)
  obtain ⟨x, hx⟩ : ∃ x, x = ws.getD i 0#64 := ⟨_, rfl⟩
  have hgx : ws[i] = x := by rw [hx, List.getD_eq_getElem?_getD, List.getElem?_eq_getElem hiw]; rfl
  rw [hgx] at HH
  rw [← hx] at hg ⊢
  obtain ⟨hv, hP, hN, hsz, hsh, hroom⟩ := head_of hg
  rw [hv] at HH
  obtain ⟨P, hP'⟩ : ∃ P, P = P0 x := ⟨_, rfl⟩
  obtain ⟨N, hN'⟩ : ∃ N, N = B0 x := ⟨_, rfl⟩
  obtain ⟨Z, hZ'⟩ : ∃ N, N = szX x := ⟨_, rfl⟩
  rw [← hP', ← hN'] at HH hsh ⊢
  rw [← hZ'] at hsh hroom
  have HPt := Lib.hid hp
  have HK := Lib.hid (Bk.new w 111 #[.int .i64 0, .int .i64 0, .bool false, .int .i64 0])
  have HB := Lib.hid hb
  have HS := Lib.hid hsh
  have hrm : decide (t - i < Z) = false := by simp; omega
  have q2 : ((t - i : Nat) : Int) ≤ 100000 := by have := p.te; have := p.el; omega
  have q1 : (t : Int) - (i : Int) = ((t - i : Nat) : Int) := by omega
  obtain ⟨room, hroom'⟩ : ∃ r, r = t - i := ⟨_, rfl⟩
  rw [← hroom'] at hrm q1 q2
  have HQ := Lib.hid (And.intro hrm (And.intro q1 q2))
  clear p hb hp hx hgx hg hv hP hN hsz hsh hroom hP' hN' hZ' hrm q1 q2 hroom' hi1 hiw hl
  go_enter Try.func96, Try.ntmps96
  go_wp2_with fail
  refine Calls.mono HH.out ?_
  rintro r w2 ⟨rfl, b2⟩
  have hk2 := HK.out.below b2 HK.out.lt
  have HB2 := Lib.hid (HB.out.trans (b2.mono HB.out.size))
  have HP2 := Lib.hid (HPt.out.below b2)
  have hkl := hk2.lt
  have HK2 := Lib.hid hk2
  clear b2 hk2 HH
  go_wp2_with fail
  obtain ⟨w3, hw3⟩ : ∃ w3, w3 = w2.alloc (.cells #[.int .i64 P, .int .i64 N, .bool false, .int .i64 0] 111) := ⟨_, rfl⟩
  have hb3 : Below w2.heap.size w2 w3 := by rw [hw3]; exact Gw.alloc w2 _
  have hk3 : Bk w3 w2.heap.size 111 #[.int .i64 P, .int .i64 N, .bool false, .int .i64 0] := by rw [hw3]; exact Bk.new w2 _ _
  have HP3 := Lib.hid (HP2.out.below hb3)
  rw [← hw3]
  have HK3 := Lib.hid (HK2.out.below hb3 HK2.out.lt)
  have HB3 := Lib.hid (HB2.out.trans (hb3.mono HB2.out.size))
  clear hw3 hb3 hkl
  refine lk_s _ _ _ w2.heap.size s i t room Z _ _ _ false hk3 HP3.out.blk.lt HP3.out.four.2.2.1 HS.out HQ.out.2.1 HQ.out.2.2 (Int.natCast_nonneg _) HQ.out.1 rfl rfl rfl rfl ?_
  intro vals w4 hG h30
  unfold IsV at h30
  simp only [putD, Act.put, List.setIfInBounds_toArray, List.set_cons_zero, List.set_cons_succ, h30]
  have hk4 := hk3.below hG hk3.lt
  obtain ⟨d0, d1, d2, d3⟩ := hk4.four
  have hr4 := HK3.out.below hG HK3.out.lt
  have f0 := hr4.free 0
  have f1 := hr4.free 1
  have f2 := hr4.free 2
  have f3 := hr4.free 3
  obtain ⟨c0, c1, c2, c3⟩ := hr4.four
  have hkl := hr4.lt
  have HB4 := Lib.hid (HB3.out.trans (hG.mono HB3.out.size))
  have HR4 := Lib.hid hr4
  clear hG h30 hk3 hk4 hr4
  go_wp2_with fail
  exact bodyPost_ret (v := .tuple #[.agg #[.int .i64 P, .int .i64 N, .bool false, .int .i64 0], .int .i64 0]) (look_res (head_set HR4.out) rfl rfl) rfl ⟨rfl, head_below HB4.out (Nat.le_refl _)⟩
theorem look_out (w : World) (B s g : Nat) (v : Value) (ws : List (BitVec 64)) (b t e : Nat) (p : SpAt w B s g v ws b t e) (i : Int) (hi : i < (b : Int) ∨ (¬ i < (b : Int) ∧ (t : Int) ≤ i)) :
    Calls Try.prog 96 #[.pointer (some ⟨s, 0, none⟩), .int .i64 i] w (RetP (.tuple #[zH, .int .i64 1]) w) := by
  have hb := Gw.alloc w (.cells #[.int .i64 0, .int .i64 0, .bool false, .int .i64 0] 111)
  have HH := Lib.hid (sphead_out _ B s g v ws b t e (p.below hb) i hi)
  have HK := Lib.hid (Bk.new w 111 #[.int .i64 0, .int .i64 0, .bool false, .int .i64 0])
  have HB := Lib.hid hb
  clear p hb hi
  unfold zH
  go_enter Try.func96, Try.ntmps96
  go_wp2_with fail
  refine Calls.mono HH.out ?_
  rintro r w2 ⟨rfl, b2⟩
  have hk2 := (HK.out.below b2 HK.out.lt).alloc (.cells #[.int .i64 0, .int .i64 0, .bool false, .int .i64 0] 111)
  have f0 := hk2.free 0
  have f1 := hk2.free 1
  have f2 := hk2.free 2
  have f3 := hk2.free 3
  obtain ⟨c0, c1, c2, c3⟩ := hk2.four
  have hkl := hk2.lt
  have HB2 := Lib.hid ((HB.out.trans (b2.mono HB.out.size)).alloc (Nat.le_trans HB.out.size b2.size) (.cells #[.int .i64 0, .int .i64 0, .bool false, .int .i64 0] 111))
  have HR := Lib.hid hk2
  clear b2 hk2 HH
  go_wp2_with fail
  exact bodyPost_ret (v := .tuple #[.agg #[.int .i64 0, .int .i64 0, .bool false, .int .i64 0], .int .i64 1]) (look_res (head_set HR.out) rfl rfl) rfl ⟨rfl, head_below HB2.out (Nat.le_refl _)⟩
/-- No object stands there whole. -/
theorem look_bad (w : World) (B s g : Nat) (v : Value) (ws : List (BitVec 64)) (b t e : Nat) (p : SpAt w B s g v ws b t e) (hl : ws.length ≤ 100000) (i : Nat) (hi1 : b ≤ i) (hi2 : i < t) (hg : goodX (ws.getD i 0#64) (t - i) = false) :
    Calls Try.prog 96 #[.pointer (some ⟨s, 0, none⟩), .int .i64 i] w (RetP (.tuple #[zH, .int .i64 2]) w) := by
  have hb := Gw.alloc w (.cells #[.int .i64 0, .int .i64 0, .bool false, .int .i64 0] 111)
  have hp := p.below hb
  have hiw : i < ws.length := by have := p.te; have := p.el; omega
  have HH := Lib.hid (sphead_in _ B s g v ws b t e hp i hi1 hi2 hl hiw)
  obtain ⟨x, hx⟩ : ∃ x, x = ws.getD i 0#64 := ⟨_, rfl⟩
  have hgx : ws[i] = x := by rw [hx, List.getD_eq_getElem?_getD, List.getElem?_eq_getElem hiw]; rfl
  rw [hgx] at HH
  rw [← hx] at hg
  have HPt := Lib.hid hp
  have HK := Lib.hid (Bk.new w 111 #[.int .i64 0, .int .i64 0, .bool false, .int .i64 0])
  have HB := Lib.hid hb
  have HQ := Lib.hid (show ((t - i : Nat) : Int) ≤ 100000 ∧ (t : Int) - (i : Int) = ((t - i : Nat) : Int) from by have := p.te; have := p.el; omega)
  clear p hb hp hx hgx hi1 hiw hl
  unfold zH
  cases hok : okU x with
  | false =>
    rw [unV_bad hok] at HH
    clear hok hg
    go_enter Try.func96, Try.ntmps96
    go_wp2_with fail
    refine Calls.mono HH.out ?_
    rintro r w2 ⟨rfl, b2⟩
    have hk2 := (HK.out.below b2 HK.out.lt).alloc (.cells #[.int .i64 0, .int .i64 0, .bool false, .int .i64 0] 111)
    have f0 := hk2.free 0
    have f1 := hk2.free 1
    have f2 := hk2.free 2
    have f3 := hk2.free 3
    obtain ⟨c0, c1, c2, c3⟩ := hk2.four
    have hkl := hk2.lt
    have HB2 := Lib.hid ((HB.out.trans (b2.mono HB.out.size)).alloc (Nat.le_trans HB.out.size b2.size) (.cells #[.int .i64 0, .int .i64 0, .bool false, .int .i64 0] 111))
    have HR := Lib.hid hk2
    clear b2 hk2 HH
    go_wp2_with fail
    exact bodyPost_ret (v := .tuple #[.agg #[.int .i64 0, .int .i64 0, .bool false, .int .i64 0], .int .i64 2]) (look_res (head_set HR.out) rfl rfl) rfl ⟨rfl, head_below HB2.out (Nat.le_refl _)⟩
  | true =>
    have hv := unV_yes hok
    obtain ⟨F, hF⟩ : ∃ F, F = fP x := ⟨_, rfl⟩
    obtain ⟨G, hG⟩ : ∃ F, F = fB x := ⟨_, rfl⟩
    obtain ⟨T, hT⟩ : ∃ F, F = fT x := ⟨_, rfl⟩
    cases hm : fM x with
    | true =>
      rw [hm, ← hF, ← hG, ← hT] at hv
      rw [hv] at HH
      clear hv hF hG hT hm hok hg
      go_enter Try.func96, Try.ntmps96
      go_wp2_with fail
      refine Calls.mono HH.out ?_
      rintro r w2 ⟨rfl, b2⟩
      have HK2 := Lib.hid (HK.out.below b2 HK.out.lt)
      have HB2 := Lib.hid (HB.out.trans (b2.mono HB.out.size))
      have hkl := HK2.out.lt
      clear b2 HH
      go_wp2_with fail
      obtain ⟨w3, hw3⟩ : ∃ w3, w3 = w2.alloc (.cells #[.int .i64 F, .int .i64 G, .bool true, .int .i64 T] 111) := ⟨_, rfl⟩
      have hb3 : Below w2.heap.size w2 w3 := by rw [hw3]; exact Gw.alloc w2 _
      have hk3 : Bk w3 w2.heap.size 111 #[.int .i64 F, .int .i64 G, .bool true, .int .i64 T] := by rw [hw3]; exact Bk.new w2 _ _
      rw [← hw3]
      have HK3 := Lib.hid (HK2.out.below hb3 HK2.out.lt)
      have HB3 := Lib.hid (HB2.out.trans (hb3.mono HB2.out.size))
      clear hw3 hb3 hkl
      refine lk_m _ _ _ w2.heap.size _ _ _ hk3 rfl rfl ?_
      intro vals w4 hG h30
      unfold IsV at h30
      simp only [putD, Act.put, List.setIfInBounds_toArray, List.set_cons_zero, List.set_cons_succ, h30]
      have hr4 := HK3.out.below hG HK3.out.lt
      have f0 := hr4.free 0
      have f1 := hr4.free 1
      have f2 := hr4.free 2
      have f3 := hr4.free 3
      obtain ⟨c0, c1, c2, c3⟩ := hr4.four
      have hkl := hr4.lt
      have HB4 := Lib.hid (HB3.out.trans (hG.mono HB3.out.size))
      have HR4 := Lib.hid hr4
      clear hG h30 hk3 hr4
      go_wp2_with fail
      exact bodyPost_ret (v := .tuple #[.agg #[.int .i64 0, .int .i64 0, .bool false, .int .i64 0], .int .i64 2]) (look_res (head_set HR4.out) rfl rfl) rfl ⟨rfl, head_below HB4.out (Nat.le_refl _)⟩
    | false =>
      have hsz := szX_pos hok hm
      obtain ⟨Z, hZ⟩ : ∃ Z, Z = szX x := ⟨_, rfl⟩
      rw [← hF, ← hG, ← hT, ← hZ] at hsz
      have HS := Lib.hid hsz.1
      have hrm : decide (t - i < Z) = true := by
        unfold goodX at hg
        rw [hok, hm, ← hZ] at hg
        simp at hg
        simp; omega
      obtain ⟨room, hroom'⟩ : ∃ r, r = t - i := ⟨_, rfl⟩
      rw [← hroom'] at hrm HQ
      have HR := Lib.hid hrm
      rw [hm, ← hF, ← hG, ← hT] at hv
      rw [hv] at HH
      clear hv hF hG hT hm hok hg hsz hZ hrm hroom'
      go_enter Try.func96, Try.ntmps96
      go_wp2_with fail
      refine Calls.mono HH.out ?_
      rintro r w2 ⟨rfl, b2⟩
      have HK2 := Lib.hid (HK.out.below b2 HK.out.lt)
      have HB2 := Lib.hid (HB.out.trans (b2.mono HB.out.size))
      have HP2 := Lib.hid (HPt.out.below b2)
      have hkl := HK2.out.lt
      clear b2 HH
      go_wp2_with fail
      obtain ⟨w3, hw3⟩ : ∃ w3, w3 = w2.alloc (.cells #[.int .i64 F, .int .i64 G, .bool false, .int .i64 T] 111) := ⟨_, rfl⟩
      have hb3 : Below w2.heap.size w2 w3 := by rw [hw3]; exact Gw.alloc w2 _
      have hk3 : Bk w3 w2.heap.size 111 #[.int .i64 F, .int .i64 G, .bool false, .int .i64 T] := by rw [hw3]; exact Bk.new w2 _ _
      have HP3 := Lib.hid (HP2.out.below hb3)
      rw [← hw3]
      have HK3 := Lib.hid (HK2.out.below hb3 HK2.out.lt)
      have HB3 := Lib.hid (HB2.out.trans (hb3.mono HB2.out.size))
      clear hw3 hb3 hkl
      refine lk_s _ _ _ w2.heap.size s i t room Z _ _ _ true hk3 HP3.out.blk.lt HP3.out.four.2.2.1 HS.out HQ.out.2 HQ.out.1 (Int.natCast_nonneg _) HR.out rfl rfl rfl rfl ?_
      intro vals w4 hG h30
      unfold IsV at h30
      simp only [putD, Act.put, List.setIfInBounds_toArray, List.set_cons_zero, List.set_cons_succ, h30]
      have hr4 := HK3.out.below hG HK3.out.lt
      have f0 := hr4.free 0
      have f1 := hr4.free 1
      have f2 := hr4.free 2
      have f3 := hr4.free 3
      obtain ⟨c0, c1, c2, c3⟩ := hr4.four
      have hkl := hr4.lt
      have HB4 := Lib.hid (HB3.out.trans (hG.mono HB3.out.size))
      have HR4 := Lib.hid hr4
      clear hG h30 hk3 hr4
      go_wp2_with fail
      exact bodyPost_ret (v := .tuple #[.agg #[.int .i64 0, .int .i64 0, .bool false, .int .i64 0], .int .i64 2]) (look_res (head_set HR4.out) rfl rfl) rfl ⟨rfl, head_below HB4.out (Nat.le_refl _)⟩
end Go.Proofs.Ytaminpfgkegibaa
