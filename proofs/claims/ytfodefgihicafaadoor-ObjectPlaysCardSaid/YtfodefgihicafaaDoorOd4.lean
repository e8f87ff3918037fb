/- Texts joined: RoA RoB RoD ObL RbY RoC RoE MmH. -/
import Derived.Test.YtfodefgihicafaaDoorOd3
import Derived.Deep.CutRange
import Derived.Test.YtfodefgihicafaaDoorRegT2
/- The reference's object: the header of an object that stands there whole (written by tool/mkro.py out of ObA). Conditions: lengths. -/
namespace Go.Proofs.YtfodefgihicafaaDoor
set_option linter.unusedVariables false
set_option linter.unusedSimpArgs false
open Go.RowKit
set_option maxHeartbeats 1000000
set_option maxRecDepth 100000
theorem rlk_m (Q : Exit → Act → World → Prop) (a0 : Act) (w : World) (H : Nat) (p b t : Int) (hk : Bk w H 74 #[.int .i64 p, .int .i64 b, .bool true, .int .i64 t]) (hsz : a0.tmps.size = 33) (sl6 : a0.tmps.getD 6 undef = .pointer (some ⟨H, 0, none⟩))
    (fin : ∀ (vals : Nat → Value) (w1 : World), Below w.heap.size w w1 → (IsV (.bool true)) (vals 12) w1 → Q .normal (putD vals [18, 19, 20, 21, 22, 23, 24, 25, 26, 27, 28, 29, 30] 0 a0) w1) :
    (Code.region 4 (regIn Tryd.f31 4) true).wp Tryd.prog Q a0 w := by
  refine region_by (G := fun w w1 => Below w.heap.size w w1) [IsV (.pointer (some ⟨H, 2, none⟩)),
    IsV (.bool true),
    IsV (.bool true),
    IsV undef,
    IsV undef,
    IsV undef,
    IsV undef,
    IsV undef,
    IsV undef,
    IsV undef,
    IsV undef,
    IsV undef,
    IsV (.bool true)]
    [18, 19, 20, 21, 22, 23, 24, 25, 26, 27, 28, 29, 30] (by kernel_rfl) (Gw.drew _) Gw.trans (by rw [hsz]; kernel_rfl) (by kernel_rfl) ?_ ?_ ?_
  · intro f hf
    simp only [List.mem_cons, List.not_mem_nil, or_false] at hf
    rcases hf with rfl | rfl | rfl | rfl | rfl | rfl | rfl | rfl | rfl | rfl | rfl | rfl | rfl <;> intro v a b h g <;> first | exact IsV.mono h
  · refine ⟨?_, ?_, ?_, ?_, ?_, ?_, ?_, ?_, ?_, ?_, ?_, ?_, ?_, trivial⟩
    · refine owes_v (Go.Op.fieldAddr 74 (Go.Operand.tmp 6) 2) 0 [] (by kernel_rfl) (by kernel_rfl) (by kernel_rfl) rfl fun vals w1 ρ hG hF hρ hcst hfun => ?_
      have e6 : ρ (.tmp 6) = .pointer (some ⟨H, 0, none⟩) := ((hρ 6).trans (slotO [] (by kernel_rfl))).trans sl6
      clear hρ hF hcst hfun sl6 fin
      exact opv_val (by go_simp <;> rfl) ⟨gw_self _, rfl⟩
    · refine owes_v (Go.Op.load 4 (Go.Operand.tmp 18)) 4 [0] (by kernel_rfl) (by kernel_rfl) (by kernel_rfl) rfl fun vals w1 ρ hG hF hρ hcst hfun => ?_
      have e18 : ρ (.tmp 18) = .pointer (some ⟨H, 2, none⟩) := ((hρ 18).trans (slotJ [0] (by rw [hsz]; decide) (by kernel_rfl))).trans (hF 0 (by decide))
      have k := ((hk.below hG hk.lt).four).2.2.1
      clear hρ hF hcst hfun sl6 fin
      exact opv_val (by go_simp <;> rfl) ⟨gw_self _, rfl⟩
    · exact owes_mvj 1 19 (by kernel_rfl) (by kernel_rfl) (by kernel_rfl) (by kernel_rfl) (by rw [hsz]; decide) (fun v w h => h)
    · exact owes_no 2 true false (by decide) (by kernel_rfl) (by kernel_rfl) (fun _ _ h => h) (by rw [hsz]; kernel_rfl) (fun _ => rfl)
    · exact owes_no 2 true false (by decide) (by kernel_rfl) (by kernel_rfl) (fun _ _ h => h) (by rw [hsz]; kernel_rfl) (fun _ => rfl)
    · exact owes_no 2 true false (by decide) (by kernel_rfl) (by kernel_rfl) (fun _ _ h => h) (by rw [hsz]; kernel_rfl) (fun _ => rfl)
    · exact owes_no 2 true false (by decide) (by kernel_rfl) (by kernel_rfl) (fun _ _ h => h) (by rw [hsz]; kernel_rfl) (fun _ => rfl)
    · exact owes_no 2 true false (by decide) (by kernel_rfl) (by kernel_rfl) (fun _ _ h => h) (by rw [hsz]; kernel_rfl) (fun _ => rfl)
    · exact owes_no 2 true false (by decide) (by kernel_rfl) (by kernel_rfl) (fun _ _ h => h) (by rw [hsz]; kernel_rfl) (fun _ => rfl)
    · exact owes_no 2 true false (by decide) (by kernel_rfl) (by kernel_rfl) (fun _ _ h => h) (by rw [hsz]; kernel_rfl) (fun _ => rfl)
    · exact owes_no 2 true false (by decide) (by kernel_rfl) (by kernel_rfl) (fun _ _ h => h) (by rw [hsz]; kernel_rfl) (fun _ => rfl)
    · exact owes_no 2 true false (by decide) (by kernel_rfl) (by kernel_rfl) (fun _ _ h => h) (by rw [hsz]; kernel_rfl) (fun _ => rfl)
    · refine owes_v (Go.Op.pick (Go.Operand.tmp 20) (Go.Operand.const (Go.Value.bool true)) (Go.Operand.tmp 29)) 4 [2, 11] (by kernel_rfl) (by kernel_rfl) (by kernel_rfl) rfl fun vals w1 ρ hG hF hρ hcst hfun => ?_
      have e20 : ρ (.tmp 20) = .bool true := ((hρ 20).trans (slotJ [2, 11] (by rw [hsz]; decide) (by kernel_rfl))).trans (hF 2 (by decide))
      have e29 : ρ (.tmp 29) = undef := ((hρ 29).trans (slotJ [2, 11] (by rw [hsz]; decide) (by kernel_rfl))).trans (hF 11 (by decide))
      clear hρ hF hfun sl6 fin
      exact opv_val (by go_simp <;> rfl) ⟨gw_self _, rfl⟩
  · intro vals w1 hG hF
    exact fin vals w1 hG (hF 12 (by decide +kernel))
theorem rlk_s (Q : Exit → Act → World → Prop) (a0 : Act) (w : World) (H s a top room sz : Nat) (p b t : Int) (r : Bool) (hk : Bk w H 74 #[.int .i64 p, .int .i64 b, .bool false, .int .i64 t]) (hs : s < w.heap.size) (ct : w.cell? ⟨s, 2, none⟩ = some (.int .i64 top)) (hz : sizeH p b false t = (sz : Int)) (d1 : (top : Int) - (a : Int) = (room : Int)) (d2 : (room : Int) ≤ 100000) (d3 : (0 : Int) ≤ (room : Int)) (hr : decide (room < sz) = r) (hsz : a0.tmps.size = 33) (sl0 : a0.tmps.getD 0 undef = .pointer (some ⟨s, 0, none⟩)) (sl1 : a0.tmps.getD 1 undef = .int .i64 a) (sl6 : a0.tmps.getD 6 undef = .pointer (some ⟨H, 0, none⟩))
    (fin : ∀ (vals : Nat → Value) (w1 : World), Below w.heap.size w w1 → (IsV (.bool r)) (vals 12) w1 → Q .normal (putD vals [18, 19, 20, 21, 22, 23, 24, 25, 26, 27, 28, 29, 30] 0 a0) w1) :
    (Code.region 4 (regIn Tryd.f31 4) true).wp Tryd.prog Q a0 w := by
  refine region_by (G := fun w w1 => Below w.heap.size w w1) [IsV (.pointer (some ⟨H, 2, none⟩)),
    IsV (.bool false),
    IsV (.bool false),
    IsV (.agg #[.int .i64 p, .int .i64 b, .bool false, .int .i64 t]),
    IsV (.int .i64 sz),
    IsV (.pointer (some ⟨s, 0, none⟩)),
    IsV (.pointer (some ⟨s, 0, none⟩)),
    IsV (.pointer (some ⟨s, 2, none⟩)),
    IsV (.int .i64 top),
    IsV (.int .i64 a),
    IsV (.int .i64 room),
    IsV (.bool r),
    IsV (.bool r)]
    [18, 19, 20, 21, 22, 23, 24, 25, 26, 27, 28, 29, 30] (by kernel_rfl) (Gw.drew _) Gw.trans (by rw [hsz]; kernel_rfl) (by kernel_rfl) ?_ ?_ ?_
  · intro f hf
    simp only [List.mem_cons, List.not_mem_nil, or_false] at hf
    rcases hf with rfl | rfl | rfl | rfl | rfl | rfl | rfl | rfl | rfl | rfl | rfl | rfl | rfl <;> intro v a b h g <;> first | exact IsV.mono h
  · refine ⟨?_, ?_, ?_, ?_, ?_, ?_, ?_, ?_, ?_, ?_, ?_, ?_, ?_, trivial⟩
    · refine owes_v (Go.Op.fieldAddr 74 (Go.Operand.tmp 6) 2) 0 [] (by kernel_rfl) (by kernel_rfl) (by kernel_rfl) rfl fun vals w1 ρ hG hF hρ hcst hfun => ?_
      have e6 : ρ (.tmp 6) = .pointer (some ⟨H, 0, none⟩) := ((hρ 6).trans (slotO [] (by kernel_rfl))).trans sl6
      clear hρ hF hcst hfun sl0 sl1 sl6 fin
      exact opv_val (by go_simp <;> rfl) ⟨gw_self _, rfl⟩
    · refine owes_v (Go.Op.load 4 (Go.Operand.tmp 18)) 4 [0] (by kernel_rfl) (by kernel_rfl) (by kernel_rfl) rfl fun vals w1 ρ hG hF hρ hcst hfun => ?_
      have e18 : ρ (.tmp 18) = .pointer (some ⟨H, 2, none⟩) := ((hρ 18).trans (slotJ [0] (by rw [hsz]; decide) (by kernel_rfl))).trans (hF 0 (by decide))
      have k := ((hk.below hG hk.lt).four).2.2.1
      clear hρ hF hcst hfun sl0 sl1 sl6 fin
      exact opv_val (by go_simp <;> rfl) ⟨gw_self _, rfl⟩
    · exact owes_mvj 1 19 (by kernel_rfl) (by kernel_rfl) (by kernel_rfl) (by kernel_rfl) (by rw [hsz]; decide) (fun v w h => h)
    · refine owes_vt 2 false (Go.Op.load 74 (Go.Operand.tmp 6)) 74 [] (by kernel_rfl) (by kernel_rfl) (by kernel_rfl) (fun _ _ h => h) (by rw [hsz]; kernel_rfl) (by kernel_rfl) rfl fun vals w1 ρ hG hF hρ hcst hfun => ?_
      have e6 : ρ (.tmp 6) = .pointer (some ⟨H, 0, none⟩) := ((hρ 6).trans (slotO [] (by kernel_rfl))).trans sl6
      obtain ⟨k1, k2, k3, k4⟩ := (hk.below hG hk.lt).four
      clear hρ hF hcst hfun sl0 sl1 sl6 fin
      exact opv_val (by go_simp <;> rfl) ⟨gw_self _, rfl⟩
    · refine owes_vt 2 false (Go.Op.call { callee := Go.Callee.value (Go.Operand.func 65), args := #[Go.Operand.tmp 21], argTypes := #[74] }) 3 [3] (by kernel_rfl) (by kernel_rfl) (by kernel_rfl) (fun _ _ h => h) (by rw [hsz]; kernel_rfl) (by kernel_rfl) rfl fun vals w1 ρ hG hF hρ hcst hfun => ?_
      have e21 : ρ (.tmp 21) = .agg #[.int .i64 p, .int .i64 b, .bool false, .int .i64 t] := ((hρ 21).trans (slotJ [3] (by rw [hsz]; decide) (by kernel_rfl))).trans (hF 3 (by decide))
      have kz := rsize_c p b false t w1
      rw [hz] at kz
      clear hρ hF hcst sl0 sl1 sl6 fin
      exact opv_enter (by go_simp <;> rfl) (of_rp kz)
    · refine owes_vt 2 false (Go.Op.move (Go.Operand.tmp 0)) 27 [] (by kernel_rfl) (by kernel_rfl) (by kernel_rfl) (fun _ _ h => h) (by rw [hsz]; kernel_rfl) (by kernel_rfl) rfl fun vals w1 ρ hG hF hρ hcst hfun => ?_
      have e0 : ρ (.tmp 0) = .pointer (some ⟨s, 0, none⟩) := ((hρ 0).trans (slotO [] (by kernel_rfl))).trans sl0
      clear hρ hF hcst hfun sl0 sl1 sl6 fin
      exact opv_val (by go_simp <;> rfl) ⟨gw_self _, rfl⟩
    · refine owes_vt 2 false (Go.Op.nilCheck (Go.Operand.tmp 23)) 0 [5] (by kernel_rfl) (by kernel_rfl) (by kernel_rfl) (fun _ _ h => h) (by rw [hsz]; kernel_rfl) (by kernel_rfl) rfl fun vals w1 ρ hG hF hρ hcst hfun => ?_
      have e23 : ρ (.tmp 23) = .pointer (some ⟨s, 0, none⟩) := ((hρ 23).trans (slotJ [5] (by rw [hsz]; decide) (by kernel_rfl))).trans (hF 5 (by decide))
      clear hρ hF hcst hfun sl0 sl1 sl6 fin
      exact opv_val (by go_simp <;> rfl) ⟨gw_self _, rfl⟩
    · refine owes_vt 2 false (Go.Op.fieldAddr 29 (Go.Operand.tmp 24) 2) 0 [6] (by kernel_rfl) (by kernel_rfl) (by kernel_rfl) (fun _ _ h => h) (by rw [hsz]; kernel_rfl) (by kernel_rfl) rfl fun vals w1 ρ hG hF hρ hcst hfun => ?_
      have e24 : ρ (.tmp 24) = .pointer (some ⟨s, 0, none⟩) := ((hρ 24).trans (slotJ [6] (by rw [hsz]; decide) (by kernel_rfl))).trans (hF 6 (by decide))
      clear hρ hF hcst hfun sl0 sl1 sl6 fin
      exact opv_val (by go_simp <;> rfl) ⟨gw_self _, rfl⟩
    · refine owes_vt 2 false (Go.Op.load 3 (Go.Operand.tmp 25)) 3 [7] (by kernel_rfl) (by kernel_rfl) (by kernel_rfl) (fun _ _ h => h) (by rw [hsz]; kernel_rfl) (by kernel_rfl) rfl fun vals w1 ρ hG hF hρ hcst hfun => ?_
      have e25 : ρ (.tmp 25) = .pointer (some ⟨s, 2, none⟩) := ((hρ 25).trans (slotJ [7] (by rw [hsz]; decide) (by kernel_rfl))).trans (hF 7 (by decide))
      have k := (hG.cell (p := ⟨s, 2, none⟩) hs).trans ct
      clear hρ hF hcst hfun sl0 sl1 sl6 fin
      exact opv_val (by go_simp <;> rfl) ⟨gw_self _, rfl⟩
    · refine owes_vt 2 false (Go.Op.move (Go.Operand.tmp 1)) 3 [] (by kernel_rfl) (by kernel_rfl) (by kernel_rfl) (fun _ _ h => h) (by rw [hsz]; kernel_rfl) (by kernel_rfl) rfl fun vals w1 ρ hG hF hρ hcst hfun => ?_
      have e1 : ρ (.tmp 1) = .int .i64 a := ((hρ 1).trans (slotO [] (by kernel_rfl))).trans sl1
      clear hρ hF hcst hfun sl0 sl1 sl6 fin
      exact opv_val (by go_simp <;> rfl) ⟨gw_self _, rfl⟩
    · refine owes_vt 2 false (Go.Op.binOp Go.BinOp.sub 3 (Go.Operand.tmp 26) (Go.Operand.tmp 27) 3) 3 [8, 9] (by kernel_rfl) (by kernel_rfl) (by kernel_rfl) (fun _ _ h => h) (by rw [hsz]; kernel_rfl) (by kernel_rfl) rfl fun vals w1 ρ hG hF hρ hcst hfun => ?_
      have e26 : ρ (.tmp 26) = .int .i64 top := ((hρ 26).trans (slotJ [8, 9] (by rw [hsz]; decide) (by kernel_rfl))).trans (hF 8 (by decide))
      have e27 : ρ (.tmp 27) = .int .i64 a := ((hρ 27).trans (slotJ [8, 9] (by rw [hsz]; decide) (by kernel_rfl))).trans (hF 9 (by decide))
      have kw0 : IntKind.i64.wrap ((room : Int)) = (room : Int) := wrapIn (by omega) (by omega)
      clear hρ hF hcst hfun sl0 sl1 sl6 fin
      exact opv_val (by go_simp <;> rfl) ⟨gw_self _, rfl⟩
    · refine owes_vt 2 false (Go.Op.binOp Go.BinOp.gtr 3 (Go.Operand.tmp 22) (Go.Operand.tmp 28) 3) 4 [4, 10] (by kernel_rfl) (by kernel_rfl) (by kernel_rfl) (fun _ _ h => h) (by rw [hsz]; kernel_rfl) (by kernel_rfl) rfl fun vals w1 ρ hG hF hρ hcst hfun => ?_
      have e22 : ρ (.tmp 22) = .int .i64 sz := ((hρ 22).trans (slotJ [4, 10] (by rw [hsz]; decide) (by kernel_rfl))).trans (hF 4 (by decide))
      have e28 : ρ (.tmp 28) = .int .i64 room := ((hρ 28).trans (slotJ [4, 10] (by rw [hsz]; decide) (by kernel_rfl))).trans (hF 10 (by decide))
      clear hρ hF hcst hfun sl0 sl1 sl6 fin
      exact opv_val (by go_simp <;> first | rfl | exact hr | rw [hr]) ⟨gw_self _, rfl⟩
    · refine owes_v (Go.Op.pick (Go.Operand.tmp 20) (Go.Operand.const (Go.Value.bool true)) (Go.Operand.tmp 29)) 4 [2, 11] (by kernel_rfl) (by kernel_rfl) (by kernel_rfl) rfl fun vals w1 ρ hG hF hρ hcst hfun => ?_
      have e20 : ρ (.tmp 20) = .bool false := ((hρ 20).trans (slotJ [2, 11] (by rw [hsz]; decide) (by kernel_rfl))).trans (hF 2 (by decide))
      have e29 : ρ (.tmp 29) = .bool r := ((hρ 29).trans (slotJ [2, 11] (by rw [hsz]; decide) (by kernel_rfl))).trans (hF 11 (by decide))
      clear hρ hF hfun sl0 sl1 sl6 fin
      exact opv_val (by go_simp <;> rfl) ⟨gw_self _, rfl⟩
  · intro vals w1 hG hF
    exact fin vals w1 hG (hF 12 (by decide +kernel))
theorem rhead_set {W : World} {g : Nat} {a b c d a' b' c' d' : Value} (h : Bk W g 74 #[a, b, c, d]) : Bk ((((W.setCell ⟨g, 0, none⟩ a').setCell ⟨g, 1, none⟩ b').setCell ⟨g, 2, none⟩ c').setCell ⟨g, 3, none⟩ d') g 74 #[a', b', c', d'] := by
  have k := (((h.set 0 a').set 1 b').set 2 c').set 3 d'
  simpa using k
theorem robj_res {tmps : Array Value} {W : World} {g : Nat} {a b c d y : Value} (hb : Bk W g 74 #[a, b, c, d]) (h2 : tmps.getD 4 undef = .pointer (some ⟨g, 0, none⟩)) (h3 : tmps.getD 5 undef = y) :
    (results Tryd.f31 tmps).run Tryd.prog W = .ok (.tuple #[.agg #[a, b, c, d], y]) W := by
  have hl := run_loadVar_row (P := Tryd.prog) W g 74 74 #[a, b, c, d] (0, 0) _ hb Tryd.underlying74 rfl (by kernel_rfl)
  have h2' : tmps[4]?.getD undef = .pointer (some ⟨g, 0, none⟩) := by simpa using h2
  have h3' : tmps[5]?.getD undef = y := by simpa using h3
  simp [results, Tryd.results31, h2', h3', asAddr, hl]
theorem robj_ok (w : World) (s c : Nat) (A : Option Addr) (ws : List (BitVec 64)) (b t e : Nat) (p : RefAt w s A c ws b t e) (hte : t ≤ ws.length) (hl : ws.length ≤ 100000) (i : Nat) (hi1 : b ≤ i) (hi2 : i < t) (hg : goodX (ws.getD i 0#64) (t - i) = true) :
    Calls Tryd.prog 31 #[.pointer (some ⟨s, 0, none⟩), .int .i64 i] w (RetP (.tuple #[.agg #[.int .i64 (P0 (ws.getD i 0#64) : Int), .int .i64 (B0 (ws.getD i 0#64) : Int), .bool false, .int .i64 0], .int .i64 0]) w) := by
  have hb := Gw.alloc w (.cells #[.int .i64 0, .int .i64 0, .bool false, .int .i64 0] 74)
  have hp := p.below hb
  have hiw : i < ws.length := by omega
  have HH := Lib.hid (rhead_in _ s b t e c A ws hp.blk hp.rd i hi1 hi2 hl hiw)
  obtain ⟨x, hx⟩ : ∃ x, x = ws.getD i 0#64 := ⟨_, rfl⟩
  have hgx : ws[i] = x := by rw [hx, List.getD_eq_getElem?_getD, List.getElem?_eq_getElem hiw]; rfl
  rw [hgx] at HH
  rw [← hx] at hg ⊢
  obtain ⟨hv, hP, hN, hsz, hsh, hroom⟩ := head_of hg
  rw [hv] at HH
  obtain ⟨P, hP'⟩ : ∃ P, P = P0 x := ⟨_, rfl⟩
  obtain ⟨N, hN'⟩ : ∃ N, N = B0 x := ⟨_, rfl⟩
  obtain ⟨Z, hZ'⟩ : ∃ N, N = szX x := ⟨_, rfl⟩
  rw [← hP', ← hN'] at HH hsh ⊢
  rw [← hZ'] at hsh hroom
  have HPt := Lib.hid hp
  have HK := Lib.hid (Bk.new w 74 #[.int .i64 0, .int .i64 0, .bool false, .int .i64 0])
  have HB := Lib.hid hb
  have HS := Lib.hid hsh
  have hrm : decide (t - i < Z) = false := by simp; omega
  have q2 : ((t - i : Nat) : Int) ≤ 100000 := by omega
  have q1 : (t : Int) - (i : Int) = ((t - i : Nat) : Int) := by omega
  obtain ⟨room, hroom'⟩ : ∃ r, r = t - i := ⟨_, rfl⟩
  rw [← hroom'] at hrm q1 q2
  have HQ := Lib.hid (And.intro hrm (And.intro q1 q2))
  clear p hb hp hx hgx hg hv hP hN hsz hsh hroom hP' hN' hZ' hrm q1 q2 hroom' hi1 hiw hl
  go_enter Tryd.func31, Tryd.ntmps31
  go_wp2_with fail
  refine Calls.mono HH.out ?_
  rintro r w2 ⟨rfl, b2⟩
  have hk2 := HK.out.below b2 HK.out.lt
  have HB2 := Lib.hid (HB.out.trans (b2.mono HB.out.size))
  have HP2 := Lib.hid (HPt.out.below b2)
  have hkl := hk2.lt
  have HK2 := Lib.hid hk2
  clear b2 hk2 HH
  go_wp2_with fail
  obtain ⟨w3, hw3⟩ : ∃ w3, w3 = w2.alloc (.cells #[.int .i64 P, .int .i64 N, .bool false, .int .i64 0] 74) := ⟨_, rfl⟩
  have hb3 : Below w2.heap.size w2 w3 := by rw [hw3]; exact Gw.alloc w2 _
  have hk3 : Bk w3 w2.heap.size 74 #[.int .i64 P, .int .i64 N, .bool false, .int .i64 0] := by rw [hw3]; exact Bk.new w2 _ _
  have HP3 := Lib.hid (HP2.out.below hb3)
  rw [← hw3]
  have HK3 := Lib.hid (HK2.out.below hb3 HK2.out.lt)
  have HB3 := Lib.hid (HB2.out.trans (hb3.mono HB2.out.size))
  clear hw3 hb3 hkl
  refine rlk_s _ _ _ w2.heap.size s i t room Z _ _ _ false hk3 HP3.out.blk.lt HP3.out.four.2.2.1 HS.out HQ.out.2.1 HQ.out.2.2 (Int.natCast_nonneg _) HQ.out.1 rfl rfl rfl rfl ?_
  intro vals w4 hG h30
  unfold IsV at h30
  simp only [putD, Act.put, List.setIfInBounds_toArray, List.set_cons_zero, List.set_cons_succ, h30]
  have hk4 := hk3.below hG hk3.lt
  obtain ⟨d0, d1, d2, d3⟩ := hk4.four
  have hr4 := HK3.out.below hG HK3.out.lt
  have f0 := hr4.free 0
  have f1 := hr4.free 1
  have f2 := hr4.free 2
  have f3 := hr4.free 3
  obtain ⟨c0, c1, c2, c3⟩ := hr4.four
  have hkl := hr4.lt
  have HB4 := Lib.hid (HB3.out.trans (hG.mono HB3.out.size))
  have HR4 := Lib.hid hr4
  clear hG h30 hk3 hk4 hr4
  go_wp2_with fail
  exact bodyPost_ret (v := .tuple #[.agg #[.int .i64 P, .int .i64 N, .bool false, .int .i64 0], .int .i64 0]) (robj_res (rhead_set HR4.out) rfl rfl) rfl ⟨rfl, head_below HB4.out (Nat.le_refl _)⟩
theorem robj_out (w : World) (s c : Nat) (A : Option Addr) (ws : List (BitVec 64)) (b t e : Nat) (p : RefAt w s A c ws b t e) (hte : t ≤ ws.length) (i : Int) (hi : i < (b : Int) ∨ (¬ i < (b : Int) ∧ (t : Int) ≤ i)) :
    Calls Tryd.prog 31 #[.pointer (some ⟨s, 0, none⟩), .int .i64 i] w (RetP (.tuple #[zH, .int .i64 1]) w) := by
  have hb := Gw.alloc w (.cells #[.int .i64 0, .int .i64 0, .bool false, .int .i64 0] 74)
  have HH := Lib.hid (rhead_out _ s b t e c ws.length A (p.below hb).blk i hi)
  have HK := Lib.hid (Bk.new w 74 #[.int .i64 0, .int .i64 0, .bool false, .int .i64 0])
  have HB := Lib.hid hb
  clear p hb hi
  unfold zH
  go_enter Tryd.func31, Tryd.ntmps31
  go_wp2_with fail
  refine Calls.mono HH.out ?_
  rintro r w2 ⟨rfl, b2⟩
  have hk2 := (HK.out.below b2 HK.out.lt).alloc (.cells #[.int .i64 0, .int .i64 0, .bool false, .int .i64 0] 74)
  have f0 := hk2.free 0
  have f1 := hk2.free 1
  have f2 := hk2.free 2
  have f3 := hk2.free 3
  obtain ⟨c0, c1, c2, c3⟩ := hk2.four
  have hkl := hk2.lt
  have HB2 := Lib.hid ((HB.out.trans (b2.mono HB.out.size)).alloc (Nat.le_trans HB.out.size b2.size) (.cells #[.int .i64 0, .int .i64 0, .bool false, .int .i64 0] 74))
  have HR := Lib.hid hk2
  clear b2 hk2 HH
  go_wp2_with fail
  exact bodyPost_ret (v := .tuple #[.agg #[.int .i64 0, .int .i64 0, .bool false, .int .i64 0], .int .i64 1]) (robj_res (rhead_set HR.out) rfl rfl) rfl ⟨rfl, head_below HB2.out (Nat.le_refl _)⟩
/-- No object stands there whole. -/
theorem robj_bad (w : World) (s c : Nat) (A : Option Addr) (ws : List (BitVec 64)) (b t e : Nat) (p : RefAt w s A c ws b t e) (hte : t ≤ ws.length) (hl : ws.length ≤ 100000) (i : Nat) (hi1 : b ≤ i) (hi2 : i < t) (hg : goodX (ws.getD i 0#64) (t - i) = false) :
    Calls Tryd.prog 31 #[.pointer (some ⟨s, 0, none⟩), .int .i64 i] w (RetP (.tuple #[zH, .int .i64 2]) w) := by
  have hb := Gw.alloc w (.cells #[.int .i64 0, .int .i64 0, .bool false, .int .i64 0] 74)
  have hp := p.below hb
  have hiw : i < ws.length := by omega
  have HH := Lib.hid (rhead_in _ s b t e c A ws hp.blk hp.rd i hi1 hi2 hl hiw)
  obtain ⟨x, hx⟩ : ∃ x, x = ws.getD i 0#64 := ⟨_, rfl⟩
  have hgx : ws[i] = x := by rw [hx, List.getD_eq_getElem?_getD, List.getElem?_eq_getElem hiw]; rfl
  rw [hgx] at HH
  rw [← hx] at hg
  have HPt := Lib.hid hp
  have HK := Lib.hid (Bk.new w 74 #[.int .i64 0, .int .i64 0, .bool false, .int .i64 0])
  have HB := Lib.hid hb
  have HQ := Lib.hid (show ((t - i : Nat) : Int) ≤ 100000 ∧ (t : Int) - (i : Int) = ((t - i : Nat) : Int) from by omega)
  clear p hb hp hx hgx hi1 hiw hl
  unfold zH
  cases hok : okU x with
  | false =>
    rw [unV_bad hok] at HH
    clear hok hg
    go_enter Tryd.func31, Tryd.ntmps31
    go_wp2_with fail
    refine Calls.mono HH.out ?_
    rintro r w2 ⟨rfl, b2⟩
    have hk2 := (HK.out.below b2 HK.out.lt).alloc (.cells #[.int .i64 0, .int .i64 0, .bool false, .int .i64 0] 74)
    have f0 := hk2.free 0
    have f1 := hk2.free 1
    have f2 := hk2.free 2
    have f3 := hk2.free 3
    obtain ⟨c0, c1, c2, c3⟩ := hk2.four
    have hkl := hk2.lt
    have HB2 := Lib.hid ((HB.out.trans (b2.mono HB.out.size)).alloc (Nat.le_trans HB.out.size b2.size) (.cells #[.int .i64 0, .int .i64 0, .bool false, .int .i64 0] 74))
    have HR := Lib.hid hk2
    clear b2 hk2 HH
    go_wp2_with fail
    exact bodyPost_ret (v := .tuple #[.agg #[.int .i64 0, .int .i64 0, .bool false, .int .i64 0], .int .i64 2]) (robj_res (rhead_set HR.out) rfl rfl) rfl ⟨rfl, head_below HB2.out (Nat.le_refl _)⟩
  | true =>
    have hv := unV_yes hok
    obtain ⟨F, hF⟩ : ∃ F, F = fP x := ⟨_, rfl⟩
    obtain ⟨G, hG⟩ : ∃ F, F = fB x := ⟨_, rfl⟩
    obtain ⟨T, hT⟩ : ∃ F, F = fT x := ⟨_, rfl⟩
    cases hm : fM x with
    | true =>
      rw [hm, ← hF, ← hG, ← hT] at hv
      rw [hv] at HH
      clear hv hF hG hT hm hok hg
      go_enter Tryd.func31, Tryd.ntmps31
      go_wp2_with fail
      refine Calls.mono HH.out ?_
      rintro r w2 ⟨rfl, b2⟩
      have HK2 := Lib.hid (HK.out.below b2 HK.out.lt)
      have HB2 := Lib.hid (HB.out.trans (b2.mono HB.out.size))
      have hkl := HK2.out.lt
      clear b2 HH
      go_wp2_with fail
      obtain ⟨w3, hw3⟩ : ∃ w3, w3 = w2.alloc (.cells #[.int .i64 F, .int .i64 G, .bool true, .int .i64 T] 74) := ⟨_, rfl⟩
      have hb3 : Below w2.heap.size w2 w3 := by rw [hw3]; exact Gw.alloc w2 _
      have hk3 : Bk w3 w2.heap.size 74 #[.int .i64 F, .int .i64 G, .bool true, .int .i64 T] := by rw [hw3]; exact Bk.new w2 _ _
      rw [← hw3]
      have HK3 := Lib.hid (HK2.out.below hb3 HK2.out.lt)
      have HB3 := Lib.hid (HB2.out.trans (hb3.mono HB2.out.size))
      clear hw3 hb3 hkl
      refine rlk_m _ _ _ w2.heap.size _ _ _ hk3 rfl rfl ?_
      intro vals w4 hG h30
      unfold IsV at h30
      simp only [putD, Act.put, List.setIfInBounds_toArray, List.set_cons_zero, List.set_cons_succ, h30]
      have hr4 := HK3.out.below hG HK3.out.lt
      have f0 := hr4.free 0
      have f1 := hr4.free 1
      have f2 := hr4.free 2
      have f3 := hr4.free 3
      obtain ⟨c0, c1, c2, c3⟩ := hr4.four
      have hkl := hr4.lt
      have HB4 := Lib.hid (HB3.out.trans (hG.mono HB3.out.size))
      have HR4 := Lib.hid hr4
      clear hG h30 hk3 hr4
      go_wp2_with fail
      exact bodyPost_ret (v := .tuple #[.agg #[.int .i64 0, .int .i64 0, .bool false, .int .i64 0], .int .i64 2]) (robj_res (rhead_set HR4.out) rfl rfl) rfl ⟨rfl, head_below HB4.out (Nat.le_refl _)⟩
    | false =>
      have hsz := szX_pos hok hm
      obtain ⟨Z, hZ⟩ : ∃ Z, Z = szX x := ⟨_, rfl⟩
      rw [← hF, ← hG, ← hT, ← hZ] at hsz
      have HS := Lib.hid hsz.1
      have hrm : decide (t - i < Z) = true := by
        unfold goodX at hg
        rw [hok, hm, ← hZ] at hg
        simp at hg
        simp; omega
      obtain ⟨room, hroom'⟩ : ∃ r, r = t - i := ⟨_, rfl⟩
      rw [← hroom'] at hrm HQ
      have HR := Lib.hid hrm
      rw [hm, ← hF, ← hG, ← hT] at hv
      rw [hv] at HH
      clear hv hF hG hT hm hok hg hsz hZ hrm hroom'
      go_enter Tryd.func31, Tryd.ntmps31
      go_wp2_with fail
      refine Calls.mono HH.out ?_
      rintro r w2 ⟨rfl, b2⟩
      have HK2 := Lib.hid (HK.out.below b2 HK.out.lt)
      have HB2 := Lib.hid (HB.out.trans (b2.mono HB.out.size))
      have HP2 := Lib.hid (HPt.out.below b2)
      have hkl := HK2.out.lt
      clear b2 HH
      go_wp2_with fail
      obtain ⟨w3, hw3⟩ : ∃ w3, w3 = w2.alloc (.cells #[.int .i64 F, .int .i64 G, .bool false, .int .i64 T] 74) := ⟨_, rfl⟩
      have hb3 : Below w2.heap.size w2 w3 := by rw [hw3]; exact Gw.alloc w2 _
      have hk3 : Bk w3 w2.heap.size 74 #[.int .i64 F, .int .i64 G, .bool false, .int .i64 T] := by rw [hw3]; exact Bk.new w2 _ _
      have HP3 := Lib.hid (HP2.out.below hb3)
      rw [← hw3]
      have HK3 := Lib.hid (HK2.out.below hb3 HK2.out.lt)
      have HB3 := Lib.hid (HB2.out.trans (hb3.mono HB2.out.size))
      clear hw3 hb3 hkl
      refine rlk_s _ _ _ w2.heap.size s i t room Z _ _ _ true hk3 HP3.out.blk.lt HP3.out.four.2.2.1 HS.out HQ.out.2 HQ.out.1 (Int.natCast_nonneg _) HR.out rfl rfl rfl rfl ?_
      intro vals w4 hG h30
      unfold IsV at h30
      simp only [putD, Act.put, List.setIfInBounds_toArray, List.set_cons_zero, List.set_cons_succ, h30]
      have hr4 := HK3.out.below hG HK3.out.lt
      have f0 := hr4.free 0
      have f1 := hr4.free 1
      have f2 := hr4.free 2
      have f3 := hr4.free 3
      obtain ⟨c0, c1, c2, c3⟩ := hr4.four
      have hkl := hr4.lt
      have HB4 := Lib.hid (HB3.out.trans (hG.mono HB3.out.size))
      have HR4 := Lib.hid hr4
      clear hG h30 hk3 hr4
      go_wp2_with fail
      exact bodyPost_ret (v := .tuple #[.agg #[.int .i64 0, .int .i64 0, .bool false, .int .i64 0], .int .i64 2]) (robj_res (rhead_set HR4.out) rfl rfl) rfl ⟨rfl, head_below HB4.out (Nat.le_refl _)⟩
end Go.Proofs.YtfodefgihicafaaDoor
/- The reference's place, Ptr. Conditions: lengths. -/
namespace Go.Proofs.YtfodefgihicafaaDoor
set_option linter.unusedVariables false
set_option linter.unusedSimpArgs false
open Go.RowKit
theorem robj_err (w : World) (s c : Nat) (A : Option Addr) (ws : List (BitVec 64)) (b t e : Nat) (p : RefAt w s A c ws b t e) (hte : t ≤ ws.length) (hl : ws.length ≤ 100000) (a : Int) (h : lkE ws b t a ≠ 0) :
    Calls Tryd.prog 31 #[.pointer (some ⟨s, 0, none⟩), .int .i64 a] w (RetP (.tuple #[zH, .int .i64 (lkE ws b t a)]) w) := by
  unfold lkE at h ⊢
  by_cases c1 : (b : Int) ≤ a ∧ a < (t : Int)
  · rw [if_pos c1] at h ⊢
    obtain ⟨i, rfl⟩ : ∃ i : Nat, a = (i : Int) := ⟨a.toNat, by omega⟩
    rw [Int.toNat_natCast] at h ⊢
    by_cases d : goodX (ws.getD i 0#64) (t - i) = true
    · rw [if_pos d] at h; exact absurd rfl h
    · rw [if_neg d]
      exact robj_bad w s c A ws b t e p hte hl i (by omega) (by omega) (by simpa using d)
  · rw [if_neg c1]
    exact robj_out w s c A ws b t e p hte a (by omega)
set_option maxHeartbeats 1000000
set_option maxRecDepth 100000
theorem rplace_c (w : World) (s c : Nat) (A : Option Addr) (ws : List (BitVec 64)) (b t e : Nat) (p : RefAt w s A c ws b t e) (a : Int) :
    Calls Tryd.prog 32 #[.pointer (some ⟨s, 0, none⟩), .int .i64 a] w (RetP (.bool (insB b t a)) w) := by
  obtain ⟨c0, c1, c2, c3⟩ := p.four
  unfold insB
  clear p
  by_cases h1 : (b : Int) ≤ a
  · by_cases h2 : a < (t : Int)
    · rw [show decide ((b : Int) ≤ a ∧ a < (t : Int)) = true by simp [h1, h2]]
      go_enter Tryd.func32, Tryd.ntmps32
      go_wp2
      go_ret
      exact ⟨by first | rfl | simp, (by repeat (first | with_reducible assumption | with_reducible exact Below.refl _ _ | with_reducible apply bdN | with_reducible apply Below.drew | with_reducible refine Below.alloc ?_ (by simp) _ | with_reducible refine Below.setCell ?_ (by simp) _))⟩
    · rw [show decide ((b : Int) ≤ a ∧ a < (t : Int)) = false by simp [h2]]
      go_enter Tryd.func32, Tryd.ntmps32
      go_wp2
      go_ret
      exact ⟨by first | rfl | simp, (by repeat (first | with_reducible assumption | with_reducible exact Below.refl _ _ | with_reducible apply bdN | with_reducible apply Below.drew | with_reducible refine Below.alloc ?_ (by simp) _ | with_reducible refine Below.setCell ?_ (by simp) _))⟩
  · rw [show decide ((b : Int) ≤ a ∧ a < (t : Int)) = false by simp [h1]]
    go_enter Tryd.func32, Tryd.ntmps32
    go_wp2
    go_ret
    exact ⟨by first | rfl | simp, (by repeat (first | with_reducible assumption | with_reducible exact Below.refl _ _ | with_reducible apply bdN | with_reducible apply Below.drew | with_reducible refine Below.alloc ?_ (by simp) _ | with_reducible refine Below.setCell ?_ (by simp) _))⟩
theorem rPtr_err (w : World) (s c : Nat) (A : Option Addr) (ws : List (BitVec 64)) (b t e : Nat) (p : RefAt w s A c ws b t e) (hte : t ≤ ws.length) (hl : ws.length ≤ 100000) (a i : Int) (h : lkE ws b t a ≠ 0) :
    Calls Tryd.prog 10 #[.pointer (some ⟨s, 0, none⟩), .int .i64 a, .int .i64 i] w (RetP (.tuple #[.int .i64 0, .int .i64 (lkE ws b t a)]) w) := by
  have HL := Lib.hid (robj_err w s c A ws b t e p hte hl a h)
  obtain ⟨E, hE⟩ : ∃ E, E = lkE ws b t a := ⟨_, rfl⟩
  rw [← hE] at HL h ⊢
  unfold zH at HL
  have h1 : (E == 0) = false := by simpa using h
  have h2 : (E != 0) = true := by simpa using h
  clear hE p hl h
  go_enter Tryd.func10, Tryd.ntmps10
  go_wp2_with fail
  refine Calls.mono HL.out ?_
  rintro r w2 ⟨rfl, b2⟩
  have HB := Lib.hid b2
  clear b2 HL
  go_wp2_with fail
  go_ret2
  exact ⟨rfl, HB.out.trans ((Gw.alloc w2 _).mono HB.out.size)⟩
theorem rPtr_no (w : World) (s c : Nat) (A : Option Addr) (ws : List (BitVec 64)) (b t e : Nat) (p : RefAt w s A c ws b t e) (hte : t ≤ ws.length) (hl : ws.length ≤ 100000) (a : Nat) (i : Int) (h1 : b ≤ a) (h2 : a < t) (hg : goodX (ws.getD a 0#64) (t - a) = true) (hi : i < 0 ∨ (0 ≤ i ∧ (P0 (ws.getD a 0#64) : Int) ≤ i)) :
    Calls Tryd.prog 10 #[.pointer (some ⟨s, 0, none⟩), .int .i64 a, .int .i64 i] w (RetP (.tuple #[.int .i64 0, .int .i64 1]) w) := by
  have HL := Lib.hid (robj_ok w s c A ws b t e p hte hl a h1 h2 hg)
  obtain ⟨P, hP⟩ : ∃ P, P = P0 (ws.getD a 0#64) := ⟨_, rfl⟩
  obtain ⟨N, hN⟩ : ∃ P, P = B0 (ws.getD a 0#64) := ⟨_, rfl⟩
  rw [← hP, ← hN] at HL
  rw [← hP] at hi
  clear hP hN p hl h1 h2 hg
  rcases hi with hi | ⟨hi0, hi⟩
  all_goals
    go_enter Tryd.func10, Tryd.ntmps10
    go_wp2_with fail
    refine Calls.mono HL.out ?_
    rintro r w2 ⟨rfl, b2⟩
    have HB := Lib.hid b2
    clear b2
    go_wp2_with fail
    go_ret2
    exact ⟨rfl, HB.out.trans ((Gw.alloc w2 _).mono HB.out.size)⟩
theorem rPtr_c (w : World) (s c : Nat) (A : Option Addr) (ws : List (BitVec 64)) (b t e : Nat) (p : RefAt w s A c ws b t e) (hte : t ≤ ws.length) (hl : ws.length ≤ 8192) (a k : Nat) (h1 : b ≤ a) (h2 : a < t) (hg : goodX (ws.getD a 0#64) (t - a) = true) (hk : k < P0 (ws.getD a 0#64)) :
    Calls Tryd.prog 10 #[.pointer (some ⟨s, 0, none⟩), .int .i64 a, .int .i64 k] w (RetP (.tuple #[.int .i64 (ptV b t (ws.getD (a + 1 + k) 0#64)), .int .i64 (ptE b t (ws.getD (a + 1 + k) 0#64))]) w) := by
  have HL := Lib.hid (robj_ok w s c A ws b t e p hte (by omega) a h1 h2 hg)
  obtain ⟨hj, _⟩ := word_in (b := b) (e := ws.length) hg h2 hte (Nat.le_refl _) hk
  obtain ⟨P, hP⟩ : ∃ P, P = P0 (ws.getD a 0#64) := ⟨_, rfl⟩
  obtain ⟨N, hN⟩ : ∃ P, P = B0 (ws.getD a 0#64) := ⟨_, rfl⟩
  have hb := (head_of hg).2.1
  rw [← hP, ← hN] at HL
  rw [← hP] at hk hb
  obtain ⟨y, hy⟩ : ∃ y, y = ws.getD (a + 1 + k) 0#64 := ⟨_, rfl⟩
  rw [← hy]
  have hyw : ws[a + 1 + k] = y := by rw [hy, List.getD_eq_getElem?_getD, List.getElem?_eq_getElem hj]; rfl
  obtain ⟨Y, hY⟩ : ∃ Y, Y = y.toNat := ⟨_, rfl⟩
  have hU : U64 y = (Y : Int) := by rw [hY]; rfl
  have q1 : (a : Int) ≤ 8192 := by omega
  have q2 : (0 : Int) ≤ (a : Int) := by omega
  have q3 : (0 : Int) ≤ (k : Int) := by omega
  have q4 : (k : Int) < (P : Int) := by omega
  have q5 : (P : Int) ≤ 64 := by omega
  have y9 : (Y : Int) ≤ 18446744073709551615 := by have := y.isLt; omega
  obtain ⟨L, hL⟩ : ∃ L, L = ws.length := ⟨_, rfl⟩
  have q6 : (a : Int) + 1 + (k : Int) < (L : Int) := by omega
  have HP := Lib.hid p
  have HLn := Lib.hid hL
  have HJ := Lib.hid (And.intro hj (And.intro hyw hU))
  have hpv : ptV b t y = if (Y = 0 ∨ (b < Y ∧ Y ≤ t)) then (Y : Int) - 1 else 0 := by unfold ptV pokB; rw [← hY]; simp
  have hpe : ptE b t y = if (Y = 0 ∨ (b < Y ∧ Y ≤ t)) then 0 else 2 := by unfold ptE pokB; rw [← hY]; simp
  have ht8 : t ≤ 8192 := by omega
  obtain ⟨V, hV⟩ : ∃ V, V = ptV b t y := ⟨_, rfl⟩
  obtain ⟨F, hF⟩ : ∃ V, V = ptE b t y := ⟨_, rfl⟩
  rw [← hV, ← hF]
  rw [hpv] at hV
  rw [hpe] at hF
  have HVF := Lib.hid (And.intro hV hF)
  have HT8 := Lib.hid ht8
  clear hP hN p hl h1 h2 hg hb hy hk hte hY hpv hpe hL hU ht8 hV hF
  go_enter Tryd.func10, Tryd.ntmps10
  go_wp2_with fail
  refine Calls.mono HL.out ?_
  rintro r w2 ⟨rfl, b2⟩
  have hp2 := (HP.out.below b2).below (Gw.alloc w2 (.cells #[.int .i64 P, .int .i64 N, .bool false, .int .i64 0] 74))
  obtain ⟨c0, c1, c2, c3⟩ := hp2.four
  rw [← HLn.out] at c0
  have hcell : ∃ ad, A = some ad ∧ (w2.alloc (.cells #[.int .i64 P, .int .i64 N, .bool false, .int .i64 0] 74)).cell? (ad.add (a + 1 + k)) = some (.int .u64 Y) := by
    obtain ⟨ad, e, _, hc⟩ := hp2.rd (a + 1 + k) HJ.out.1
    refine ⟨ad, e, ?_⟩
    have hc' := hc
    rw [HJ.out.2.1] at hc'
    unfold u64v at hc'
    rw [HJ.out.2.2] at hc'
    exact hc'
  obtain ⟨ad, rfl, hc⟩ := hcell
  have e7 : ad.add (a + 1 + k) = ad.add (a + 1 + k) := rfl
  have HB := Lib.hid (b2.trans ((Gw.alloc w2 (.cells #[.int .i64 P, .int .i64 N, .bool false, .int .i64 0] 74)).mono b2.size))
  have HPl := Lib.hid (fun W (h : Below (w2.alloc (.cells #[.int .i64 P, .int .i64 N, .bool false, .int .i64 0] 74)).heap.size (w2.alloc (.cells #[.int .i64 P, .int .i64 N, .bool false, .int .i64 0] 74)) W) (z : Int) => rplace_c W s c _ ws b t e (hp2.below h) z)
  have hn : ((a : Int) + 1 + (k : Int)).toNat = a + 1 + k := by omega
  clear b2 hp2 HL e7
  by_cases y0 : Y = 0
  · have hc0 : Y = 0 ∨ (b < Y ∧ Y ≤ t) := .inl y0
    obtain rfl : V = -1 := by rw [HVF.out.1, if_pos hc0, y0]; rfl
    obtain rfl : F = 0 := by rw [HVF.out.2, if_pos hc0]
    clear hc0 HVF
    subst y0
    go_wp2_with fail
    go_ret2
    exact ⟨rfl, HB.out⟩
  · have y1 : (1 : Int) ≤ (Y : Int) := by omega
    have y2 : ((Y : Int) == 0) = false := by
      have : ¬ (Y : Int) = 0 := by omega
      simpa using this
    by_cases yh : (1073741824 : Int) ≤ (Y : Int) - 1
    · have hc0 : ¬ (Y = 0 ∨ (b < Y ∧ Y ≤ t)) := by have := HT8.out; omega
      obtain rfl : V = 0 := by rw [HVF.out.1, if_neg hc0]
      obtain rfl : F = 2 := by rw [HVF.out.2, if_neg hc0]
      clear hc0 HVF
      clear y0
      go_wp2_with fail
      go_ret2
      exact ⟨rfl, HB.out⟩
    · obtain ⟨I, hI⟩ : ∃ I, I = insB b t ((Y : Int) - 1) := ⟨_, rfl⟩
      have HPp := Lib.hid (HPl.out _ (Below.refl _ _) ((Y : Int) - 1))
      rw [← hI] at HPp
      unfold insB at hI
      clear y0
      cases I with
      | true =>
        have hh := of_decide_eq_true hI.symm
        have hc0 : Y = 0 ∨ (b < Y ∧ Y ≤ t) := .inr (by omega)
        obtain rfl : V = (Y : Int) - 1 := by rw [HVF.out.1, if_pos hc0]
        obtain rfl : F = 0 := by rw [HVF.out.2, if_pos hc0]
        clear hc0 HVF
        clear hI hh HPl
        go_wp2_with fail
        refine Calls.mono HPp.out ?_
        rintro r w3 ⟨rfl, b3⟩
        have HB3 := Lib.hid (HB.out.trans (b3.mono HB.out.size))
        clear b3
        go_wp2_with fail
        go_ret2
        exact ⟨rfl, HB3.out⟩
      | false =>
        have hh := of_decide_eq_false hI.symm
        have hc0 : ¬ (Y = 0 ∨ (b < Y ∧ Y ≤ t)) := by omega
        obtain rfl : V = 0 := by rw [HVF.out.1, if_neg hc0]
        obtain rfl : F = 2 := by rw [HVF.out.2, if_neg hc0]
        clear hc0 HVF
        clear hI hh HPl
        go_wp2_with fail
        refine Calls.mono HPp.out ?_
        rintro r w3 ⟨rfl, b3⟩
        have HB3 := Lib.hid (HB.out.trans (b3.mono HB.out.size))
        clear b3
        go_wp2_with fail
        go_ret2
        exact ⟨rfl, HB3.out⟩
end Go.Proofs.YtfodefgihicafaaDoor
/- The reference's SetPtr where it refuses. Conditions: lengths. -/
namespace Go.Proofs.YtfodefgihicafaaDoor
set_option linter.unusedVariables false
set_option linter.unusedSimpArgs false
open Go.RowKit
set_option maxHeartbeats 1000000
set_option maxRecDepth 100000
theorem rSet_err (w : World) (s c : Nat) (A : Option Addr) (ws : List (BitVec 64)) (b t e : Nat) (p : RefAt w s A c ws b t e) (hte : t ≤ ws.length) (hl : ws.length ≤ 100000) (a i to_ : Int) (h : lkE ws b t a ≠ 0) :
    Calls Tryd.prog 12 #[.pointer (some ⟨s, 0, none⟩), .int .i64 a, .int .i64 i, .int .i64 to_] w (RetP (.int .i64 (lkE ws b t a)) w) := by
  have HL := Lib.hid (robj_err w s c A ws b t e p hte hl a h)
  obtain ⟨E, hE⟩ : ∃ E, E = lkE ws b t a := ⟨_, rfl⟩
  rw [← hE] at HL h ⊢
  unfold zH at HL
  have h1 : (E == 0) = false := by simpa using h
  have h2 : (E != 0) = true := by simpa using h
  clear hE p hl h
  go_enter Tryd.func12, Tryd.ntmps12
  go_wp2_with fail
  refine Calls.mono HL.out ?_
  rintro r w2 ⟨rfl, b2⟩
  have HB := Lib.hid b2
  clear b2 HL
  go_wp2_with fail
  go_ret
  exact ⟨rfl, HB.out.trans ((Gw.alloc w2 _).mono HB.out.size)⟩
theorem rSet_no (w : World) (s c : Nat) (A : Option Addr) (ws : List (BitVec 64)) (b t e : Nat) (p : RefAt w s A c ws b t e) (hte : t ≤ ws.length) (hl : ws.length ≤ 100000) (a : Nat) (i to_ : Int) (h1 : b ≤ a) (h2 : a < t) (hg : goodX (ws.getD a 0#64) (t - a) = true) (hi : i < 0 ∨ (0 ≤ i ∧ (P0 (ws.getD a 0#64) : Int) ≤ i)) :
    Calls Tryd.prog 12 #[.pointer (some ⟨s, 0, none⟩), .int .i64 a, .int .i64 i, .int .i64 to_] w (RetP (.int .i64 1) w) := by
  have HL := Lib.hid (robj_ok w s c A ws b t e p hte hl a h1 h2 hg)
  obtain ⟨P, hP⟩ : ∃ P, P = P0 (ws.getD a 0#64) := ⟨_, rfl⟩
  obtain ⟨N, hN⟩ : ∃ P, P = B0 (ws.getD a 0#64) := ⟨_, rfl⟩
  rw [← hP, ← hN] at HL
  rw [← hP] at hi
  clear hP hN p hl h1 h2 hg
  rcases hi with hi | ⟨hi0, hi⟩
  all_goals
    go_enter Tryd.func12, Tryd.ntmps12
    go_wp2_with fail
    refine Calls.mono HL.out ?_
    rintro r w2 ⟨rfl, b2⟩
    have HB := Lib.hid b2
    clear b2
    go_wp2_with fail
    go_ret
    exact ⟨rfl, HB.out.trans ((Gw.alloc w2 _).mono HB.out.size)⟩
theorem rSet_bad (w : World) (s c : Nat) (A : Option Addr) (ws : List (BitVec 64)) (b t e : Nat) (p : RefAt w s A c ws b t e) (hte : t ≤ ws.length) (hl : ws.length ≤ 100000) (a k : Nat) (to_ : Int) (h1 : b ≤ a) (h2 : a < t) (hg : goodX (ws.getD a 0#64) (t - a) = true) (hk : k < P0 (ws.getD a 0#64)) (hto : to_ ≠ -1) (hin : insB b t to_ = false) :
    Calls Tryd.prog 12 #[.pointer (some ⟨s, 0, none⟩), .int .i64 a, .int .i64 k, .int .i64 to_] w (RetP (.int .i64 1) w) := by
  have HL := Lib.hid (robj_ok w s c A ws b t e p hte hl a h1 h2 hg)
  have HI := Lib.hid (fun W (hb : Below w.heap.size w W) => rplace_c W s c A ws b t e (p.below hb) to_)
  rw [hin] at HI
  obtain ⟨P, hP⟩ : ∃ P, P = P0 (ws.getD a 0#64) := ⟨_, rfl⟩
  obtain ⟨N, hN⟩ : ∃ P, P = B0 (ws.getD a 0#64) := ⟨_, rfl⟩
  rw [← hP, ← hN] at HL
  rw [← hP] at hk
  have q0 : (0 : Int) ≤ (k : Int) := by omega
  have q3 : (k : Int) < (P : Int) := by omega
  have q1 : (to_ == -1) = false := by simpa using hto
  have q2 : (to_ != -1) = true := by simpa using hto
  clear hP hN p hl h1 h2 hg hk hto hin
  go_enter Tryd.func12, Tryd.ntmps12
  go_wp2_with fail
  refine Calls.mono HL.out ?_
  rintro r w2 ⟨rfl, b2⟩
  have HB := Lib.hid b2
  have HB2 := Lib.hid (b2.trans ((Gw.alloc w2 (.cells #[.int .i64 P, .int .i64 N, .bool false, .int .i64 0] 74)).mono b2.size))
  clear b2 HL
  go_wp2_with fail
  refine Calls.mono (HI.out _ HB2.out) ?_
  rintro r w3 ⟨rfl, b3⟩
  have HB3 := Lib.hid (HB2.out.trans (b3.mono HB2.out.size))
  clear b3
  go_wp2_with fail
  go_ret
  exact ⟨rfl, HB3.out⟩
theorem own_q {w : World} {base : Nat} {v : Value} {xs : List (BitVec 64)} (h : Ow u64v 68 w base v xs) (h0 : 0 < xs.length) : ∃ q c, v = .slice (some ⟨q, 0, none⟩) xs.length c ∧ xs.length ≤ c := by
  obtain ⟨A, c, rfl, hc⟩ := h.form
  rcases h.2 with ⟨e, hn⟩ | ⟨g, _, _, e, _⟩
  · have hn' : xs.length = 0 := hn
    omega
  · injection e with e
    exact ⟨g, c, by rw [e], hc⟩
theorem rset_fin {w wX w4 : World} {s c q c4 L J Y : Nat} {A : Option Addr} {ws : List (BitVec 64)} {b t e : Nat} (p : RefAt w s A c ws b t e) (hX : Below w.heap.size w wX) (hb : Below wX.heap.size wX w4) (h4 : Ow u64v 68 w4 wX.heap.size (.slice (some ⟨q, 0, none⟩) L c4) ws) (hL : L = ws.length) (hJ : J < ws.length) (hY : Y ≤ 8192) :
    Bk ((w4.setCell ⟨q, J, none⟩ (.int .u64 (Y : Int))).setCell ⟨s, 0, none⟩ (.slice (some ⟨q, 0, none⟩) L c4)) s 29 #[.slice (some ⟨q, 0, none⟩) L c4, .int .i64 b, .int .i64 t, .int .i64 e] ∧ Ow u64v 68 ((w4.setCell ⟨q, J, none⟩ (.int .u64 (Y : Int))).setCell ⟨s, 0, none⟩ (.slice (some ⟨q, 0, none⟩) L c4)) w.heap.size (.slice (some ⟨q, 0, none⟩) L c4) (ws.set J (BitVec.ofNat 64 Y)) ∧ w.grownBy ((w4.setCell ⟨q, J, none⟩ (.int .u64 (Y : Int))).setCell ⟨s, 0, none⟩ (.slice (some ⟨q, 0, none⟩) L c4)) (some s) := by
  subst hL
  have e0 : u64v (BitVec.ofNat 64 Y) = .int .u64 (Y : Int) := by unfold u64v; rw [ofNat_U64 Y (by omega)]
  have ho := h4.set hJ (BitVec.ofNat 64 Y)
  rw [e0] at ho
  have hq := h4.ge.1
  have hpX := p.below hX
  have hs := hpX.blk.lt
  have hb1 : Below wX.heap.size wX (w4.setCell ⟨q, J, none⟩ (.int .u64 (Y : Int))) := hb.setCell (p := ⟨q, J, none⟩) hq _
  have hs1 := hpX.blk.below hb1 hs
  refine ⟨hs1.set 0 _, (ho.kept (grown_set _ ⟨s, 0, none⟩ _) (.inr (fun e => by injection e with e; change q = s at e; omega))).mono hX.size, ((Two.below (hX.trans (hb1.mono hX.size))).trans (Two.setc _ s 0 _ none)).one⟩
theorem rSet_ok (w : World) (s c : Nat) (A : Option Addr) (ws : List (BitVec 64)) (b t e : Nat) (p : RefAt w s A c ws b t e) (hte : t ≤ ws.length) (hl : ws.length ≤ 8192) (a k : Nat) (h1 : b ≤ a) (h2 : a < t) (hg : goodX (ws.getD a 0#64) (t - a) = true) (hk : k < P0 (ws.getD a 0#64)) (Y : Nat) (hY : Y = 0 ∨ (b < Y ∧ Y ≤ t)) (z : Int) (hz : z = (Y : Int) - 1) :
    Calls Tryd.prog 12 #[.pointer (some ⟨s, 0, none⟩), .int .i64 a, .int .i64 k, .int .i64 z] w fun r w' => r = .returned (.int .i64 0) ∧ ∃ A' c', Bk w' s 29 #[.slice A' ws.length c', .int .i64 b, .int .i64 t, .int .i64 e] ∧ Ow u64v 68 w' w.heap.size (.slice A' ws.length c') (ws.set (a + 1 + k) (BitVec.ofNat 64 Y)) ∧ w.grownBy w' (some s) := by
  have HL := Lib.hid (robj_ok w s c A ws b t e p hte (by omega) a h1 h2 hg)
  obtain ⟨hj, _⟩ := word_in (b := b) (e := ws.length) hg h2 hte (Nat.le_refl _) hk
  obtain ⟨P, hP⟩ : ∃ P, P = P0 (ws.getD a 0#64) := ⟨_, rfl⟩
  obtain ⟨N, hN⟩ : ∃ P, P = B0 (ws.getD a 0#64) := ⟨_, rfl⟩
  have hb := (head_of hg).2.1
  rw [← hP, ← hN] at HL
  rw [← hP] at hk hb
  obtain ⟨J, hJ⟩ : ∃ J, J = a + 1 + k := ⟨_, rfl⟩
  rw [← hJ] at hj ⊢
  obtain ⟨yo, hyo⟩ : ∃ y, y = ws[J] := ⟨_, rfl⟩
  obtain ⟨L, hL⟩ : ∃ L, L = ws.length := ⟨_, rfl⟩
  rw [← hL]
  have HLn := Lib.hid hL
  have HP := Lib.hid p
  have HJ := Lib.hid (show J < ws.length ∧ u64v (ws[J]'hj) = .int .u64 (U64 yo) ∧ ws.length ≤ 8192 from ⟨hj, by rw [hyo]; rfl, hl⟩)
  have HI := Lib.hid (fun W (hb : Below w.heap.size w W) => rplace_c W s c A ws b t e (p.below hb) z)
  have q0 : (0 : Int) ≤ (k : Int) := by omega
  have q3 : (k : Int) < (P : Int) := by omega
  have q4 : (a : Int) ≤ 8192 := by omega
  have q5 : (P : Int) ≤ 64 := by omega
  have q6 : (0 : Int) ≤ (a : Int) := by omega
  have f1 : (a : Int) + 1 + (k : Int) = (J : Int) := by omega
  have f2 : (0 : Int) ≤ (J : Int) := by omega
  have f3 : (J : Int) < (L : Int) := by omega
  have f5 : z + 1 = (Y : Int) := by omega
  have f6 : (0 : Int) ≤ (Y : Int) := by omega
  have f7 : (Y : Int) ≤ 8192 := by omega
  have HY := Lib.hid hY
  have HZ := Lib.hid hz
  clear hP hN p hl h1 h2 hg hk hb hte hJ hyo hL hY hz
  by_cases hY0 : Y = 0
  · have q1 : (z == -1) = true := by have : z = -1 := by have := HZ.out; omega
                                     simpa using this
    have q2 : (z != -1) = false := by have : z = -1 := by have := HZ.out; omega
                                      simpa using this
    clear hY0
    go_enter Tryd.func12, Tryd.ntmps12
    go_wp2_with fail
    refine Calls.mono HL.out ?_
    rintro r w2 ⟨rfl, b2⟩
    have HB := Lib.hid b2
    clear b2 HL
    go_upto_region 6 with fail
    obtain ⟨wX, hwX⟩ : ∃ W, W = w2.alloc (.cells #[.int .i64 P, .int .i64 N, .bool false, .int .i64 0] 74) := ⟨_, rfl⟩
    rw [← hwX]
    have HX := Lib.hid (show Below w.heap.size w wX from by rw [hwX]; exact HB.out.trans ((Gw.alloc w2 _).mono HB.out.size))
    clear hwX q1 q2
    have hp := HP.out.below HX.out
    have c0 := hp.four.1
    rw [← HLn.out] at c0
    have hsl := hp.blk.lt
    have hal := Gw.alloc wX (.cells #[] 68)
    have HAL := Lib.hid hal
    have HRd := Lib.hid (show Rd u64v (wX.alloc (.cells #[] 68)) wX.heap.size A ws from ((HP.out.rd.below HX.out).more HX.out.size).alloc (Nat.le_refl _) _)
    clear hal hp
    go_wp2_with (at_builtin; refine wp_app one64 u64v_one rfl (.tmp 39) (.tmp 43) rfl wX.heap.size _ [] rfl (ow_empty u64v 68 wX wX.heap.size (Nat.le_refl _)) A L c ws rfl HLn.out wX.heap.size HRd.out (by have := HJ.out; have := HLn.out; simp; omega) (by decide) (by simp) ?_; intro v4 w4 ho4 hb4 hg4 hv4; rw [List.nil_append] at ho4; have hJ4 := HJ.out.1; obtain ⟨q, c4, rfl, hc4⟩ := own_q ho4 (by have := HJ.out.1; omega); rw [← HLn.out] at ho4 ⊢; have HB4 := Lib.hid (HAL.out.trans hb4); have H4 := Lib.hid ho4; have f4 := ho4.free J; have hs4 := (HP.out.below HX.out).blk.below HB4.out (HP.out.below HX.out).blk.lt; have hs5 := (HP.out.below HX.out).blk.below (HB4.out.setCell (p := ⟨q, J, none⟩) H4.out.ge.1 (.int .u64 (Y : Int))) (HP.out.below HX.out).blk.lt; have g5 := hs5.free 0; have x5 := hs5.cell 0; have hsl5 := hs5.lt; rw [← HLn.out] at x5; clear hs4 hs5; have x4 := ho4.cell HJ.out.1; have y4 := HJ.out.2.1; rw [y4] at x4; clear y4 hJ4 hc4 hg4 hv4 hb4 ho4 c0 hsl)
    go_ret
    exact ⟨rfl, some ⟨q, 0, none⟩, c4, rset_fin HP.out HX.out HB4.out H4.out HLn.out HJ.out.1 (by omega)⟩
  · have hn : ¬ z = -1 := by have := HZ.out; omega
    have q1 : (z == -1) = false := by simpa using hn
    have q2 : (z != -1) = true := by simpa using hn
    have hin : insB b t z = true := by
      unfold insB
      have := HZ.out
      have := HY.out
      simp; omega
    rw [hin] at HI
    clear hY0 hn hin
    go_enter Tryd.func12, Tryd.ntmps12
    go_wp2_with fail
    refine Calls.mono HL.out ?_
    rintro r w2 ⟨rfl, b2⟩
    have HB2 := Lib.hid (b2.trans ((Gw.alloc w2 (.cells #[.int .i64 P, .int .i64 N, .bool false, .int .i64 0] 74)).mono b2.size))
    clear b2 HL
    go_wp2_with fail
    refine Calls.mono (HI.out _ HB2.out) ?_
    rintro r wX ⟨rfl, b3⟩
    have HX := Lib.hid (HB2.out.trans (b3.mono HB2.out.size))
    clear b3 q1 q2
    go_upto_region 6 with fail
    have hp := HP.out.below HX.out
    have c0 := hp.four.1
    rw [← HLn.out] at c0
    have hsl := hp.blk.lt
    have hal := Gw.alloc wX (.cells #[] 68)
    have HAL := Lib.hid hal
    have HRd := Lib.hid (show Rd u64v (wX.alloc (.cells #[] 68)) wX.heap.size A ws from ((HP.out.rd.below HX.out).more HX.out.size).alloc (Nat.le_refl _) _)
    clear hal hp
    go_wp2_with (at_builtin; refine wp_app one64 u64v_one rfl (.tmp 39) (.tmp 43) rfl wX.heap.size _ [] rfl (ow_empty u64v 68 wX wX.heap.size (Nat.le_refl _)) A L c ws rfl HLn.out wX.heap.size HRd.out (by have := HJ.out; have := HLn.out; simp; omega) (by decide) (by simp) ?_; intro v4 w4 ho4 hb4 hg4 hv4; rw [List.nil_append] at ho4; have hJ4 := HJ.out.1; obtain ⟨q, c4, rfl, hc4⟩ := own_q ho4 (by have := HJ.out.1; omega); rw [← HLn.out] at ho4 ⊢; have HB4 := Lib.hid (HAL.out.trans hb4); have H4 := Lib.hid ho4; have f4 := ho4.free J; have hs4 := (HP.out.below HX.out).blk.below HB4.out (HP.out.below HX.out).blk.lt; have hs5 := (HP.out.below HX.out).blk.below (HB4.out.setCell (p := ⟨q, J, none⟩) H4.out.ge.1 (.int .u64 (Y : Int))) (HP.out.below HX.out).blk.lt; have g5 := hs5.free 0; have x5 := hs5.cell 0; have hsl5 := hs5.lt; rw [← HLn.out] at x5; clear hs4 hs5; have x4 := ho4.cell HJ.out.1; have y4 := HJ.out.2.1; rw [y4] at x4; clear y4 hJ4 hc4 hg4 hv4 hb4 ho4 c0 hsl)
    go_ret
    exact ⟨rfl, some ⟨q, 0, none⟩, c4, rset_fin HP.out HX.out HB4.out H4.out HLn.out HJ.out.1 (by omega)⟩
end Go.Proofs.YtfodefgihicafaaDoor
/- The reference's Well: among, Points. Conditions: lengths. (BEGUN: what builds stands here.) -/
namespace Go.Proofs.YtfodefgihicafaaDoor
set_option linter.unusedVariables false
set_option linter.unusedSimpArgs false
open Go.RowKit
set_option maxHeartbeats 1000000
set_option maxRecDepth 100000
theorem among_c (w : World) (A : Option Addr) (c : Nat) (l : List Nat) (hr : Rd iN w w.heap.size A l) (hl : l.length ≤ 100000) (x : Int) :
    Calls Tryd.prog 72 #[.slice A l.length c, .int .i64 x] w (RetP (.bool (decide (∃ y ∈ l, (y : Int) = x))) w) := by
  obtain ⟨R, hR⟩ : ∃ R, R = decide (∃ y ∈ l, (y : Int) = x) := ⟨_, rfl⟩
  rw [← hR]
  obtain ⟨N, hN⟩ : ∃ N, N = l.length := ⟨_, rfl⟩
  rw [← hN]
  have qN : (N : Int) ≤ 100000 := by omega
  have HR := Lib.hid hR
  have HN := Lib.hid hN
  have HD := Lib.hid hr
  clear hR hN hr hl
  go_enter Tryd.func72, Tryd.ntmps72
  go_wp2_with fail
  go_loopw [5] (fun i W => ∃ k : Nat, i = .int .i64 k ∧ k ≤ N ∧ Hid (∀ y ∈ l.take k, (y : Int) ≠ x) ∧ Below w.heap.size w W) (fun i _ => N - (Go.RowKit.intOf i).toNat)
  case atStart => exact ⟨0, rfl, Nat.zero_le _, Lib.hid (by simp), Below.refl _ _⟩
  case round =>
    obtain ⟨k, rfl, hk, hS, hB⟩ := hrel
    by_cases hlt : k < N
    · have q1 : (0 : Int) ≤ (k : Int) := by omega
      have q2 : (k : Int) < (N : Int) := by omega
      have hkl : k < l.length := by rw [← HN.out]; exact hlt
      obtain ⟨yn, hyn⟩ : ∃ yn : Nat, l[k]? = some yn := ⟨_, List.getElem?_eq_getElem hkl⟩
      have hye : l[k] = yn := (List.getElem?_eq_some_iff.1 hyn).2
      obtain ⟨y, hy⟩ : ∃ y : Int, y = (yn : Int) := ⟨_, rfl⟩
      obtain ⟨ad, rfl, hcell⟩ : ∃ ad, A = some ad ∧ wr.cell? (ad.add k) = some (.int .i64 y) := by
        obtain ⟨ad, e, _, hc⟩ := (HD.out.below hB) k hkl
        exact ⟨ad, e, by rw [hy, ← hye]; exact hc⟩
      have HY := Lib.hid (show y = (yn : Int) ∧ yn ∈ l ∧ l.take (k + 1) = l.take k ++ [yn] from ⟨hy, List.mem_of_getElem? hyn, by rw [List.take_succ_eq_append_getElem hkl, hye]⟩)
      have HB := Lib.hid hB
      clear hy hye hyn hkl hB
      by_cases he : y = x
      · have hRt := Lib.hid (show R = true from by
          rw [HR.out]
          exact decide_eq_true ⟨yn, HY.out.2.1, by rw [← HY.out.1]; exact he⟩)
        go_wp2_with fail
        go_ret
        exact ⟨by rw [hRt.out]; rfl, HB.out⟩
      · have HX := Lib.hid (show ∀ z ∈ l.take (k + 1), (z : Int) ≠ x from by
          intro z hz
          rw [HY.out.2.2] at hz
          rcases List.mem_append.1 hz with hz | hz
          · exact hS.out z hz
          · rw [List.mem_singleton.1 hz, ← HY.out.1]; exact he)
        clear hS
        go_wp2_with fail
        go_roundw
        case rel => first | exact ⟨k + 1, by go_num, by omega, HX, HB.out⟩ | ((repeat apply Exists.intro); refine ⟨?_, rfl⟩; exact ⟨k + 1, by go_num, by omega, HX, HB.out⟩)
        case measure => simp [Go.RowKit.intOf]; omega
    · have hNk : N = k := by omega
      have hRf := Lib.hid (show R = false from by
        rw [HR.out]
        refine decide_eq_false ?_
        rintro ⟨y, hy, e⟩
        have := hS.out y (by rw [← hNk, HN.out, List.take_length]; exact hy)
        exact this e)
      have HB := Lib.hid hB
      clear hS hB hlt hk
      subst hNk
      go_wp2_with fail
      go_ret
      exact ⟨by rw [hRf.out]; rfl, HB.out⟩
theorem points_c (w : World) (A : Option Addr) (c : Nat) (l : List Nat) (hr : Rd iN w w.heap.size A l) (hl : l.length ≤ 100000) (hb : ∀ y ∈ l, y < 1073741824) (x : BitVec 64) :
    Calls Tryd.prog 47 #[.slice A l.length c, .int .u64 (U64 x)] w (RetP (.bool (decide (x.toNat = 0 ∨ (1 ≤ x.toNat ∧ x.toNat - 1 ∈ l)))) w) := by
  obtain ⟨R, hR⟩ : ∃ R, R = decide (x.toNat = 0 ∨ (1 ≤ x.toNat ∧ x.toNat - 1 ∈ l)) := ⟨_, rfl⟩
  rw [← hR]
  obtain ⟨m, hm⟩ : ∃ m : Nat, m = x.toNat := ⟨_, rfl⟩
  have hx : U64 x = (m : Int) := by rw [hm]; rfl
  rw [hx]
  rw [← hm] at hR
  have HA := Lib.hid (fun z => among_c w A c l hr hl z)
  have m1 : (m : Int) < 18446744073709551616 := by have := x.isLt; omega
  have m0 : (0 : Int) ≤ (m : Int) := by omega
  obtain ⟨N, hN⟩ : ∃ N, N = l.length := ⟨_, rfl⟩
  rw [← hN] at HA ⊢
  have HR := Lib.hid (And.intro hR hb)
  clear hr hl hb hx hm hR hN
  by_cases c0 : m = 0
  · subst c0
    have hT := Lib.hid (show R = true from by rw [HR.out.1]; exact decide_eq_true (.inl rfl))
    go_enter Tryd.func47, Tryd.ntmps47
    go_wp2_with fail
    go_ret
    exact ⟨by rw [hT.out]; rfl, Below.refl _ _⟩
  obtain ⟨d, hd⟩ : ∃ d : Nat, m = d + 1 := ⟨m - 1, by omega⟩
  obtain ⟨z, hz⟩ : ∃ z : Int, z = (m : Int) := ⟨_, rfl⟩
  rw [← hz]
  have z1 : (1 : Int) ≤ z := by omega
  have z2 : z < 18446744073709551616 := by omega
  have e1 : z - 1 = (d : Int) := by omega
  have n0 : z ≠ 0 := by omega
  have d1 : (d : Int) < 18446744073709551616 := by omega
  subst hd
  clear m1 m0 c0 hz
  by_cases c1 : (d : Int) < 1073741824
  · have hV := Lib.hid (show R = decide (∃ y ∈ l, (y : Int) = (d : Int)) from by
      rw [HR.out.1]
      refine decide_eq_decide.2 ⟨fun h => ?_, fun h => ?_⟩
      · rcases h with h | ⟨_, h⟩
        · omega
        · exact ⟨d, by simpa using h, rfl⟩
      · obtain ⟨y, hy, e⟩ := h
        right
        have : y = d := by omega
        subst this
        exact ⟨by omega, by simpa using hy⟩)
    have HC := Lib.hid (HA.out (d : Int))
    rw [← hV.out] at HC
    clear HA hV
    go_enter Tryd.func47, Tryd.ntmps47
    go_wp2_with fail
    refine Calls.mono HC.out ?_
    rintro r w1 ⟨rfl, b1⟩
    have HB := Lib.hid b1
    clear b1
    go_wp2_with fail
    go_ret
    exact ⟨by simp [n0], HB.out⟩
  · have hF := Lib.hid (show R = false from by
      rw [HR.out.1]
      refine decide_eq_false ?_
      rintro (h | ⟨_, h⟩)
      · omega
      · have := HR.out.2 _ h
        omega)
    clear HA
    go_enter Tryd.func47, Tryd.ntmps47
    go_wp2_with fail
    go_ret
    exact ⟨by rw [hF.out]; simp [n0], Below.refl _ _⟩
theorem byte_val (ws : List (BitVec 64)) (i r : Nat) (hr : i % 8 = r) : IntKind.u8.wrap (U64 (ws.getD (i / 8) 0#64) / ((2 ^ (8 * r) : Nat) : Int)) = U8 (byteAt ws i) := by
  unfold byteAt
  rw [hr]
  have e : U8 (((ws.getD (i / 8) 0#64) >>> (8 * r)).setWidth 8) = (((ws.getD (i / 8) 0#64).toNat / 2 ^ (8 * r) % 256 : Nat) : Int) := by
    unfold U8
    rw [BitVec.toNat_setWidth, BitVec.toNat_ushiftRight, Nat.shiftRight_eq_div_pow]
  rw [e, IntKind.wrap_u8]
  unfold U64
  rw [← Int.natCast_ediv]
  rfl
theorem rbyte_c (w : World) (A : Option Addr) (c : Nat) (ws : List (BitVec 64)) (hr : Rd u64v w w.heap.size A ws) (hl : ws.length ≤ 100000) (i : Nat) (hi : i < 8 * ws.length) :
    Calls Tryd.prog 66 #[.slice A ws.length c, .int .i64 i] w (RetP (.int .u8 (U8 (byteAt ws i))) w) := by
  obtain ⟨N, hN⟩ : ∃ N, N = ws.length := ⟨_, rfl⟩
  rw [← hN]
  have hq : i / 8 < ws.length := by omega
  obtain ⟨x, hx⟩ : ∃ x, x = U64 (ws.getD (i / 8) 0#64) := ⟨_, rfl⟩
  have hxx : u64v ws[i / 8] = .int .u64 x := by
    rw [hx]
    simp [List.getD, hq, u64v]
  obtain ⟨ad, rfl, hcell⟩ : ∃ ad, A = some ad ∧ w.cell? (ad.add (i / 8)) = some (.int .u64 x) := by
    obtain ⟨ad, e, _, hc⟩ := hr (i / 8) hq
    exact ⟨ad, e, by rw [← hxx]; exact hc⟩
  obtain ⟨Q, hQ⟩ : ∃ Q : Nat, Q = i / 8 := ⟨_, rfl⟩
  obtain ⟨I, hI⟩ : ∃ I : Int, I = (i : Int) := ⟨_, rfl⟩
  have e1 : I.tdiv 8 = (Q : Int) := by rw [hI, hQ]; rfl
  have e2 : I / 8 = (Q : Int) := by rw [hI, hQ]; rfl
  have e0 : (0 : Int) ≤ I := by omega
  have e5 : I ≤ 800000 := by omega
  have e3 : (0 : Int) ≤ (Q : Int) := by omega
  have e4 : (Q : Int) < (N : Int) := by omega
  have e6 : (N : Int) ≤ 100000 := by omega
  obtain ⟨r, hr8⟩ : ∃ r, i % 8 = r := ⟨_, rfl⟩
  have HV := Lib.hid (byte_val ws i r hr8)
  rw [← hx] at HV
  obtain ⟨y, hy⟩ : ∃ y, y = U8 (byteAt ws i) := ⟨_, rfl⟩
  rw [← hy] at HV ⊢
  have hm : I.tmod 8 = (r : Int) := by rw [hI, ← hr8]; rfl
  have hr9 : r < 8 := by omega
  rw [← hQ] at hcell
  rw [← hI]
  clear hr hl hi hN hq hx hxx hQ hI hr8 hy
  obtain rfl | rfl | rfl | rfl | rfl | rfl | rfl | rfl : r = 0 ∨ r = 1 ∨ r = 2 ∨ r = 3 ∨ r = 4 ∨ r = 5 ∨ r = 6 ∨ r = 7 := by omega
  · have h := HV.out
    rw [IntKind.wrap_u8, show (((2 ^ (8 * 0) : Nat) : Nat) : Int) = 1 from rfl, Int.ediv_one] at h
    have HE := Lib.hid h
    clear h HV
    go_enter Tryd.func66, Tryd.ntmps66
    go_wp2_with fail
    go_ret
    exact ⟨congrArg (fun z => Ending.returned (Value.int .u8 z)) HE.out, Below.refl _ _⟩
  all_goals
    have h := HV.out
    rw [IntKind.wrap_u8] at h
    have HE := Lib.hid h
    clear h HV
    go_enter Tryd.func66, Tryd.ntmps66
    go_wp2_with fail
    go_ret
    exact ⟨congrArg (fun z => Ending.returned (Value.int .u8 z)) HE.out, Below.refl _ _⟩
theorem pad_step (ws : List (BitVec 64)) (J k : Nat) (h : (bytesM ws J k).all (· == 0#8) = true) (hz : byteAt ws (J + k) = 0#8) : (bytesM ws J (k + 1)).all (· == 0#8) = true := by
  unfold bytesM at h ⊢
  rw [List.range_succ, List.map_append, List.all_append, h]
  simp [hz]
theorem pad_no (ws : List (BitVec 64)) (J k K : Nat) (hk : k < K) (hz : byteAt ws (J + k) ≠ 0#8) : padB ws J K = false := by
  unfold padB
  cases h : (bytesM ws J K).all (· == 0#8) with
  | false => rfl
  | true =>
    have := List.all_eq_true.1 h (byteAt ws (J + k)) (by unfold bytesM; exact List.mem_map.2 ⟨k, List.mem_range.2 hk, rfl⟩)
    exact absurd (by simpa using this) hz
theorem rpad_c (w : World) (R : Nat) (A : Option Addr) (c : Nat) (ws : List (BitVec 64)) (b t e : Nat) (p : RefAt w R A c ws b t e) (hl : ws.length ≤ 100000) (a P n S : Nat) (hP : P ≤ 64) (hn : n ≤ 1024) (hS : sizeH (P : Int) (n : Int) false 0 = (S : Int)) (hS2 : S ≤ 1000) (ha : a + S ≤ ws.length) (hJ : 8 * (a + 1 + P) + n ≤ 8 * (a + S)) :
    Calls Tryd.prog 48 #[.pointer (some ⟨R, 0, none⟩), .int .i64 a, .agg #[.int .i64 P, .int .i64 n, .bool false, .int .i64 0]] w (RetP (.bool (!padB ws (8 * (a + 1 + P) + n) (8 * (a + S) - (8 * (a + 1 + P) + n)))) w) := by
  obtain ⟨J, hJe⟩ : ∃ J, J = 8 * (a + 1 + P) + n := ⟨_, rfl⟩
  obtain ⟨K, hKe⟩ : ∃ K, K = 8 * (a + S) - J := ⟨_, rfl⟩
  obtain ⟨Z, hZ⟩ : ∃ Z, Z = padB ws J K := ⟨_, rfl⟩
  rw [← hJe, ← hKe, ← hZ]
  obtain ⟨T, hT⟩ : ∃ T, T = 8 * (a + S) := ⟨_, rfl⟩
  have eJ : 8 * ((a : Int) + 1 + (P : Int)) + (n : Int) = (J : Int) := by omega
  have eT : 8 * ((a : Int) + (S : Int)) = (T : Int) := by omega
  have f1 : (a : Int) ≤ 100000 := by omega
  have f2 : (P : Int) ≤ 64 := by omega
  have f3 : (n : Int) ≤ 1024 := by omega
  have f4 : (S : Int) ≤ 1000 := by omega
  have f5 : (J : Int) ≤ 1000000 := by omega
  have f6 : (T : Int) ≤ 1000000 := by omega
  have HF := Lib.hid (show J ≤ T ∧ K = T - J ∧ Z = padB ws J K ∧ T ≤ 8 * ws.length from ⟨by omega, by omega, hZ, by omega⟩)
  have HSz := Lib.hid (fun W => rsize_c (P : Int) (n : Int) false 0 W)
  rw [hS] at HSz
  have HBy := Lib.hid (fun W (hr : Rd u64v W W.heap.size A ws) (i : Nat) (hi : i < 8 * ws.length) => rbyte_c W A c ws hr hl i hi)
  obtain ⟨L, hL⟩ : ∃ L, L = ws.length := ⟨_, rfl⟩
  have hb0 := Gw.alloc w (.cells #[.int .i64 P, .int .i64 n, .bool false, .int .i64 0] 74)
  have hp0 := (p.below hb0)
  have hk0 := (Bk.new w 74 #[.int .i64 P, .int .i64 n, .bool false, .int .i64 0])
  rw [← hL] at HBy
  clear p hl hP hn hS hS2 ha hJ hJe hKe hZ hT
  go_enter Tryd.func48, Tryd.ntmps48
  go_wp2_with fail
  obtain ⟨W0, hW0⟩ : ∃ W0, W0 = (w.alloc (.cells #[.int .i64 P, .int .i64 n, .bool false, .int .i64 0] 74)) := ⟨_, rfl⟩
  obtain ⟨h, hh⟩ : ∃ h, h = w.heap.size := ⟨_, rfl⟩
  have H0 := Lib.hid (show RefAt W0 R A c ws b t e ∧ Bk W0 h 74 #[.int .i64 P, .int .i64 n, .bool false, .int .i64 0] ∧ Below w.heap.size w W0 ∧ L = ws.length from by rw [hW0, hh]; exact ⟨hp0, hk0, hb0, hL⟩)
  rw [← hW0, ← hh]
  clear hW0 hh hb0 hp0 hk0 hL
  go_loopw [8] (fun i W => ∃ j : Nat, i = .int .i64 j ∧ J ≤ j ∧ j ≤ T ∧ Hid ((bytesM ws J (j - J)).all (· == 0#8) = true) ∧ Hid (Below W0.heap.size W0 W)) (fun i _ => T - (Go.RowKit.intOf i).toNat)
  case atStart => exact ⟨J, rfl, Nat.le_refl _, HF.out.1, Lib.hid (by rw [Nat.sub_self]; rfl), Lib.hid (Below.refl _ _)⟩
  case round =>
    obtain ⟨j, rfl, hj1, hj2, hS, hB⟩ := hrel
    obtain ⟨c0, c1, c2, c3⟩ := (H0.out.2.1.below hB.out H0.out.2.1.lt).four
    have q0 : (0 : Int) ≤ (j : Int) := by omega
    go_wp2_with fail
    refine Calls.mono (HSz.out _) ?_
    rintro r w1 ⟨rfl, b1⟩
    have H1 := Lib.hid (show Below W0.heap.size W0 w1 from hB.out.trans (b1.mono hB.out.size))
    clear b1 c0 c1 c2 c3 hB
    by_cases hlt : j < T
    · have q1 : (j : Int) < (T : Int) := by omega
      obtain ⟨y, hy⟩ : ∃ y, y = byteAt ws j := ⟨_, rfl⟩
      have hp1 := H0.out.1.below H1.out
      have HBj := Lib.hid (HBy.out w1 hp1.rd j (by have h1 := HF.out.2.2.2; have h2 := H0.out.2.2.2; omega))
      rw [← hy] at HBj
      obtain ⟨d0, _⟩ := hp1.four
      rw [← H0.out.2.2.2] at d0
      clear hp1
      by_cases hz : y = 0#8
      · subst hz
        have HX := Lib.hid (show (bytesM ws J (j + 1 - J)).all (· == 0#8) = true from by
          rw [show j + 1 - J = j - J + 1 from by omega]
          exact pad_step ws J (j - J) hS.out (by rw [show J + (j - J) = j from by omega]; exact hy.symm))
        go_wp2_with fail
        refine Calls.mono HBj.out ?_
        rintro r w2 ⟨rfl, b2⟩
        have HB2 := Lib.hid (show Below W0.heap.size W0 w2 from H1.out.trans (b2.mono H1.out.size))
        have u0 : U8 0#8 = 0 := rfl
        rw [u0]
        clear b2 d0 hS
        go_wp2_with fail
        go_roundw
        case rel => first | exact ⟨j + 1, by go_num, by omega, by omega, HX, HB2⟩ | ((repeat apply Exists.intro); refine ⟨?_, rfl⟩; exact ⟨j + 1, by go_num, by omega, by omega, HX, HB2⟩)
        case measure => simp [Go.RowKit.intOf]; omega
      · have hZf := Lib.hid (show Z = false from by
          rw [HF.out.2.2.1]
          exact pad_no ws J (j - J) K (by have := HF.out.2.1; omega) (by rw [show J + (j - J) = j from by omega, ← hy]; exact hz))
        have u1 : U8 y ≠ 0 := by
          intro e
          refine hz (BitVec.eq_of_toNat_eq ?_)
          unfold U8 at e
          simpa using e
        obtain ⟨z, hzz⟩ : ∃ z, z = U8 y := ⟨_, rfl⟩
        rw [← hzz] at HBj u1
        clear hS hy hz hzz
        go_wp2_with fail
        refine Calls.mono HBj.out ?_
        rintro r w2 ⟨rfl, b2⟩
        have HB2 := Lib.hid (H0.out.2.2.1.trans ((H1.out.trans (b2.mono H1.out.size)).mono H0.out.2.2.1.size))
        clear b2 d0
        go_wp2_with fail
        go_ret
        exact ⟨by rw [hZf.out]; rfl, HB2.out⟩
    · have hTj : T = j := by omega
      have hZt := Lib.hid (show Z = true from by
        rw [HF.out.2.2.1, HF.out.2.1, hTj]
        exact hS.out)
      have HB2 := Lib.hid (H0.out.2.2.1.trans (H1.out.mono H0.out.2.2.1.size))
      clear hS hlt hj2
      subst hTj
      go_wp2_with fail
      go_ret
      exact ⟨by rw [hZt.out]; rfl, HB2.out⟩
end Go.Proofs.YtfodefgihicafaaDoor
/- The document's Bytes. Conditions: lengths. -/
namespace Go.Proofs.YtfodefgihicafaaDoor
set_option linter.unusedVariables false
set_option linter.unusedSimpArgs false
open Go.RowKit
set_option maxHeartbeats 4000000
set_option maxRecDepth 100000
theorem bytesM_snocR (ws : List (BitVec 64)) (a k : Nat) : bytesM ws a (k + 1) = bytesM ws a k ++ [byteAt ws (a + k)] := by
  unfold bytesM
  rw [List.range_succ, List.map_append]
  rfl
theorem rbytesR_c (w : World) (A : Option Addr) (c : Nat) (ws : List (BitVec 64)) (a n : Nat) (hr : Rd u64v w w.heap.size A ws) (ha : a + n ≤ 8 * ws.length) (hl : ws.length ≤ 8192) :
    Calls Tryd.prog 36 #[.slice A ws.length c, .int .i64 a, .int .i64 n] w (MkP b8 5 (bytesM ws a n) w) := by
  have HB := Lib.hid (fun W (hb : Below w.heap.size w W) (k : Nat) (hk : k < n) => rbyte_c W A c ws ((hr.below hb).more hb.size) (by omega) (a + k) (by omega))
  obtain ⟨N, hN⟩ : ∃ N, N = ws.length := ⟨_, rfl⟩
  rw [← hN] at HB ⊢
  have aI : (a : Int) ≤ 65536 := by omega
  have nI : (n : Int) ≤ 65536 := by omega
  have a0 : (0 : Int) ≤ (a : Int) := by omega
  have HL := Lib.hid (show n ≤ 65536 by omega)
  have HS0 : Hid (Ow b8 5 w w.heap.size (.slice none 0 0) (bytesM ws a 0) ∧ Below w.heap.size w w) := Lib.hid ⟨Ow.nil_ _ _ _ _, Below.refl _ _⟩
  clear hr ha hl hN
  go_enter Tryd.func36, Tryd.ntmps36
  go_wp2_with fail
  go_loopw [7, 8] (fun o x W => ∃ k : Nat, x = .int .i64 k ∧ k ≤ n ∧ Hid (Ow b8 5 W w.heap.size o (bytesM ws a k) ∧ Below w.heap.size w W)) (fun _ x _ => n - (Go.RowKit.intOf x).toNat)
  case atStart => exact ⟨0, rfl, Nat.zero_le _, HS0⟩
  case round =>
    obtain ⟨k, rfl, hk, hS⟩ := hrel
    clear HS0
    obtain ⟨e1, e2⟩ := hS.out
    have k0 : (0 : Int) ≤ (k : Int) := by omega
    have hbl : (bytesM ws a k).length = k := by unfold bytesM; simp
    obtain ⟨oA, oc, eo, hoc⟩ := e1.form
    rw [hbl] at eo
    by_cases hlt : k < n
    · have k1 : (k : Int) < (n : Int) := by omega
      have HBk := Lib.hid (HB.out wr e2 k hlt)
      obtain ⟨ak, hak⟩ : ∃ ak, ak = a + k := ⟨_, rfl⟩
      have hak2 : (a : Int) + (k : Int) = (ak : Int) := by omega
      obtain ⟨x, hx⟩ : ∃ x, x = byteAt ws (a + k) := ⟨_, rfl⟩
      rw [← hx, ← hak] at HBk
      have hsn : bytesM ws a (k + 1) = bytesM ws a k ++ [x] := by rw [bytesM_snocR, hx]
      have H0 := Lib.hid (And.intro e1 (And.intro e2 (And.intro hsn (show (bytesM ws a k).length + [x].length ≤ 4294967296 by rw [hbl]; have := HL.out; simp; omega))))
      have akI : (ak : Int) ≤ 131072 := by omega
      subst eo
      clear e1 e2 hS hbl hoc hak hx hsn hk
      go_wp2_with fail
      refine Calls.mono HBk.out ?_
      rintro r w6 ⟨rfl, b6⟩
      have H6 := Lib.hid (show Ow b8 5 w6 w.heap.size (.slice oA k oc) (bytesM ws a k) ∧ Below w.heap.size w w6 from ⟨H0.out.1.below b6, H0.out.2.1.trans (b6.mono H0.out.2.1.size)⟩)
      clear b6 HBk
      go_wp2_with (at_builtin; refine wp_app one8 b8_one rfl (.tmp 14) (.tmp 20) rfl w.heap.size _ (bytesM ws a k) rfl (H6.out.1.alloc _) (some ⟨w6.heap.size, 0, none⟩) 1 1 [x] rfl rfl (w6.heap.size + 1) (rd1_new rfl) H0.out.2.2.2 (by decide) (Nat.le_trans H6.out.2.size (Gw.alloc w6 _).size) ?_; intro v7 w7 ho7 hb7 hg7 hj7; rw [← H0.out.2.2.1] at ho7; have H7 := Lib.hid (show Ow b8 5 w7 w.heap.size v7 (bytesM ws a (k + 1)) ∧ Below w.heap.size w w7 from ⟨ho7, (H6.out.2.trans ((Gw.alloc w6 _).mono H6.out.2.size)).trans hb7⟩); clear ho7 hb7 hg7 hj7)
      go_roundw
      case rel => exact ⟨k + 1, by go_num, by omega, H7⟩
      case measure => simp [Go.RowKit.intOf]; omega
    · have k1 : ¬ (k : Int) < (n : Int) := by omega
      have hkn : k = n := by omega
      subst hkn
      have H0 := Lib.hid (And.intro e1 (And.intro e2 (And.intro eo (And.intro hoc hbl))))
      clear e1 e2 hS hoc hbl
      subst eo
      go_wp2_with fail
      go_ret
      obtain ⟨e1, e2, _, hoc, hbl⟩ := H0.out
      refine ⟨oA, oc, by rw [hbl]; rfl, hoc, by rw [hbl]; exact e1, e2⟩
end Go.Proofs.YtfodefgihicafaaDoor
/- The reference's Read. Conditions: lengths. -/
namespace Go.Proofs.YtfodefgihicafaaDoor
set_option linter.unusedVariables false
set_option linter.unusedSimpArgs false
open Go.RowKit
def MkV (xs : List (BitVec 8)) (B : Nat) (v : Value) (W : World) : Prop := ∃ A c, v = .slice A xs.length c ∧ xs.length ≤ c ∧ Ow b8 5 W B (.slice A xs.length c) xs
theorem MkV.mono {xs : List (BitVec 8)} {B : Nat} {v : Value} {a b : World} (h : MkV xs B v a) (g : Below a.heap.size a b) : MkV xs B v b := by
  obtain ⟨A, c, e, hc, ho⟩ := h
  exact ⟨A, c, e, hc, ho.below g⟩
theorem of_mkV {f : FuncId} {args : Array Value} {xs : List (BitVec 8)} {w : World} {B : Nat} (hB : B ≤ w.heap.size) (h : Calls Tryd.prog f args w (MkP b8 5 xs w)) : Calls Tryd.prog f args w fun e w2 => ∃ u, e = .returned u ∧ Below w.heap.size w w2 ∧ MkV xs B u w2 := by
  refine h.mono ?_
  rintro e w2 ⟨A, c, rfl, hc, ho, hb⟩
  exact ⟨_, rfl, hb, A, c, rfl, hc, ho.mono hB⟩
set_option maxHeartbeats 1000000
set_option maxRecDepth 100000
theorem rRead_err (w : World) (s c : Nat) (A : Option Addr) (ws : List (BitVec 64)) (b t e : Nat) (p : RefAt w s A c ws b t e) (hte : t ≤ ws.length) (hl : ws.length ≤ 100000) (a i n : Int) (h : lkE ws b t a ≠ 0) :
    Calls Tryd.prog 14 #[.pointer (some ⟨s, 0, none⟩), .int .i64 a, .int .i64 i, .int .i64 n] w (RetP (.tuple #[.slice none 0 0, .int .i64 (lkE ws b t a)]) w) := by
  have HL := Lib.hid (robj_err w s c A ws b t e p hte hl a h)
  obtain ⟨E, hE⟩ : ∃ E, E = lkE ws b t a := ⟨_, rfl⟩
  rw [← hE] at HL h ⊢
  unfold zH at HL
  have h1 : (E == 0) = false := by simpa using h
  have h2 : (E != 0) = true := by simpa using h
  clear hE p hl h
  go_enter Tryd.func14, Tryd.ntmps14
  go_wp2_with fail
  refine Calls.mono HL.out ?_
  rintro r w2 ⟨rfl, b2⟩
  have HB := Lib.hid b2
  clear b2 HL
  go_wp2_with fail
  go_ret2
  exact ⟨rfl, HB.out.trans ((Gw.alloc w2 _).mono HB.out.size)⟩
theorem rRead_no (w : World) (s c : Nat) (A : Option Addr) (ws : List (BitVec 64)) (b t e : Nat) (p : RefAt w s A c ws b t e) (hte : t ≤ ws.length) (hl : ws.length ≤ 100000) (a : Nat) (i n : Int) (h1 : b ≤ a) (h2 : a < t) (hg : goodX (ws.getD a 0#64) (t - a) = true) (hi : noD (B0 (ws.getD a 0#64)) i n) :
    Calls Tryd.prog 14 #[.pointer (some ⟨s, 0, none⟩), .int .i64 a, .int .i64 i, .int .i64 n] w (RetP (.tuple #[.slice none 0 0, .int .i64 1]) w) := by
  have HL := Lib.hid (robj_ok w s c A ws b t e p hte hl a h1 h2 hg)
  obtain ⟨P, hP⟩ : ∃ P, P = P0 (ws.getD a 0#64) := ⟨_, rfl⟩
  obtain ⟨N, hN⟩ : ∃ P, P = B0 (ws.getD a 0#64) := ⟨_, rfl⟩
  have hb := (head_of hg).2.2.1
  rw [← hP, ← hN] at HL
  rw [← hN] at hi hb
  unfold noD at hi
  clear hP hN p hl h1 h2 hg
  rcases hi with hi | ⟨hi0, hi⟩ | ⟨hi0, hi1, hi⟩ | ⟨hi0, hi1, hi2, hi⟩
  all_goals
    go_enter Tryd.func14, Tryd.ntmps14
    go_wp2_with fail
    refine Calls.mono HL.out ?_
    rintro r w2 ⟨rfl, b2⟩
    have HB := Lib.hid b2
    clear b2
    go_wp2_with fail
    go_ret2
    exact ⟨rfl, HB.out.trans ((Gw.alloc w2 _).mono HB.out.size)⟩
theorem rrd_r (Q : Exit → Act → World → Prop) (a0 : Act) (w : World) (B hb s a P i n N c J : Nat) (A : Option Addr) (xs : List (BitVec 8)) (hsl : s < w.heap.size) (cs : w.cell? ⟨s, 0, none⟩ = some (.slice A N c)) (hh : hb < w.heap.size) (ch : w.cell? ⟨hb, 0, none⟩ = some (.int .i64 (P : Int))) (na0 : (0 : Int) ≤ (a : Int)) (aI : (a : Int) ≤ 100000) (P00 : (0 : Int) ≤ (P : Int)) (PI : (P : Int) ≤ 64) (i0 : (0 : Int) ≤ (i : Int)) (iI : (i : Int) ≤ 2000) (hJ : 8 * ((a : Int) + 1 + (P : Int)) + (i : Int) = (J : Int)) (hp : Hid (∀ W, Below w.heap.size w W → Calls Tryd.prog 36 #[.slice A N c, .int .i64 (J : Int), .int .i64 (n : Int)] W (fun e w2 => ∃ u, e = .returned u ∧ Below W.heap.size W w2 ∧ MkV xs B u w2))) (hsz : a0.tmps.size = 55) (sl0 : a0.tmps.getD 0 undef = .pointer (some ⟨s, 0, none⟩)) (sl1 : a0.tmps.getD 1 undef = .int .i64 (a : Int)) (sl2 : a0.tmps.getD 2 undef = .int .i64 (i : Int)) (sl3 : a0.tmps.getD 3 undef = .int .i64 (n : Int)) (sl10 : a0.tmps.getD 10 undef = .pointer (some ⟨hb, 0, none⟩))
    (fin : ∀ (vals : Nat → Value) (w1 : World), Below w.heap.size w w1 → (MkV xs B) (vals 13) w1 → wpList Tryd.prog #[{ dst := some 8, op := Go.Op.assign (Go.Operand.tmp 54), type := 30, pos := "", after := #[], guard := none }] (SpineQ (putD vals [41, 42, 43, 44, 45, 46, 47, 48, 49, 50, 51, 52, 53, 54] 0 a0).defers (fun _ => True) (fun a w => wpList Tryd.prog #[{ dst := some 9, op := Go.Op.assign (Go.Operand.const (Go.Value.int Go.IntKind.i64 0)), type := 3, pos := "", after := #[], guard := none }] Q [{ dst := some 9, op := Go.Op.assign (Go.Operand.const (Go.Value.int Go.IntKind.i64 0)), type := 3, pos := "", after := #[], guard := none }] a w)) [{ dst := some 8, op := Go.Op.assign (Go.Operand.tmp 54), type := 30, pos := "", after := #[], guard := none }] (putD vals [41, 42, 43, 44, 45, 46, 47, 48, 49, 50, 51, 52, 53, 54] 0 a0) w1) :
    (Code.region 6 (regIn Tryd.f14 6) true).wp Tryd.prog Q a0 w := by
  refine region_by_tail2 (m := 14) (G := fun w w1 => Below w.heap.size w w1) [IsV (.pointer (some ⟨s, 0, none⟩)),
    IsV (.pointer (some ⟨s, 0, none⟩)),
    IsV (.pointer (some ⟨s, 0, none⟩)),
    IsV (.slice A N c),
    IsV (.int .i64 (a : Int)),
    IsV (.int .i64 ((a : Int) + 1)),
    IsV (.pointer (some ⟨hb, 0, none⟩)),
    IsV (.int .i64 (P : Int)),
    IsV (.int .i64 ((a : Int) + 1 + (P : Int))),
    IsV (.int .i64 (8 * ((a : Int) + 1 + (P : Int)))),
    IsV (.int .i64 (i : Int)),
    IsV (.int .i64 (J : Int)),
    IsV (.int .i64 (n : Int)),
    MkV xs B]
    [41, 42, 43, 44, 45, 46, 47, 48, 49, 50, 51, 52, 53, 54] (by kernel_rfl) (Gw.drew _) Gw.trans (by rw [hsz]; kernel_rfl) (by kernel_rfl) ?_ ?_ ?_
  · intro f hf
    simp only [List.mem_cons, List.not_mem_nil, or_false] at hf
    rcases hf with rfl | rfl | rfl | rfl | rfl | rfl | rfl | rfl | rfl | rfl | rfl | rfl | rfl | rfl <;> intro v a b h g <;> first | exact IsV.mono h | exact MkV.mono h g
  · refine ⟨?_, ?_, ?_, ?_, ?_, ?_, ?_, ?_, ?_, ?_, ?_, ?_, ?_, ?_, trivial⟩
    · exact owes_mv 0 (by kernel_rfl) (by kernel_rfl) (by kernel_rfl) sl0 (fun _ => rfl)
    · refine owes_v (Go.Op.nilCheck (Go.Operand.tmp 41)) 0 [0] (by kernel_rfl) (by kernel_rfl) (by kernel_rfl) rfl fun vals w1 ρ hG hF hρ hcst hfun => ?_
      have e41 : ρ (.tmp 41) = .pointer (some ⟨s, 0, none⟩) := ((hρ 41).trans (slotJ [0] (by rw [hsz]; decide) (by kernel_rfl))).trans (hF 0 (by decide))
      clear hρ hF hcst hfun sl0 sl1 sl2 sl3 sl10 fin
      exact opv_val (by go_simp <;> rfl) ⟨gw_self _, rfl⟩
    · refine owes_v (Go.Op.fieldAddr 29 (Go.Operand.tmp 42) 0) 0 [1] (by kernel_rfl) (by kernel_rfl) (by kernel_rfl) rfl fun vals w1 ρ hG hF hρ hcst hfun => ?_
      have e42 : ρ (.tmp 42) = .pointer (some ⟨s, 0, none⟩) := ((hρ 42).trans (slotJ [1] (by rw [hsz]; decide) (by kernel_rfl))).trans (hF 1 (by decide))
      clear hρ hF hcst hfun sl0 sl1 sl2 sl3 sl10 fin
      exact opv_val (by go_simp <;> rfl) ⟨gw_self _, rfl⟩
    · refine owes_v (Go.Op.load 22 (Go.Operand.tmp 43)) 22 [2] (by kernel_rfl) (by kernel_rfl) (by kernel_rfl) rfl fun vals w1 ρ hG hF hρ hcst hfun => ?_
      have e43 : ρ (.tmp 43) = .pointer (some ⟨s, 0, none⟩) := ((hρ 43).trans (slotJ [2] (by rw [hsz]; decide) (by kernel_rfl))).trans (hF 2 (by decide))
      have kk := (hG.cell (p := ⟨s, 0, none⟩) hsl).trans cs
      clear hρ hF hcst hfun sl0 sl1 sl2 sl3 sl10 fin
      exact opv_val (by go_simp <;> rfl) ⟨gw_self _, rfl⟩
    · exact owes_mv 1 (by kernel_rfl) (by kernel_rfl) (by kernel_rfl) sl1 (fun _ => rfl)
    · refine owes_v (Go.Op.binOp Go.BinOp.add 3 (Go.Operand.tmp 45) (Go.Operand.const (Go.Value.int Go.IntKind.i64 1)) 3) 3 [4] (by kernel_rfl) (by kernel_rfl) (by kernel_rfl) rfl fun vals w1 ρ hG hF hρ hcst hfun => ?_
      have e45 : ρ (.tmp 45) = .int .i64 (a : Int) := ((hρ 45).trans (slotJ [4] (by rw [hsz]; decide) (by kernel_rfl))).trans (hF 4 (by decide))
      have kw0 : IntKind.i64.wrap (((a : Int) + 1)) = ((a : Int) + 1) := wrapIn (by omega) (by omega)
      clear hρ hF hfun sl0 sl1 sl2 sl3 sl10 fin
      exact opv_val (by go_simp <;> rfl) ⟨gw_self _, rfl⟩
    · refine owes_v (Go.Op.fieldAddr 74 (Go.Operand.tmp 10) 0) 0 [] (by kernel_rfl) (by kernel_rfl) (by kernel_rfl) rfl fun vals w1 ρ hG hF hρ hcst hfun => ?_
      have e10 : ρ (.tmp 10) = .pointer (some ⟨hb, 0, none⟩) := ((hρ 10).trans (slotO [] (by kernel_rfl))).trans sl10
      clear hρ hF hcst hfun sl0 sl1 sl2 sl3 sl10 fin
      exact opv_val (by go_simp <;> rfl) ⟨gw_self _, rfl⟩
    · refine owes_v (Go.Op.load 3 (Go.Operand.tmp 47)) 3 [6] (by kernel_rfl) (by kernel_rfl) (by kernel_rfl) rfl fun vals w1 ρ hG hF hρ hcst hfun => ?_
      have e47 : ρ (.tmp 47) = .pointer (some ⟨hb, 0, none⟩) := ((hρ 47).trans (slotJ [6] (by rw [hsz]; decide) (by kernel_rfl))).trans (hF 6 (by decide))
      have kk := (hG.cell (p := ⟨hb, 0, none⟩) hh).trans ch
      clear hρ hF hcst hfun sl0 sl1 sl2 sl3 sl10 fin
      exact opv_val (by go_simp <;> rfl) ⟨gw_self _, rfl⟩
    · refine owes_v (Go.Op.binOp Go.BinOp.add 3 (Go.Operand.tmp 46) (Go.Operand.tmp 48) 3) 3 [5, 7] (by kernel_rfl) (by kernel_rfl) (by kernel_rfl) rfl fun vals w1 ρ hG hF hρ hcst hfun => ?_
      have e46 : ρ (.tmp 46) = .int .i64 ((a : Int) + 1) := ((hρ 46).trans (slotJ [5, 7] (by rw [hsz]; decide) (by kernel_rfl))).trans (hF 5 (by decide))
      have e48 : ρ (.tmp 48) = .int .i64 (P : Int) := ((hρ 48).trans (slotJ [5, 7] (by rw [hsz]; decide) (by kernel_rfl))).trans (hF 7 (by decide))
      have kw0 : IntKind.i64.wrap (((a : Int) + 1 + (P : Int))) = ((a : Int) + 1 + (P : Int)) := wrapIn (by omega) (by omega)
      clear hρ hF hcst hfun sl0 sl1 sl2 sl3 sl10 fin
      exact opv_val (by go_simp <;> rfl) ⟨gw_self _, rfl⟩
    · refine owes_v (Go.Op.binOp Go.BinOp.mul 3 (Go.Operand.const (Go.Value.int Go.IntKind.i64 8)) (Go.Operand.tmp 49) 3) 3 [8] (by kernel_rfl) (by kernel_rfl) (by kernel_rfl) rfl fun vals w1 ρ hG hF hρ hcst hfun => ?_
      have e49 : ρ (.tmp 49) = .int .i64 ((a : Int) + 1 + (P : Int)) := ((hρ 49).trans (slotJ [8] (by rw [hsz]; decide) (by kernel_rfl))).trans (hF 8 (by decide))
      have kw0 : IntKind.i64.wrap ((8 * ((a : Int) + 1 + (P : Int)))) = (8 * ((a : Int) + 1 + (P : Int))) := wrapIn (by omega) (by omega)
      clear hρ hF hfun sl0 sl1 sl2 sl3 sl10 fin
      exact opv_val (by go_simp <;> rfl) ⟨gw_self _, rfl⟩
    · exact owes_mv 2 (by kernel_rfl) (by kernel_rfl) (by kernel_rfl) sl2 (fun _ => rfl)
    · refine owes_v (Go.Op.binOp Go.BinOp.add 3 (Go.Operand.tmp 50) (Go.Operand.tmp 51) 3) 3 [9, 10] (by kernel_rfl) (by kernel_rfl) (by kernel_rfl) rfl fun vals w1 ρ hG hF hρ hcst hfun => ?_
      have e50 : ρ (.tmp 50) = .int .i64 (8 * ((a : Int) + 1 + (P : Int))) := ((hρ 50).trans (slotJ [9, 10] (by rw [hsz]; decide) (by kernel_rfl))).trans (hF 9 (by decide))
      have e51 : ρ (.tmp 51) = .int .i64 (i : Int) := ((hρ 51).trans (slotJ [9, 10] (by rw [hsz]; decide) (by kernel_rfl))).trans (hF 10 (by decide))
      have kw0 : IntKind.i64.wrap ((J : Int)) = (J : Int) := wrapIn (by omega) (by omega)
      clear hρ hF hcst hfun sl0 sl1 sl2 sl3 sl10 fin
      exact opv_val (by go_simp <;> rfl) ⟨gw_self _, rfl⟩
    · exact owes_mv 3 (by kernel_rfl) (by kernel_rfl) (by kernel_rfl) sl3 (fun _ => rfl)
    · refine owes_v (Go.Op.call { callee := Go.Callee.value (Go.Operand.func 36), args := #[Go.Operand.tmp 44, Go.Operand.tmp 52, Go.Operand.tmp 53], argTypes := #[22, 3, 3] }) 30 [3, 11, 12] (by kernel_rfl) (by kernel_rfl) (by kernel_rfl) rfl fun vals w1 ρ hG hF hρ hcst hfun => ?_
      have e44 : ρ (.tmp 44) = .slice A N c := ((hρ 44).trans (slotJ [3, 11, 12] (by rw [hsz]; decide) (by kernel_rfl))).trans (hF 3 (by decide))
      have e52 : ρ (.tmp 52) = .int .i64 (J : Int) := ((hρ 52).trans (slotJ [3, 11, 12] (by rw [hsz]; decide) (by kernel_rfl))).trans (hF 11 (by decide))
      have e53 : ρ (.tmp 53) = .int .i64 (n : Int) := ((hρ 53).trans (slotJ [3, 11, 12] (by rw [hsz]; decide) (by kernel_rfl))).trans (hF 12 (by decide))
      clear hρ hF hcst sl0 sl1 sl2 sl3 sl10 fin
      exact opv_enter (by go_simp <;> rfl) ((hp.out w1 hG))
  · intro vals w1 hG hF
    exact next_spine2 (by kernel_rfl) (by kernel_rfl) (by kernel_rfl) (by kernel_rfl) (by kernel_rfl) (by kernel_rfl) (fin vals w1 hG (hF 13 (by decide +kernel)))
theorem rRead_ok (w : World) (s c : Nat) (A : Option Addr) (ws : List (BitVec 64)) (b t e : Nat) (p : RefAt w s A c ws b t e) (hte : t ≤ ws.length) (hl : ws.length ≤ 8192) (a i n : Nat) (h1 : b ≤ a) (h2 : a < t) (hg : goodX (ws.getD a 0#64) (t - a) = true) (hi : i + n ≤ B0 (ws.getD a 0#64)) :
    Calls Tryd.prog 14 #[.pointer (some ⟨s, 0, none⟩), .int .i64 a, .int .i64 i, .int .i64 n] w (MkEP b8 5 (bytesM ws (8 * (a + 1 + P0 (ws.getD a 0#64)) + i) n) 0 w) := by
  have HL := Lib.hid (robj_ok w s c A ws b t e p hte (by omega) a h1 h2 hg)
  obtain ⟨_, hr⟩ := bytes_room hg h2 hte (Nat.le_refl _) hi
  obtain ⟨P, hP⟩ : ∃ P, P = P0 (ws.getD a 0#64) := ⟨_, rfl⟩
  obtain ⟨M, hM⟩ : ∃ P, P = B0 (ws.getD a 0#64) := ⟨_, rfl⟩
  have hb1 := (head_of hg).2.1
  have hb2 := (head_of hg).2.2.1
  rw [← hP, ← hM] at HL
  rw [← hP] at hr hb1 ⊢
  rw [← hM] at hi hb2
  obtain ⟨J, hJ⟩ : ∃ J, J = 8 * (a + 1 + P) + i := ⟨_, rfl⟩
  rw [← hJ] at hr ⊢
  have HR := Lib.hid (fun W (hb : Below w.heap.size w W) => rbytesR_c W A c ws J n (p.below hb).rd hr hl)
  obtain ⟨L, hL⟩ : ∃ L, L = ws.length := ⟨_, rfl⟩
  rw [← hL] at HR
  have HP := Lib.hid (show ∀ W, Below w.heap.size w W → W.cell? ⟨s, 0, none⟩ = some (.slice A L c) ∧ s < W.heap.size from fun W hb => ⟨by rw [hL]; exact (p.below hb).four.1, (p.below hb).blk.lt⟩)
  have q1 : (0 : Int) ≤ (a : Int) := by omega
  have q2 : (a : Int) ≤ 100000 := by omega
  have q3 : (0 : Int) ≤ (i : Int) := by omega
  have q4 : (i : Int) ≤ 1024 := by omega
  have q5 : (0 : Int) ≤ (n : Int) := by omega
  have q6 : (i : Int) + (n : Int) ≤ (M : Int) := by omega
  have q7 : (M : Int) ≤ 1024 := by omega
  have q8 : (P : Int) ≤ 64 := by omega
  have HJ := Lib.hid (show 8 * ((a : Int) + 1 + (P : Int)) + (i : Int) = (J : Int) from by omega)
  clear p hte hl h1 h2 hg hi hr hP hM hb1 hb2 hJ hL
  go_enter Tryd.func14, Tryd.ntmps14
  go_wp2_with fail
  refine Calls.mono HL.out ?_
  rintro r w2 ⟨rfl, b2⟩
  have HB := Lib.hid b2
  clear b2 HL
  go_wp2_with fail
  obtain ⟨w3, hw3⟩ : ∃ W, W = w2.alloc (.cells #[.int .i64 P, .int .i64 M, .bool false, .int .i64 0] 74) := ⟨_, rfl⟩
  rw [← hw3]
  have hk3 : Bk w3 w2.heap.size 74 #[.int .i64 P, .int .i64 M, .bool false, .int .i64 0] := by rw [hw3]; exact Bk.new w2 _ _
  have hb3 : Below w.heap.size w w3 := by rw [hw3]; exact HB.out.trans ((Gw.alloc w2 _).mono HB.out.size)
  have HB3 := Lib.hid hb3
  clear hw3
  refine rrd_r _ _ _ w.heap.size w2.heap.size s a P i n L c J A (bytesM ws J n) (HP.out w3 hb3).2 (HP.out w3 hb3).1 hk3.lt (hk3.cell 0) q1 q2 (by omega) q8 q3 (by omega) HJ.out (Lib.hid (fun W hW => of_mkV (Nat.le_trans hb3.size hW.size) (HR.out W (hb3.trans (hW.mono hb3.size))))) rfl ?_ ?_ ?_ ?_ ?_ ?_
  · rfl
  · rfl
  · rfl
  · rfl
  · rfl
  intro vals w4 hG h54
  obtain ⟨A5, c5, e5, hc5, ho5⟩ := h54
  have HB4 := Lib.hid (HB3.out.trans (hG.mono HB3.out.size))
  have HO := Lib.hid ho5
  simp only [putD, Act.put, List.setIfInBounds_toArray, List.set_cons_zero, List.set_cons_succ, e5]
  clear hG e5 hc5 ho5 hb3 hk3
  go_wp2_with fail
  refine ⟨rfl, trivial, ?_⟩
  go_wp2_with fail
  go_ret2
  exact MkEP.of HO.out HB4.out
end Go.Proofs.YtfodefgihicafaaDoor
/- The reference's Write where it refuses. Conditions: lengths. -/
namespace Go.Proofs.YtfodefgihicafaaDoor
set_option linter.unusedVariables false
set_option linter.unusedSimpArgs false
open Go.RowKit
set_option maxHeartbeats 1000000
set_option maxRecDepth 100000
theorem rWrite_err (w : World) (s c : Nat) (A : Option Addr) (ws : List (BitVec 64)) (b t e : Nat) (p : RefAt w s A c ws b t e) (hte : t ≤ ws.length) (hl : ws.length ≤ 100000) (a i : Int) (A2 : Option Addr) (n c2 : Nat) (h : lkE ws b t a ≠ 0) :
    Calls Tryd.prog 16 #[.pointer (some ⟨s, 0, none⟩), .int .i64 a, .int .i64 i, .slice A2 n c2] w (RetP (.int .i64 (lkE ws b t a)) w) := by
  have HL := Lib.hid (robj_err w s c A ws b t e p hte hl a h)
  obtain ⟨E, hE⟩ : ∃ E, E = lkE ws b t a := ⟨_, rfl⟩
  rw [← hE] at HL h ⊢
  unfold zH at HL
  have h1 : (E == 0) = false := by simpa using h
  have h2 : (E != 0) = true := by simpa using h
  clear hE p hl h
  go_enter Tryd.func16, Tryd.ntmps16
  go_wp2_with fail
  refine Calls.mono HL.out ?_
  rintro r w2 ⟨rfl, b2⟩
  have HB := Lib.hid b2
  clear b2 HL
  go_wp2_with fail
  go_ret
  exact ⟨rfl, HB.out.trans ((Gw.alloc w2 _).mono HB.out.size)⟩
theorem rWrite_no (w : World) (s c : Nat) (A : Option Addr) (ws : List (BitVec 64)) (b t e : Nat) (p : RefAt w s A c ws b t e) (hte : t ≤ ws.length) (hl : ws.length ≤ 100000) (a : Nat) (i : Int) (A2 : Option Addr) (n c2 : Nat) (h1 : b ≤ a) (h2 : a < t) (hg : goodX (ws.getD a 0#64) (t - a) = true) (hi : noD (B0 (ws.getD a 0#64)) i (n : Int)) :
    Calls Tryd.prog 16 #[.pointer (some ⟨s, 0, none⟩), .int .i64 a, .int .i64 i, .slice A2 n c2] w (RetP (.int .i64 1) w) := by
  have HL := Lib.hid (robj_ok w s c A ws b t e p hte hl a h1 h2 hg)
  obtain ⟨P, hP⟩ : ∃ P, P = P0 (ws.getD a 0#64) := ⟨_, rfl⟩
  obtain ⟨N, hN⟩ : ∃ P, P = B0 (ws.getD a 0#64) := ⟨_, rfl⟩
  have hb := (head_of hg).2.2.1
  rw [← hP, ← hN] at HL
  rw [← hN] at hi hb
  unfold noD at hi
  clear hP hN p hl h1 h2 hg
  have hi' : i < 0 ∨ (0 ≤ i ∧ (N : Int) < i) ∨ (0 ≤ i ∧ i ≤ (N : Int) ∧ (N : Int) - i < (n : Int)) := by omega
  clear hi
  have hn0 : (0 : Int) ≤ (n : Int) := by omega
  rcases hi' with hi | ⟨hi0, hi⟩ | ⟨hi0, hi2, hi⟩
  all_goals
    go_enter Tryd.func16, Tryd.ntmps16
    go_wp2_with fail
    refine Calls.mono HL.out ?_
    rintro r w2 ⟨rfl, b2⟩
    have HB := Lib.hid b2
    clear b2
    go_wp2_with fail
    go_ret
    exact ⟨rfl, HB.out.trans ((Gw.alloc w2 _).mono HB.out.size)⟩
end Go.Proofs.YtfodefgihicafaaDoor
/- mem: Bytes, SetBytes and Move refused; Move. Conditions: lengths. -/
namespace Go.Proofs.YtfodefgihicafaaDoor
set_option linter.unusedVariables false
set_option linter.unusedSimpArgs false
open Go.RowKit
set_option maxHeartbeats 400000
set_option maxRecDepth 100000
end Go.Proofs.YtfodefgihicafaaDoor
