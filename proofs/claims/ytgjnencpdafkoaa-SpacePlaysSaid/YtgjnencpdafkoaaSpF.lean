/- space: Reset; rows of like objects. Conditions: lengths. -/
import Derived.Test.YtgjnencpdafkoaaSpE
namespace Go.Proofs.Ytgjnencpdafkoaa
set_option linter.unusedVariables false
set_option linter.unusedSimpArgs false
open Go.RowKit
set_option maxHeartbeats 400000
set_option maxRecDepth 100000
theorem rs_reg (Q : Exit → Act → World → Prop) (a0 : Act) (w : World) (s b e : Nat) (hs : s < w.heap.size) (c1 : w.cell? ⟨s, 1, none⟩ = some (.int .i64 b)) (c3 : w.cell? ⟨s, 3, none⟩ = some (.int .i64 e)) (hsz : a0.tmps.size = 19) (sl0 : a0.tmps.getD 0 undef = .pointer (some ⟨s, 0, none⟩))
    (fin : ∀ (vals : Nat → Value) (w1 : World), Below w.heap.size w w1 → (IsV (.pointer (some ⟨s, 0, none⟩))) (vals 0) w1 → (IsV (.int .i64 b)) (vals 4) w1 → (IsV (.int .i64 e)) (vals 8) w1 → wpList Try.prog #[{ dst := some 18, op := Go.Op.call { callee := Go.Callee.value (Go.Operand.func 32), args := #[Go.Operand.tmp 9, Go.Operand.tmp 13, Go.Operand.tmp 17], argTypes := #[25, 3, 3] }, type := 0, pos := "", after := #[], guard := none }] Q [{ dst := some 18, op := Go.Op.call { callee := Go.Callee.value (Go.Operand.func 32), args := #[Go.Operand.tmp 9, Go.Operand.tmp 13, Go.Operand.tmp 17], argTypes := #[25, 3, 3] }, type := 0, pos := "", after := #[], guard := none }] (putD vals [9, 10, 11, 12, 13, 14, 15, 16, 17] 0 a0) w1) :
    (Code.region 1 (regIn Try.f20 1) true).wp Try.prog Q a0 w := by
  refine region_by_tail (m := 9) (G := fun w w1 => Below w.heap.size w w1) [IsV (.pointer (some ⟨s, 0, none⟩)),
    IsV (.pointer (some ⟨s, 0, none⟩)),
    IsV (.pointer (some ⟨s, 0, none⟩)),
    IsV (.pointer (some ⟨s, 1, none⟩)),
    IsV (.int .i64 b),
    IsV (.pointer (some ⟨s, 0, none⟩)),
    IsV (.pointer (some ⟨s, 0, none⟩)),
    IsV (.pointer (some ⟨s, 3, none⟩)),
    IsV (.int .i64 e)]
    [9, 10, 11, 12, 13, 14, 15, 16, 17] (by kernel_rfl) (Gw.drew _) Gw.trans (by rw [hsz]; kernel_rfl) (by kernel_rfl) ?_ ?_ ?_
  · intro f hf
    simp only [List.mem_cons, List.not_mem_nil, or_false] at hf
    rcases hf with rfl | rfl | rfl | rfl | rfl | rfl | rfl | rfl | rfl <;> intro v a b h g <;> first | exact IsV.mono h
  · refine ⟨?_, ?_, ?_, ?_, ?_, ?_, ?_, ?_, ?_, trivial⟩
    · exact owes_mv 0 (by kernel_rfl) (by kernel_rfl) (by kernel_rfl) sl0 (fun _ => rfl)
    · exact owes_mv 0 (by kernel_rfl) (by kernel_rfl) (by kernel_rfl) sl0 (fun _ => rfl)
    · refine owes_v (Go.Op.nilCheck (Go.Operand.tmp 10)) 0 [1] (by kernel_rfl) (by kernel_rfl) (by kernel_rfl) rfl fun vals w1 ρ hG hF hρ hcst hfun => ?_
      have e10 : ρ (.tmp 10) = .pointer (some ⟨s, 0, none⟩) := ((hρ 10).trans (slotJ [1] (by rw [hsz]; decide) (by kernel_rfl))).trans (hF 1 (by decide))
      clear hρ hF hcst hfun sl0 fin
      exact opv_val (by go_simp <;> rfl) ⟨gw_self _, rfl⟩
    · refine owes_v (Go.Op.fieldAddr 58 (Go.Operand.tmp 11) 1) 0 [2] (by kernel_rfl) (by kernel_rfl) (by kernel_rfl) rfl fun vals w1 ρ hG hF hρ hcst hfun => ?_
      have e11 : ρ (.tmp 11) = .pointer (some ⟨s, 0, none⟩) := ((hρ 11).trans (slotJ [2] (by rw [hsz]; decide) (by kernel_rfl))).trans (hF 2 (by decide))
      clear hρ hF hcst hfun sl0 fin
      exact opv_val (by go_simp <;> rfl) ⟨gw_self _, rfl⟩
    · refine owes_v (Go.Op.load 3 (Go.Operand.tmp 12)) 3 [3] (by kernel_rfl) (by kernel_rfl) (by kernel_rfl) rfl fun vals w1 ρ hG hF hρ hcst hfun => ?_
      have e12 : ρ (.tmp 12) = .pointer (some ⟨s, 1, none⟩) := ((hρ 12).trans (slotJ [3] (by rw [hsz]; decide) (by kernel_rfl))).trans (hF 3 (by decide))
      have k := (hG.cell (p := ⟨s, 1, none⟩) hs).trans c1
      clear hρ hF hcst hfun sl0 fin
      exact opv_val (by go_simp <;> rfl) ⟨gw_self _, rfl⟩
    · exact owes_mv 0 (by kernel_rfl) (by kernel_rfl) (by kernel_rfl) sl0 (fun _ => rfl)
    · refine owes_v (Go.Op.nilCheck (Go.Operand.tmp 14)) 0 [5] (by kernel_rfl) (by kernel_rfl) (by kernel_rfl) rfl fun vals w1 ρ hG hF hρ hcst hfun => ?_
      have e14 : ρ (.tmp 14) = .pointer (some ⟨s, 0, none⟩) := ((hρ 14).trans (slotJ [5] (by rw [hsz]; decide) (by kernel_rfl))).trans (hF 5 (by decide))
      clear hρ hF hcst hfun sl0 fin
      exact opv_val (by go_simp <;> rfl) ⟨gw_self _, rfl⟩
    · refine owes_v (Go.Op.fieldAddr 58 (Go.Operand.tmp 15) 3) 0 [6] (by kernel_rfl) (by kernel_rfl) (by kernel_rfl) rfl fun vals w1 ρ hG hF hρ hcst hfun => ?_
      have e15 : ρ (.tmp 15) = .pointer (some ⟨s, 0, none⟩) := ((hρ 15).trans (slotJ [6] (by rw [hsz]; decide) (by kernel_rfl))).trans (hF 6 (by decide))
      clear hρ hF hcst hfun sl0 fin
      exact opv_val (by go_simp <;> rfl) ⟨gw_self _, rfl⟩
    · refine owes_v (Go.Op.load 3 (Go.Operand.tmp 16)) 3 [7] (by kernel_rfl) (by kernel_rfl) (by kernel_rfl) rfl fun vals w1 ρ hG hF hρ hcst hfun => ?_
      have e16 : ρ (.tmp 16) = .pointer (some ⟨s, 3, none⟩) := ((hρ 16).trans (slotJ [7] (by rw [hsz]; decide) (by kernel_rfl))).trans (hF 7 (by decide))
      have k := (hG.cell (p := ⟨s, 3, none⟩) hs).trans c3
      clear hρ hF hcst hfun sl0 fin
      exact opv_val (by go_simp <;> rfl) ⟨gw_self _, rfl⟩
  · intro vals w1 hG hF
    exact last_list (by kernel_rfl) (by kernel_rfl) (by kernel_rfl) (fin vals w1 hG (hF 0 (by decide +kernel)) (hF 4 (by decide +kernel)) (hF 8 (by decide +kernel)))
theorem reset_c3 (w : World) (B s g : Nat) (v : Value) (ws : List (BitVec 64)) (b t e : Nat) (sp : SpAt w B s g v ws b t e) (hl : ws.length ≤ 100000) :
    Calls Try.prog 20 #[.pointer (some ⟨s, 0, none⟩)] w fun r w' => r = .returned (.tuple #[]) ∧ SpAt w' B s g v (zeroW ws b (e - b)) b b e ∧ Below B w w' ∧ Two w w' s v.ownBlock := by
  obtain ⟨c0, c1, c2, c3⟩ := sp.four
  have hf2 := sp.blk.free 2
  have hsl := sp.blk.lt
  have hbe := Nat.le_trans sp.bt sp.te
  have hel := sp.el
  have hfin : SpAt (w.setCell ⟨s, 2, none⟩ (.int .i64 b)) B s g v ws b b e ∧ Below B w (w.setCell ⟨s, 2, none⟩ (.int .i64 b)) := by
    have hgr := grown_set w ⟨s, 2, none⟩ (.int .i64 b)
    exact ⟨⟨sp.mem.grown hgr (fun e => sp.sg (by injection e with e; exact e.symm)) (.inr sp.sv), sp.blk.set 2 _, sp.sg, sp.sv, sp.hs, Nat.le_refl _, hbe, sp.el⟩, (Below.refl _ _).setCell (p := ⟨s, 2, none⟩) sp.hs _⟩
  have HFin := Lib.hid hfin
  have HZ := Lib.hid (fun W (h : SpAt W B s g v ws b b e) => zero_c W B s g v ws b b e b e h hbe hel hl)
  clear hfin hbe hel hl sp
  go_enter Try.func20, Try.ntmps20
  go_wp2_with fail
  obtain ⟨d0, d1, d2, d3⟩ := HFin.out.1.four
  refine rs_reg _ _ _ s b e HFin.out.1.blk.lt d1 d3 rfl rfl ?_
  intro vals w1 hG h9 h13 h17
  unfold IsV at h9 h13 h17
  simp only [putD, Act.put, List.setIfInBounds_toArray, List.set_cons_zero, List.set_cons_succ, h9, h13, h17]
  have HT1 : Hid (Two w w1 s v.ownBlock) := Lib.hid ((Two.setc w s 2 _ _).trans (Two.below hG))
  have H1 := Lib.hid (And.intro (HFin.out.1.below hG) (HFin.out.2.trans (hG.mono (HFin.out.1.mem.le))))
  clear h9 h13 h17 hG d0 d1 d2 d3
  go_wp2_with fail
  refine Calls.mono (HZ.out w1 H1.out.1) ?_
  rintro r w2 ⟨rfl, h2, g2⟩
  have HT2 : Hid (Two w w2 s v.ownBlock) := Lib.hid (HT1.out.trans (Two.grown g2))
  have H2 := Lib.hid (And.intro h2 (H1.out.2.trans (H1.out.1.mem.own g2)))
  clear h2 g2
  go_wp2_with fail
  go_end0
  exact ⟨rfl, H2.out.1, H2.out.2, HT2.out⟩
theorem reset_c (w : World) (B s g : Nat) (v : Value) (ws : List (BitVec 64)) (b t e : Nat) (sp : SpAt w B s g v ws b t e) (hl : ws.length ≤ 100000) :
    Calls Try.prog 20 #[.pointer (some ⟨s, 0, none⟩)] w fun r w' => r = .returned (.tuple #[]) ∧ SpAt w' B s g v (zeroW ws b (e - b)) b b e ∧ Below B w w' :=
  (reset_c3 w B s g v ws b t e sp hl).mono fun _ _ h => ⟨h.1, h.2.1, h.2.2.1⟩
theorem objF_run (ws : List (BitVec 64)) (x : BitVec 64) (n top : Nat) (hgood : ∀ room, n ≤ room → goodX x room = true) (hs : szX x = n) (hn : 1 ≤ n) :
    ∀ r fuel a, top = a + r * n → r ≤ fuel → (∀ j, j < r → ws.getD (a + j * n) 0#64 = x) → ∃ l, objF ws top fuel a = some l ∧ l.length = r
  | 0, fuel, a, ht, _, _ => ⟨[], objF_end ws top fuel a (by omega), rfl⟩
  | r + 1, fuel, a, ht, hf, hx => by
    obtain ⟨f, rfl⟩ : ∃ f, fuel = f + 1 := ⟨fuel - 1, by omega⟩
    have hm : (r + 1) * n = r * n + n := Nat.succ_mul r n
    have hx0 := hx 0 (by omega)
    rw [Nat.zero_mul, Nat.add_zero] at hx0
    obtain ⟨l, h1, h2⟩ := objF_run ws x n top hgood hs hn r f (a + n) (by omega) (by omega) (fun j hj => by
      have h := hx (j + 1) (by omega)
      rw [Nat.succ_mul] at h
      rw [show a + n + j * n = a + (j * n + n) from by omega]
      exact h)
    refine ⟨a :: l, ?_, by simp [h2]⟩
    show (if a < top then _ else _) = _
    rw [if_pos (by omega), hx0, if_pos (hgood _ (by omega)), hs, h1]
    rfl
theorem pack_run {p b : Int} {n : Nat} (hr : rightH p b false 0 = true) (hn : sizeH p b false 0 = (n : Int)) : (∀ room, n ≤ room → goodX (packH p b false 0) room = true) ∧ szX (packH p b false 0) = n := by
  obtain ⟨e1, e2, e3, e4⟩ := un_pack p b false 0 hr
  have hok := ok_pack p b false 0 hr
  have hsz : szX (packH p b false 0) = n := by unfold szX; rw [e1, e2, e3, e4, hn]; rfl
  refine ⟨fun room h => ?_, hsz⟩
  unfold goodX
  rw [hok, e3, hsz]
  simp [h]
theorem allocW_at (ws : List (BitVec 64)) (t n : Nat) (x : BitVec 64) (h : t + n ≤ ws.length) (hn : 1 ≤ n) : (allocW ws t n x).getD t 0#64 = x := by
  unfold allocW
  rw [List.getD_eq_getElem?_getD, zeroW_get _ _ _ _ (by rw [List.length_set]; omega), if_neg (by omega), List.getElem?_set_self (by omega)]
  rfl
theorem allocW_far (ws : List (BitVec 64)) (t n i : Nat) (x : BitVec 64) (h : t + n ≤ ws.length) (hn : 1 ≤ n) (hi : i < t) : (allocW ws t n x).getD i 0#64 = ws.getD i 0#64 := by
  unfold allocW
  rw [List.getD_eq_getElem?_getD, zeroW_get _ _ _ _ (by rw [List.length_set]; omega), if_neg (by omega), List.getElem?_set_ne (by omega), List.getD_eq_getElem?_getD]
theorem of_below {P : Program} {f : FuncId} {args : Array Value} {v : Value} {w : World} (h : Calls P f args w fun r w' => r = .returned v ∧ Below w.heap.size w w') : Calls P f args w fun e w2 => ∃ u, e = .returned u ∧ Below w.heap.size w w2 ∧ IsV v u w2 :=
  h.mono fun _ _ h => ⟨_, h.1, h.2, rfl⟩
theorem fl_reg (Q : Exit → Act → World → Prop) (a0 : Act) (w : World) (B s g : Nat) (v : Value) (ws : List (BitVec 64)) (b t e Wd n room : Nat) (hsp : SpAt w B s g v ws b t e) (hl : ws.length ≤ 100000) (hroom : e - t = room) (d1 : (Wd : Int).tmod (n : Int) = (room : Int)) (d2 : ((n : Int) == 0) = false) (d3 : (0 : Int) ≤ (room : Int)) (d4 : (room : Int) ≤ 300) (d5 : (Wd : Int) ≤ 255) (d6 : ¬ n = 0) (hsz : a0.tmps.size = 117) (sl2 : a0.tmps.getD 2 undef = .int .u8 Wd) (sl8 : a0.tmps.getD 8 undef = .int .i64 n) (sl11 : a0.tmps.getD 11 undef = .pointer (some ⟨s, 0, none⟩)) (sl18 : a0.tmps.getD 18 undef = .int .i64 6)
    (fin : ∀ (vals : Nat → Value) (w1 : World), Below w.heap.size w w1 → (IsV (.bool false)) (vals 10) w1 → Q .normal (putD vals [85, 86, 87, 88, 89, 90, 91, 92, 93, 94, 95] 0 a0) w1) :
    (Code.region 19 (regIn Try.f5 19) true).wp Try.prog Q a0 w := by
  refine region_by (G := fun w w1 => Below w.heap.size w w1) [IsV (.int .i64 6),
    IsV (.bool false),
    IsV (.bool false),
    IsV (.pointer (some ⟨s, 0, none⟩)),
    IsV (.int .i64 room),
    IsV (.int .u8 Wd),
    IsV (.int .i64 Wd),
    IsV (.int .i64 n),
    IsV (.int .i64 room),
    IsV (.bool false),
    IsV (.bool false)]
    [85, 86, 87, 88, 89, 90, 91, 92, 93, 94, 95] (by kernel_rfl) (Gw.drew _) Gw.trans (by rw [hsz]; kernel_rfl) (by kernel_rfl) ?_ ?_ ?_
  · intro f hf
    simp only [List.mem_cons, List.not_mem_nil, or_false] at hf
    rcases hf with rfl | rfl | rfl | rfl | rfl | rfl | rfl | rfl | rfl | rfl | rfl <;> intro v a b h g <;> first | exact IsV.mono h
  · refine ⟨?_, ?_, ?_, ?_, ?_, ?_, ?_, ?_, ?_, ?_, ?_, trivial⟩
    · exact owes_mv 18 (by kernel_rfl) (by kernel_rfl) (by kernel_rfl) sl18 (fun _ => rfl)
    · refine owes_v (Go.Op.binOp Go.BinOp.neq 3 (Go.Operand.tmp 85) (Go.Operand.const (Go.Value.int Go.IntKind.i64 6)) 3) 4 [0] (by kernel_rfl) (by kernel_rfl) (by kernel_rfl) rfl fun vals w1 ρ hG hF hρ hcst hfun => ?_
      have e85 : ρ (.tmp 85) = .int .i64 6 := ((hρ 85).trans (slotJ [0] (by rw [hsz]; decide) (by kernel_rfl))).trans (hF 0 (by decide))
      clear hρ hF hfun sl2 sl8 sl11 sl18 fin
      exact opv_val (by go_simp <;> rfl) ⟨gw_self _, rfl⟩
    · exact owes_mvj 1 86 (by kernel_rfl) (by kernel_rfl) (by kernel_rfl) (by kernel_rfl) (by rw [hsz]; decide) (fun v w h => h)
    · refine owes_vt 2 false (Go.Op.move (Go.Operand.tmp 11)) 25 [] (by kernel_rfl) (by kernel_rfl) (by kernel_rfl) (fun _ _ h => h) (by rw [hsz]; kernel_rfl) (by kernel_rfl) rfl fun vals w1 ρ hG hF hρ hcst hfun => ?_
      have e11 : ρ (.tmp 11) = .pointer (some ⟨s, 0, none⟩) := ((hρ 11).trans (slotO [] (by kernel_rfl))).trans sl11
      clear hρ hF hcst hfun sl2 sl8 sl11 sl18 fin
      exact opv_val (by go_simp <;> rfl) ⟨gw_self _, rfl⟩
    · refine owes_vt 2 false (Go.Op.call { callee := Go.Callee.value (Go.Operand.func 24), args := #[Go.Operand.tmp 88], argTypes := #[25] }) 3 [3] (by kernel_rfl) (by kernel_rfl) (by kernel_rfl) (fun _ _ h => h) (by rw [hsz]; kernel_rfl) (by kernel_rfl) rfl fun vals w1 ρ hG hF hρ hcst hfun => ?_
      have e88 : ρ (.tmp 88) = .pointer (some ⟨s, 0, none⟩) := ((hρ 88).trans (slotJ [3] (by rw [hsz]; decide) (by kernel_rfl))).trans (hF 3 (by decide))
      have kf := free_c w1 B s g v ws b t e (hsp.below hG) hl
      rw [hroom] at kf
      clear hρ hF hcst sl2 sl8 sl11 sl18 fin
      exact opv_enter (by go_simp <;> rfl) (of_below kf)
    · refine owes_vt 2 false (Go.Op.move (Go.Operand.tmp 2)) 5 [] (by kernel_rfl) (by kernel_rfl) (by kernel_rfl) (fun _ _ h => h) (by rw [hsz]; kernel_rfl) (by kernel_rfl) rfl fun vals w1 ρ hG hF hρ hcst hfun => ?_
      have e2 : ρ (.tmp 2) = .int .u8 Wd := ((hρ 2).trans (slotO [] (by kernel_rfl))).trans sl2
      clear hρ hF hcst hfun sl2 sl8 sl11 sl18 fin
      exact opv_val (by go_simp <;> rfl) ⟨gw_self _, rfl⟩
    · refine owes_vt 2 false (Go.Op.convert 5 3 (Go.Operand.tmp 90)) 3 [5] (by kernel_rfl) (by kernel_rfl) (by kernel_rfl) (fun _ _ h => h) (by rw [hsz]; kernel_rfl) (by kernel_rfl) rfl fun vals w1 ρ hG hF hρ hcst hfun => ?_
      have e90 : ρ (.tmp 90) = .int .u8 Wd := ((hρ 90).trans (slotJ [5] (by rw [hsz]; decide) (by kernel_rfl))).trans (hF 5 (by decide))
      have kw0 : IntKind.i64.wrap ((Wd : Int)) = (Wd : Int) := wrapIn (by omega) (by omega)
      clear hρ hF hcst hfun sl2 sl8 sl11 sl18 fin
      exact opv_val (by go_simp <;> rfl) ⟨gw_self _, rfl⟩
    · refine owes_vt 2 false (Go.Op.move (Go.Operand.tmp 8)) 3 [] (by kernel_rfl) (by kernel_rfl) (by kernel_rfl) (fun _ _ h => h) (by rw [hsz]; kernel_rfl) (by kernel_rfl) rfl fun vals w1 ρ hG hF hρ hcst hfun => ?_
      have e8 : ρ (.tmp 8) = .int .i64 n := ((hρ 8).trans (slotO [] (by kernel_rfl))).trans sl8
      clear hρ hF hcst hfun sl2 sl8 sl11 sl18 fin
      exact opv_val (by go_simp <;> rfl) ⟨gw_self _, rfl⟩
    · refine owes_vt 2 false (Go.Op.binOp Go.BinOp.rem 3 (Go.Operand.tmp 91) (Go.Operand.tmp 92) 3) 3 [6, 7] (by kernel_rfl) (by kernel_rfl) (by kernel_rfl) (fun _ _ h => h) (by rw [hsz]; kernel_rfl) (by kernel_rfl) rfl fun vals w1 ρ hG hF hρ hcst hfun => ?_
      have e91 : ρ (.tmp 91) = .int .i64 Wd := ((hρ 91).trans (slotJ [6, 7] (by rw [hsz]; decide) (by kernel_rfl))).trans (hF 6 (by decide))
      have e92 : ρ (.tmp 92) = .int .i64 n := ((hρ 92).trans (slotJ [6, 7] (by rw [hsz]; decide) (by kernel_rfl))).trans (hF 7 (by decide))
      clear hρ hF hcst hfun sl2 sl8 sl11 sl18 fin
      exact opv_val (by go_simp <;> rfl) ⟨gw_self _, rfl⟩
    · refine owes_vt 2 false (Go.Op.binOp Go.BinOp.neq 3 (Go.Operand.tmp 89) (Go.Operand.tmp 93) 3) 4 [4, 8] (by kernel_rfl) (by kernel_rfl) (by kernel_rfl) (fun _ _ h => h) (by rw [hsz]; kernel_rfl) (by kernel_rfl) rfl fun vals w1 ρ hG hF hρ hcst hfun => ?_
      have e89 : ρ (.tmp 89) = .int .i64 room := ((hρ 89).trans (slotJ [4, 8] (by rw [hsz]; decide) (by kernel_rfl))).trans (hF 4 (by decide))
      have e93 : ρ (.tmp 93) = .int .i64 room := ((hρ 93).trans (slotJ [4, 8] (by rw [hsz]; decide) (by kernel_rfl))).trans (hF 8 (by decide))
      clear hρ hF hcst hfun sl2 sl8 sl11 sl18 fin
      exact opv_val (by go_simp <;> rfl) ⟨gw_self _, rfl⟩
    · refine owes_v (Go.Op.pick (Go.Operand.tmp 87) (Go.Operand.const (Go.Value.bool true)) (Go.Operand.tmp 94)) 4 [2, 9] (by kernel_rfl) (by kernel_rfl) (by kernel_rfl) rfl fun vals w1 ρ hG hF hρ hcst hfun => ?_
      have e87 : ρ (.tmp 87) = .bool false := ((hρ 87).trans (slotJ [2, 9] (by rw [hsz]; decide) (by kernel_rfl))).trans (hF 2 (by decide))
      have e94 : ρ (.tmp 94) = .bool false := ((hρ 94).trans (slotJ [2, 9] (by rw [hsz]; decide) (by kernel_rfl))).trans (hF 9 (by decide))
      clear hρ hF hfun sl2 sl8 sl11 sl18 fin
      exact opv_val (by go_simp <;> rfl) ⟨gw_self _, rfl⟩
  · intro vals w1 hG hF
    exact fin vals w1 hG (hF 10 (by decide +kernel))
end Go.Proofs.Ytgjnencpdafkoaa
