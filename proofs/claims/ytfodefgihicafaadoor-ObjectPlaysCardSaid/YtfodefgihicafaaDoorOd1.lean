/- Texts joined: SpD SpE SpG SpH SpI SpF MapA HdK. -/
import Derived.Test.YtfodefgihicafaaDoorSpC
import Derived.Maps.OwnSet
import Derived.Maps.Ext
import Derived.Lib.SlKeysI
import Derived.Test.YtfodefgihicafaaDoorRegV
import Derived.WalkSpells
import Derived.Test.YtfodefgihicafaaDoorChecked
import Derived.Test.YtfodefgihicafaaDoorBel
import Derived.Lib.Hide
import Derived.IntWalk
/- space: Alloc, Reset. Conditions: lengths. -/
namespace Go.Proofs.YtfodefgihicafaaDoor
set_option linter.unusedVariables false
set_option linter.unusedSimpArgs false
open Go.RowKit
/-- The words with a new object of n words at t. -/
def allocW (ws : List (BitVec 64)) (t n : Nat) (x : BitVec 64) : List (BitVec 64) := zeroW (ws.set t x) (t + 1) (n - 1)
set_option maxHeartbeats 400000
set_option maxRecDepth 100000
theorem alloc_ok3 (w : World) (B s g : Nat) (v : Value) (ws : List (BitVec 64)) (b t e : Nat) (sp : SpAt w B s g v ws b t e) (hl : ws.length ≤ 100000) (hp hb ht : Int) (n : Nat) (hr : rightH hp hb false ht = true) (hn : sizeH hp hb false ht = (n : Int)) (hn1 : 1 ≤ n) (hf : n ≤ e - t) :
    Calls Tryd.prog 24 #[.pointer (some ⟨s, 0, none⟩), .agg #[.int .i64 hp, .int .i64 hb, .bool false, .int .i64 ht]] w fun r w' => r = .returned (.tuple #[.int .i64 t, .int .i64 0]) ∧ SpAt w' B s g v (allocW ws t n (packH hp hb false ht)) b (t + n) e ∧ Below B w w' ∧ Two w w' s v.ownBlock := by
  have HPk := Lib.hid (fun W => pack_c hp hb false ht W)
  have HSz := Lib.hid (fun W => size_c hp hb false ht W)
  rw [hn] at HSz
  have hk := Bk.new w 60 #[.int .i64 hp, .int .i64 hb, .bool false, .int .i64 ht]
  have HK := Lib.hid hk
  have hB := Gw.alloc w (.cells #[.int .i64 hp, .int .i64 hb, .bool false, .int .i64 ht] 60)
  have HB := Lib.hid hB
  have e1 : errH hp hb false ht = 0 := by unfold errH; rw [hr]; rfl
  rw [e1] at HPk
  have HFr := Lib.hid (fun W (h : Below w.heap.size w W) => free_c W B s g v ws b t e (sp.below h) hl)
  obtain ⟨room, hroom⟩ : ∃ r, r = e - t := ⟨_, rfl⟩
  rw [← hroom] at HFr
  have u1 : ¬ room < n := by omega
  obtain ⟨x, hx⟩ : ∃ x, x = packH hp hb false ht := ⟨_, rfl⟩
  rw [← hx] at HPk ⊢
  have hte := sp.te
  have hel := sp.el
  have htl : t < ws.length := by omega
  have HSet := Lib.hid (fun W (h : MemAt W B g v ws) => set_in W B g v ws t x htl hl h)
  have hlen2 : (ws.set t x).length = ws.length := List.length_set
  have HZr := Lib.hid (fun W (h : SpAt W B s g v (ws.set t x) b t e) => zero_c W B s g v (ws.set t x) b t e (t + 1) (t + n) h (by omega) (by rw [hlen2]; omega) (by rw [hlen2]; exact hl))
  obtain ⟨tn, htn⟩ : ∃ tn, tn = t + n := ⟨_, rfl⟩
  have htn1 : tn - (t + 1) = n - 1 := by omega
  have ht1 : ((t + 1 : Nat) : Int) = (t : Int) + 1 := by omega
  rw [← htn, htn1, ht1] at HZr
  rw [← htn]
  have d2 : (t : Int) + (n : Int) = (tn : Int) := by omega
  have d3 : (tn : Int) ≤ 100000 := by omega
  have d4 : (t : Int) ≤ 100000 := by omega
  have d5 : (0 : Int) ≤ (tn : Int) := by omega
  have HX := Lib.hid (And.intro hlen2 (And.intro (show b ≤ tn by have := sp.bt; omega) (show tn ≤ e by omega)))
  have HSP := Lib.hid sp
  clear sp hr hn hk hB e1 hl hf hroom hx hte hel htl hlen2 htn htn1 hn1
  go_enter Tryd.func24, Tryd.ntmps24
  go_wp2_with fail
  refine Calls.mono (HPk.out _) ?_
  rintro r w1 ⟨rfl, b1⟩
  have HB1 := Lib.hid (HB.out.trans (b1.mono HB.out.size))
  have hk1 := HK.out.below b1 HK.out.lt
  obtain ⟨k0, k1, k2, k3⟩ := hk1.four
  clear b1 hk1
  go_wp2_with fail
  refine Calls.mono (HSz.out _) ?_
  rintro r w2 ⟨rfl, b2⟩
  have HB2 := Lib.hid (HB1.out.trans (b2.mono HB1.out.size))
  clear b2
  go_wp2_with fail
  refine Calls.mono (HFr.out _ HB2.out) ?_
  rintro r w3 ⟨rfl, b3⟩
  have HB3 := Lib.hid (HB2.out.trans (b3.mono HB2.out.size))
  have hsp3 := HSP.out.below HB3.out
  obtain ⟨c0, c1, c2, c3⟩ := hsp3.four
  have HSP3 := Lib.hid hsp3
  clear b3 hsp3 k0 k1 k2 k3
  go_wp2_with fail
  refine Calls.mono (HSet.out w3 HSP3.out.mem) ?_
  rintro r w4 ⟨rfl, hm4, hg4⟩
  have hsp4 := HSP3.out.memTo hm4 hg4 HX.out.1
  have HB4 : Hid (Below B w w4) := Lib.hid ((HB3.out.mono HSP.out.mem.le).trans (HSP3.out.mem.own hg4))
  have HT4 : Hid (Two w w4 s v.ownBlock) := Lib.hid ((Two.below HB3.out).trans (Two.grown hg4))
  have HSP4 := Lib.hid hsp4
  clear hm4 hg4 hsp4 HSP3
  go_wp2_with fail
  refine Calls.mono (HZr.out w4 HSP4.out) ?_
  rintro r w5 ⟨rfl, hsp5, hg5⟩
  have HB5 : Hid (Below B w w5) := Lib.hid (HB4.out.trans (HSP4.out.mem.own hg5))
  have HT5 : Hid (Two w (w5.setCell ⟨s, 2, none⟩ (.int .i64 tn)) s v.ownBlock) := Lib.hid ((HT4.out.trans (Two.grown hg5)).trans (Two.setc w5 s 2 _ _))
  obtain ⟨c0, c1, c2, c3⟩ := hsp5.four
  have hf2 := hsp5.blk.free 2
  have hsl := hsp5.blk.lt
  have hfin : SpAt (w5.setCell ⟨s, 2, none⟩ (.int .i64 tn)) B s g v (allocW ws t n x) b tn e ∧ Below B w (w5.setCell ⟨s, 2, none⟩ (.int .i64 tn)) := by
    have hgr := grown_set w5 ⟨s, 2, none⟩ (.int .i64 tn)
    refine ⟨⟨hsp5.mem.grown hgr (fun e => hsp5.sg (by injection e with e; exact e.symm)) (.inr hsp5.sv), hsp5.blk.set 2 _, hsp5.sg, hsp5.sv, hsp5.hs, HX.out.2.1, HX.out.2.2, hsp5.el⟩, HB5.out.setCell (p := ⟨s, 2, none⟩) hsp5.hs _⟩
  have HFin := Lib.hid hfin
  clear hfin hsp5 hg5 HSP4
  go_wp2_with fail
  go_ret2
  exact ⟨rfl, HFin.out.1, HFin.out.2, HT5.out⟩
theorem alloc_ok (w : World) (B s g : Nat) (v : Value) (ws : List (BitVec 64)) (b t e : Nat) (sp : SpAt w B s g v ws b t e) (hl : ws.length ≤ 100000) (hp hb ht : Int) (n : Nat) (hr : rightH hp hb false ht = true) (hn : sizeH hp hb false ht = (n : Int)) (hn1 : 1 ≤ n) (hf : n ≤ e - t) :
    Calls Tryd.prog 24 #[.pointer (some ⟨s, 0, none⟩), .agg #[.int .i64 hp, .int .i64 hb, .bool false, .int .i64 ht]] w fun r w' => r = .returned (.tuple #[.int .i64 t, .int .i64 0]) ∧ SpAt w' B s g v (allocW ws t n (packH hp hb false ht)) b (t + n) e ∧ Below B w w' :=
  (alloc_ok3 w B s g v ws b t e sp hl hp hb ht n hr hn hn1 hf).mono fun _ _ h => ⟨h.1, h.2.1, h.2.2.1⟩
end Go.Proofs.YtfodefgihicafaaDoor
/- What loamlaw15.known answers: true. No conditions. -/
namespace Go.Proofs.YtfodefgihicafaaDoor
set_option linter.unusedVariables false
set_option linter.unusedSimpArgs false
open Go.RowKit
def kW0 : List (BitVec 64) := List.replicate 20 0#64
def kW1 : List (BitVec 64) := allocW kW0 2 3 (packH 2 0 false 0)
def kW2 : List (BitVec 64) := allocW kW1 5 3 (packH 0 9 false 0)
set_option maxRecDepth 100000
set_option maxHeartbeats 400000
end Go.Proofs.YtfodefgihicafaaDoor
/- loamref14's Objects; loamlaw15's Mem, ints. Conditions: lengths. -/
namespace Go.Proofs.YtfodefgihicafaaDoor
set_option linter.unusedVariables false
set_option linter.unusedSimpArgs false
open Go.RowKit
/-- Block R holds the document's space of the words ws. -/
structure RefAt (W : World) (R : Nat) (A : Option Addr) (c : Nat) (ws : List (BitVec 64)) (b t e : Nat) : Prop where
  blk : Bk W R 29 #[.slice A ws.length c, .int .i64 b, .int .i64 t, .int .i64 e]
  rd : Rd u64v W W.heap.size A ws
theorem RefAt.below {W W' : World} {R : Nat} {A : Option Addr} {c : Nat} {ws : List (BitVec 64)} {b t e : Nat} (h : RefAt W R A c ws b t e) (hb : Below W.heap.size W W') : RefAt W' R A c ws b t e := ⟨h.blk.below hb h.blk.lt, (h.rd.below hb).more hb.size⟩
theorem RefAt.four {W : World} {R : Nat} {A : Option Addr} {c : Nat} {ws : List (BitVec 64)} {b t e : Nat} (h : RefAt W R A c ws b t e) : W.cell? ⟨R, 0, none⟩ = some (.slice A ws.length c) ∧ W.cell? ⟨R, 1, none⟩ = some (.int .i64 b) ∧ W.cell? ⟨R, 2, none⟩ = some (.int .i64 t) ∧ W.cell? ⟨R, 3, none⟩ = some (.int .i64 e) := ⟨h.blk.cell 0, h.blk.cell 1, h.blk.cell 2, h.blk.cell 3⟩
set_option maxHeartbeats 400000
set_option maxRecDepth 100000
theorem robj_e (Q : Exit → Act → World → Prop) (a0 : Act) (w : World)  (hsz : a0.tmps.size = 55) (sl7 : a0.tmps.getD 7 undef = .int .i64 2)
    (fin : ∀ (vals : Nat → Value) (w1 : World), Below w.heap.size w w1 → (IsV (.bool true)) (vals 16) w1 → Q .normal (putD vals [29, 30, 31, 32, 33, 34, 35, 36, 37, 38, 39, 40, 41, 42, 43, 44, 45] 0 a0) w1) :
    (Code.region 5 (regIn Tryd.f45 5) true).wp Tryd.prog Q a0 w := by
  refine region_by (G := fun w w1 => Below w.heap.size w w1) [IsV (.int .i64 2),
    IsV (.bool true),
    IsV (.bool true),
    IsV undef,
    IsV undef,
    IsV (.bool true),
    IsV (.bool true),
    IsV undef,
    IsV undef,
    IsV undef,
    IsV undef,
    IsV undef,
    IsV undef,
    IsV undef,
    IsV undef,
    IsV undef,
    IsV (.bool true)]
    [29, 30, 31, 32, 33, 34, 35, 36, 37, 38, 39, 40, 41, 42, 43, 44, 45] (by kernel_rfl) (Gw.drew _) Gw.trans (by rw [hsz]; kernel_rfl) (by kernel_rfl) ?_ ?_ ?_
  · intro f hf
    simp only [List.mem_cons, List.not_mem_nil, or_false] at hf
    rcases hf with rfl | rfl | rfl | rfl | rfl | rfl | rfl | rfl | rfl | rfl | rfl | rfl | rfl | rfl | rfl | rfl | rfl <;> intro v a b h g <;> first | exact IsV.mono h
  · refine ⟨?_, ?_, ?_, ?_, ?_, ?_, ?_, ?_, ?_, ?_, ?_, ?_, ?_, ?_, ?_, ?_, ?_, trivial⟩
    · exact owes_mv 7 (by kernel_rfl) (by kernel_rfl) (by kernel_rfl) sl7 (fun _ => rfl)
    · refine owes_v (Go.Op.binOp Go.BinOp.neq 3 (Go.Operand.tmp 29) (Go.Operand.const (Go.Value.int Go.IntKind.i64 0)) 3) 4 [0] (by kernel_rfl) (by kernel_rfl) (by kernel_rfl) rfl fun vals w1 ρ hG hF hρ hcst hfun => ?_
      have e29 : ρ (.tmp 29) = .int .i64 2 := ((hρ 29).trans (slotJ [0] (by rw [hsz]; decide) (by kernel_rfl))).trans (hF 0 (by decide))
      clear hρ hF hfun sl7 fin
      exact opv_val (by go_simp <;> rfl) ⟨gw_self _, rfl⟩
    · exact owes_mvj 1 30 (by kernel_rfl) (by kernel_rfl) (by kernel_rfl) (by kernel_rfl) (by rw [hsz]; decide) (fun v w h => h)
    · exact owes_no 2 true false (by decide) (by kernel_rfl) (by kernel_rfl) (fun _ _ h => h) (by rw [hsz]; kernel_rfl) (fun _ => rfl)
    · exact owes_no 2 true false (by decide) (by kernel_rfl) (by kernel_rfl) (fun _ _ h => h) (by rw [hsz]; kernel_rfl) (fun _ => rfl)
    · refine owes_v (Go.Op.pick (Go.Operand.tmp 31) (Go.Operand.const (Go.Value.bool true)) (Go.Operand.tmp 33)) 4 [2, 4] (by kernel_rfl) (by kernel_rfl) (by kernel_rfl) rfl fun vals w1 ρ hG hF hρ hcst hfun => ?_
      have e31 : ρ (.tmp 31) = .bool true := ((hρ 31).trans (slotJ [2, 4] (by rw [hsz]; decide) (by kernel_rfl))).trans (hF 2 (by decide))
      have e33 : ρ (.tmp 33) = undef := ((hρ 33).trans (slotJ [2, 4] (by rw [hsz]; decide) (by kernel_rfl))).trans (hF 4 (by decide))
      clear hρ hF hfun sl7 fin
      exact opv_val (by go_simp <;> rfl) ⟨gw_self _, rfl⟩
    · exact owes_mvj 5 34 (by kernel_rfl) (by kernel_rfl) (by kernel_rfl) (by kernel_rfl) (by rw [hsz]; decide) (fun v w h => h)
    · exact owes_no 6 true false (by decide) (by kernel_rfl) (by kernel_rfl) (fun _ _ h => h) (by rw [hsz]; kernel_rfl) (fun _ => rfl)
    · exact owes_no 6 true false (by decide) (by kernel_rfl) (by kernel_rfl) (fun _ _ h => h) (by rw [hsz]; kernel_rfl) (fun _ => rfl)
    · exact owes_no 6 true false (by decide) (by kernel_rfl) (by kernel_rfl) (fun _ _ h => h) (by rw [hsz]; kernel_rfl) (fun _ => rfl)
    · exact owes_no 6 true false (by decide) (by kernel_rfl) (by kernel_rfl) (fun _ _ h => h) (by rw [hsz]; kernel_rfl) (fun _ => rfl)
    · exact owes_no 6 true false (by decide) (by kernel_rfl) (by kernel_rfl) (fun _ _ h => h) (by rw [hsz]; kernel_rfl) (fun _ => rfl)
    · exact owes_no 6 true false (by decide) (by kernel_rfl) (by kernel_rfl) (fun _ _ h => h) (by rw [hsz]; kernel_rfl) (fun _ => rfl)
    · exact owes_no 6 true false (by decide) (by kernel_rfl) (by kernel_rfl) (fun _ _ h => h) (by rw [hsz]; kernel_rfl) (fun _ => rfl)
    · exact owes_no 6 true false (by decide) (by kernel_rfl) (by kernel_rfl) (fun _ _ h => h) (by rw [hsz]; kernel_rfl) (fun _ => rfl)
    · exact owes_no 6 true false (by decide) (by kernel_rfl) (by kernel_rfl) (fun _ _ h => h) (by rw [hsz]; kernel_rfl) (fun _ => rfl)
    · refine owes_v (Go.Op.pick (Go.Operand.tmp 35) (Go.Operand.const (Go.Value.bool true)) (Go.Operand.tmp 44)) 4 [6, 15] (by kernel_rfl) (by kernel_rfl) (by kernel_rfl) rfl fun vals w1 ρ hG hF hρ hcst hfun => ?_
      have e35 : ρ (.tmp 35) = .bool true := ((hρ 35).trans (slotJ [6, 15] (by rw [hsz]; decide) (by kernel_rfl))).trans (hF 6 (by decide))
      have e44 : ρ (.tmp 44) = undef := ((hρ 44).trans (slotJ [6, 15] (by rw [hsz]; decide) (by kernel_rfl))).trans (hF 15 (by decide))
      clear hρ hF hfun sl7 fin
      exact opv_val (by go_simp <;> rfl) ⟨gw_self _, rfl⟩
  · intro vals w1 hG hF
    exact fin vals w1 hG (hF 16 (by decide +kernel))
theorem robj_m (Q : Exit → Act → World → Prop) (a0 : Act) (w : World) (H : Nat) (p b t : Int) (hk : Bk w H 74 #[.int .i64 p, .int .i64 b, .bool true, .int .i64 t]) (hsz : a0.tmps.size = 55) (sl6 : a0.tmps.getD 6 undef = .pointer (some ⟨H, 0, none⟩)) (sl7 : a0.tmps.getD 7 undef = .int .i64 0)
    (fin : ∀ (vals : Nat → Value) (w1 : World), Below w.heap.size w w1 → (IsV (.bool true)) (vals 16) w1 → Q .normal (putD vals [29, 30, 31, 32, 33, 34, 35, 36, 37, 38, 39, 40, 41, 42, 43, 44, 45] 0 a0) w1) :
    (Code.region 5 (regIn Tryd.f45 5) true).wp Tryd.prog Q a0 w := by
  refine region_by (G := fun w w1 => Below w.heap.size w w1) [IsV (.int .i64 0),
    IsV (.bool false),
    IsV (.bool false),
    IsV (.pointer (some ⟨H, 2, none⟩)),
    IsV (.bool true),
    IsV (.bool true),
    IsV (.bool true),
    IsV undef,
    IsV undef,
    IsV undef,
    IsV undef,
    IsV undef,
    IsV undef,
    IsV undef,
    IsV undef,
    IsV undef,
    IsV (.bool true)]
    [29, 30, 31, 32, 33, 34, 35, 36, 37, 38, 39, 40, 41, 42, 43, 44, 45] (by kernel_rfl) (Gw.drew _) Gw.trans (by rw [hsz]; kernel_rfl) (by kernel_rfl) ?_ ?_ ?_
  · intro f hf
    simp only [List.mem_cons, List.not_mem_nil, or_false] at hf
    rcases hf with rfl | rfl | rfl | rfl | rfl | rfl | rfl | rfl | rfl | rfl | rfl | rfl | rfl | rfl | rfl | rfl | rfl <;> intro v a b h g <;> first | exact IsV.mono h
  · refine ⟨?_, ?_, ?_, ?_, ?_, ?_, ?_, ?_, ?_, ?_, ?_, ?_, ?_, ?_, ?_, ?_, ?_, trivial⟩
    · exact owes_mv 7 (by kernel_rfl) (by kernel_rfl) (by kernel_rfl) sl7 (fun _ => rfl)
    · refine owes_v (Go.Op.binOp Go.BinOp.neq 3 (Go.Operand.tmp 29) (Go.Operand.const (Go.Value.int Go.IntKind.i64 0)) 3) 4 [0] (by kernel_rfl) (by kernel_rfl) (by kernel_rfl) rfl fun vals w1 ρ hG hF hρ hcst hfun => ?_
      have e29 : ρ (.tmp 29) = .int .i64 0 := ((hρ 29).trans (slotJ [0] (by rw [hsz]; decide) (by kernel_rfl))).trans (hF 0 (by decide))
      clear hρ hF hfun sl6 sl7 fin
      exact opv_val (by go_simp <;> rfl) ⟨gw_self _, rfl⟩
    · exact owes_mvj 1 30 (by kernel_rfl) (by kernel_rfl) (by kernel_rfl) (by kernel_rfl) (by rw [hsz]; decide) (fun v w h => h)
    · refine owes_vt 2 false (Go.Op.fieldAddr 74 (Go.Operand.tmp 6) 2) 0 [] (by kernel_rfl) (by kernel_rfl) (by kernel_rfl) (fun _ _ h => h) (by rw [hsz]; kernel_rfl) (by kernel_rfl) rfl fun vals w1 ρ hG hF hρ hcst hfun => ?_
      have e6 : ρ (.tmp 6) = .pointer (some ⟨H, 0, none⟩) := ((hρ 6).trans (slotO [] (by kernel_rfl))).trans sl6
      clear hρ hF hcst hfun sl6 sl7 fin
      exact opv_val (by go_simp <;> rfl) ⟨gw_self _, rfl⟩
    · refine owes_vt 2 false (Go.Op.load 4 (Go.Operand.tmp 32)) 4 [3] (by kernel_rfl) (by kernel_rfl) (by kernel_rfl) (fun _ _ h => h) (by rw [hsz]; kernel_rfl) (by kernel_rfl) rfl fun vals w1 ρ hG hF hρ hcst hfun => ?_
      have e32 : ρ (.tmp 32) = .pointer (some ⟨H, 2, none⟩) := ((hρ 32).trans (slotJ [3] (by rw [hsz]; decide) (by kernel_rfl))).trans (hF 3 (by decide))
      have k := ((hk.below hG hk.lt).four).2.2.1
      clear hρ hF hcst hfun sl6 sl7 fin
      exact opv_val (by go_simp <;> rfl) ⟨gw_self _, rfl⟩
    · refine owes_v (Go.Op.pick (Go.Operand.tmp 31) (Go.Operand.const (Go.Value.bool true)) (Go.Operand.tmp 33)) 4 [2, 4] (by kernel_rfl) (by kernel_rfl) (by kernel_rfl) rfl fun vals w1 ρ hG hF hρ hcst hfun => ?_
      have e31 : ρ (.tmp 31) = .bool false := ((hρ 31).trans (slotJ [2, 4] (by rw [hsz]; decide) (by kernel_rfl))).trans (hF 2 (by decide))
      have e33 : ρ (.tmp 33) = .bool true := ((hρ 33).trans (slotJ [2, 4] (by rw [hsz]; decide) (by kernel_rfl))).trans (hF 4 (by decide))
      clear hρ hF hfun sl6 sl7 fin
      exact opv_val (by go_simp <;> rfl) ⟨gw_self _, rfl⟩
    · exact owes_mvj 5 34 (by kernel_rfl) (by kernel_rfl) (by kernel_rfl) (by kernel_rfl) (by rw [hsz]; decide) (fun v w h => h)
    · exact owes_no 6 true false (by decide) (by kernel_rfl) (by kernel_rfl) (fun _ _ h => h) (by rw [hsz]; kernel_rfl) (fun _ => rfl)
    · exact owes_no 6 true false (by decide) (by kernel_rfl) (by kernel_rfl) (fun _ _ h => h) (by rw [hsz]; kernel_rfl) (fun _ => rfl)
    · exact owes_no 6 true false (by decide) (by kernel_rfl) (by kernel_rfl) (fun _ _ h => h) (by rw [hsz]; kernel_rfl) (fun _ => rfl)
    · exact owes_no 6 true false (by decide) (by kernel_rfl) (by kernel_rfl) (fun _ _ h => h) (by rw [hsz]; kernel_rfl) (fun _ => rfl)
    · exact owes_no 6 true false (by decide) (by kernel_rfl) (by kernel_rfl) (fun _ _ h => h) (by rw [hsz]; kernel_rfl) (fun _ => rfl)
    · exact owes_no 6 true false (by decide) (by kernel_rfl) (by kernel_rfl) (fun _ _ h => h) (by rw [hsz]; kernel_rfl) (fun _ => rfl)
    · exact owes_no 6 true false (by decide) (by kernel_rfl) (by kernel_rfl) (fun _ _ h => h) (by rw [hsz]; kernel_rfl) (fun _ => rfl)
    · exact owes_no 6 true false (by decide) (by kernel_rfl) (by kernel_rfl) (fun _ _ h => h) (by rw [hsz]; kernel_rfl) (fun _ => rfl)
    · exact owes_no 6 true false (by decide) (by kernel_rfl) (by kernel_rfl) (fun _ _ h => h) (by rw [hsz]; kernel_rfl) (fun _ => rfl)
    · refine owes_v (Go.Op.pick (Go.Operand.tmp 35) (Go.Operand.const (Go.Value.bool true)) (Go.Operand.tmp 44)) 4 [6, 15] (by kernel_rfl) (by kernel_rfl) (by kernel_rfl) rfl fun vals w1 ρ hG hF hρ hcst hfun => ?_
      have e35 : ρ (.tmp 35) = .bool true := ((hρ 35).trans (slotJ [6, 15] (by rw [hsz]; decide) (by kernel_rfl))).trans (hF 6 (by decide))
      have e44 : ρ (.tmp 44) = undef := ((hρ 44).trans (slotJ [6, 15] (by rw [hsz]; decide) (by kernel_rfl))).trans (hF 15 (by decide))
      clear hρ hF hfun sl6 sl7 fin
      exact opv_val (by go_simp <;> rfl) ⟨gw_self _, rfl⟩
  · intro vals w1 hG hF
    exact fin vals w1 hG (hF 16 (by decide +kernel))
theorem robj_s (Q : Exit → Act → World → Prop) (a0 : Act) (w : World) (H s a top room sz : Nat) (p b t : Int) (r : Bool) (hk : Bk w H 74 #[.int .i64 p, .int .i64 b, .bool false, .int .i64 t]) (hs : s < w.heap.size) (ct : w.cell? ⟨s, 2, none⟩ = some (.int .i64 top)) (hz : sizeH p b false t = (sz : Int)) (d1 : (top : Int) - (a : Int) = (room : Int)) (d2 : (room : Int) ≤ 100000) (d3 : (0 : Int) ≤ (room : Int)) (hr : decide (room < sz) = r) (hsz : a0.tmps.size = 55) (sl0 : a0.tmps.getD 0 undef = .pointer (some ⟨s, 0, none⟩)) (sl5 : a0.tmps.getD 5 undef = .int .i64 a) (sl6 : a0.tmps.getD 6 undef = .pointer (some ⟨H, 0, none⟩)) (sl7 : a0.tmps.getD 7 undef = .int .i64 0)
    (fin : ∀ (vals : Nat → Value) (w1 : World), Below w.heap.size w w1 → (IsV (.bool r)) (vals 16) w1 → Q .normal (putD vals [29, 30, 31, 32, 33, 34, 35, 36, 37, 38, 39, 40, 41, 42, 43, 44, 45] 0 a0) w1) :
    (Code.region 5 (regIn Tryd.f45 5) true).wp Tryd.prog Q a0 w := by
  refine region_by (G := fun w w1 => Below w.heap.size w w1) [IsV (.int .i64 0),
    IsV (.bool false),
    IsV (.bool false),
    IsV (.pointer (some ⟨H, 2, none⟩)),
    IsV (.bool false),
    IsV (.bool false),
    IsV (.bool false),
    IsV (.agg #[.int .i64 p, .int .i64 b, .bool false, .int .i64 t]),
    IsV (.int .i64 sz),
    IsV (.pointer (some ⟨s, 0, none⟩)),
    IsV (.pointer (some ⟨s, 0, none⟩)),
    IsV (.pointer (some ⟨s, 2, none⟩)),
    IsV (.int .i64 top),
    IsV (.int .i64 a),
    IsV (.int .i64 room),
    IsV (.bool r),
    IsV (.bool r)]
    [29, 30, 31, 32, 33, 34, 35, 36, 37, 38, 39, 40, 41, 42, 43, 44, 45] (by kernel_rfl) (Gw.drew _) Gw.trans (by rw [hsz]; kernel_rfl) (by kernel_rfl) ?_ ?_ ?_
  · intro f hf
    simp only [List.mem_cons, List.not_mem_nil, or_false] at hf
    rcases hf with rfl | rfl | rfl | rfl | rfl | rfl | rfl | rfl | rfl | rfl | rfl | rfl | rfl | rfl | rfl | rfl | rfl <;> intro v a b h g <;> first | exact IsV.mono h
  · refine ⟨?_, ?_, ?_, ?_, ?_, ?_, ?_, ?_, ?_, ?_, ?_, ?_, ?_, ?_, ?_, ?_, ?_, trivial⟩
    · exact owes_mv 7 (by kernel_rfl) (by kernel_rfl) (by kernel_rfl) sl7 (fun _ => rfl)
    · refine owes_v (Go.Op.binOp Go.BinOp.neq 3 (Go.Operand.tmp 29) (Go.Operand.const (Go.Value.int Go.IntKind.i64 0)) 3) 4 [0] (by kernel_rfl) (by kernel_rfl) (by kernel_rfl) rfl fun vals w1 ρ hG hF hρ hcst hfun => ?_
      have e29 : ρ (.tmp 29) = .int .i64 0 := ((hρ 29).trans (slotJ [0] (by rw [hsz]; decide) (by kernel_rfl))).trans (hF 0 (by decide))
      clear hρ hF hfun sl0 sl5 sl6 sl7 fin
      exact opv_val (by go_simp <;> rfl) ⟨gw_self _, rfl⟩
    · exact owes_mvj 1 30 (by kernel_rfl) (by kernel_rfl) (by kernel_rfl) (by kernel_rfl) (by rw [hsz]; decide) (fun v w h => h)
    · refine owes_vt 2 false (Go.Op.fieldAddr 74 (Go.Operand.tmp 6) 2) 0 [] (by kernel_rfl) (by kernel_rfl) (by kernel_rfl) (fun _ _ h => h) (by rw [hsz]; kernel_rfl) (by kernel_rfl) rfl fun vals w1 ρ hG hF hρ hcst hfun => ?_
      have e6 : ρ (.tmp 6) = .pointer (some ⟨H, 0, none⟩) := ((hρ 6).trans (slotO [] (by kernel_rfl))).trans sl6
      clear hρ hF hcst hfun sl0 sl5 sl6 sl7 fin
      exact opv_val (by go_simp <;> rfl) ⟨gw_self _, rfl⟩
    · refine owes_vt 2 false (Go.Op.load 4 (Go.Operand.tmp 32)) 4 [3] (by kernel_rfl) (by kernel_rfl) (by kernel_rfl) (fun _ _ h => h) (by rw [hsz]; kernel_rfl) (by kernel_rfl) rfl fun vals w1 ρ hG hF hρ hcst hfun => ?_
      have e32 : ρ (.tmp 32) = .pointer (some ⟨H, 2, none⟩) := ((hρ 32).trans (slotJ [3] (by rw [hsz]; decide) (by kernel_rfl))).trans (hF 3 (by decide))
      have k := ((hk.below hG hk.lt).four).2.2.1
      clear hρ hF hcst hfun sl0 sl5 sl6 sl7 fin
      exact opv_val (by go_simp <;> rfl) ⟨gw_self _, rfl⟩
    · refine owes_v (Go.Op.pick (Go.Operand.tmp 31) (Go.Operand.const (Go.Value.bool true)) (Go.Operand.tmp 33)) 4 [2, 4] (by kernel_rfl) (by kernel_rfl) (by kernel_rfl) rfl fun vals w1 ρ hG hF hρ hcst hfun => ?_
      have e31 : ρ (.tmp 31) = .bool false := ((hρ 31).trans (slotJ [2, 4] (by rw [hsz]; decide) (by kernel_rfl))).trans (hF 2 (by decide))
      have e33 : ρ (.tmp 33) = .bool false := ((hρ 33).trans (slotJ [2, 4] (by rw [hsz]; decide) (by kernel_rfl))).trans (hF 4 (by decide))
      clear hρ hF hfun sl0 sl5 sl6 sl7 fin
      exact opv_val (by go_simp <;> rfl) ⟨gw_self _, rfl⟩
    · exact owes_mvj 5 34 (by kernel_rfl) (by kernel_rfl) (by kernel_rfl) (by kernel_rfl) (by rw [hsz]; decide) (fun v w h => h)
    · refine owes_vt 6 false (Go.Op.load 74 (Go.Operand.tmp 6)) 74 [] (by kernel_rfl) (by kernel_rfl) (by kernel_rfl) (fun _ _ h => h) (by rw [hsz]; kernel_rfl) (by kernel_rfl) rfl fun vals w1 ρ hG hF hρ hcst hfun => ?_
      have e6 : ρ (.tmp 6) = .pointer (some ⟨H, 0, none⟩) := ((hρ 6).trans (slotO [] (by kernel_rfl))).trans sl6
      obtain ⟨k1, k2, k3, k4⟩ := (hk.below hG hk.lt).four
      clear hρ hF hcst hfun sl0 sl5 sl6 sl7 fin
      exact opv_val (by go_simp <;> rfl) ⟨gw_self _, rfl⟩
    · refine owes_vt 6 false (Go.Op.call { callee := Go.Callee.value (Go.Operand.func 65), args := #[Go.Operand.tmp 36], argTypes := #[74] }) 3 [7] (by kernel_rfl) (by kernel_rfl) (by kernel_rfl) (fun _ _ h => h) (by rw [hsz]; kernel_rfl) (by kernel_rfl) rfl fun vals w1 ρ hG hF hρ hcst hfun => ?_
      have e36 : ρ (.tmp 36) = .agg #[.int .i64 p, .int .i64 b, .bool false, .int .i64 t] := ((hρ 36).trans (slotJ [7] (by rw [hsz]; decide) (by kernel_rfl))).trans (hF 7 (by decide))
      have kz := rsize_c p b false t w1
      rw [hz] at kz
      clear hρ hF hcst sl0 sl5 sl6 sl7 fin
      exact opv_enter (by go_simp <;> rfl) (of_rp kz)
    · refine owes_vt 6 false (Go.Op.move (Go.Operand.tmp 0)) 27 [] (by kernel_rfl) (by kernel_rfl) (by kernel_rfl) (fun _ _ h => h) (by rw [hsz]; kernel_rfl) (by kernel_rfl) rfl fun vals w1 ρ hG hF hρ hcst hfun => ?_
      have e0 : ρ (.tmp 0) = .pointer (some ⟨s, 0, none⟩) := ((hρ 0).trans (slotO [] (by kernel_rfl))).trans sl0
      clear hρ hF hcst hfun sl0 sl5 sl6 sl7 fin
      exact opv_val (by go_simp <;> rfl) ⟨gw_self _, rfl⟩
    · refine owes_vt 6 false (Go.Op.nilCheck (Go.Operand.tmp 38)) 0 [9] (by kernel_rfl) (by kernel_rfl) (by kernel_rfl) (fun _ _ h => h) (by rw [hsz]; kernel_rfl) (by kernel_rfl) rfl fun vals w1 ρ hG hF hρ hcst hfun => ?_
      have e38 : ρ (.tmp 38) = .pointer (some ⟨s, 0, none⟩) := ((hρ 38).trans (slotJ [9] (by rw [hsz]; decide) (by kernel_rfl))).trans (hF 9 (by decide))
      clear hρ hF hcst hfun sl0 sl5 sl6 sl7 fin
      exact opv_val (by go_simp <;> rfl) ⟨gw_self _, rfl⟩
    · refine owes_vt 6 false (Go.Op.fieldAddr 29 (Go.Operand.tmp 39) 2) 0 [10] (by kernel_rfl) (by kernel_rfl) (by kernel_rfl) (fun _ _ h => h) (by rw [hsz]; kernel_rfl) (by kernel_rfl) rfl fun vals w1 ρ hG hF hρ hcst hfun => ?_
      have e39 : ρ (.tmp 39) = .pointer (some ⟨s, 0, none⟩) := ((hρ 39).trans (slotJ [10] (by rw [hsz]; decide) (by kernel_rfl))).trans (hF 10 (by decide))
      clear hρ hF hcst hfun sl0 sl5 sl6 sl7 fin
      exact opv_val (by go_simp <;> rfl) ⟨gw_self _, rfl⟩
    · refine owes_vt 6 false (Go.Op.load 3 (Go.Operand.tmp 40)) 3 [11] (by kernel_rfl) (by kernel_rfl) (by kernel_rfl) (fun _ _ h => h) (by rw [hsz]; kernel_rfl) (by kernel_rfl) rfl fun vals w1 ρ hG hF hρ hcst hfun => ?_
      have e40 : ρ (.tmp 40) = .pointer (some ⟨s, 2, none⟩) := ((hρ 40).trans (slotJ [11] (by rw [hsz]; decide) (by kernel_rfl))).trans (hF 11 (by decide))
      have k := (hG.cell (p := ⟨s, 2, none⟩) hs).trans ct
      clear hρ hF hcst hfun sl0 sl5 sl6 sl7 fin
      exact opv_val (by go_simp <;> rfl) ⟨gw_self _, rfl⟩
    · refine owes_vt 6 false (Go.Op.move (Go.Operand.tmp 5)) 3 [] (by kernel_rfl) (by kernel_rfl) (by kernel_rfl) (fun _ _ h => h) (by rw [hsz]; kernel_rfl) (by kernel_rfl) rfl fun vals w1 ρ hG hF hρ hcst hfun => ?_
      have e5 : ρ (.tmp 5) = .int .i64 a := ((hρ 5).trans (slotO [] (by kernel_rfl))).trans sl5
      clear hρ hF hcst hfun sl0 sl5 sl6 sl7 fin
      exact opv_val (by go_simp <;> rfl) ⟨gw_self _, rfl⟩
    · refine owes_vt 6 false (Go.Op.binOp Go.BinOp.sub 3 (Go.Operand.tmp 41) (Go.Operand.tmp 42) 3) 3 [12, 13] (by kernel_rfl) (by kernel_rfl) (by kernel_rfl) (fun _ _ h => h) (by rw [hsz]; kernel_rfl) (by kernel_rfl) rfl fun vals w1 ρ hG hF hρ hcst hfun => ?_
      have e41 : ρ (.tmp 41) = .int .i64 top := ((hρ 41).trans (slotJ [12, 13] (by rw [hsz]; decide) (by kernel_rfl))).trans (hF 12 (by decide))
      have e42 : ρ (.tmp 42) = .int .i64 a := ((hρ 42).trans (slotJ [12, 13] (by rw [hsz]; decide) (by kernel_rfl))).trans (hF 13 (by decide))
      have kw0 : IntKind.i64.wrap ((room : Int)) = (room : Int) := wrapIn (by omega) (by omega)
      clear hρ hF hcst hfun sl0 sl5 sl6 sl7 fin
      exact opv_val (by go_simp <;> rfl) ⟨gw_self _, rfl⟩
    · refine owes_vt 6 false (Go.Op.binOp Go.BinOp.gtr 3 (Go.Operand.tmp 37) (Go.Operand.tmp 43) 3) 4 [8, 14] (by kernel_rfl) (by kernel_rfl) (by kernel_rfl) (fun _ _ h => h) (by rw [hsz]; kernel_rfl) (by kernel_rfl) rfl fun vals w1 ρ hG hF hρ hcst hfun => ?_
      have e37 : ρ (.tmp 37) = .int .i64 sz := ((hρ 37).trans (slotJ [8, 14] (by rw [hsz]; decide) (by kernel_rfl))).trans (hF 8 (by decide))
      have e43 : ρ (.tmp 43) = .int .i64 room := ((hρ 43).trans (slotJ [8, 14] (by rw [hsz]; decide) (by kernel_rfl))).trans (hF 14 (by decide))
      clear hρ hF hcst hfun sl0 sl5 sl6 sl7 fin
      exact opv_val (by go_simp <;> first | rfl | exact hr | rw [hr]) ⟨gw_self _, rfl⟩
    · refine owes_v (Go.Op.pick (Go.Operand.tmp 35) (Go.Operand.const (Go.Value.bool true)) (Go.Operand.tmp 44)) 4 [6, 15] (by kernel_rfl) (by kernel_rfl) (by kernel_rfl) rfl fun vals w1 ρ hG hF hρ hcst hfun => ?_
      have e35 : ρ (.tmp 35) = .bool false := ((hρ 35).trans (slotJ [6, 15] (by rw [hsz]; decide) (by kernel_rfl))).trans (hF 6 (by decide))
      have e44 : ρ (.tmp 44) = .bool r := ((hρ 44).trans (slotJ [6, 15] (by rw [hsz]; decide) (by kernel_rfl))).trans (hF 15 (by decide))
      clear hρ hF hfun sl0 sl5 sl6 sl7 fin
      exact opv_val (by go_simp <;> rfl) ⟨gw_self _, rfl⟩
  · intro vals w1 hG hF
    exact fin vals w1 hG (hF 16 (by decide +kernel))
def RObjP (r : Option (List Nat)) (w : World) (e : Ending) (w' : World) : Prop := match r with
  | some l => ∃ A c, e = .returned (.tuple #[.slice A l.length c, .bool true]) ∧ l.length ≤ c ∧ Ow iN 3 w' w.heap.size (.slice A l.length c) l ∧ Below w.heap.size w w'
  | none => RetP (.tuple #[.slice none 0 0, .bool false]) w e w'
theorem robjects_c (w : World) (s : Nat) (A : Option Addr) (c : Nat) (ws : List (BitVec 64)) (b t e : Nat) (p : RefAt w s A c ws b t e) (hbt : b ≤ t) (htw : t ≤ ws.length) (hl : ws.length ≤ 100000) :
    Calls Tryd.prog 45 #[.pointer (some ⟨s, 0, none⟩)] w (RObjP (objF ws t (t + 1) b) w) := by
  have HP := Lib.hid p
  obtain ⟨N, hN⟩ : ∃ N, N = ws.length := ⟨_, rfl⟩
  have HN := Lib.hid hN
  have q0 : (N : Int) ≤ 100000 := by omega
  have HTW := Lib.hid htw
  obtain ⟨R, hR⟩ : ∃ R, R = objF ws t (t + 1) b := ⟨_, rfl⟩
  rw [← hR]
  have HRR := Lib.hid hR
  have hc1 := p.four.2.1
  have hc2 := p.four.2.2.1
  have hsl := p.blk.lt
  have q1 : (t : Int) ≤ 100000 := by omega
  have q2 : (b : Int) ≤ 100000 := by omega
  clear p hl htw hR hbt hN
  go_enter Tryd.func45, Tryd.ntmps45
  go_wp2_with fail
  go_loopw [4, 5] (fun o i W => ∃ (n a : Nat) (pre : List Nat), i = .int .i64 a ∧ Hid (b ≤ a) ∧ Hid (t < a + n) ∧ Hid (R = (objF ws t n a).map (pre ++ ·)) ∧ Hid (pre.length ≤ a) ∧ Ow iN 3 W w.heap.size o pre ∧ Below w.heap.size w W) (fun _ i _ => t - (Go.RowKit.intOf i).toNat)
  case atStart => exact ⟨t + 1, b, [], rfl, Lib.hid (Nat.le_refl _), Lib.hid (by omega), Lib.hid (by rw [HRR.out]; simp), Lib.hid (by simp), Ow.nil_ _ _ _ _, Below.refl _ _⟩
  case round =>
    obtain ⟨n, a, pre, rfl, hba, htn, hre, hpl, ho, hB⟩ := hrel
    have hp := HP.out.below hB
    have c2 := hp.four.2.2.1
    have c0 := hp.four.1
    rw [← HN.out] at c0
    by_cases hlt : a < t
    · have p1 : (0 : Int) ≤ (a : Int) := by omega
      have haw : a < ws.length := Nat.lt_of_lt_of_le hlt HTW.out
      obtain ⟨x, hx⟩ : ∃ x, x = ws[a] := ⟨_, rfl⟩
      have HH := Lib.hid (runpack_c x wr)
      obtain ⟨ad, rfl, hadb, hcx⟩ := hp.rd a haw
      rw [← hx] at hcx
      unfold u64v at hcx
      have p2 : (a : Int) < (N : Int) := by have := HN.out; omega
      obtain ⟨m, rfl⟩ : ∃ m, n = m + 1 := ⟨n - 1, by have := htn.out; omega⟩
      have hgx : ws.getD a 0#64 = x := by rw [List.getD_eq_getElem?_getD, List.getElem?_eq_getElem haw, hx]; rfl
      have hstep : R = (if goodX x (t - a) = true then (objF ws t m (a + szX x)).map (a :: ·) else none).map (pre ++ ·) := by
        have h := hre.out
        have e : objF ws t (m + 1) a = if goodX x (t - a) = true then (objF ws t m (a + szX x)).map (a :: ·) else none := by
          show (if a < t then _ else _) = _
          rw [if_pos hlt, hgx]
        rw [e] at h
        exact h
      have HST := Lib.hid hstep
      have HO := Lib.hid ho
      have HBB := Lib.hid hB
      have HPW := Lib.hid hp
      clear hre hx haw hgx hstep ho hp hadb
      cases hok : okU x with
      | false =>
        rw [unV_bad hok] at HH
        have hbad : R = none := by
          rw [HST.out]
          have : goodX x (t - a) = false := by unfold goodX; rw [hok]; rfl
          rw [this]
          rfl
        have HRN := Lib.hid hbad
        clear hbad hok
        go_wp2_with fail
        refine Calls.mono HH.out ?_
        rintro r w2 ⟨rfl, b2⟩
        have HB2 := Lib.hid (hB.trans (b2.mono hB.size))
        clear b2
        go_wp2_with fail
        refine robj_e _ _ _ rfl rfl ?_
        intro vals w3 hG h40
        unfold IsV at h40
        simp only [putD, Act.put, List.setIfInBounds_toArray, List.set_cons_zero, List.set_cons_succ, h40]
        have HB3 := Lib.hid (((HB2.out.alloc HB2.out.size _)).trans (hG.mono (by have := HB2.out.size; simp; omega)))
        clear h40 hG
        go_wp2_with fail
        go_ret2
        rw [HRN.out]
        exact ⟨rfl, HB3.out⟩
      | true =>
        cases hm : fM x with
        | true =>
          have hv := unV_yes hok
          rw [hm] at hv
          rw [hv] at HH
          have hbad : R = none := by
            rw [HST.out]
            have : goodX x (t - a) = false := by unfold goodX; rw [hok, hm]; rfl
            rw [this]
            rfl
          have HRN := Lib.hid hbad
          clear hbad hok hm hv
          go_wp2_with fail
          refine Calls.mono HH.out ?_
          rintro r w2 ⟨rfl, b2⟩
          have HB2 := Lib.hid (hB.trans (b2.mono hB.size))
          clear b2
          go_wp2_with fail
          refine robj_m _ _ _ w2.heap.size (fP x) (fB x) (fT x) (Bk.new w2 _ _) rfl rfl rfl ?_
          intro vals w3 hG h40
          unfold IsV at h40
          simp only [putD, Act.put, List.setIfInBounds_toArray, List.set_cons_zero, List.set_cons_succ, h40]
          have HB3 := Lib.hid (((HB2.out.alloc HB2.out.size _)).trans (hG.mono (by have := HB2.out.size; simp; omega)))
          clear h40 hG
          go_wp2_with fail
          go_ret2
          rw [HRN.out]
          exact ⟨rfl, HB3.out⟩
        | false =>
          have hv := unV_yes hok
          rw [hm] at hv
          rw [hv] at HH
          obtain ⟨hz, hz1, hz2⟩ := szX_pos hok hm
          have hgood : goodX x (t - a) = decide (szX x ≤ t - a) := by unfold goodX; rw [hok, hm]; rfl
          obtain ⟨sz, hsz⟩ : ∃ sz, sz = szX x := ⟨_, rfl⟩
          obtain ⟨room, hroom⟩ : ∃ r, r = t - a := ⟨_, rfl⟩
          rw [← hsz] at hz hz1 hz2
          have hst2 := HST.out
          rw [hgood, ← hsz, ← hroom] at hst2
          have d1 : (t : Int) - (a : Int) = (room : Int) := by omega
          have d2 : (room : Int) ≤ 100000 := by omega
          have d3 : (0 : Int) ≤ (room : Int) := by omega
          have HZ := Lib.hid (fun W => rsize_c (fP x) (fB x) false (fT x) W)
          rw [hz] at HZ
          have HZZ := Lib.hid hz
          have HD := Lib.hid (And.intro d1 (And.intro d2 d3))
          have HST2 := Lib.hid hst2
          have hz3 : (sz : Int) ≤ 1000 := by omega
          have HS1 := Lib.hid hz1
          have HSL := Lib.hid HPW.out.blk.lt
          clear hv hok hm hz hz2 hgood hsz hst2 HST hz1 d1 d2 d3
          go_wp2_with fail
          refine Calls.mono HH.out ?_
          rintro r w2 ⟨rfl, b2⟩
          have HB2 := Lib.hid (hB.trans (b2.mono hB.size))
          have hk2 := Bk.new w2 74 #[.int .i64 (fP x), .int .i64 (fB x), .bool false, .int .i64 (fT x)]
          have HK2 := Lib.hid hk2
          have hb3 := Gw.alloc w2 (.cells #[.int .i64 (fP x), .int .i64 (fB x), .bool false, .int .i64 (fT x)] 74)
          have HB3 := Lib.hid (HB2.out.trans (hb3.mono HB2.out.size))
          have hw3 : (w2.alloc (.cells #[.int .i64 (fP x), .int .i64 (fB x), .bool false, .int .i64 (fT x)] 74)).cell? ⟨s, 2, none⟩ = some (.int .i64 t) := ((HPW.out.below b2).below hb3).four.2.2.1
          have HS3 : Hid (s < (w2.alloc (.cells #[.int .i64 (fP x), .int .i64 (fB x), .bool false, .int .i64 (fT x)] 74)).heap.size) := Lib.hid ((HPW.out.below b2).below hb3).blk.lt
          have HW3 := Lib.hid hw3
          have HO2 := Lib.hid ((HO.out.below b2).alloc (.cells #[.int .i64 (fP x), .int .i64 (fB x), .bool false, .int .i64 (fT x)] 74))
          have hol : ∀ k, u4.ownBlock = some k → k < w2.heap.size := fun k e => ((HO.out.below b2).lt k e).2
          have HOL := Lib.hid hol
          clear b2 hk2 hb3 hw3 hol
          go_wp2_with fail
          by_cases hfit : sz ≤ room
          · refine robj_s _ _ _ w2.heap.size s a t room sz (fP x) (fB x) (fT x) false HK2.out HS3.out HW3.out HZZ.out HD.out.1 HD.out.2.1 HD.out.2.2 (by simp; omega) rfl rfl rfl rfl rfl ?_
            intro vals w3 hG h40
            unfold IsV at h40
            simp only [putD, Act.put, List.setIfInBounds_toArray, List.set_cons_zero, List.set_cons_succ, h40]
            have hk3 := HK2.out.below hG HK2.out.lt
            obtain ⟨k0, k1, k2, k3⟩ := hk3.four
            have ho3 := HO2.out.below hG
            obtain ⟨A3, m3, n3, rfl⟩ : ∃ A m n, u4 = Value.slice A m n := by
              obtain ⟨A, c, e, _⟩ := ho3.form
              exact ⟨A, _, c, e⟩
            have HB4 := Lib.hid (HB3.out.trans (hG.mono HB3.out.size))
            have hsz4 := HB4.out.size
            have hlen : pre.length + 1 ≤ 4294967296 := by have := hpl.out; omega
            have hRn : R = (objF ws t m (a + sz)).map ((pre ++ [a]) ++ ·) := by
              have h := HST2.out
              have hd : decide (sz ≤ room) = true := by simp [hfit]
              rw [if_pos hd] at h
              rw [h]
              cases objF ws t m (a + sz) with
              | none => rfl
              | some l => simp
            have HRn := Lib.hid hRn
            have HK3 := Lib.hid hk3
            have HNE : Hid (some w2.heap.size ≠ (Value.slice A3 m3 n3).ownBlock) := Lib.hid (fun e => by have := HOL.out _ e.symm; omega)
            clear h40 hG hk3 hRn k0 k1 k2 k3
            go_wp2_with (at_builtin; refine wp_app oneI iN_one rfl (.tmp 46) (.tmp 48) rfl w.heap.size _ pre rfl (ho3.alloc _) (some ⟨w3.heap.size, 0, none⟩) 1 1 [a] rfl rfl (w3.heap.size + 1) (rd1_new rfl) hlen (by decide) (by simp; omega) ?_; intro v5 w5 ho5 hb5 hg5 _; have hk5 := bk_kept HK3.out hg5 HNE.out; obtain ⟨k0, k1, k2, k3⟩ := hk5.four)
            have HB5 := Lib.hid ((HB4.out.alloc hsz4 _).trans hb5)
            have HO5 := Lib.hid ho5
            have HZ5 := Lib.hid (HZ.out w5)
            obtain ⟨a2, ha2⟩ : ∃ a2, a2 = a + sz := ⟨_, rfl⟩
            have e2 : (a : Int) + (sz : Int) = (a2 : Int) := by omega
            have e3 : (a2 : Int) ≤ 200000 := by omega
            have e4 : (0 : Int) ≤ (a2 : Int) := by omega
            have HA2 := Lib.hid ha2
            clear hk5 ho5 hb5 hg5 ha2 HK3 HOL
            go_wp2_with fail
            refine Calls.mono HZ5.out ?_
            rintro r w6 ⟨rfl, b6⟩
            have HB6 := Lib.hid (HB5.out.trans (b6.mono HB5.out.size))
            have HO6 := Lib.hid (HO5.out.below b6)
            clear b6 HO5 HB5
            go_wp2_with fail
            go_roundw
            case rel =>
              refine ⟨m, a2, pre ++ [a], rfl, Lib.hid ?_, Lib.hid ?_, Lib.hid ?_, Lib.hid ?_, HO6.out, HB6.out⟩
              · have := HA2.out; have := hba.out; omega
              · have := HA2.out; have := htn.out; have := HS1.out; omega
              · rw [HA2.out]; exact HRn.out
              · have := HA2.out; have := hpl.out; have := HS1.out; rw [List.length_append]; simp; omega
            case measure => have := HA2.out; have := HS1.out; simp [Go.RowKit.intOf]; omega
          · refine robj_s _ _ _ w2.heap.size s a t room sz (fP x) (fB x) (fT x) true HK2.out HS3.out HW3.out HZZ.out HD.out.1 HD.out.2.1 HD.out.2.2 (by simp; omega) rfl rfl rfl rfl rfl ?_
            intro vals w3 hG h40
            unfold IsV at h40
            simp only [putD, Act.put, List.setIfInBounds_toArray, List.set_cons_zero, List.set_cons_succ, h40]
            have HB4 := Lib.hid (HB3.out.trans (hG.mono HB3.out.size))
            have hbad : R = none := by
              rw [HST2.out]
              have hd : decide (sz ≤ room) = false := by simp; omega
              rw [hd]
              rfl
            have HRN := Lib.hid hbad
            clear h40 hG hbad
            go_wp2_with fail
            go_ret2
            rw [HRN.out]
            exact ⟨rfl, HB4.out⟩
    · have hend := objF_end ws t n a hlt
      have h := hre.out
      rw [hend] at h
      have h2 : R = some pre := by rw [h]; simp
      have HO := Lib.hid ho
      have HR2 := Lib.hid h2
      clear hend h h2 ho hp
      go_wp2_with fail
      go_ret2
      rw [HR2.out]
      obtain ⟨A2, c2', e2, hc2⟩ := HO.out.form
      subst e2
      exact ⟨A2, c2', rfl, hc2, HO.out, hB⟩
end Go.Proofs.YtfodefgihicafaaDoor
/- space: Of; loamlaw15's Mem, ints, Same. Conditions: lengths. -/
namespace Go.Proofs.YtfodefgihicafaaDoor
set_option linter.unusedVariables false
set_option linter.unusedSimpArgs false
open Go.RowKit
set_option maxHeartbeats 400000
set_option maxRecDepth 100000
theorem mem15_c (w : World) (A : Option Addr) (c : Nat) (ws : List (BitVec 64)) (hr : Rd u64v w w.heap.size A ws) (hl : ws.length ≤ 8192) :
    Calls Tryd.prog 26 #[.slice A ws.length c] w fun e w' => ∃ g v, e = .returned (.pointer (some ⟨g, 0, none⟩)) ∧ MemAt w' w.heap.size g v ws ∧ Below w.heap.size w w' := by
  have HO := Lib.hid (of_in w A c ws hr hl)
  obtain ⟨N, hN⟩ : ∃ N, N = ws.length := ⟨_, rfl⟩
  rw [← hN] at HO ⊢
  clear hr hl hN
  go_enter Tryd.func26, Tryd.ntmps26
  go_wp2_with fail
  refine Calls.mono HO.out ?_
  rintro r w1 ⟨g, v, rfl, h1, b1⟩
  have H1 := Lib.hid (And.intro h1 b1)
  clear h1 b1
  go_wp2_with fail
  go_ret
  exact ⟨g, v, rfl, H1.out.1, H1.out.2⟩
theorem sof_out (w : World) (m : Value) (b t e : Int) (hb : Calls Tryd.prog 58 #[m, .int .i64 b, .int .i64 t, .int .i64 e] w fun r w' => r = .returned (.tuple #[.pointer none, .int .i64 1]) ∧ w' = w) :
    Calls Tryd.prog 25 #[m, .int .i64 b, .int .i64 t, .int .i64 e] w fun r w' => r = .returned (.tuple #[.pointer none, .int .i64 1]) ∧ w' = w := by
  have HB := Lib.hid hb
  clear hb
  go_enter Tryd.func25, Tryd.ntmps25
  go_wp2_with fail
  refine Calls.mono HB.out ?_
  rintro r w1 ⟨rfl, rfl⟩
  go_wp2_with fail
  go_ret2
  exact ⟨rfl, rfl⟩
theorem sof_none (w : World) (B g : Nat) (v : Value) (ws : List (BitVec 64)) (b t e : Nat) (h : MemAt w B g v ws) (hbt : b ≤ t) (hte : t ≤ e) (hel : e ≤ ws.length) (hl : ws.length ≤ 100000) (ho : objF ws t (t + 1) b = none) :
    Calls Tryd.prog 25 #[.pointer (some ⟨g, 0, none⟩), .int .i64 b, .int .i64 t, .int .i64 e] w (RetP (.tuple #[.pointer none, .int .i64 2]) w) := by
  have HB := Lib.hid (bare_in w B g v ws b t e h hbt hte hel hl)
  have HO := Lib.hid (fun W s (p : SpAt W B s g v ws b t e) => objects_c W B s g v ws b t e p hl)
  rw [ho] at HO
  clear h hbt hte hel hl ho
  go_enter Tryd.func25, Tryd.ntmps25
  go_wp2_with fail
  refine Calls.mono HB.out ?_
  rintro r w1 ⟨s, rfl, h1, b1⟩
  have H1 := Lib.hid (And.intro h1 b1)
  clear h1 b1
  go_wp2_with fail
  refine Calls.mono (HO.out w1 s H1.out.1) ?_
  rintro r w2 ⟨rfl, b2⟩
  have H2 := Lib.hid (H1.out.2.trans (b2.mono H1.out.2.size))
  clear b2
  go_wp2_with fail
  go_ret2
  exact ⟨rfl, H2.out⟩
theorem sof_some (w : World) (B g : Nat) (v : Value) (ws : List (BitVec 64)) (b t e : Nat) (h : MemAt w B g v ws) (hbt : b ≤ t) (hte : t ≤ e) (hel : e ≤ ws.length) (hl : ws.length ≤ 100000) (l : List Nat) (ho : objF ws t (t + 1) b = some l) :
    Calls Tryd.prog 25 #[.pointer (some ⟨g, 0, none⟩), .int .i64 b, .int .i64 t, .int .i64 e] w fun r w' => ∃ s, r = .returned (.tuple #[.pointer (some ⟨s, 0, none⟩), .int .i64 0]) ∧ SpAt w' B s g v ws b t e ∧ Below w.heap.size w w' := by
  have HB := Lib.hid (bare_in w B g v ws b t e h hbt hte hel hl)
  have HO := Lib.hid (fun W s (p : SpAt W B s g v ws b t e) => objects_c W B s g v ws b t e p hl)
  rw [ho] at HO
  clear h hbt hte hel hl ho
  go_enter Tryd.func25, Tryd.ntmps25
  go_wp2_with fail
  refine Calls.mono HB.out ?_
  rintro r w1 ⟨s, rfl, h1, b1⟩
  have H1 := Lib.hid (And.intro h1 b1)
  clear h1 b1
  go_wp2_with fail
  refine Calls.mono (HO.out w1 s H1.out.1) ?_
  rintro r w2 ⟨A2, c2, rfl, _, _, b2⟩
  have H2 := Lib.hid (And.intro (H1.out.1.below b2) (H1.out.2.trans (b2.mono H1.out.2.size)))
  clear b2
  go_wp2_with fail
  go_ret2
  exact ⟨s, rfl, H2.out.1, H2.out.2⟩
theorem of_bl {P : Program} {f : FuncId} {args : Array Value} {v : Value} {w : World} (h : Calls P f args w fun r w' => r = .returned v ∧ Below w.heap.size w w') : Calls P f args w fun e w2 => ∃ u, e = .returned u ∧ Below w.heap.size w w2 ∧ IsV v u w2 :=
  h.mono fun _ _ h => ⟨_, h.1, h.2, rfl⟩
theorem sm_a (Q : Exit → Act → World → Prop) (a0 : Act) (w : World) (s R g N c c5 b t e : Nat) (A A5 : Option Addr) (hs : Bk w s 65 #[.pointer (some ⟨g, 0, none⟩), .int .i64 b, .int .i64 t, .int .i64 e]) (hr : Bk w R 29 #[.slice A N c, .int .i64 b, .int .i64 t, .int .i64 e]) (hsz : a0.tmps.size = 97) (sl0 : a0.tmps.getD 0 undef = .pointer (some ⟨s, 0, none⟩)) (sl1 : a0.tmps.getD 1 undef = .pointer (some ⟨R, 0, none⟩)) (sl5 : a0.tmps.getD 5 undef = .slice A5 N c5)
    (fin : ∀ (vals : Nat → Value) (w1 : World), Below w.heap.size w w1 → (IsV (.bool false)) (vals 40) w1 → Q .normal (putD vals [12, 13, 14, 15, 16, 17, 18, 19, 20, 21, 22, 23, 24, 25, 26, 27, 28, 29, 30, 31, 32, 33, 34, 35, 36, 37, 38, 39, 40, 41, 42, 43, 44, 45, 46, 47, 48, 49, 50, 51, 52] 0 a0) w1) :
    (Code.region 2 (regIn Tryd.f17 2) true).wp Tryd.prog Q a0 w := by
  refine region_by (G := fun w w1 => Below w.heap.size w w1) [IsV (.pointer (some ⟨s, 0, none⟩)),
    IsV (.pointer (some ⟨s, 0, none⟩)),
    IsV (.pointer (some ⟨s, 1, none⟩)),
    IsV (.int .i64 b),
    IsV (.pointer (some ⟨R, 0, none⟩)),
    IsV (.pointer (some ⟨R, 0, none⟩)),
    IsV (.pointer (some ⟨R, 1, none⟩)),
    IsV (.int .i64 b),
    IsV (.bool false),
    IsV (.bool false),
    IsV (.pointer (some ⟨s, 0, none⟩)),
    IsV (.pointer (some ⟨s, 0, none⟩)),
    IsV (.pointer (some ⟨s, 2, none⟩)),
    IsV (.int .i64 t),
    IsV (.pointer (some ⟨R, 0, none⟩)),
    IsV (.pointer (some ⟨R, 0, none⟩)),
    IsV (.pointer (some ⟨R, 2, none⟩)),
    IsV (.int .i64 t),
    IsV (.bool false),
    IsV (.bool false),
    IsV (.bool false),
    IsV (.pointer (some ⟨s, 0, none⟩)),
    IsV (.pointer (some ⟨s, 0, none⟩)),
    IsV (.pointer (some ⟨s, 3, none⟩)),
    IsV (.int .i64 e),
    IsV (.pointer (some ⟨R, 0, none⟩)),
    IsV (.pointer (some ⟨R, 0, none⟩)),
    IsV (.pointer (some ⟨R, 3, none⟩)),
    IsV (.int .i64 e),
    IsV (.bool false),
    IsV (.bool false),
    IsV (.bool false),
    IsV (.slice A5 N c5),
    IsV (.int .i64 N),
    IsV (.pointer (some ⟨R, 0, none⟩)),
    IsV (.pointer (some ⟨R, 0, none⟩)),
    IsV (.pointer (some ⟨R, 0, none⟩)),
    IsV (.slice A N c),
    IsV (.int .i64 N),
    IsV (.bool false),
    IsV (.bool false)]
    [12, 13, 14, 15, 16, 17, 18, 19, 20, 21, 22, 23, 24, 25, 26, 27, 28, 29, 30, 31, 32, 33, 34, 35, 36, 37, 38, 39, 40, 41, 42, 43, 44, 45, 46, 47, 48, 49, 50, 51, 52] (by kernel_rfl) (Gw.drew _) Gw.trans (by rw [hsz]; kernel_rfl) (by kernel_rfl) ?_ ?_ ?_
  · intro f hf
    simp only [List.mem_cons, List.not_mem_nil, or_false] at hf
    rcases hf with rfl | rfl | rfl | rfl | rfl | rfl | rfl | rfl | rfl | rfl | rfl | rfl | rfl | rfl | rfl | rfl | rfl | rfl | rfl | rfl | rfl | rfl | rfl | rfl | rfl | rfl | rfl | rfl | rfl | rfl | rfl | rfl | rfl | rfl | rfl | rfl | rfl | rfl | rfl | rfl | rfl <;> intro v a b h g <;> first | exact IsV.mono h
  · refine ⟨?_, ?_, ?_, ?_, ?_, ?_, ?_, ?_, ?_, ?_, ?_, ?_, ?_, ?_, ?_, ?_, ?_, ?_, ?_, ?_, ?_, ?_, ?_, ?_, ?_, ?_, ?_, ?_, ?_, ?_, ?_, ?_, ?_, ?_, ?_, ?_, ?_, ?_, ?_, ?_, ?_, trivial⟩
    · exact owes_mv 0 (by kernel_rfl) (by kernel_rfl) (by kernel_rfl) sl0 (fun _ => rfl)
    · refine owes_v (Go.Op.nilCheck (Go.Operand.tmp 12)) 0 [0] (by kernel_rfl) (by kernel_rfl) (by kernel_rfl) rfl fun vals w1 ρ hG hF hρ hcst hfun => ?_
      have e12 : ρ (.tmp 12) = .pointer (some ⟨s, 0, none⟩) := ((hρ 12).trans (slotJ [0] (by rw [hsz]; decide) (by kernel_rfl))).trans (hF 0 (by decide))
      clear hρ hF hcst hfun sl0 sl1 sl5 fin
      exact opv_val (by go_simp <;> rfl) ⟨gw_self _, rfl⟩
    · refine owes_v (Go.Op.fieldAddr 65 (Go.Operand.tmp 13) 1) 0 [1] (by kernel_rfl) (by kernel_rfl) (by kernel_rfl) rfl fun vals w1 ρ hG hF hρ hcst hfun => ?_
      have e13 : ρ (.tmp 13) = .pointer (some ⟨s, 0, none⟩) := ((hρ 13).trans (slotJ [1] (by rw [hsz]; decide) (by kernel_rfl))).trans (hF 1 (by decide))
      clear hρ hF hcst hfun sl0 sl1 sl5 fin
      exact opv_val (by go_simp <;> rfl) ⟨gw_self _, rfl⟩
    · refine owes_v (Go.Op.load 3 (Go.Operand.tmp 14)) 3 [2] (by kernel_rfl) (by kernel_rfl) (by kernel_rfl) rfl fun vals w1 ρ hG hF hρ hcst hfun => ?_
      have e14 : ρ (.tmp 14) = .pointer (some ⟨s, 1, none⟩) := ((hρ 14).trans (slotJ [2] (by rw [hsz]; decide) (by kernel_rfl))).trans (hF 2 (by decide))
      have k := (hs.below hG hs.lt).cell 1
      clear hρ hF hcst hfun sl0 sl1 sl5 fin
      exact opv_val (by go_simp <;> rfl) ⟨gw_self _, rfl⟩
    · exact owes_mv 1 (by kernel_rfl) (by kernel_rfl) (by kernel_rfl) sl1 (fun _ => rfl)
    · refine owes_v (Go.Op.nilCheck (Go.Operand.tmp 16)) 0 [4] (by kernel_rfl) (by kernel_rfl) (by kernel_rfl) rfl fun vals w1 ρ hG hF hρ hcst hfun => ?_
      have e16 : ρ (.tmp 16) = .pointer (some ⟨R, 0, none⟩) := ((hρ 16).trans (slotJ [4] (by rw [hsz]; decide) (by kernel_rfl))).trans (hF 4 (by decide))
      clear hρ hF hcst hfun sl0 sl1 sl5 fin
      exact opv_val (by go_simp <;> rfl) ⟨gw_self _, rfl⟩
    · refine owes_v (Go.Op.fieldAddr 29 (Go.Operand.tmp 17) 1) 0 [5] (by kernel_rfl) (by kernel_rfl) (by kernel_rfl) rfl fun vals w1 ρ hG hF hρ hcst hfun => ?_
      have e17 : ρ (.tmp 17) = .pointer (some ⟨R, 0, none⟩) := ((hρ 17).trans (slotJ [5] (by rw [hsz]; decide) (by kernel_rfl))).trans (hF 5 (by decide))
      clear hρ hF hcst hfun sl0 sl1 sl5 fin
      exact opv_val (by go_simp <;> rfl) ⟨gw_self _, rfl⟩
    · refine owes_v (Go.Op.load 3 (Go.Operand.tmp 18)) 3 [6] (by kernel_rfl) (by kernel_rfl) (by kernel_rfl) rfl fun vals w1 ρ hG hF hρ hcst hfun => ?_
      have e18 : ρ (.tmp 18) = .pointer (some ⟨R, 1, none⟩) := ((hρ 18).trans (slotJ [6] (by rw [hsz]; decide) (by kernel_rfl))).trans (hF 6 (by decide))
      have k := (hr.below hG hr.lt).cell 1
      clear hρ hF hcst hfun sl0 sl1 sl5 fin
      exact opv_val (by go_simp <;> rfl) ⟨gw_self _, rfl⟩
    · refine owes_v (Go.Op.binOp Go.BinOp.neq 3 (Go.Operand.tmp 15) (Go.Operand.tmp 19) 3) 4 [3, 7] (by kernel_rfl) (by kernel_rfl) (by kernel_rfl) rfl fun vals w1 ρ hG hF hρ hcst hfun => ?_
      have e15 : ρ (.tmp 15) = .int .i64 b := ((hρ 15).trans (slotJ [3, 7] (by rw [hsz]; decide) (by kernel_rfl))).trans (hF 3 (by decide))
      have e19 : ρ (.tmp 19) = .int .i64 b := ((hρ 19).trans (slotJ [3, 7] (by rw [hsz]; decide) (by kernel_rfl))).trans (hF 7 (by decide))
      clear hρ hF hcst hfun sl0 sl1 sl5 fin
      exact opv_val (by go_simp <;> rfl) ⟨gw_self _, rfl⟩
    · exact owes_mvj 8 20 (by kernel_rfl) (by kernel_rfl) (by kernel_rfl) (by kernel_rfl) (by rw [hsz]; decide) (fun v w h => h)
    · refine owes_vt 9 false (Go.Op.move (Go.Operand.tmp 0)) 25 [] (by kernel_rfl) (by kernel_rfl) (by kernel_rfl) (fun _ _ h => h) (by rw [hsz]; kernel_rfl) (by kernel_rfl) rfl fun vals w1 ρ hG hF hρ hcst hfun => ?_
      have e0 : ρ (.tmp 0) = .pointer (some ⟨s, 0, none⟩) := ((hρ 0).trans (slotO [] (by kernel_rfl))).trans sl0
      clear hρ hF hcst hfun sl0 sl1 sl5 fin
      exact opv_val (by go_simp <;> rfl) ⟨gw_self _, rfl⟩
    · refine owes_vt 9 false (Go.Op.nilCheck (Go.Operand.tmp 22)) 0 [10] (by kernel_rfl) (by kernel_rfl) (by kernel_rfl) (fun _ _ h => h) (by rw [hsz]; kernel_rfl) (by kernel_rfl) rfl fun vals w1 ρ hG hF hρ hcst hfun => ?_
      have e22 : ρ (.tmp 22) = .pointer (some ⟨s, 0, none⟩) := ((hρ 22).trans (slotJ [10] (by rw [hsz]; decide) (by kernel_rfl))).trans (hF 10 (by decide))
      clear hρ hF hcst hfun sl0 sl1 sl5 fin
      exact opv_val (by go_simp <;> rfl) ⟨gw_self _, rfl⟩
    · refine owes_vt 9 false (Go.Op.fieldAddr 65 (Go.Operand.tmp 23) 2) 0 [11] (by kernel_rfl) (by kernel_rfl) (by kernel_rfl) (fun _ _ h => h) (by rw [hsz]; kernel_rfl) (by kernel_rfl) rfl fun vals w1 ρ hG hF hρ hcst hfun => ?_
      have e23 : ρ (.tmp 23) = .pointer (some ⟨s, 0, none⟩) := ((hρ 23).trans (slotJ [11] (by rw [hsz]; decide) (by kernel_rfl))).trans (hF 11 (by decide))
      clear hρ hF hcst hfun sl0 sl1 sl5 fin
      exact opv_val (by go_simp <;> rfl) ⟨gw_self _, rfl⟩
    · refine owes_vt 9 false (Go.Op.load 3 (Go.Operand.tmp 24)) 3 [12] (by kernel_rfl) (by kernel_rfl) (by kernel_rfl) (fun _ _ h => h) (by rw [hsz]; kernel_rfl) (by kernel_rfl) rfl fun vals w1 ρ hG hF hρ hcst hfun => ?_
      have e24 : ρ (.tmp 24) = .pointer (some ⟨s, 2, none⟩) := ((hρ 24).trans (slotJ [12] (by rw [hsz]; decide) (by kernel_rfl))).trans (hF 12 (by decide))
      have k := (hs.below hG hs.lt).cell 2
      clear hρ hF hcst hfun sl0 sl1 sl5 fin
      exact opv_val (by go_simp <;> rfl) ⟨gw_self _, rfl⟩
    · refine owes_vt 9 false (Go.Op.move (Go.Operand.tmp 1)) 27 [] (by kernel_rfl) (by kernel_rfl) (by kernel_rfl) (fun _ _ h => h) (by rw [hsz]; kernel_rfl) (by kernel_rfl) rfl fun vals w1 ρ hG hF hρ hcst hfun => ?_
      have e1 : ρ (.tmp 1) = .pointer (some ⟨R, 0, none⟩) := ((hρ 1).trans (slotO [] (by kernel_rfl))).trans sl1
      clear hρ hF hcst hfun sl0 sl1 sl5 fin
      exact opv_val (by go_simp <;> rfl) ⟨gw_self _, rfl⟩
    · refine owes_vt 9 false (Go.Op.nilCheck (Go.Operand.tmp 26)) 0 [14] (by kernel_rfl) (by kernel_rfl) (by kernel_rfl) (fun _ _ h => h) (by rw [hsz]; kernel_rfl) (by kernel_rfl) rfl fun vals w1 ρ hG hF hρ hcst hfun => ?_
      have e26 : ρ (.tmp 26) = .pointer (some ⟨R, 0, none⟩) := ((hρ 26).trans (slotJ [14] (by rw [hsz]; decide) (by kernel_rfl))).trans (hF 14 (by decide))
      clear hρ hF hcst hfun sl0 sl1 sl5 fin
      exact opv_val (by go_simp <;> rfl) ⟨gw_self _, rfl⟩
    · refine owes_vt 9 false (Go.Op.fieldAddr 29 (Go.Operand.tmp 27) 2) 0 [15] (by kernel_rfl) (by kernel_rfl) (by kernel_rfl) (fun _ _ h => h) (by rw [hsz]; kernel_rfl) (by kernel_rfl) rfl fun vals w1 ρ hG hF hρ hcst hfun => ?_
      have e27 : ρ (.tmp 27) = .pointer (some ⟨R, 0, none⟩) := ((hρ 27).trans (slotJ [15] (by rw [hsz]; decide) (by kernel_rfl))).trans (hF 15 (by decide))
      clear hρ hF hcst hfun sl0 sl1 sl5 fin
      exact opv_val (by go_simp <;> rfl) ⟨gw_self _, rfl⟩
    · refine owes_vt 9 false (Go.Op.load 3 (Go.Operand.tmp 28)) 3 [16] (by kernel_rfl) (by kernel_rfl) (by kernel_rfl) (fun _ _ h => h) (by rw [hsz]; kernel_rfl) (by kernel_rfl) rfl fun vals w1 ρ hG hF hρ hcst hfun => ?_
      have e28 : ρ (.tmp 28) = .pointer (some ⟨R, 2, none⟩) := ((hρ 28).trans (slotJ [16] (by rw [hsz]; decide) (by kernel_rfl))).trans (hF 16 (by decide))
      have k := (hr.below hG hr.lt).cell 2
      clear hρ hF hcst hfun sl0 sl1 sl5 fin
      exact opv_val (by go_simp <;> rfl) ⟨gw_self _, rfl⟩
    · refine owes_vt 9 false (Go.Op.binOp Go.BinOp.neq 3 (Go.Operand.tmp 25) (Go.Operand.tmp 29) 3) 4 [13, 17] (by kernel_rfl) (by kernel_rfl) (by kernel_rfl) (fun _ _ h => h) (by rw [hsz]; kernel_rfl) (by kernel_rfl) rfl fun vals w1 ρ hG hF hρ hcst hfun => ?_
      have e25 : ρ (.tmp 25) = .int .i64 t := ((hρ 25).trans (slotJ [13, 17] (by rw [hsz]; decide) (by kernel_rfl))).trans (hF 13 (by decide))
      have e29 : ρ (.tmp 29) = .int .i64 t := ((hρ 29).trans (slotJ [13, 17] (by rw [hsz]; decide) (by kernel_rfl))).trans (hF 17 (by decide))
      clear hρ hF hcst hfun sl0 sl1 sl5 fin
      exact opv_val (by go_simp <;> rfl) ⟨gw_self _, rfl⟩
    · refine owes_v (Go.Op.pick (Go.Operand.tmp 21) (Go.Operand.const (Go.Value.bool true)) (Go.Operand.tmp 30)) 4 [9, 18] (by kernel_rfl) (by kernel_rfl) (by kernel_rfl) rfl fun vals w1 ρ hG hF hρ hcst hfun => ?_
      have e21 : ρ (.tmp 21) = .bool false := ((hρ 21).trans (slotJ [9, 18] (by rw [hsz]; decide) (by kernel_rfl))).trans (hF 9 (by decide))
      have e30 : ρ (.tmp 30) = .bool false := ((hρ 30).trans (slotJ [9, 18] (by rw [hsz]; decide) (by kernel_rfl))).trans (hF 18 (by decide))
      clear hρ hF hfun sl0 sl1 sl5 fin
      exact opv_val (by go_simp <;> rfl) ⟨gw_self _, rfl⟩
    · exact owes_mvj 19 31 (by kernel_rfl) (by kernel_rfl) (by kernel_rfl) (by kernel_rfl) (by rw [hsz]; decide) (fun v w h => h)
    · refine owes_vt 20 false (Go.Op.move (Go.Operand.tmp 0)) 25 [] (by kernel_rfl) (by kernel_rfl) (by kernel_rfl) (fun _ _ h => h) (by rw [hsz]; kernel_rfl) (by kernel_rfl) rfl fun vals w1 ρ hG hF hρ hcst hfun => ?_
      have e0 : ρ (.tmp 0) = .pointer (some ⟨s, 0, none⟩) := ((hρ 0).trans (slotO [] (by kernel_rfl))).trans sl0
      clear hρ hF hcst hfun sl0 sl1 sl5 fin
      exact opv_val (by go_simp <;> rfl) ⟨gw_self _, rfl⟩
    · refine owes_vt 20 false (Go.Op.nilCheck (Go.Operand.tmp 33)) 0 [21] (by kernel_rfl) (by kernel_rfl) (by kernel_rfl) (fun _ _ h => h) (by rw [hsz]; kernel_rfl) (by kernel_rfl) rfl fun vals w1 ρ hG hF hρ hcst hfun => ?_
      have e33 : ρ (.tmp 33) = .pointer (some ⟨s, 0, none⟩) := ((hρ 33).trans (slotJ [21] (by rw [hsz]; decide) (by kernel_rfl))).trans (hF 21 (by decide))
      clear hρ hF hcst hfun sl0 sl1 sl5 fin
      exact opv_val (by go_simp <;> rfl) ⟨gw_self _, rfl⟩
    · refine owes_vt 20 false (Go.Op.fieldAddr 65 (Go.Operand.tmp 34) 3) 0 [22] (by kernel_rfl) (by kernel_rfl) (by kernel_rfl) (fun _ _ h => h) (by rw [hsz]; kernel_rfl) (by kernel_rfl) rfl fun vals w1 ρ hG hF hρ hcst hfun => ?_
      have e34 : ρ (.tmp 34) = .pointer (some ⟨s, 0, none⟩) := ((hρ 34).trans (slotJ [22] (by rw [hsz]; decide) (by kernel_rfl))).trans (hF 22 (by decide))
      clear hρ hF hcst hfun sl0 sl1 sl5 fin
      exact opv_val (by go_simp <;> rfl) ⟨gw_self _, rfl⟩
    · refine owes_vt 20 false (Go.Op.load 3 (Go.Operand.tmp 35)) 3 [23] (by kernel_rfl) (by kernel_rfl) (by kernel_rfl) (fun _ _ h => h) (by rw [hsz]; kernel_rfl) (by kernel_rfl) rfl fun vals w1 ρ hG hF hρ hcst hfun => ?_
      have e35 : ρ (.tmp 35) = .pointer (some ⟨s, 3, none⟩) := ((hρ 35).trans (slotJ [23] (by rw [hsz]; decide) (by kernel_rfl))).trans (hF 23 (by decide))
      have k := (hs.below hG hs.lt).cell 3
      clear hρ hF hcst hfun sl0 sl1 sl5 fin
      exact opv_val (by go_simp <;> rfl) ⟨gw_self _, rfl⟩
    · refine owes_vt 20 false (Go.Op.move (Go.Operand.tmp 1)) 27 [] (by kernel_rfl) (by kernel_rfl) (by kernel_rfl) (fun _ _ h => h) (by rw [hsz]; kernel_rfl) (by kernel_rfl) rfl fun vals w1 ρ hG hF hρ hcst hfun => ?_
      have e1 : ρ (.tmp 1) = .pointer (some ⟨R, 0, none⟩) := ((hρ 1).trans (slotO [] (by kernel_rfl))).trans sl1
      clear hρ hF hcst hfun sl0 sl1 sl5 fin
      exact opv_val (by go_simp <;> rfl) ⟨gw_self _, rfl⟩
    · refine owes_vt 20 false (Go.Op.nilCheck (Go.Operand.tmp 37)) 0 [25] (by kernel_rfl) (by kernel_rfl) (by kernel_rfl) (fun _ _ h => h) (by rw [hsz]; kernel_rfl) (by kernel_rfl) rfl fun vals w1 ρ hG hF hρ hcst hfun => ?_
      have e37 : ρ (.tmp 37) = .pointer (some ⟨R, 0, none⟩) := ((hρ 37).trans (slotJ [25] (by rw [hsz]; decide) (by kernel_rfl))).trans (hF 25 (by decide))
      clear hρ hF hcst hfun sl0 sl1 sl5 fin
      exact opv_val (by go_simp <;> rfl) ⟨gw_self _, rfl⟩
    · refine owes_vt 20 false (Go.Op.fieldAddr 29 (Go.Operand.tmp 38) 3) 0 [26] (by kernel_rfl) (by kernel_rfl) (by kernel_rfl) (fun _ _ h => h) (by rw [hsz]; kernel_rfl) (by kernel_rfl) rfl fun vals w1 ρ hG hF hρ hcst hfun => ?_
      have e38 : ρ (.tmp 38) = .pointer (some ⟨R, 0, none⟩) := ((hρ 38).trans (slotJ [26] (by rw [hsz]; decide) (by kernel_rfl))).trans (hF 26 (by decide))
      clear hρ hF hcst hfun sl0 sl1 sl5 fin
      exact opv_val (by go_simp <;> rfl) ⟨gw_self _, rfl⟩
    · refine owes_vt 20 false (Go.Op.load 3 (Go.Operand.tmp 39)) 3 [27] (by kernel_rfl) (by kernel_rfl) (by kernel_rfl) (fun _ _ h => h) (by rw [hsz]; kernel_rfl) (by kernel_rfl) rfl fun vals w1 ρ hG hF hρ hcst hfun => ?_
      have e39 : ρ (.tmp 39) = .pointer (some ⟨R, 3, none⟩) := ((hρ 39).trans (slotJ [27] (by rw [hsz]; decide) (by kernel_rfl))).trans (hF 27 (by decide))
      have k := (hr.below hG hr.lt).cell 3
      clear hρ hF hcst hfun sl0 sl1 sl5 fin
      exact opv_val (by go_simp <;> rfl) ⟨gw_self _, rfl⟩
    · refine owes_vt 20 false (Go.Op.binOp Go.BinOp.neq 3 (Go.Operand.tmp 36) (Go.Operand.tmp 40) 3) 4 [24, 28] (by kernel_rfl) (by kernel_rfl) (by kernel_rfl) (fun _ _ h => h) (by rw [hsz]; kernel_rfl) (by kernel_rfl) rfl fun vals w1 ρ hG hF hρ hcst hfun => ?_
      have e36 : ρ (.tmp 36) = .int .i64 e := ((hρ 36).trans (slotJ [24, 28] (by rw [hsz]; decide) (by kernel_rfl))).trans (hF 24 (by decide))
      have e40 : ρ (.tmp 40) = .int .i64 e := ((hρ 40).trans (slotJ [24, 28] (by rw [hsz]; decide) (by kernel_rfl))).trans (hF 28 (by decide))
      clear hρ hF hcst hfun sl0 sl1 sl5 fin
      exact opv_val (by go_simp <;> rfl) ⟨gw_self _, rfl⟩
    · refine owes_v (Go.Op.pick (Go.Operand.tmp 32) (Go.Operand.const (Go.Value.bool true)) (Go.Operand.tmp 41)) 4 [20, 29] (by kernel_rfl) (by kernel_rfl) (by kernel_rfl) rfl fun vals w1 ρ hG hF hρ hcst hfun => ?_
      have e32 : ρ (.tmp 32) = .bool false := ((hρ 32).trans (slotJ [20, 29] (by rw [hsz]; decide) (by kernel_rfl))).trans (hF 20 (by decide))
      have e41 : ρ (.tmp 41) = .bool false := ((hρ 41).trans (slotJ [20, 29] (by rw [hsz]; decide) (by kernel_rfl))).trans (hF 29 (by decide))
      clear hρ hF hfun sl0 sl1 sl5 fin
      exact opv_val (by go_simp <;> rfl) ⟨gw_self _, rfl⟩
    · exact owes_mvj 30 42 (by kernel_rfl) (by kernel_rfl) (by kernel_rfl) (by kernel_rfl) (by rw [hsz]; decide) (fun v w h => h)
    · refine owes_vt 31 false (Go.Op.move (Go.Operand.tmp 5)) 22 [] (by kernel_rfl) (by kernel_rfl) (by kernel_rfl) (fun _ _ h => h) (by rw [hsz]; kernel_rfl) (by kernel_rfl) rfl fun vals w1 ρ hG hF hρ hcst hfun => ?_
      have e5 : ρ (.tmp 5) = .slice A5 N c5 := ((hρ 5).trans (slotO [] (by kernel_rfl))).trans sl5
      clear hρ hF hcst hfun sl0 sl1 sl5 fin
      exact opv_val (by go_simp <;> rfl) ⟨gw_self _, rfl⟩
    · refine owes_vt 31 false (Go.Op.call { callee := Go.Callee.builtin Go.Builtin.len, args := #[Go.Operand.tmp 44], argTypes := #[22] }) 3 [32] (by kernel_rfl) (by kernel_rfl) (by kernel_rfl) (fun _ _ h => h) (by rw [hsz]; kernel_rfl) (by kernel_rfl) rfl fun vals w1 ρ hG hF hρ hcst hfun => ?_
      have e44 : ρ (.tmp 44) = .slice A5 N c5 := ((hρ 44).trans (slotJ [32] (by rw [hsz]; decide) (by kernel_rfl))).trans (hF 32 (by decide))
      clear hρ hF hcst hfun sl0 sl1 sl5 fin
      exact opv_val (by go_simp <;> rfl) ⟨gw_self _, rfl⟩
    · refine owes_vt 31 false (Go.Op.move (Go.Operand.tmp 1)) 27 [] (by kernel_rfl) (by kernel_rfl) (by kernel_rfl) (fun _ _ h => h) (by rw [hsz]; kernel_rfl) (by kernel_rfl) rfl fun vals w1 ρ hG hF hρ hcst hfun => ?_
      have e1 : ρ (.tmp 1) = .pointer (some ⟨R, 0, none⟩) := ((hρ 1).trans (slotO [] (by kernel_rfl))).trans sl1
      clear hρ hF hcst hfun sl0 sl1 sl5 fin
      exact opv_val (by go_simp <;> rfl) ⟨gw_self _, rfl⟩
    · refine owes_vt 31 false (Go.Op.nilCheck (Go.Operand.tmp 46)) 0 [34] (by kernel_rfl) (by kernel_rfl) (by kernel_rfl) (fun _ _ h => h) (by rw [hsz]; kernel_rfl) (by kernel_rfl) rfl fun vals w1 ρ hG hF hρ hcst hfun => ?_
      have e46 : ρ (.tmp 46) = .pointer (some ⟨R, 0, none⟩) := ((hρ 46).trans (slotJ [34] (by rw [hsz]; decide) (by kernel_rfl))).trans (hF 34 (by decide))
      clear hρ hF hcst hfun sl0 sl1 sl5 fin
      exact opv_val (by go_simp <;> rfl) ⟨gw_self _, rfl⟩
    · refine owes_vt 31 false (Go.Op.fieldAddr 29 (Go.Operand.tmp 47) 0) 0 [35] (by kernel_rfl) (by kernel_rfl) (by kernel_rfl) (fun _ _ h => h) (by rw [hsz]; kernel_rfl) (by kernel_rfl) rfl fun vals w1 ρ hG hF hρ hcst hfun => ?_
      have e47 : ρ (.tmp 47) = .pointer (some ⟨R, 0, none⟩) := ((hρ 47).trans (slotJ [35] (by rw [hsz]; decide) (by kernel_rfl))).trans (hF 35 (by decide))
      clear hρ hF hcst hfun sl0 sl1 sl5 fin
      exact opv_val (by go_simp <;> rfl) ⟨gw_self _, rfl⟩
    · refine owes_vt 31 false (Go.Op.load 22 (Go.Operand.tmp 48)) 22 [36] (by kernel_rfl) (by kernel_rfl) (by kernel_rfl) (fun _ _ h => h) (by rw [hsz]; kernel_rfl) (by kernel_rfl) rfl fun vals w1 ρ hG hF hρ hcst hfun => ?_
      have e48 : ρ (.tmp 48) = .pointer (some ⟨R, 0, none⟩) := ((hρ 48).trans (slotJ [36] (by rw [hsz]; decide) (by kernel_rfl))).trans (hF 36 (by decide))
      have k := (hr.below hG hr.lt).cell 0
      clear hρ hF hcst hfun sl0 sl1 sl5 fin
      exact opv_val (by go_simp <;> rfl) ⟨gw_self _, rfl⟩
    · refine owes_vt 31 false (Go.Op.call { callee := Go.Callee.builtin Go.Builtin.len, args := #[Go.Operand.tmp 49], argTypes := #[22] }) 3 [37] (by kernel_rfl) (by kernel_rfl) (by kernel_rfl) (fun _ _ h => h) (by rw [hsz]; kernel_rfl) (by kernel_rfl) rfl fun vals w1 ρ hG hF hρ hcst hfun => ?_
      have e49 : ρ (.tmp 49) = .slice A N c := ((hρ 49).trans (slotJ [37] (by rw [hsz]; decide) (by kernel_rfl))).trans (hF 37 (by decide))
      clear hρ hF hcst hfun sl0 sl1 sl5 fin
      exact opv_val (by go_simp <;> rfl) ⟨gw_self _, rfl⟩
    · refine owes_vt 31 false (Go.Op.binOp Go.BinOp.neq 3 (Go.Operand.tmp 45) (Go.Operand.tmp 50) 3) 4 [33, 38] (by kernel_rfl) (by kernel_rfl) (by kernel_rfl) (fun _ _ h => h) (by rw [hsz]; kernel_rfl) (by kernel_rfl) rfl fun vals w1 ρ hG hF hρ hcst hfun => ?_
      have e45 : ρ (.tmp 45) = .int .i64 N := ((hρ 45).trans (slotJ [33, 38] (by rw [hsz]; decide) (by kernel_rfl))).trans (hF 33 (by decide))
      have e50 : ρ (.tmp 50) = .int .i64 N := ((hρ 50).trans (slotJ [33, 38] (by rw [hsz]; decide) (by kernel_rfl))).trans (hF 38 (by decide))
      clear hρ hF hcst hfun sl0 sl1 sl5 fin
      exact opv_val (by go_simp <;> rfl) ⟨gw_self _, rfl⟩
    · refine owes_v (Go.Op.pick (Go.Operand.tmp 43) (Go.Operand.const (Go.Value.bool true)) (Go.Operand.tmp 51)) 4 [31, 39] (by kernel_rfl) (by kernel_rfl) (by kernel_rfl) rfl fun vals w1 ρ hG hF hρ hcst hfun => ?_
      have e43 : ρ (.tmp 43) = .bool false := ((hρ 43).trans (slotJ [31, 39] (by rw [hsz]; decide) (by kernel_rfl))).trans (hF 31 (by decide))
      have e51 : ρ (.tmp 51) = .bool false := ((hρ 51).trans (slotJ [31, 39] (by rw [hsz]; decide) (by kernel_rfl))).trans (hF 39 (by decide))
      clear hρ hF hfun sl0 sl1 sl5 fin
      exact opv_val (by go_simp <;> rfl) ⟨gw_self _, rfl⟩
  · intro vals w1 hG hF
    exact fin vals w1 hG (hF 40 (by decide +kernel))
theorem sm_b (Q : Exit → Act → World → Prop) (a0 : Act) (w : World) (R N c c5 b t e i : Nat) (a ad : Addr) (x : BitVec 64) (hr : Bk w R 29 #[.slice (some a) N c, .int .i64 b, .int .i64 t, .int .i64 e]) (ha : a.block < w.heap.size) (hb : ad.block < w.heap.size) (h1 : w.cell? (a.add i) = some (.int .u64 (U64 x))) (h2 : w.cell? (ad.add i) = some (.int .u64 (U64 x))) (p1 : (0 : Int) ≤ (i : Int)) (p2 : (i : Int) < (N : Int)) (hsz : a0.tmps.size = 97) (sl1 : a0.tmps.getD 1 undef = .pointer (some ⟨R, 0, none⟩)) (sl5 : a0.tmps.getD 5 undef = .slice (some ad) N c5) (sl6 : a0.tmps.getD 6 undef = .int .i64 i)
    (fin : ∀ (vals : Nat → Value) (w1 : World), Below w.heap.size w w1 → (IsV (.bool false)) (vals 11) w1 → Q .normal (putD vals [59, 60, 61, 62, 63, 64, 65, 66, 67, 68, 69, 70] 0 a0) w1) :
    (Code.region 7 (regIn Tryd.f17 7) true).wp Tryd.prog Q a0 w := by
  refine region_by (G := fun w w1 => Below w.heap.size w w1) [IsV (.slice (some ad) N c5),
    IsV (.int .i64 i),
    IsV (.pointer (some (ad.add i))),
    IsV (.int .u64 (U64 x)),
    IsV (.pointer (some ⟨R, 0, none⟩)),
    IsV (.pointer (some ⟨R, 0, none⟩)),
    IsV (.pointer (some ⟨R, 0, none⟩)),
    IsV (.slice (some a) N c),
    IsV (.int .i64 i),
    IsV (.pointer (some (a.add i))),
    IsV (.int .u64 (U64 x)),
    IsV (.bool false)]
    [59, 60, 61, 62, 63, 64, 65, 66, 67, 68, 69, 70] (by kernel_rfl) (Gw.drew _) Gw.trans (by rw [hsz]; kernel_rfl) (by kernel_rfl) ?_ ?_ ?_
  · intro f hf
    simp only [List.mem_cons, List.not_mem_nil, or_false] at hf
    rcases hf with rfl | rfl | rfl | rfl | rfl | rfl | rfl | rfl | rfl | rfl | rfl | rfl <;> intro v a b h g <;> first | exact IsV.mono h
  · refine ⟨?_, ?_, ?_, ?_, ?_, ?_, ?_, ?_, ?_, ?_, ?_, ?_, trivial⟩
    · exact owes_mv 5 (by kernel_rfl) (by kernel_rfl) (by kernel_rfl) sl5 (fun _ => rfl)
    · exact owes_mv 6 (by kernel_rfl) (by kernel_rfl) (by kernel_rfl) sl6 (fun _ => rfl)
    · refine owes_v (Go.Op.indexAddr 22 (Go.Operand.tmp 59) (Go.Operand.tmp 60)) 0 [0, 1] (by kernel_rfl) (by kernel_rfl) (by kernel_rfl) rfl fun vals w1 ρ hG hF hρ hcst hfun => ?_
      have e59 : ρ (.tmp 59) = .slice (some ad) N c5 := ((hρ 59).trans (slotJ [0, 1] (by rw [hsz]; decide) (by kernel_rfl))).trans (hF 0 (by decide))
      have e60 : ρ (.tmp 60) = .int .i64 i := ((hρ 60).trans (slotJ [0, 1] (by rw [hsz]; decide) (by kernel_rfl))).trans (hF 1 (by decide))
      clear hρ hF hcst hfun sl1 sl5 sl6 fin
      exact opv_val (by go_simp <;> rfl) ⟨gw_self _, rfl⟩
    · refine owes_v (Go.Op.load 68 (Go.Operand.tmp 61)) 68 [2] (by kernel_rfl) (by kernel_rfl) (by kernel_rfl) rfl fun vals w1 ρ hG hF hρ hcst hfun => ?_
      have e61 : ρ (.tmp 61) = .pointer (some (ad.add i)) := ((hρ 61).trans (slotJ [2] (by rw [hsz]; decide) (by kernel_rfl))).trans (hF 2 (by decide))
      have k := (hG.cell (p := ad.add i) (by rw [add_block]; exact hb)).trans h2
      clear hρ hF hcst hfun sl1 sl5 sl6 fin
      exact opv_val (by go_simp <;> rfl) ⟨gw_self _, rfl⟩
    · exact owes_mv 1 (by kernel_rfl) (by kernel_rfl) (by kernel_rfl) sl1 (fun _ => rfl)
    · refine owes_v (Go.Op.nilCheck (Go.Operand.tmp 63)) 0 [4] (by kernel_rfl) (by kernel_rfl) (by kernel_rfl) rfl fun vals w1 ρ hG hF hρ hcst hfun => ?_
      have e63 : ρ (.tmp 63) = .pointer (some ⟨R, 0, none⟩) := ((hρ 63).trans (slotJ [4] (by rw [hsz]; decide) (by kernel_rfl))).trans (hF 4 (by decide))
      clear hρ hF hcst hfun sl1 sl5 sl6 fin
      exact opv_val (by go_simp <;> rfl) ⟨gw_self _, rfl⟩
    · refine owes_v (Go.Op.fieldAddr 29 (Go.Operand.tmp 64) 0) 0 [5] (by kernel_rfl) (by kernel_rfl) (by kernel_rfl) rfl fun vals w1 ρ hG hF hρ hcst hfun => ?_
      have e64 : ρ (.tmp 64) = .pointer (some ⟨R, 0, none⟩) := ((hρ 64).trans (slotJ [5] (by rw [hsz]; decide) (by kernel_rfl))).trans (hF 5 (by decide))
      clear hρ hF hcst hfun sl1 sl5 sl6 fin
      exact opv_val (by go_simp <;> rfl) ⟨gw_self _, rfl⟩
    · refine owes_v (Go.Op.load 22 (Go.Operand.tmp 65)) 22 [6] (by kernel_rfl) (by kernel_rfl) (by kernel_rfl) rfl fun vals w1 ρ hG hF hρ hcst hfun => ?_
      have e65 : ρ (.tmp 65) = .pointer (some ⟨R, 0, none⟩) := ((hρ 65).trans (slotJ [6] (by rw [hsz]; decide) (by kernel_rfl))).trans (hF 6 (by decide))
      have k := (hr.below hG hr.lt).cell 0
      clear hρ hF hcst hfun sl1 sl5 sl6 fin
      exact opv_val (by go_simp <;> rfl) ⟨gw_self _, rfl⟩
    · exact owes_mv 6 (by kernel_rfl) (by kernel_rfl) (by kernel_rfl) sl6 (fun _ => rfl)
    · refine owes_v (Go.Op.indexAddr 22 (Go.Operand.tmp 66) (Go.Operand.tmp 67)) 0 [7, 8] (by kernel_rfl) (by kernel_rfl) (by kernel_rfl) rfl fun vals w1 ρ hG hF hρ hcst hfun => ?_
      have e66 : ρ (.tmp 66) = .slice (some a) N c := ((hρ 66).trans (slotJ [7, 8] (by rw [hsz]; decide) (by kernel_rfl))).trans (hF 7 (by decide))
      have e67 : ρ (.tmp 67) = .int .i64 i := ((hρ 67).trans (slotJ [7, 8] (by rw [hsz]; decide) (by kernel_rfl))).trans (hF 8 (by decide))
      clear hρ hF hcst hfun sl1 sl5 sl6 fin
      exact opv_val (by go_simp <;> rfl) ⟨gw_self _, rfl⟩
    · refine owes_v (Go.Op.load 68 (Go.Operand.tmp 68)) 68 [9] (by kernel_rfl) (by kernel_rfl) (by kernel_rfl) rfl fun vals w1 ρ hG hF hρ hcst hfun => ?_
      have e68 : ρ (.tmp 68) = .pointer (some (a.add i)) := ((hρ 68).trans (slotJ [9] (by rw [hsz]; decide) (by kernel_rfl))).trans (hF 9 (by decide))
      have k := (hG.cell (p := a.add i) (by rw [add_block]; exact ha)).trans h1
      clear hρ hF hcst hfun sl1 sl5 sl6 fin
      exact opv_val (by go_simp <;> rfl) ⟨gw_self _, rfl⟩
    · refine owes_v (Go.Op.binOp Go.BinOp.neq 68 (Go.Operand.tmp 62) (Go.Operand.tmp 69) 68) 4 [3, 10] (by kernel_rfl) (by kernel_rfl) (by kernel_rfl) rfl fun vals w1 ρ hG hF hρ hcst hfun => ?_
      have e62 : ρ (.tmp 62) = .int .u64 (U64 x) := ((hρ 62).trans (slotJ [3, 10] (by rw [hsz]; decide) (by kernel_rfl))).trans (hF 3 (by decide))
      have e69 : ρ (.tmp 69) = .int .u64 (U64 x) := ((hρ 69).trans (slotJ [3, 10] (by rw [hsz]; decide) (by kernel_rfl))).trans (hF 10 (by decide))
      clear hρ hF hcst hfun sl1 sl5 sl6 fin
      exact opv_val (by go_simp <;> rfl) ⟨gw_self _, rfl⟩
  · intro vals w1 hG hF
    exact fin vals w1 hG (hF 11 (by decide +kernel))
theorem sm_c (Q : Exit → Act → World → Prop) (a0 : Act) (w : World) (B s g R N c b t e u1 u2 : Nat) (v : Value) (A : Option Addr) (ws : List (BitVec 64)) (sp : SpAt w B s g v ws b t e) (hl : ws.length ≤ 100000) (hr : Bk w R 29 #[.slice A N c, .int .i64 b, .int .i64 t, .int .i64 e]) (d1 : (t : Int) - (b : Int) = (u1 : Int)) (d2 : (e : Int) - (t : Int) = (u2 : Int)) (d3 : (u1 : Int) ≤ 100000) (d4 : (u2 : Int) ≤ 100000) (d5 : (0 : Int) ≤ (u1 : Int)) (d6 : (0 : Int) ≤ (u2 : Int)) (f1 : t - b = u1) (f2 : e - t = u2) (hsz : a0.tmps.size = 97) (sl0 : a0.tmps.getD 0 undef = .pointer (some ⟨s, 0, none⟩)) (sl1 : a0.tmps.getD 1 undef = .pointer (some ⟨R, 0, none⟩))
    (fin : ∀ (vals : Nat → Value) (w1 : World), Below w.heap.size w w1 → (IsV (.bool true)) (vals 26) w1 → Q .normal (putD vals [71, 72, 73, 74, 75, 76, 77, 78, 79, 80, 81, 82, 83, 84, 85, 86, 87, 88, 89, 90, 91, 92, 93, 94, 95, 96, 4] 0 a0) w1) :
    (Code.region 9 (regIn Tryd.f17 9) true).wp Tryd.prog Q a0 w := by
  refine region_by (G := fun w w1 => Below w.heap.size w w1) [IsV (.pointer (some ⟨s, 0, none⟩)),
    IsV (.int .i64 u1),
    IsV (.pointer (some ⟨R, 0, none⟩)),
    IsV (.pointer (some ⟨R, 0, none⟩)),
    IsV (.pointer (some ⟨R, 2, none⟩)),
    IsV (.int .i64 t),
    IsV (.pointer (some ⟨R, 0, none⟩)),
    IsV (.pointer (some ⟨R, 0, none⟩)),
    IsV (.pointer (some ⟨R, 1, none⟩)),
    IsV (.int .i64 b),
    IsV (.int .i64 u1),
    IsV (.bool true),
    IsV (.bool true),
    IsV (.pointer (some ⟨s, 0, none⟩)),
    IsV (.int .i64 u2),
    IsV (.pointer (some ⟨R, 0, none⟩)),
    IsV (.pointer (some ⟨R, 0, none⟩)),
    IsV (.pointer (some ⟨R, 3, none⟩)),
    IsV (.int .i64 e),
    IsV (.pointer (some ⟨R, 0, none⟩)),
    IsV (.pointer (some ⟨R, 0, none⟩)),
    IsV (.pointer (some ⟨R, 2, none⟩)),
    IsV (.int .i64 t),
    IsV (.int .i64 u2),
    IsV (.bool true),
    IsV (.bool true),
    IsV (.bool true)]
    [71, 72, 73, 74, 75, 76, 77, 78, 79, 80, 81, 82, 83, 84, 85, 86, 87, 88, 89, 90, 91, 92, 93, 94, 95, 96, 4] (by kernel_rfl) (Gw.drew _) Gw.trans (by rw [hsz]; kernel_rfl) (by kernel_rfl) ?_ ?_ ?_
  · intro f hf
    simp only [List.mem_cons, List.not_mem_nil, or_false] at hf
    rcases hf with rfl | rfl | rfl | rfl | rfl | rfl | rfl | rfl | rfl | rfl | rfl | rfl | rfl | rfl | rfl | rfl | rfl | rfl | rfl | rfl | rfl | rfl | rfl | rfl | rfl | rfl | rfl <;> intro v a b h g <;> first | exact IsV.mono h
  · refine ⟨?_, ?_, ?_, ?_, ?_, ?_, ?_, ?_, ?_, ?_, ?_, ?_, ?_, ?_, ?_, ?_, ?_, ?_, ?_, ?_, ?_, ?_, ?_, ?_, ?_, ?_, ?_, trivial⟩
    · exact owes_mv 0 (by kernel_rfl) (by kernel_rfl) (by kernel_rfl) sl0 (fun _ => rfl)
    · refine owes_v (Go.Op.call { callee := Go.Callee.value (Go.Operand.func 40), args := #[Go.Operand.tmp 71], argTypes := #[25] }) 3 [0] (by kernel_rfl) (by kernel_rfl) (by kernel_rfl) rfl fun vals w1 ρ hG hF hρ hcst hfun => ?_
      have e71 : ρ (.tmp 71) = .pointer (some ⟨s, 0, none⟩) := ((hρ 71).trans (slotJ [0] (by rw [hsz]; decide) (by kernel_rfl))).trans (hF 0 (by decide))
      have kf := used_c w1 B s g v ws b t e (sp.below hG) hl
      rw [f1] at kf
      clear hρ hF hcst sl0 sl1 fin
      exact opv_enter (by go_simp <;> rfl) (of_bl kf)
    · exact owes_mv 1 (by kernel_rfl) (by kernel_rfl) (by kernel_rfl) sl1 (fun _ => rfl)
    · refine owes_v (Go.Op.nilCheck (Go.Operand.tmp 73)) 0 [2] (by kernel_rfl) (by kernel_rfl) (by kernel_rfl) rfl fun vals w1 ρ hG hF hρ hcst hfun => ?_
      have e73 : ρ (.tmp 73) = .pointer (some ⟨R, 0, none⟩) := ((hρ 73).trans (slotJ [2] (by rw [hsz]; decide) (by kernel_rfl))).trans (hF 2 (by decide))
      clear hρ hF hcst hfun sl0 sl1 fin
      exact opv_val (by go_simp <;> rfl) ⟨gw_self _, rfl⟩
    · refine owes_v (Go.Op.fieldAddr 29 (Go.Operand.tmp 74) 2) 0 [3] (by kernel_rfl) (by kernel_rfl) (by kernel_rfl) rfl fun vals w1 ρ hG hF hρ hcst hfun => ?_
      have e74 : ρ (.tmp 74) = .pointer (some ⟨R, 0, none⟩) := ((hρ 74).trans (slotJ [3] (by rw [hsz]; decide) (by kernel_rfl))).trans (hF 3 (by decide))
      clear hρ hF hcst hfun sl0 sl1 fin
      exact opv_val (by go_simp <;> rfl) ⟨gw_self _, rfl⟩
    · refine owes_v (Go.Op.load 3 (Go.Operand.tmp 75)) 3 [4] (by kernel_rfl) (by kernel_rfl) (by kernel_rfl) rfl fun vals w1 ρ hG hF hρ hcst hfun => ?_
      have e75 : ρ (.tmp 75) = .pointer (some ⟨R, 2, none⟩) := ((hρ 75).trans (slotJ [4] (by rw [hsz]; decide) (by kernel_rfl))).trans (hF 4 (by decide))
      have k := (hr.below hG hr.lt).cell 2
      clear hρ hF hcst hfun sl0 sl1 fin
      exact opv_val (by go_simp <;> rfl) ⟨gw_self _, rfl⟩
    · exact owes_mv 1 (by kernel_rfl) (by kernel_rfl) (by kernel_rfl) sl1 (fun _ => rfl)
    · refine owes_v (Go.Op.nilCheck (Go.Operand.tmp 77)) 0 [6] (by kernel_rfl) (by kernel_rfl) (by kernel_rfl) rfl fun vals w1 ρ hG hF hρ hcst hfun => ?_
      have e77 : ρ (.tmp 77) = .pointer (some ⟨R, 0, none⟩) := ((hρ 77).trans (slotJ [6] (by rw [hsz]; decide) (by kernel_rfl))).trans (hF 6 (by decide))
      clear hρ hF hcst hfun sl0 sl1 fin
      exact opv_val (by go_simp <;> rfl) ⟨gw_self _, rfl⟩
    · refine owes_v (Go.Op.fieldAddr 29 (Go.Operand.tmp 78) 1) 0 [7] (by kernel_rfl) (by kernel_rfl) (by kernel_rfl) rfl fun vals w1 ρ hG hF hρ hcst hfun => ?_
      have e78 : ρ (.tmp 78) = .pointer (some ⟨R, 0, none⟩) := ((hρ 78).trans (slotJ [7] (by rw [hsz]; decide) (by kernel_rfl))).trans (hF 7 (by decide))
      clear hρ hF hcst hfun sl0 sl1 fin
      exact opv_val (by go_simp <;> rfl) ⟨gw_self _, rfl⟩
    · refine owes_v (Go.Op.load 3 (Go.Operand.tmp 79)) 3 [8] (by kernel_rfl) (by kernel_rfl) (by kernel_rfl) rfl fun vals w1 ρ hG hF hρ hcst hfun => ?_
      have e79 : ρ (.tmp 79) = .pointer (some ⟨R, 1, none⟩) := ((hρ 79).trans (slotJ [8] (by rw [hsz]; decide) (by kernel_rfl))).trans (hF 8 (by decide))
      have k := (hr.below hG hr.lt).cell 1
      clear hρ hF hcst hfun sl0 sl1 fin
      exact opv_val (by go_simp <;> rfl) ⟨gw_self _, rfl⟩
    · refine owes_v (Go.Op.binOp Go.BinOp.sub 3 (Go.Operand.tmp 76) (Go.Operand.tmp 80) 3) 3 [5, 9] (by kernel_rfl) (by kernel_rfl) (by kernel_rfl) rfl fun vals w1 ρ hG hF hρ hcst hfun => ?_
      have e76 : ρ (.tmp 76) = .int .i64 t := ((hρ 76).trans (slotJ [5, 9] (by rw [hsz]; decide) (by kernel_rfl))).trans (hF 5 (by decide))
      have e80 : ρ (.tmp 80) = .int .i64 b := ((hρ 80).trans (slotJ [5, 9] (by rw [hsz]; decide) (by kernel_rfl))).trans (hF 9 (by decide))
      have kw0 : IntKind.i64.wrap ((u1 : Int)) = (u1 : Int) := wrapIn (by omega) (by omega)
      clear hρ hF hcst hfun sl0 sl1 fin
      exact opv_val (by go_simp <;> rfl) ⟨gw_self _, rfl⟩
    · refine owes_v (Go.Op.binOp Go.BinOp.eql 3 (Go.Operand.tmp 72) (Go.Operand.tmp 81) 3) 4 [1, 10] (by kernel_rfl) (by kernel_rfl) (by kernel_rfl) rfl fun vals w1 ρ hG hF hρ hcst hfun => ?_
      have e72 : ρ (.tmp 72) = .int .i64 u1 := ((hρ 72).trans (slotJ [1, 10] (by rw [hsz]; decide) (by kernel_rfl))).trans (hF 1 (by decide))
      have e81 : ρ (.tmp 81) = .int .i64 u1 := ((hρ 81).trans (slotJ [1, 10] (by rw [hsz]; decide) (by kernel_rfl))).trans (hF 10 (by decide))
      clear hρ hF hcst hfun sl0 sl1 fin
      exact opv_val (by go_simp <;> rfl) ⟨gw_self _, rfl⟩
    · exact owes_mvj 11 82 (by kernel_rfl) (by kernel_rfl) (by kernel_rfl) (by kernel_rfl) (by rw [hsz]; decide) (fun v w h => h)
    · refine owes_vt 12 true (Go.Op.move (Go.Operand.tmp 0)) 25 [] (by kernel_rfl) (by kernel_rfl) (by kernel_rfl) (fun _ _ h => h) (by rw [hsz]; kernel_rfl) (by kernel_rfl) rfl fun vals w1 ρ hG hF hρ hcst hfun => ?_
      have e0 : ρ (.tmp 0) = .pointer (some ⟨s, 0, none⟩) := ((hρ 0).trans (slotO [] (by kernel_rfl))).trans sl0
      clear hρ hF hcst hfun sl0 sl1 fin
      exact opv_val (by go_simp <;> rfl) ⟨gw_self _, rfl⟩
    · refine owes_vt 12 true (Go.Op.call { callee := Go.Callee.value (Go.Operand.func 41), args := #[Go.Operand.tmp 84], argTypes := #[25] }) 3 [13] (by kernel_rfl) (by kernel_rfl) (by kernel_rfl) (fun _ _ h => h) (by rw [hsz]; kernel_rfl) (by kernel_rfl) rfl fun vals w1 ρ hG hF hρ hcst hfun => ?_
      have e84 : ρ (.tmp 84) = .pointer (some ⟨s, 0, none⟩) := ((hρ 84).trans (slotJ [13] (by rw [hsz]; decide) (by kernel_rfl))).trans (hF 13 (by decide))
      have kf := free_c w1 B s g v ws b t e (sp.below hG) hl
      rw [f2] at kf
      clear hρ hF hcst sl0 sl1 fin
      exact opv_enter (by go_simp <;> rfl) (of_bl kf)
    · refine owes_vt 12 true (Go.Op.move (Go.Operand.tmp 1)) 27 [] (by kernel_rfl) (by kernel_rfl) (by kernel_rfl) (fun _ _ h => h) (by rw [hsz]; kernel_rfl) (by kernel_rfl) rfl fun vals w1 ρ hG hF hρ hcst hfun => ?_
      have e1 : ρ (.tmp 1) = .pointer (some ⟨R, 0, none⟩) := ((hρ 1).trans (slotO [] (by kernel_rfl))).trans sl1
      clear hρ hF hcst hfun sl0 sl1 fin
      exact opv_val (by go_simp <;> rfl) ⟨gw_self _, rfl⟩
    · refine owes_vt 12 true (Go.Op.nilCheck (Go.Operand.tmp 86)) 0 [15] (by kernel_rfl) (by kernel_rfl) (by kernel_rfl) (fun _ _ h => h) (by rw [hsz]; kernel_rfl) (by kernel_rfl) rfl fun vals w1 ρ hG hF hρ hcst hfun => ?_
      have e86 : ρ (.tmp 86) = .pointer (some ⟨R, 0, none⟩) := ((hρ 86).trans (slotJ [15] (by rw [hsz]; decide) (by kernel_rfl))).trans (hF 15 (by decide))
      clear hρ hF hcst hfun sl0 sl1 fin
      exact opv_val (by go_simp <;> rfl) ⟨gw_self _, rfl⟩
    · refine owes_vt 12 true (Go.Op.fieldAddr 29 (Go.Operand.tmp 87) 3) 0 [16] (by kernel_rfl) (by kernel_rfl) (by kernel_rfl) (fun _ _ h => h) (by rw [hsz]; kernel_rfl) (by kernel_rfl) rfl fun vals w1 ρ hG hF hρ hcst hfun => ?_
      have e87 : ρ (.tmp 87) = .pointer (some ⟨R, 0, none⟩) := ((hρ 87).trans (slotJ [16] (by rw [hsz]; decide) (by kernel_rfl))).trans (hF 16 (by decide))
      clear hρ hF hcst hfun sl0 sl1 fin
      exact opv_val (by go_simp <;> rfl) ⟨gw_self _, rfl⟩
    · refine owes_vt 12 true (Go.Op.load 3 (Go.Operand.tmp 88)) 3 [17] (by kernel_rfl) (by kernel_rfl) (by kernel_rfl) (fun _ _ h => h) (by rw [hsz]; kernel_rfl) (by kernel_rfl) rfl fun vals w1 ρ hG hF hρ hcst hfun => ?_
      have e88 : ρ (.tmp 88) = .pointer (some ⟨R, 3, none⟩) := ((hρ 88).trans (slotJ [17] (by rw [hsz]; decide) (by kernel_rfl))).trans (hF 17 (by decide))
      have k := (hr.below hG hr.lt).cell 3
      clear hρ hF hcst hfun sl0 sl1 fin
      exact opv_val (by go_simp <;> rfl) ⟨gw_self _, rfl⟩
    · refine owes_vt 12 true (Go.Op.move (Go.Operand.tmp 1)) 27 [] (by kernel_rfl) (by kernel_rfl) (by kernel_rfl) (fun _ _ h => h) (by rw [hsz]; kernel_rfl) (by kernel_rfl) rfl fun vals w1 ρ hG hF hρ hcst hfun => ?_
      have e1 : ρ (.tmp 1) = .pointer (some ⟨R, 0, none⟩) := ((hρ 1).trans (slotO [] (by kernel_rfl))).trans sl1
      clear hρ hF hcst hfun sl0 sl1 fin
      exact opv_val (by go_simp <;> rfl) ⟨gw_self _, rfl⟩
    · refine owes_vt 12 true (Go.Op.nilCheck (Go.Operand.tmp 90)) 0 [19] (by kernel_rfl) (by kernel_rfl) (by kernel_rfl) (fun _ _ h => h) (by rw [hsz]; kernel_rfl) (by kernel_rfl) rfl fun vals w1 ρ hG hF hρ hcst hfun => ?_
      have e90 : ρ (.tmp 90) = .pointer (some ⟨R, 0, none⟩) := ((hρ 90).trans (slotJ [19] (by rw [hsz]; decide) (by kernel_rfl))).trans (hF 19 (by decide))
      clear hρ hF hcst hfun sl0 sl1 fin
      exact opv_val (by go_simp <;> rfl) ⟨gw_self _, rfl⟩
    · refine owes_vt 12 true (Go.Op.fieldAddr 29 (Go.Operand.tmp 91) 2) 0 [20] (by kernel_rfl) (by kernel_rfl) (by kernel_rfl) (fun _ _ h => h) (by rw [hsz]; kernel_rfl) (by kernel_rfl) rfl fun vals w1 ρ hG hF hρ hcst hfun => ?_
      have e91 : ρ (.tmp 91) = .pointer (some ⟨R, 0, none⟩) := ((hρ 91).trans (slotJ [20] (by rw [hsz]; decide) (by kernel_rfl))).trans (hF 20 (by decide))
      clear hρ hF hcst hfun sl0 sl1 fin
      exact opv_val (by go_simp <;> rfl) ⟨gw_self _, rfl⟩
    · refine owes_vt 12 true (Go.Op.load 3 (Go.Operand.tmp 92)) 3 [21] (by kernel_rfl) (by kernel_rfl) (by kernel_rfl) (fun _ _ h => h) (by rw [hsz]; kernel_rfl) (by kernel_rfl) rfl fun vals w1 ρ hG hF hρ hcst hfun => ?_
      have e92 : ρ (.tmp 92) = .pointer (some ⟨R, 2, none⟩) := ((hρ 92).trans (slotJ [21] (by rw [hsz]; decide) (by kernel_rfl))).trans (hF 21 (by decide))
      have k := (hr.below hG hr.lt).cell 2
      clear hρ hF hcst hfun sl0 sl1 fin
      exact opv_val (by go_simp <;> rfl) ⟨gw_self _, rfl⟩
    · refine owes_vt 12 true (Go.Op.binOp Go.BinOp.sub 3 (Go.Operand.tmp 89) (Go.Operand.tmp 93) 3) 3 [18, 22] (by kernel_rfl) (by kernel_rfl) (by kernel_rfl) (fun _ _ h => h) (by rw [hsz]; kernel_rfl) (by kernel_rfl) rfl fun vals w1 ρ hG hF hρ hcst hfun => ?_
      have e89 : ρ (.tmp 89) = .int .i64 e := ((hρ 89).trans (slotJ [18, 22] (by rw [hsz]; decide) (by kernel_rfl))).trans (hF 18 (by decide))
      have e93 : ρ (.tmp 93) = .int .i64 t := ((hρ 93).trans (slotJ [18, 22] (by rw [hsz]; decide) (by kernel_rfl))).trans (hF 22 (by decide))
      have kw0 : IntKind.i64.wrap ((u2 : Int)) = (u2 : Int) := wrapIn (by omega) (by omega)
      clear hρ hF hcst hfun sl0 sl1 fin
      exact opv_val (by go_simp <;> rfl) ⟨gw_self _, rfl⟩
    · refine owes_vt 12 true (Go.Op.binOp Go.BinOp.eql 3 (Go.Operand.tmp 85) (Go.Operand.tmp 94) 3) 4 [14, 23] (by kernel_rfl) (by kernel_rfl) (by kernel_rfl) (fun _ _ h => h) (by rw [hsz]; kernel_rfl) (by kernel_rfl) rfl fun vals w1 ρ hG hF hρ hcst hfun => ?_
      have e85 : ρ (.tmp 85) = .int .i64 u2 := ((hρ 85).trans (slotJ [14, 23] (by rw [hsz]; decide) (by kernel_rfl))).trans (hF 14 (by decide))
      have e94 : ρ (.tmp 94) = .int .i64 u2 := ((hρ 94).trans (slotJ [14, 23] (by rw [hsz]; decide) (by kernel_rfl))).trans (hF 23 (by decide))
      clear hρ hF hcst hfun sl0 sl1 fin
      exact opv_val (by go_simp <;> rfl) ⟨gw_self _, rfl⟩
    · refine owes_v (Go.Op.pick (Go.Operand.tmp 83) (Go.Operand.tmp 95) (Go.Operand.const (Go.Value.bool false))) 4 [12, 24] (by kernel_rfl) (by kernel_rfl) (by kernel_rfl) rfl fun vals w1 ρ hG hF hρ hcst hfun => ?_
      have e83 : ρ (.tmp 83) = .bool true := ((hρ 83).trans (slotJ [12, 24] (by rw [hsz]; decide) (by kernel_rfl))).trans (hF 12 (by decide))
      have e95 : ρ (.tmp 95) = .bool true := ((hρ 95).trans (slotJ [12, 24] (by rw [hsz]; decide) (by kernel_rfl))).trans (hF 24 (by decide))
      clear hρ hF hfun sl0 sl1 fin
      exact opv_val (by go_simp <;> rfl) ⟨gw_self _, rfl⟩
    · exact owes_mvj 25 96 (by kernel_rfl) (by kernel_rfl) (by kernel_rfl) (by kernel_rfl) (by rw [hsz]; decide) (fun v w h => h)
  · intro vals w1 hG hF
    exact fin vals w1 hG (hF 26 (by decide +kernel))
end Go.Proofs.YtfodefgihicafaaDoor
/- loamlaw15's Same. Conditions: lengths. -/
namespace Go.Proofs.YtfodefgihicafaaDoor
set_option linter.unusedVariables false
set_option linter.unusedSimpArgs false
open Go.RowKit
set_option maxHeartbeats 400000
set_option maxRecDepth 100000
theorem same15_t (w : World) (B s g R c b t e : Nat) (v : Value) (ws : List (BitVec 64)) (A : Option Addr) (p : SpAt w B s g v ws b t e) (q : RefAt w R A c ws b t e) (hl : ws.length ≤ 100000) :
    Calls Tryd.prog 17 #[.pointer (some ⟨s, 0, none⟩), .pointer (some ⟨R, 0, none⟩)] w (RetP (.bool true) w) := by
  obtain ⟨c0, c1, c2, c3⟩ := p.four
  have HW := Lib.hid (words_c w B g v ws p.mem (by omega))
  have HP := Lib.hid p
  have HQ := Lib.hid q
  obtain ⟨N, hN⟩ : ∃ N, N = ws.length := ⟨_, rfl⟩
  have HN := Lib.hid hN
  have HL := Lib.hid hl
  have q3 : (N : Int) ≤ 100000 := by omega
  obtain ⟨u1, hu1⟩ : ∃ u, u = t - b := ⟨_, rfl⟩
  obtain ⟨u2, hu2⟩ : ∃ u, u = e - t := ⟨_, rfl⟩
  have HU := Lib.hid (show ((t : Int) - (b : Int) = (u1 : Int) ∧ (e : Int) - (t : Int) = (u2 : Int)) ∧ ((u1 : Int) ≤ 100000 ∧ (u2 : Int) ≤ 100000) ∧ ((0 : Int) ≤ (u1 : Int) ∧ (0 : Int) ≤ (u2 : Int)) ∧ (t - b = u1 ∧ e - t = u2) from by
    have h1 := p.bt
    have h2 := p.te
    have h3 := p.el
    refine ⟨⟨by omega, by omega⟩, ⟨by omega, by omega⟩, ⟨by omega, by omega⟩, by omega, by omega⟩)
  clear hN hl p q hu1 hu2
  go_enter Tryd.func17, Tryd.ntmps17
  go_wp2_with fail
  refine Calls.mono HW.out ?_
  rintro r w1 ⟨A5, c5, rfl, hc5, ho5, b5⟩
  have HO := Lib.hid ho5
  have HB5 := Lib.hid b5
  have HP1 := Lib.hid (HP.out.below b5)
  have HQ1 := Lib.hid (HQ.out.below b5)
  rw [← HN.out]
  clear hc5 ho5 b5 HW c0 c1 c2 c3
  go_wp2_with fail
  have hqb := HQ1.out.blk
  rw [← HN.out] at hqb
  refine sm_a _ _ _ s R g N c c5 b t e A A5 HP1.out.blk hqb rfl rfl rfl rfl ?_
  intro vals w2 hG h52
  unfold IsV at h52
  simp only [putD, Act.put, List.setIfInBounds_toArray, List.set_cons_zero, List.set_cons_succ, h52]
  have H2 := Lib.hid (And.intro (HP1.out.below hG) (And.intro (HQ1.out.below hG) (And.intro ((HO.out.below hG).rd) (HB5.out.trans (hG.mono HB5.out.size)))))
  clear h52 hG hqb HP1 HQ1 HO
  go_wp2_with fail
  go_loopw [6] (fun i wr => ∃ k : Nat, k ≤ N ∧ i = .int .i64 k ∧ Below w2.heap.size w2 wr) (fun i _ => N - (Go.RowKit.intOf i).toNat)
  case atStart => exact ⟨0, by omega, rfl, Below.refl _ _⟩
  case round =>
    obtain ⟨k, hk, rfl, hB⟩ := hrel
    by_cases hlt : k < N
    · have p1 : (0 : Int) ≤ (k : Int) := by omega
      have p2 : (k : Int) < (N : Int) := by omega
      have hlw : k < ws.length := by rw [← HN.out]; exact hlt
      have hqw := H2.out.2.1.below hB
      obtain ⟨ad, rfl, hadb, hcl⟩ := hqw.rd k hlw
      obtain ⟨ad2, rfl, hadb2, hcl2⟩ := (H2.out.2.2.1.below hB) k hlw
      obtain ⟨y, hy⟩ : ∃ y, y = ws[k] := ⟨_, rfl⟩
      rw [← hy] at hcl hcl2
      unfold u64v at hcl hcl2
      have hsz := hB.size
      have hqb := hqw.blk
      rw [← HN.out] at hqb
      have HS := Lib.hid (fun Q a0 => sm_b Q a0 wr R N c c5 b t e k ad ad2 y hqb hadb (by omega) hcl hcl2 p1 p2)
      clear hy hadb hadb2 hcl hcl2 hlw hsz hqw hqb
      go_wp2_with fail
      refine HS.out _ _ rfl rfl rfl rfl ?_
      intro vals w4 hG h70
      unfold IsV at h70
      simp only [putD, Act.put, List.setIfInBounds_toArray, List.set_cons_zero, List.set_cons_succ, h70]
      have HB4 := Lib.hid (hB.trans (hG.mono hB.size))
      clear h70 hG HS
      go_wp2_with fail
      go_roundw
      case rel => exact ⟨k + 1, by omega, by go_num, HB4.out⟩
      case measure => (first | (simp [Go.RowKit.intOf]; done) | (simp [Go.RowKit.intOf]; omega))
    · have hqb := (H2.out.2.1.below hB).blk
      rw [← HN.out] at hqb
      obtain ⟨⟨x1, x2⟩, ⟨x3, x4⟩, ⟨x5, x6⟩, x7, x8⟩ := HU.out
      have HS := Lib.hid (fun Q a0 => sm_c Q a0 wr B s g R N c b t e u1 u2 v A ws (H2.out.1.below hB) HL.out hqb x1 x2 x3 x4 x5 x6 x7 x8)
      have HB3 := Lib.hid (H2.out.2.2.2.trans (hB.mono H2.out.2.2.2.size))
      clear hqb x1 x2 x3 x4 x5 x6 x7 x8 hB
      go_wp2_with fail
      refine HS.out _ _ rfl rfl rfl ?_
      intro vals w4 hG h4
      unfold IsV at h4
      simp only [putD, Act.put, List.setIfInBounds_toArray, List.set_cons_zero, List.set_cons_succ, h4]
      have HB4 := Lib.hid (HB3.out.trans (hG.mono HB3.out.size))
      clear h4 hG HS
      go_wp2_with fail
      go_ret
      exact ⟨rfl, HB4.out⟩
end Go.Proofs.YtfodefgihicafaaDoor
/- space: Reset; rows of like objects. Conditions: lengths. -/
namespace Go.Proofs.YtfodefgihicafaaDoor
set_option linter.unusedVariables false
set_option linter.unusedSimpArgs false
open Go.RowKit
set_option maxHeartbeats 400000
set_option maxRecDepth 100000
theorem of_below {P : Program} {f : FuncId} {args : Array Value} {v : Value} {w : World} (h : Calls P f args w fun r w' => r = .returned v ∧ Below w.heap.size w w') : Calls P f args w fun e w2 => ∃ u, e = .returned u ∧ Below w.heap.size w w2 ∧ IsV v u w2 :=
  h.mono fun _ _ h => ⟨_, h.1, h.2, rfl⟩
end Go.Proofs.YtfodefgihicafaaDoor
/- Maps from numbers to numbers read as rising rows of pairs. No conditions. -/
namespace Go.Proofs.YtfodefgihicafaaDoor
set_option linter.unusedVariables false
set_option linter.unusedSimpArgs false
open Go.RowKit Go.Maps
abbrev kI (k : Int) : Lit := .int .i64 k
abbrev vI (k : Int) : DataW Unit := .lit (.int .i64 k)
def enP (p : Int × Int) : Lit × DataW Unit := (kI p.1, vI p.2)
def mD (l : List (Int × Int)) : DataW Unit := .map (l.map enP)
def Rise (l : List (Int × Int)) : Prop := l.Pairwise (fun p q => p.1 < q.1)
def lookI : List (Int × Int) → Int → Option Int
  | [], _ => none
  | p :: r, k => if p.1 = k then some p.2 else lookI r k
def offI (l : List (Int × Int)) (k : Int) : List (Int × Int) := l.filter fun p => decide (p.1 ≠ k)
theorem isKey_kI {k : Int} (h : (Lit.int .i64 k).wf = true) : WideAt.IsKeyLit (kI k) := by
  simp [WideAt.IsKeyLit]
def putI (l : List (Int × Int)) (k v : Int) : List (Int × Int) := insI (k, v) (offI l k)
where insI (x : Int × Int) : List (Int × Int) → List (Int × Int)
  | [] => [x]
  | y :: r => if x.1 < y.1 then x :: y :: r else y :: insI x r
theorem Rise.off {l : List (Int × Int)} (h : Rise l) (k : Int) : Rise (offI l k) := h.filter _
end Go.Proofs.YtfodefgihicafaaDoor
/- What is left as it was but for some blocks; numbers as keys. No conditions. -/
namespace Go.Proofs.YtfodefgihicafaaDoor
set_option linter.unusedVariables false
set_option linter.unusedSimpArgs false
open Go.RowKit Go.Maps
/-- All blocks but those of S are as they were. -/
structure Kept (S : Nat → Prop) (w w' : World) : Prop where
  os : w'.os = w.os
  tape : w'.tape = w.tape
  output : w'.output = w.output
  size : w.heap.size ≤ w'.heap.size
  block : ∀ k, k < w.heap.size → ¬ S k → w'.heap[k]? = w.heap[k]?
section
variable {S S' : Nat → Prop} {w w' w'' : World}
theorem Kept.refl (S : Nat → Prop) (w : World) : Kept S w w := ⟨rfl, rfl, rfl, Nat.le_refl _, fun _ _ _ => rfl⟩
theorem Kept.trans (h : Kept S w w') (k : Kept S w' w'') : Kept S w w'' :=
  ⟨k.os.trans h.os, k.tape.trans h.tape, k.output.trans h.output, Nat.le_trans h.size k.size, fun i hi hS => (k.block i (Nat.lt_of_lt_of_le hi h.size) hS).trans (h.block i hi hS)⟩
theorem Kept.more (h : Kept S w w') (hS : ∀ k, S k → S' k) : Kept S' w w' := ⟨h.os, h.tape, h.output, h.size, fun i hi hn => h.block i hi (fun hs => hn (hS i hs))⟩
theorem Kept.of_below (h : Below w.heap.size w w') (S : Nat → Prop) : Kept S w w' := ⟨h.os, h.tape, h.output, h.size, fun i hi _ => h.block i hi⟩
theorem Kept.below {B : Nat} (h : Kept S w w') (hB : B ≤ w.heap.size) (hS : ∀ k, S k → B ≤ k) : Below B w w' := ⟨h.os, h.tape, h.output, h.size, fun i hi => h.block i (by omega) (fun hs => by have := hS i hs; omega)⟩
theorem Kept.grown {row : Option Nat} (h : w.grownBy w' row) : Kept (fun k => row = some k) w w' := ⟨h.os, h.tape, h.output, h.size, fun i hi hn => h.block i hi (fun e => hn e.symm)⟩
theorem Kept.set (w : World) (g i : Nat) (u : Value) : Kept (fun k => k = g) w (w.setCell ⟨g, i, none⟩ u) := ⟨rfl, rfl, rfl, by simp [World.setCell], fun k _ hn => Below.heap_setCell _ _ _ _ hn⟩
theorem Kept.alloc (S : Nat → Prop) (w : World) (o : Obj) : Kept S w (w.alloc o) := Kept.of_below (Gw.alloc w o) S
theorem Kept.bk {g : Nat} {E : TypeId} {cs : Array Value} (h : Kept S w w') (hb : Bk w g E cs) (hn : ¬ S g) : Bk w' g E cs := (h.block g hb.lt hn).trans hb
theorem Kept.cell (h : Kept S w w') {p : Addr} (hp : p.block < w.heap.size) (hn : ¬ S p.block) : w'.cell? p = w.cell? p := World.cell?_of_block (w := w) (h.block p.block hp hn)
theorem Kept.map {P : Program} {k : TypeId} {H : Type} {R : Value → Option (DataW H × List MemPlace)} {b n : Nat} {D : DataW H} (h : Kept S w w') (ho : w.ownsMap P k R b n D) (hn : ¬ S b) : w'.ownsMap P k R b n D := by
  have hl := ho.lt
  obtain ⟨es, clock, hb, r⟩ := ho
  exact ⟨es, clock, (h.block b hl hn).trans hb, r⟩
end
theorem lawI : Keyed Tryd.prog 3 := int_keyed Tryd.underlying3
theorem keyI {k : Int} (h : (Lit.int .i64 k).wf = true) : keyOf Tryd.prog 3 (.int .i64 k) = some (kI k) := keyOf_int_mk Tryd.underlying3 h
end Go.Proofs.YtfodefgihicafaaDoor
