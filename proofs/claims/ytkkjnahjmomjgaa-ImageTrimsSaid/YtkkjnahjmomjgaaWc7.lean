/- Texts joined: SpD SpE SpG SpH SpI SpF ObS ObA. -/
import Derived.Test.YtkkjnahjmomjgaaWc6
import Derived.Test.YtkkjnahjmomjgaaMapA
import Derived.Test.YtkkjnahjmomjgaaHdK
/- space: Alloc, Reset. Conditions: lengths. -/
namespace Go.Proofs.Ytkkjnahjmomjgaa
set_option linter.unusedVariables false
set_option linter.unusedSimpArgs false
open Go.RowKit
/-- The words with a new object of n words at t. -/
def allocW (ws : List (BitVec 64)) (t n : Nat) (x : BitVec 64) : List (BitVec 64) := zeroW (ws.set t x) (t + 1) (n - 1)
set_option maxHeartbeats 400000
set_option maxRecDepth 100000
theorem alloc_ok3 (w : World) (B s g : Nat) (v : Value) (ws : List (BitVec 64)) (b t e : Nat) (sp : SpAt w B s g v ws b t e) (hl : ws.length ≤ 100000) (hp hb ht : Int) (n : Nat) (hr : rightH hp hb false ht = true) (hn : sizeH hp hb false ht = (n : Int)) (hn1 : 1 ≤ n) (hf : n ≤ e - t) :
    Calls Try.prog 60 #[.pointer (some ⟨s, 0, none⟩), .agg #[.int .i64 hp, .int .i64 hb, .bool false, .int .i64 ht]] w fun r w' => r = .returned (.tuple #[.int .i64 t, .int .i64 0]) ∧ SpAt w' B s g v (allocW ws t n (packH hp hb false ht)) b (t + n) e ∧ Below B w w' ∧ Two w w' s v.ownBlock := by
  have HPk := Lib.hid (fun W => pack_c hp hb false ht W)
  have HSz := Lib.hid (fun W => size_c hp hb false ht W)
  rw [hn] at HSz
  have hk := Bk.new w 112 #[.int .i64 hp, .int .i64 hb, .bool false, .int .i64 ht]
  have HK := Lib.hid hk
  have hB := Gw.alloc w (.cells #[.int .i64 hp, .int .i64 hb, .bool false, .int .i64 ht] 112)
  have HB := Lib.hid hB
  have e1 : errH hp hb false ht = 0 := by unfold errH; rw [hr]; rfl
  rw [e1] at HPk
  have HFr := Lib.hid (fun W (h : Below w.heap.size w W) => free_c W B s g v ws b t e (sp.below h) hl)
  obtain ⟨room, hroom⟩ : ∃ r, r = e - t := ⟨_, rfl⟩
  rw [← hroom] at HFr
  have u1 : ¬ room < n := by omega
  obtain ⟨x, hx⟩ : ∃ x, x = packH hp hb false ht := ⟨_, rfl⟩
  rw [← hx] at HPk ⊢
  have hte := sp.te
  have hel := sp.el
  have htl : t < ws.length := by omega
  have HSet := Lib.hid (fun W (h : MemAt W B g v ws) => set_in W B g v ws t x htl hl h)
  have hlen2 : (ws.set t x).length = ws.length := List.length_set
  have HZr := Lib.hid (fun W (h : SpAt W B s g v (ws.set t x) b t e) => zero_c W B s g v (ws.set t x) b t e (t + 1) (t + n) h (by omega) (by rw [hlen2]; omega) (by rw [hlen2]; exact hl))
  obtain ⟨tn, htn⟩ : ∃ tn, tn = t + n := ⟨_, rfl⟩
  have htn1 : tn - (t + 1) = n - 1 := by omega
  have ht1 : ((t + 1 : Nat) : Int) = (t : Int) + 1 := by omega
  rw [← htn, htn1, ht1] at HZr
  rw [← htn]
  have d2 : (t : Int) + (n : Int) = (tn : Int) := by omega
  have d3 : (tn : Int) ≤ 100000 := by omega
  have d4 : (t : Int) ≤ 100000 := by omega
  have d5 : (0 : Int) ≤ (tn : Int) := by omega
  have HX := Lib.hid (And.intro hlen2 (And.intro (show b ≤ tn by have := sp.bt; omega) (show tn ≤ e by omega)))
  have HSP := Lib.hid sp
  clear sp hr hn hk hB e1 hl hf hroom hx hte hel htl hlen2 htn htn1 hn1
  go_enter Try.func60, Try.ntmps60
  go_wp2_with fail
  refine Calls.mono (HPk.out _) ?_
  rintro r w1 ⟨rfl, b1⟩
  have HB1 := Lib.hid (HB.out.trans (b1.mono HB.out.size))
  have hk1 := HK.out.below b1 HK.out.lt
  obtain ⟨k0, k1, k2, k3⟩ := hk1.four
  clear b1 hk1
  go_wp2_with fail
  refine Calls.mono (HSz.out _) ?_
  rintro r w2 ⟨rfl, b2⟩
  have HB2 := Lib.hid (HB1.out.trans (b2.mono HB1.out.size))
  clear b2
  go_wp2_with fail
  refine Calls.mono (HFr.out _ HB2.out) ?_
  rintro r w3 ⟨rfl, b3⟩
  have HB3 := Lib.hid (HB2.out.trans (b3.mono HB2.out.size))
  have hsp3 := HSP.out.below HB3.out
  obtain ⟨c0, c1, c2, c3⟩ := hsp3.four
  have HSP3 := Lib.hid hsp3
  clear b3 hsp3 k0 k1 k2 k3
  go_wp2_with fail
  refine Calls.mono (HSet.out w3 HSP3.out.mem) ?_
  rintro r w4 ⟨rfl, hm4, hg4⟩
  have hsp4 := HSP3.out.memTo hm4 hg4 HX.out.1
  have HB4 : Hid (Below B w w4) := Lib.hid ((HB3.out.mono HSP.out.mem.le).trans (HSP3.out.mem.own hg4))
  have HT4 : Hid (Two w w4 s v.ownBlock) := Lib.hid ((Two.below HB3.out).trans (Two.grown hg4))
  have HSP4 := Lib.hid hsp4
  clear hm4 hg4 hsp4 HSP3
  go_wp2_with fail
  refine Calls.mono (HZr.out w4 HSP4.out) ?_
  rintro r w5 ⟨rfl, hsp5, hg5⟩
  have HB5 : Hid (Below B w w5) := Lib.hid (HB4.out.trans (HSP4.out.mem.own hg5))
  have HT5 : Hid (Two w (w5.setCell ⟨s, 2, none⟩ (.int .i64 tn)) s v.ownBlock) := Lib.hid ((HT4.out.trans (Two.grown hg5)).trans (Two.setc w5 s 2 _ _))
  obtain ⟨c0, c1, c2, c3⟩ := hsp5.four
  have hf2 := hsp5.blk.free 2
  have hsl := hsp5.blk.lt
  have hfin : SpAt (w5.setCell ⟨s, 2, none⟩ (.int .i64 tn)) B s g v (allocW ws t n x) b tn e ∧ Below B w (w5.setCell ⟨s, 2, none⟩ (.int .i64 tn)) := by
    have hgr := grown_set w5 ⟨s, 2, none⟩ (.int .i64 tn)
    refine ⟨⟨hsp5.mem.grown hgr (fun e => hsp5.sg (by injection e with e; exact e.symm)) (.inr hsp5.sv), hsp5.blk.set 2 _, hsp5.sg, hsp5.sv, hsp5.hs, HX.out.2.1, HX.out.2.2, hsp5.el⟩, HB5.out.setCell (p := ⟨s, 2, none⟩) hsp5.hs _⟩
  have HFin := Lib.hid hfin
  clear hfin hsp5 hg5 HSP4
  go_wp2_with fail
  go_ret2
  exact ⟨rfl, HFin.out.1, HFin.out.2, HT5.out⟩
end Go.Proofs.Ytkkjnahjmomjgaa
/- What loamlaw15.known answers: true. No conditions. -/
namespace Go.Proofs.Ytkkjnahjmomjgaa
set_option linter.unusedVariables false
set_option linter.unusedSimpArgs false
open Go.RowKit
def kW0 : List (BitVec 64) := List.replicate 20 0#64
def kW1 : List (BitVec 64) := allocW kW0 2 3 (packH 2 0 false 0)
def kW2 : List (BitVec 64) := allocW kW1 5 3 (packH 0 9 false 0)
set_option maxRecDepth 100000
set_option maxHeartbeats 400000
end Go.Proofs.Ytkkjnahjmomjgaa
/- loamref14's Objects; loamlaw15's Mem, ints. Conditions: lengths. -/
namespace Go.Proofs.Ytkkjnahjmomjgaa
set_option linter.unusedVariables false
set_option linter.unusedSimpArgs false
open Go.RowKit
/-- Block R holds the document's space of the words ws. -/
structure RefAt (W : World) (R : Nat) (A : Option Addr) (c : Nat) (ws : List (BitVec 64)) (b t e : Nat) : Prop where
  blk : Bk W R 165 #[.slice A ws.length c, .int .i64 b, .int .i64 t, .int .i64 e]
  rd : Rd u64v W W.heap.size A ws
theorem RefAt.below {W W' : World} {R : Nat} {A : Option Addr} {c : Nat} {ws : List (BitVec 64)} {b t e : Nat} (h : RefAt W R A c ws b t e) (hb : Below W.heap.size W W') : RefAt W' R A c ws b t e := ⟨h.blk.below hb h.blk.lt, (h.rd.below hb).more hb.size⟩
theorem RefAt.four {W : World} {R : Nat} {A : Option Addr} {c : Nat} {ws : List (BitVec 64)} {b t e : Nat} (h : RefAt W R A c ws b t e) : W.cell? ⟨R, 0, none⟩ = some (.slice A ws.length c) ∧ W.cell? ⟨R, 1, none⟩ = some (.int .i64 b) ∧ W.cell? ⟨R, 2, none⟩ = some (.int .i64 t) ∧ W.cell? ⟨R, 3, none⟩ = some (.int .i64 e) := ⟨h.blk.cell 0, h.blk.cell 1, h.blk.cell 2, h.blk.cell 3⟩
set_option maxHeartbeats 400000
set_option maxRecDepth 100000
def RObjP (r : Option (List Nat)) (w : World) (e : Ending) (w' : World) : Prop := match r with
  | some l => ∃ A c, e = .returned (.tuple #[.slice A l.length c, .bool true]) ∧ l.length ≤ c ∧ Ow iN 3 w' w.heap.size (.slice A l.length c) l ∧ Below w.heap.size w w'
  | none => RetP (.tuple #[.slice none 0 0, .bool false]) w e w'
end Go.Proofs.Ytkkjnahjmomjgaa
/- space: Of; loamlaw15's Mem, ints, Same. Conditions: lengths. -/
namespace Go.Proofs.Ytkkjnahjmomjgaa
set_option linter.unusedVariables false
set_option linter.unusedSimpArgs false
open Go.RowKit
set_option maxHeartbeats 400000
set_option maxRecDepth 100000
theorem sof_out (w : World) (m : Value) (b t e : Int) (hb : Calls Try.prog 59 #[m, .int .i64 b, .int .i64 t, .int .i64 e] w fun r w' => r = .returned (.tuple #[.pointer none, .int .i64 1]) ∧ w' = w) :
    Calls Try.prog 75 #[m, .int .i64 b, .int .i64 t, .int .i64 e] w fun r w' => r = .returned (.tuple #[.pointer none, .int .i64 1]) ∧ w' = w := by
  have HB := Lib.hid hb
  clear hb
  go_enter Try.func75, Try.ntmps75
  go_wp2_with fail
  refine Calls.mono HB.out ?_
  rintro r w1 ⟨rfl, rfl⟩
  go_wp2_with fail
  go_ret2
  exact ⟨rfl, rfl⟩
theorem sof_none (w : World) (B g : Nat) (v : Value) (ws : List (BitVec 64)) (b t e : Nat) (h : MemAt w B g v ws) (hbt : b ≤ t) (hte : t ≤ e) (hel : e ≤ ws.length) (hl : ws.length ≤ 100000) (ho : objF ws t (t + 1) b = none) :
    Calls Try.prog 75 #[.pointer (some ⟨g, 0, none⟩), .int .i64 b, .int .i64 t, .int .i64 e] w (RetP (.tuple #[.pointer none, .int .i64 2]) w) := by
  have HB := Lib.hid (bare_in w B g v ws b t e h hbt hte hel hl)
  have HO := Lib.hid (fun W s (p : SpAt W B s g v ws b t e) => objects_c W B s g v ws b t e p hl)
  rw [ho] at HO
  clear h hbt hte hel hl ho
  go_enter Try.func75, Try.ntmps75
  go_wp2_with fail
  refine Calls.mono HB.out ?_
  rintro r w1 ⟨s, rfl, h1, b1⟩
  have H1 := Lib.hid (And.intro h1 b1)
  clear h1 b1
  go_wp2_with fail
  refine Calls.mono (HO.out w1 s H1.out.1) ?_
  rintro r w2 ⟨rfl, b2⟩
  have H2 := Lib.hid (H1.out.2.trans (b2.mono H1.out.2.size))
  clear b2
  go_wp2_with fail
  go_ret2
  exact ⟨rfl, H2.out⟩
theorem sof_some (w : World) (B g : Nat) (v : Value) (ws : List (BitVec 64)) (b t e : Nat) (h : MemAt w B g v ws) (hbt : b ≤ t) (hte : t ≤ e) (hel : e ≤ ws.length) (hl : ws.length ≤ 100000) (l : List Nat) (ho : objF ws t (t + 1) b = some l) :
    Calls Try.prog 75 #[.pointer (some ⟨g, 0, none⟩), .int .i64 b, .int .i64 t, .int .i64 e] w fun r w' => ∃ s, r = .returned (.tuple #[.pointer (some ⟨s, 0, none⟩), .int .i64 0]) ∧ SpAt w' B s g v ws b t e ∧ Below w.heap.size w w' := by
  have HB := Lib.hid (bare_in w B g v ws b t e h hbt hte hel hl)
  have HO := Lib.hid (fun W s (p : SpAt W B s g v ws b t e) => objects_c W B s g v ws b t e p hl)
  rw [ho] at HO
  clear h hbt hte hel hl ho
  go_enter Try.func75, Try.ntmps75
  go_wp2_with fail
  refine Calls.mono HB.out ?_
  rintro r w1 ⟨s, rfl, h1, b1⟩
  have H1 := Lib.hid (And.intro h1 b1)
  clear h1 b1
  go_wp2_with fail
  refine Calls.mono (HO.out w1 s H1.out.1) ?_
  rintro r w2 ⟨A2, c2, rfl, _, _, b2⟩
  have H2 := Lib.hid (And.intro (H1.out.1.below b2) (H1.out.2.trans (b2.mono H1.out.2.size)))
  clear b2
  go_wp2_with fail
  go_ret2
  exact ⟨s, rfl, H2.out.1, H2.out.2⟩
end Go.Proofs.Ytkkjnahjmomjgaa
/- loamlaw15's Same. Conditions: lengths. -/
namespace Go.Proofs.Ytkkjnahjmomjgaa
set_option linter.unusedVariables false
set_option linter.unusedSimpArgs false
open Go.RowKit
set_option maxHeartbeats 400000
set_option maxRecDepth 100000
end Go.Proofs.Ytkkjnahjmomjgaa
/- space: Reset; rows of like objects. Conditions: lengths. -/
namespace Go.Proofs.Ytkkjnahjmomjgaa
set_option linter.unusedVariables false
set_option linter.unusedSimpArgs false
open Go.RowKit
set_option maxHeartbeats 400000
set_option maxRecDepth 100000
theorem pack_run {p b : Int} {n : Nat} (hr : rightH p b false 0 = true) (hn : sizeH p b false 0 = (n : Int)) : (∀ room, n ≤ room → goodX (packH p b false 0) room = true) ∧ szX (packH p b false 0) = n := by
  obtain ⟨e1, e2, e3, e4⟩ := un_pack p b false 0 hr
  have hok := ok_pack p b false 0 hr
  have hsz : szX (packH p b false 0) = n := by unfold szX; rw [e1, e2, e3, e4, hn]; rfl
  refine ⟨fun room h => ?_, hsz⟩
  unfold goodX
  rw [hok, e3, hsz]
  simp [h]
theorem of_below {P : Program} {f : FuncId} {args : Array Value} {v : Value} {w : World} (h : Calls P f args w fun r w' => r = .returned v ∧ Below w.heap.size w w') : Calls P f args w fun e w2 => ∃ u, e = .returned u ∧ Below w.heap.size w w2 ∧ IsV v u w2 :=
  h.mono fun _ _ h => ⟨_, h.1, h.2, rfl⟩
end Go.Proofs.Ytkkjnahjmomjgaa
/- Sets of numbers as maps. No conditions. -/
namespace Go.Proofs.Ytkkjnahjmomjgaa
set_option linter.unusedVariables false
set_option linter.unusedSimpArgs false
open Go.RowKit Go.Maps
def kW (p : Int) : Prop := (Lit.int .i64 p).wf = true
def keyL (p : Int) : Lit := .int .i64 p
theorem keyL_inj {p q : Int} (_ : kW p) (_ : kW q) (h : keyL p = keyL q) : p = q := by
  unfold keyL at h
  injection h
theorem keyL_key {p : Int} (hp : kW p) : WideAt.IsKeyLit (keyL p) := isKey_kI hp
/-- Block b is a map whose keys are those of m. -/
def SetI (w : World) (b : Nat) (m : List Int) : Prop := ∃ D : DataW Unit, w.ownsMap Try.prog 3 unitElem b m.length D ∧ size D = m.length ∧ (∀ p, kW p → has D (keyL p) = decide (p ∈ m)) ∧ (∀ p ∈ m, kW p) ∧ m.Nodup
theorem own_tight {P : Program} {k : TypeId} {H : Type} {R : Value → Option (DataW H × List MemPlace)} {w : World} {b n : Nat} {D : DataW H} (h : w.ownsMap P k R b n D) : w.ownsMap P k R b (size D) D := by
  obtain ⟨es, clock, hb, F, hs, rfl⟩ := h
  exact ⟨es, clock, hb, F, by simp [Maps.size, length_sorted], rfl⟩
section
variable {w w' : World} {b : Nat} {m : List (Int)}
theorem SetI.lt (h : SetI w b m) : b < w.heap.size := by obtain ⟨D, h, _⟩ := h; exact h.lt
theorem SetI.kept {S : Nat → Prop} (h : SetI w b m) (hk : Kept S w w') (hn : ¬ S b) : SetI w' b m := by
  obtain ⟨D, h1, h2⟩ := h
  exact ⟨D, hk.map h1 hn, h2⟩
theorem SetI.below (h : SetI w b m) (hb : Below w.heap.size w w') : SetI w' b m := h.kept (Kept.of_below hb (fun _ => False)) (fun f => f)
theorem SetI.made (w : World) : SetI (w.alloc (.map #[] 0)) w.heap.size [] :=
  ⟨.map [], World.ownsMap_made _ _ _ _, rfl, fun p _ => by simp [has], fun _ h => (by cases h), List.nodup_nil⟩
def addS (m : List (Int)) (p : Int) : List (Int) := if p ∈ m then m else m ++ [p]
def offS (m : List (Int)) (p : Int) : List (Int) := m.filter fun q => decide (q ≠ p)
theorem zeroU (w : World) : (zeroValue 174).run Try.prog w = .ok (.agg #[]) w := by kernel_rfl
theorem SetI.put (h : SetI w b m) {p : Int} (hp : kW p) (hn : m.length < maxLen) :
    ∃ w', (Instr.mapUpdate 173 (.map (some b)) (.int .i64 p) (.agg #[])).run Try.prog w = .ok () w' ∧ SetI w' b (addS m p) ∧ Kept (fun c => some b = some c) w w' := by
  obtain ⟨D, h1, h2, h3, h4, h5⟩ := h
  obtain ⟨w', hrun, ho, hg⟩ := World.ownsMap.update h1 lawI Try.underlying173 hn (keyI hp) (unitElem_mk (H := Unit))
  have hT := h1.tidy lawI
  have hsz : size (D.put (keyL p) (.agg [])) = (addS m p).length := by
    rw [size_put hT, h3 p hp, h2]
    unfold addS
    by_cases e : p ∈ m <;> simp [e]
  refine ⟨w', hrun, ⟨_, by rw [← hsz]; exact own_tight ho, hsz, fun q hq => ?_, fun q hq => ?_, ?_⟩, Kept.grown hg⟩
  · by_cases e : q = p
    · subst e
      rw [has_put_same h1.isMap (keyL_key hp)]
      unfold addS
      by_cases e : q ∈ m <;> simp [e]
    · rw [has_put_other (fun k => e (keyL_inj hq hp k)), h3 q hq]
      unfold addS
      by_cases e2 : p ∈ m <;> simp [e2, e]
  · unfold addS at hq
    split at hq
    · exact h4 q hq
    · rcases List.mem_append.1 hq with e | e
      · exact h4 q e
      · rw [List.mem_singleton] at e; subst e; exact hp
  · unfold addS
    split
    · exact h5
    · rename_i e
      exact List.nodup_append.2 ⟨h5, by simp, fun a ha b hb => by simp at hb; subst hb; exact fun e2 => e (e2 ▸ ha)⟩
theorem SetI.look (h : SetI w b m) {p : Int} (hp : kW p) : (Instr.lookup 173 (.map (some b)) (.int .i64 p) true).run Try.prog w = .ok (.tuple #[.agg #[], .bool (decide (p ∈ m))]) w := by
  obtain ⟨D, h1, h2, h3, h4, h5⟩ := h
  obtain ⟨v, ps, hrun, hR⟩ := h1.look_ok lawI Try.underlying173 (zeroU w) (unitElem_mk (H := Unit)) (keyI hp)
  obtain ⟨rfl, _⟩ := unitElem_inv hR
  have e : has D (kI p) = decide (p ∈ m) := h3 p hp
  rw [hrun, e]
theorem SetI.len (h : SetI w b m) (ty : TypeId) : (Builtin.len_ #[173] ty #[.map (some b)]).run Try.prog w = .ok (.int .i64 m.length) w := by
  obtain ⟨D, h1, h2, h3, h4, h5⟩ := h
  rw [h1.len Try.underlying173 ty, h2]
end
end Go.Proofs.Ytkkjnahjmomjgaa
/- obj.look: the header of an object that stands there whole. Conditions: lengths. -/
namespace Go.Proofs.Ytkkjnahjmomjgaa
set_option linter.unusedVariables false
set_option linter.unusedSimpArgs false
open Go.RowKit
theorem goodX_out {x : BitVec 64} {room : Nat} (h : goodX x room = true) : okU x = true ∧ fM x = false ∧ szX x ≤ room := by
  unfold goodX at h
  rw [Bool.and_eq_true, Bool.and_eq_true, decide_eq_true_eq, Bool.not_eq_true'] at h
  exact ⟨h.1, h.2.1, h.2.2⟩
/-- What a good header says, as numbers. -/
theorem head_nums {x : BitVec 64} (h : okU x = true) (hm : fM x = false) : ∃ P N : Nat, fP x = (P : Int) ∧ fB x = (N : Int) ∧ fT x = 0 ∧ P ≤ 64 ∧ N ≤ 1024 ∧ szX x = 1 + P + (N + 7) / 8 ∧ sizeH (P : Int) (N : Int) false 0 = (szX x : Int) := by
  obtain ⟨hr, _⟩ := okU_yes h
  obtain ⟨hs, _⟩ := szX_pos h hm
  rw [hm] at hr
  have hr2 := hr
  rcases rightH_out hr with ⟨h1, _⟩ | ⟨_, h2, h3, h4, h5, h6⟩
  · cases h1
  · refine ⟨(fP x).toNat, (fB x).toNat, by omega, by omega, h2, by omega, by omega, ?_, ?_⟩
    · have e : sizeH (fP x) (fB x) false (fT x) = 1 + fP x + (fB x + 7) / 8 := if_pos ⟨hr2, rfl⟩
      rw [e] at hs
      omega
    · rw [show (((fP x).toNat : Nat) : Int) = fP x by omega, show (((fB x).toNat : Nat) : Int) = fB x by omega]
      rw [h2] at hs
      exact hs
def P0 (x : BitVec 64) : Nat := (fP x).toNat
def B0 (x : BitVec 64) : Nat := (fB x).toNat
theorem head_of {x : BitVec 64} {room : Nat} (h : goodX x room = true) : unV x = .tuple #[.agg #[.int .i64 (P0 x : Int), .int .i64 (B0 x : Int), .bool false, .int .i64 0], .int .i64 0] ∧ P0 x ≤ 64 ∧ B0 x ≤ 1024 ∧ szX x = 1 + P0 x + (B0 x + 7) / 8 ∧ sizeH (P0 x : Int) (B0 x : Int) false 0 = (szX x : Int) ∧ szX x ≤ room := by
  obtain ⟨h1, h2, h3⟩ := goodX_out h
  obtain ⟨P, N, e1, e2, e3, e4, e5, e6, e7⟩ := head_nums h1 h2
  have p : P0 x = P := by unfold P0; omega
  have q : B0 x = N := by unfold B0; omega
  rw [unV_yes h1, e1, e2, e3, h2, p, q]
  exact ⟨rfl, e4, e5, e6, e7, h3⟩
def zH : Value := .agg #[.int .i64 0, .int .i64 0, .bool false, .int .i64 0]
set_option maxHeartbeats 1000000
set_option maxRecDepth 100000
theorem lk_s (Q : Exit → Act → World → Prop) (a0 : Act) (w : World) (H s a top room sz : Nat) (p b t : Int) (r : Bool) (hk : Bk w H 112 #[.int .i64 p, .int .i64 b, .bool false, .int .i64 t]) (hs : s < w.heap.size) (ct : w.cell? ⟨s, 2, none⟩ = some (.int .i64 top)) (hz : sizeH p b false t = (sz : Int)) (d1 : (top : Int) - (a : Int) = (room : Int)) (d2 : (room : Int) ≤ 100000) (d3 : (0 : Int) ≤ (room : Int)) (hr : decide (room < sz) = r) (hsz : a0.tmps.size = 33) (sl0 : a0.tmps.getD 0 undef = .pointer (some ⟨s, 0, none⟩)) (sl1 : a0.tmps.getD 1 undef = .int .i64 a) (sl6 : a0.tmps.getD 6 undef = .pointer (some ⟨H, 0, none⟩))
    (fin : ∀ (vals : Nat → Value) (w1 : World), Below w.heap.size w w1 → (IsV (.bool r)) (vals 12) w1 → Q .normal (putD vals [18, 19, 20, 21, 22, 23, 24, 25, 26, 27, 28, 29, 30] 0 a0) w1) :
    (Code.region 4 (regIn Try.f106 4) true).wp Try.prog Q a0 w := by
  refine region_by (G := fun w w1 => Below w.heap.size w w1) [IsV (.pointer (some ⟨H, 2, none⟩)),
    IsV (.bool false),
    IsV (.bool false),
    IsV (.agg #[.int .i64 p, .int .i64 b, .bool false, .int .i64 t]),
    IsV (.int .i64 sz),
    IsV (.pointer (some ⟨s, 0, none⟩)),
    IsV (.pointer (some ⟨s, 0, none⟩)),
    IsV (.pointer (some ⟨s, 2, none⟩)),
    IsV (.int .i64 top),
    IsV (.int .i64 a),
    IsV (.int .i64 room),
    IsV (.bool r),
    IsV (.bool r)]
    [18, 19, 20, 21, 22, 23, 24, 25, 26, 27, 28, 29, 30] (by kernel_rfl) (Gw.drew _) Gw.trans (by rw [hsz]; kernel_rfl) (by kernel_rfl) ?_ ?_ ?_
  · intro f hf
    simp only [List.mem_cons, List.not_mem_nil, or_false] at hf
    rcases hf with rfl | rfl | rfl | rfl | rfl | rfl | rfl | rfl | rfl | rfl | rfl | rfl | rfl <;> intro v a b h g <;> first | exact IsV.mono h
  · refine ⟨?_, ?_, ?_, ?_, ?_, ?_, ?_, ?_, ?_, ?_, ?_, ?_, ?_, trivial⟩
    · refine owes_v (Go.Op.fieldAddr 112 (Go.Operand.tmp 6) 2) 0 [] (by kernel_rfl) (by kernel_rfl) (by kernel_rfl) rfl fun vals w1 ρ hG hF hρ hcst hfun => ?_
      have e6 : ρ (.tmp 6) = .pointer (some ⟨H, 0, none⟩) := ((hρ 6).trans (slotO [] (by kernel_rfl))).trans sl6
      clear hρ hF hcst hfun sl0 sl1 sl6 fin
      exact opv_val (by go_simp <;> rfl) ⟨gw_self _, rfl⟩
    · refine owes_v (Go.Op.load 4 (Go.Operand.tmp 18)) 4 [0] (by kernel_rfl) (by kernel_rfl) (by kernel_rfl) rfl fun vals w1 ρ hG hF hρ hcst hfun => ?_
      have e18 : ρ (.tmp 18) = .pointer (some ⟨H, 2, none⟩) := ((hρ 18).trans (slotJ [0] (by rw [hsz]; decide) (by kernel_rfl))).trans (hF 0 (by decide))
      have k := ((hk.below hG hk.lt).four).2.2.1
      clear hρ hF hcst hfun sl0 sl1 sl6 fin
      exact opv_val (by go_simp <;> rfl) ⟨gw_self _, rfl⟩
    · exact owes_mvj 1 19 (by kernel_rfl) (by kernel_rfl) (by kernel_rfl) (by kernel_rfl) (by rw [hsz]; decide) (fun v w h => h)
    · refine owes_vt 2 false (Go.Op.load 112 (Go.Operand.tmp 6)) 112 [] (by kernel_rfl) (by kernel_rfl) (by kernel_rfl) (fun _ _ h => h) (by rw [hsz]; kernel_rfl) (by kernel_rfl) rfl fun vals w1 ρ hG hF hρ hcst hfun => ?_
      have e6 : ρ (.tmp 6) = .pointer (some ⟨H, 0, none⟩) := ((hρ 6).trans (slotO [] (by kernel_rfl))).trans sl6
      obtain ⟨k1, k2, k3, k4⟩ := (hk.below hG hk.lt).four
      clear hρ hF hcst hfun sl0 sl1 sl6 fin
      exact opv_val (by go_simp <;> rfl) ⟨gw_self _, rfl⟩
    · refine owes_vt 2 false (Go.Op.call { callee := Go.Callee.value (Go.Operand.func 72), args := #[Go.Operand.tmp 21], argTypes := #[112] }) 3 [3] (by kernel_rfl) (by kernel_rfl) (by kernel_rfl) (fun _ _ h => h) (by rw [hsz]; kernel_rfl) (by kernel_rfl) rfl fun vals w1 ρ hG hF hρ hcst hfun => ?_
      have e21 : ρ (.tmp 21) = .agg #[.int .i64 p, .int .i64 b, .bool false, .int .i64 t] := ((hρ 21).trans (slotJ [3] (by rw [hsz]; decide) (by kernel_rfl))).trans (hF 3 (by decide))
      have kz := size_c p b false t w1
      rw [hz] at kz
      clear hρ hF hcst sl0 sl1 sl6 fin
      exact opv_enter (by go_simp <;> rfl) (of_rp kz)
    · refine owes_vt 2 false (Go.Op.move (Go.Operand.tmp 0)) 64 [] (by kernel_rfl) (by kernel_rfl) (by kernel_rfl) (fun _ _ h => h) (by rw [hsz]; kernel_rfl) (by kernel_rfl) rfl fun vals w1 ρ hG hF hρ hcst hfun => ?_
      have e0 : ρ (.tmp 0) = .pointer (some ⟨s, 0, none⟩) := ((hρ 0).trans (slotO [] (by kernel_rfl))).trans sl0
      clear hρ hF hcst hfun sl0 sl1 sl6 fin
      exact opv_val (by go_simp <;> rfl) ⟨gw_self _, rfl⟩
    · refine owes_vt 2 false (Go.Op.nilCheck (Go.Operand.tmp 23)) 0 [5] (by kernel_rfl) (by kernel_rfl) (by kernel_rfl) (fun _ _ h => h) (by rw [hsz]; kernel_rfl) (by kernel_rfl) rfl fun vals w1 ρ hG hF hρ hcst hfun => ?_
      have e23 : ρ (.tmp 23) = .pointer (some ⟨s, 0, none⟩) := ((hρ 23).trans (slotJ [5] (by rw [hsz]; decide) (by kernel_rfl))).trans (hF 5 (by decide))
      clear hρ hF hcst hfun sl0 sl1 sl6 fin
      exact opv_val (by go_simp <;> rfl) ⟨gw_self _, rfl⟩
    · refine owes_vt 2 false (Go.Op.fieldAddr 147 (Go.Operand.tmp 24) 2) 0 [6] (by kernel_rfl) (by kernel_rfl) (by kernel_rfl) (fun _ _ h => h) (by rw [hsz]; kernel_rfl) (by kernel_rfl) rfl fun vals w1 ρ hG hF hρ hcst hfun => ?_
      have e24 : ρ (.tmp 24) = .pointer (some ⟨s, 0, none⟩) := ((hρ 24).trans (slotJ [6] (by rw [hsz]; decide) (by kernel_rfl))).trans (hF 6 (by decide))
      clear hρ hF hcst hfun sl0 sl1 sl6 fin
      exact opv_val (by go_simp <;> rfl) ⟨gw_self _, rfl⟩
    · refine owes_vt 2 false (Go.Op.load 3 (Go.Operand.tmp 25)) 3 [7] (by kernel_rfl) (by kernel_rfl) (by kernel_rfl) (fun _ _ h => h) (by rw [hsz]; kernel_rfl) (by kernel_rfl) rfl fun vals w1 ρ hG hF hρ hcst hfun => ?_
      have e25 : ρ (.tmp 25) = .pointer (some ⟨s, 2, none⟩) := ((hρ 25).trans (slotJ [7] (by rw [hsz]; decide) (by kernel_rfl))).trans (hF 7 (by decide))
      have k := (hG.cell (p := ⟨s, 2, none⟩) hs).trans ct
      clear hρ hF hcst hfun sl0 sl1 sl6 fin
      exact opv_val (by go_simp <;> rfl) ⟨gw_self _, rfl⟩
    · refine owes_vt 2 false (Go.Op.move (Go.Operand.tmp 1)) 3 [] (by kernel_rfl) (by kernel_rfl) (by kernel_rfl) (fun _ _ h => h) (by rw [hsz]; kernel_rfl) (by kernel_rfl) rfl fun vals w1 ρ hG hF hρ hcst hfun => ?_
      have e1 : ρ (.tmp 1) = .int .i64 a := ((hρ 1).trans (slotO [] (by kernel_rfl))).trans sl1
      clear hρ hF hcst hfun sl0 sl1 sl6 fin
      exact opv_val (by go_simp <;> rfl) ⟨gw_self _, rfl⟩
    · refine owes_vt 2 false (Go.Op.binOp Go.BinOp.sub 3 (Go.Operand.tmp 26) (Go.Operand.tmp 27) 3) 3 [8, 9] (by kernel_rfl) (by kernel_rfl) (by kernel_rfl) (fun _ _ h => h) (by rw [hsz]; kernel_rfl) (by kernel_rfl) rfl fun vals w1 ρ hG hF hρ hcst hfun => ?_
      have e26 : ρ (.tmp 26) = .int .i64 top := ((hρ 26).trans (slotJ [8, 9] (by rw [hsz]; decide) (by kernel_rfl))).trans (hF 8 (by decide))
      have e27 : ρ (.tmp 27) = .int .i64 a := ((hρ 27).trans (slotJ [8, 9] (by rw [hsz]; decide) (by kernel_rfl))).trans (hF 9 (by decide))
      have kw0 : IntKind.i64.wrap ((room : Int)) = (room : Int) := wrapIn (by omega) (by omega)
      clear hρ hF hcst hfun sl0 sl1 sl6 fin
      exact opv_val (by go_simp <;> rfl) ⟨gw_self _, rfl⟩
    · refine owes_vt 2 false (Go.Op.binOp Go.BinOp.gtr 3 (Go.Operand.tmp 22) (Go.Operand.tmp 28) 3) 4 [4, 10] (by kernel_rfl) (by kernel_rfl) (by kernel_rfl) (fun _ _ h => h) (by rw [hsz]; kernel_rfl) (by kernel_rfl) rfl fun vals w1 ρ hG hF hρ hcst hfun => ?_
      have e22 : ρ (.tmp 22) = .int .i64 sz := ((hρ 22).trans (slotJ [4, 10] (by rw [hsz]; decide) (by kernel_rfl))).trans (hF 4 (by decide))
      have e28 : ρ (.tmp 28) = .int .i64 room := ((hρ 28).trans (slotJ [4, 10] (by rw [hsz]; decide) (by kernel_rfl))).trans (hF 10 (by decide))
      clear hρ hF hcst hfun sl0 sl1 sl6 fin
      exact opv_val (by go_simp <;> first | rfl | exact hr | rw [hr]) ⟨gw_self _, rfl⟩
    · refine owes_v (Go.Op.pick (Go.Operand.tmp 20) (Go.Operand.const (Go.Value.bool true)) (Go.Operand.tmp 29)) 4 [2, 11] (by kernel_rfl) (by kernel_rfl) (by kernel_rfl) rfl fun vals w1 ρ hG hF hρ hcst hfun => ?_
      have e20 : ρ (.tmp 20) = .bool false := ((hρ 20).trans (slotJ [2, 11] (by rw [hsz]; decide) (by kernel_rfl))).trans (hF 2 (by decide))
      have e29 : ρ (.tmp 29) = .bool r := ((hρ 29).trans (slotJ [2, 11] (by rw [hsz]; decide) (by kernel_rfl))).trans (hF 11 (by decide))
      clear hρ hF hfun sl0 sl1 sl6 fin
      exact opv_val (by go_simp <;> rfl) ⟨gw_self _, rfl⟩
  · intro vals w1 hG hF
    exact fin vals w1 hG (hF 12 (by decide +kernel))
theorem head_set {W : World} {g : Nat} {a b c d a' b' c' d' : Value} (h : Bk W g 112 #[a, b, c, d]) : Bk ((((W.setCell ⟨g, 0, none⟩ a').setCell ⟨g, 1, none⟩ b').setCell ⟨g, 2, none⟩ c').setCell ⟨g, 3, none⟩ d') g 112 #[a', b', c', d'] := by
  have k := (((h.set 0 a').set 1 b').set 2 c').set 3 d'
  simpa using k
theorem head_below {W w : World} {B g : Nat} {a' b' c' d' : Value} (h : Below B w W) (hg : B ≤ g) : Below B w ((((W.setCell ⟨g, 0, none⟩ a').setCell ⟨g, 1, none⟩ b').setCell ⟨g, 2, none⟩ c').setCell ⟨g, 3, none⟩ d') :=
  (((h.setCell (p := ⟨g, 0, none⟩) hg _).setCell (p := ⟨g, 1, none⟩) hg _).setCell (p := ⟨g, 2, none⟩) hg _).setCell (p := ⟨g, 3, none⟩) hg _
theorem look_res {tmps : Array Value} {W : World} {g : Nat} {a b c d y : Value} (hb : Bk W g 112 #[a, b, c, d]) (h2 : tmps.getD 4 undef = .pointer (some ⟨g, 0, none⟩)) (h3 : tmps.getD 5 undef = y) :
    (results Try.f106 tmps).run Try.prog W = .ok (.tuple #[.agg #[a, b, c, d], y]) W := by
  have hl := run_loadVar_row (P := Try.prog) W g 112 112 #[a, b, c, d] (0, 0) _ hb Try.underlying112 rfl (by kernel_rfl)
  have h2' : tmps[4]?.getD undef = .pointer (some ⟨g, 0, none⟩) := by simpa using h2
  have h3' : tmps[5]?.getD undef = y := by simpa using h3
  simp [results, Try.results106, h2', h3', asAddr, hl]
theorem look_ok (w : World) (B s g : Nat) (v : Value) (ws : List (BitVec 64)) (b t e : Nat) (p : SpAt w B s g v ws b t e) (hl : ws.length ≤ 100000) (i : Nat) (hi1 : b ≤ i) (hi2 : i < t) (hg : goodX (ws.getD i 0#64) (t - i) = true) :
    Calls Try.prog 106 #[.pointer (some ⟨s, 0, none⟩), .int .i64 i] w (RetP (.tuple #[.agg #[.int .i64 (P0 (ws.getD i 0#64) : Int), .int .i64 (B0 (ws.getD i 0#64) : Int), .bool false, .int .i64 0], .int .i64 0]) w) := by
  have hb := Gw.alloc w (.cells #[.int .i64 0, .int .i64 0, .bool false, .int .i64 0] 112)
  have hp := p.below hb
  have hiw : i < ws.length := by have := p.te; have := p.el; omega
  have HH := Lib.hid (sphead_in _ B s g v ws b t e hp i hi1 hi2 hl hiw)
  obtain ⟨x, hx⟩ : ∃ x, x = ws.getD i 0#64 := ⟨_, rfl⟩
  have hgx : ws[i] = x := by rw [hx, List.getD_eq_getElem?_getD, List.getElem?_eq_getElem hiw]; rfl
  rw [hgx] at HH
  rw [← hx] at hg ⊢
  obtain ⟨hv, hP, hN, hsz, hsh, hroom⟩ := head_of hg
  rw [hv] at HH
  obtain ⟨P, hP'⟩ : ∃ P, P = P0 x := ⟨_, rfl⟩
  obtain ⟨N, hN'⟩ : ∃ N, N = B0 x := ⟨_, rfl⟩
  obtain ⟨Z, hZ'⟩ : ∃ N, N = szX x := ⟨_, rfl⟩
  rw [← hP', ← hN'] at HH hsh ⊢
  rw [← hZ'] at hsh hroom
  have HPt := Lib.hid hp
  have HK := Lib.hid (Bk.new w 112 #[.int .i64 0, .int .i64 0, .bool false, .int .i64 0])
  have HB := Lib.hid hb
  have HS := Lib.hid hsh
  have hrm : decide (t - i < Z) = false := by simp; omega
  have q2 : ((t - i : Nat) : Int) ≤ 100000 := by have := p.te; have := p.el; omega
  have q1 : (t : Int) - (i : Int) = ((t - i : Nat) : Int) := by omega
  obtain ⟨room, hroom'⟩ : ∃ r, r = t - i := ⟨_, rfl⟩
  rw [← hroom'] at hrm q1 q2
  have HQ := Lib.hid (And.intro hrm (And.intro q1 q2))
  clear p hb hp hx hgx hg hv hP hN hsz hsh hroom hP' hN' hZ' hrm q1 q2 hroom' hi1 hiw hl
  go_enter Try.func106, Try.ntmps106
  go_wp2_with fail
  refine Calls.mono HH.out ?_
  rintro r w2 ⟨rfl, b2⟩
  have hk2 := HK.out.below b2 HK.out.lt
  have HB2 := Lib.hid (HB.out.trans (b2.mono HB.out.size))
  have HP2 := Lib.hid (HPt.out.below b2)
  have hkl := hk2.lt
  have HK2 := Lib.hid hk2
  clear b2 hk2 HH
  go_wp2_with fail
  obtain ⟨w3, hw3⟩ : ∃ w3, w3 = w2.alloc (.cells #[.int .i64 P, .int .i64 N, .bool false, .int .i64 0] 112) := ⟨_, rfl⟩
  have hb3 : Below w2.heap.size w2 w3 := by rw [hw3]; exact Gw.alloc w2 _
  have hk3 : Bk w3 w2.heap.size 112 #[.int .i64 P, .int .i64 N, .bool false, .int .i64 0] := by rw [hw3]; exact Bk.new w2 _ _
  have HP3 := Lib.hid (HP2.out.below hb3)
  rw [← hw3]
  have HK3 := Lib.hid (HK2.out.below hb3 HK2.out.lt)
  have HB3 := Lib.hid (HB2.out.trans (hb3.mono HB2.out.size))
  clear hw3 hb3 hkl
  refine lk_s _ _ _ w2.heap.size s i t room Z _ _ _ false hk3 HP3.out.blk.lt HP3.out.four.2.2.1 HS.out HQ.out.2.1 HQ.out.2.2 (Int.natCast_nonneg _) HQ.out.1 rfl rfl rfl rfl ?_
  intro vals w4 hG h30
  unfold IsV at h30
  simp only [putD, Act.put, List.setIfInBounds_toArray, List.set_cons_zero, List.set_cons_succ, h30]
  have hk4 := hk3.below hG hk3.lt
  obtain ⟨d0, d1, d2, d3⟩ := hk4.four
  have hr4 := HK3.out.below hG HK3.out.lt
  have f0 := hr4.free 0
  have f1 := hr4.free 1
  have f2 := hr4.free 2
  have f3 := hr4.free 3
  obtain ⟨c0, c1, c2, c3⟩ := hr4.four
  have hkl := hr4.lt
  have HB4 := Lib.hid (HB3.out.trans (hG.mono HB3.out.size))
  have HR4 := Lib.hid hr4
  clear hG h30 hk3 hk4 hr4
  go_wp2_with fail
  exact bodyPost_ret (v := .tuple #[.agg #[.int .i64 P, .int .i64 N, .bool false, .int .i64 0], .int .i64 0]) (look_res (head_set HR4.out) rfl rfl) rfl ⟨rfl, head_below HB4.out (Nat.le_refl _)⟩
end Go.Proofs.Ytkkjnahjmomjgaa
