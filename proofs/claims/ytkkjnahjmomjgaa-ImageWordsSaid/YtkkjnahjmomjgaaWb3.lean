/- Texts joined: SpI SpF ObS ObA ObB ObC MmE MmF. -/
import Derived.Test.YtkkjnahjmomjgaaWb2
import Derived.Test.YtkkjnahjmomjgaaMapA
import Derived.Test.YtkkjnahjmomjgaaHdK
import Derived.Test.YtkkjnahjmomjgaaMmD
/- loamlaw15's Same. Conditions: lengths. -/
namespace Go.Proofs.Ytkkjnahjmomjgaa
set_option linter.unusedVariables false
set_option linter.unusedSimpArgs false
open Go.RowKit
set_option maxHeartbeats 400000
set_option maxRecDepth 100000
end Go.Proofs.Ytkkjnahjmomjgaa
/- space: Reset; rows of like objects. Conditions: lengths. -/
namespace Go.Proofs.Ytkkjnahjmomjgaa
set_option linter.unusedVariables false
set_option linter.unusedSimpArgs false
open Go.RowKit
set_option maxHeartbeats 400000
set_option maxRecDepth 100000
theorem pack_run {p b : Int} {n : Nat} (hr : rightH p b false 0 = true) (hn : sizeH p b false 0 = (n : Int)) : (∀ room, n ≤ room → goodX (packH p b false 0) room = true) ∧ szX (packH p b false 0) = n := by
  obtain ⟨e1, e2, e3, e4⟩ := un_pack p b false 0 hr
  have hok := ok_pack p b false 0 hr
  have hsz : szX (packH p b false 0) = n := by unfold szX; rw [e1, e2, e3, e4, hn]; rfl
  refine ⟨fun room h => ?_, hsz⟩
  unfold goodX
  rw [hok, e3, hsz]
  simp [h]
theorem of_below {P : Program} {f : FuncId} {args : Array Value} {v : Value} {w : World} (h : Calls P f args w fun r w' => r = .returned v ∧ Below w.heap.size w w') : Calls P f args w fun e w2 => ∃ u, e = .returned u ∧ Below w.heap.size w w2 ∧ IsV v u w2 :=
  h.mono fun _ _ h => ⟨_, h.1, h.2, rfl⟩
end Go.Proofs.Ytkkjnahjmomjgaa
/- Sets of numbers as maps. No conditions. -/
namespace Go.Proofs.Ytkkjnahjmomjgaa
set_option linter.unusedVariables false
set_option linter.unusedSimpArgs false
open Go.RowKit Go.Maps
def kW (p : Int) : Prop := (Lit.int .i64 p).wf = true
def keyL (p : Int) : Lit := .int .i64 p
theorem keyL_inj {p q : Int} (_ : kW p) (_ : kW q) (h : keyL p = keyL q) : p = q := by
  unfold keyL at h
  injection h
theorem keyL_key {p : Int} (hp : kW p) : WideAt.IsKeyLit (keyL p) := isKey_kI hp
theorem wfI {n : Int} (h1 : -9223372036854775808 ≤ n) (h2 : n ≤ 9223372036854775807) : (Lit.int .i64 n).wf = true := by
  simp [Lit.wf, IntKind.min, IntKind.max, IntKind.signed, IntKind.bits]; omega
/-- Block b is a map whose keys are those of m. -/
def SetI (w : World) (b : Nat) (m : List Int) : Prop := ∃ D : DataW Unit, w.ownsMap Try.prog 3 unitElem b m.length D ∧ size D = m.length ∧ (∀ p, kW p → has D (keyL p) = decide (p ∈ m)) ∧ (∀ p ∈ m, kW p) ∧ m.Nodup
theorem own_tight {P : Program} {k : TypeId} {H : Type} {R : Value → Option (DataW H × List MemPlace)} {w : World} {b n : Nat} {D : DataW H} (h : w.ownsMap P k R b n D) : w.ownsMap P k R b (size D) D := by
  obtain ⟨es, clock, hb, F, hs, rfl⟩ := h
  exact ⟨es, clock, hb, F, by simp [Maps.size, length_sorted], rfl⟩
section
variable {w w' : World} {b : Nat} {m : List (Int)}
theorem SetI.lt (h : SetI w b m) : b < w.heap.size := by obtain ⟨D, h, _⟩ := h; exact h.lt
theorem SetI.kept {S : Nat → Prop} (h : SetI w b m) (hk : Kept S w w') (hn : ¬ S b) : SetI w' b m := by
  obtain ⟨D, h1, h2⟩ := h
  exact ⟨D, hk.map h1 hn, h2⟩
theorem SetI.below (h : SetI w b m) (hb : Below w.heap.size w w') : SetI w' b m := h.kept (Kept.of_below hb (fun _ => False)) (fun f => f)
theorem SetI.made (w : World) : SetI (w.alloc (.map #[] 0)) w.heap.size [] :=
  ⟨.map [], World.ownsMap_made _ _ _ _, rfl, fun p _ => by simp [has], fun _ h => (by cases h), List.nodup_nil⟩
def addS (m : List (Int)) (p : Int) : List (Int) := if p ∈ m then m else m ++ [p]
def offS (m : List (Int)) (p : Int) : List (Int) := m.filter fun q => decide (q ≠ p)
theorem zeroU (w : World) : (zeroValue 174).run Try.prog w = .ok (.agg #[]) w := by kernel_rfl
theorem SetI.put (h : SetI w b m) {p : Int} (hp : kW p) (hn : m.length < maxLen) :
    ∃ w', (Instr.mapUpdate 173 (.map (some b)) (.int .i64 p) (.agg #[])).run Try.prog w = .ok () w' ∧ SetI w' b (addS m p) ∧ Kept (fun c => some b = some c) w w' := by
  obtain ⟨D, h1, h2, h3, h4, h5⟩ := h
  obtain ⟨w', hrun, ho, hg⟩ := World.ownsMap.update h1 lawI Try.underlying173 hn (keyI hp) (unitElem_mk (H := Unit))
  have hT := h1.tidy lawI
  have hsz : size (D.put (keyL p) (.agg [])) = (addS m p).length := by
    rw [size_put hT, h3 p hp, h2]
    unfold addS
    by_cases e : p ∈ m <;> simp [e]
  refine ⟨w', hrun, ⟨_, by rw [← hsz]; exact own_tight ho, hsz, fun q hq => ?_, fun q hq => ?_, ?_⟩, Kept.grown hg⟩
  · by_cases e : q = p
    · subst e
      rw [has_put_same h1.isMap (keyL_key hp)]
      unfold addS
      by_cases e : q ∈ m <;> simp [e]
    · rw [has_put_other (fun k => e (keyL_inj hq hp k)), h3 q hq]
      unfold addS
      by_cases e2 : p ∈ m <;> simp [e2, e]
  · unfold addS at hq
    split at hq
    · exact h4 q hq
    · rcases List.mem_append.1 hq with e | e
      · exact h4 q e
      · rw [List.mem_singleton] at e; subst e; exact hp
  · unfold addS
    split
    · exact h5
    · rename_i e
      exact List.nodup_append.2 ⟨h5, by simp, fun a ha b hb => by simp at hb; subst hb; exact fun e2 => e (e2 ▸ ha)⟩
theorem SetI.look (h : SetI w b m) {p : Int} (hp : kW p) : (Instr.lookup 173 (.map (some b)) (.int .i64 p) true).run Try.prog w = .ok (.tuple #[.agg #[], .bool (decide (p ∈ m))]) w := by
  obtain ⟨D, h1, h2, h3, h4, h5⟩ := h
  obtain ⟨v, ps, hrun, hR⟩ := h1.look_ok lawI Try.underlying173 (zeroU w) (unitElem_mk (H := Unit)) (keyI hp)
  obtain ⟨rfl, _⟩ := unitElem_inv hR
  have e : has D (kI p) = decide (p ∈ m) := h3 p hp
  rw [hrun, e]
theorem SetI.len (h : SetI w b m) (ty : TypeId) : (Builtin.len_ #[173] ty #[.map (some b)]).run Try.prog w = .ok (.int .i64 m.length) w := by
  obtain ⟨D, h1, h2, h3, h4, h5⟩ := h
  rw [h1.len Try.underlying173 ty, h2]
end
end Go.Proofs.Ytkkjnahjmomjgaa
/- obj.look: the header of an object that stands there whole. Conditions: lengths. -/
namespace Go.Proofs.Ytkkjnahjmomjgaa
set_option linter.unusedVariables false
set_option linter.unusedSimpArgs false
open Go.RowKit
theorem goodX_out {x : BitVec 64} {room : Nat} (h : goodX x room = true) : okU x = true ∧ fM x = false ∧ szX x ≤ room := by
  unfold goodX at h
  rw [Bool.and_eq_true, Bool.and_eq_true, decide_eq_true_eq, Bool.not_eq_true'] at h
  exact ⟨h.1, h.2.1, h.2.2⟩
/-- What a good header says, as numbers. -/
theorem head_nums {x : BitVec 64} (h : okU x = true) (hm : fM x = false) : ∃ P N : Nat, fP x = (P : Int) ∧ fB x = (N : Int) ∧ fT x = 0 ∧ P ≤ 64 ∧ N ≤ 1024 ∧ szX x = 1 + P + (N + 7) / 8 ∧ sizeH (P : Int) (N : Int) false 0 = (szX x : Int) := by
  obtain ⟨hr, _⟩ := okU_yes h
  obtain ⟨hs, _⟩ := szX_pos h hm
  rw [hm] at hr
  have hr2 := hr
  rcases rightH_out hr with ⟨h1, _⟩ | ⟨_, h2, h3, h4, h5, h6⟩
  · cases h1
  · refine ⟨(fP x).toNat, (fB x).toNat, by omega, by omega, h2, by omega, by omega, ?_, ?_⟩
    · have e : sizeH (fP x) (fB x) false (fT x) = 1 + fP x + (fB x + 7) / 8 := if_pos ⟨hr2, rfl⟩
      rw [e] at hs
      omega
    · rw [show (((fP x).toNat : Nat) : Int) = fP x by omega, show (((fB x).toNat : Nat) : Int) = fB x by omega]
      rw [h2] at hs
      exact hs
def P0 (x : BitVec 64) : Nat := (fP x).toNat
def B0 (x : BitVec 64) : Nat := (fB x).toNat
theorem head_of {x : BitVec 64} {room : Nat} (h : goodX x room = true) : unV x = .tuple #[.agg #[.int .i64 (P0 x : Int), .int .i64 (B0 x : Int), .bool false, .int .i64 0], .int .i64 0] ∧ P0 x ≤ 64 ∧ B0 x ≤ 1024 ∧ szX x = 1 + P0 x + (B0 x + 7) / 8 ∧ sizeH (P0 x : Int) (B0 x : Int) false 0 = (szX x : Int) ∧ szX x ≤ room := by
  obtain ⟨h1, h2, h3⟩ := goodX_out h
  obtain ⟨P, N, e1, e2, e3, e4, e5, e6, e7⟩ := head_nums h1 h2
  have p : P0 x = P := by unfold P0; omega
  have q : B0 x = N := by unfold B0; omega
  rw [unV_yes h1, e1, e2, e3, h2, p, q]
  exact ⟨rfl, e4, e5, e6, e7, h3⟩
def zH : Value := .agg #[.int .i64 0, .int .i64 0, .bool false, .int .i64 0]
set_option maxHeartbeats 1000000
set_option maxRecDepth 100000
theorem lk_s (Q : Exit → Act → World → Prop) (a0 : Act) (w : World) (H s a top room sz : Nat) (p b t : Int) (r : Bool) (hk : Bk w H 112 #[.int .i64 p, .int .i64 b, .bool false, .int .i64 t]) (hs : s < w.heap.size) (ct : w.cell? ⟨s, 2, none⟩ = some (.int .i64 top)) (hz : sizeH p b false t = (sz : Int)) (d1 : (top : Int) - (a : Int) = (room : Int)) (d2 : (room : Int) ≤ 100000) (d3 : (0 : Int) ≤ (room : Int)) (hr : decide (room < sz) = r) (hsz : a0.tmps.size = 33) (sl0 : a0.tmps.getD 0 undef = .pointer (some ⟨s, 0, none⟩)) (sl1 : a0.tmps.getD 1 undef = .int .i64 a) (sl6 : a0.tmps.getD 6 undef = .pointer (some ⟨H, 0, none⟩))
    (fin : ∀ (vals : Nat → Value) (w1 : World), Below w.heap.size w w1 → (IsV (.bool r)) (vals 12) w1 → Q .normal (putD vals [18, 19, 20, 21, 22, 23, 24, 25, 26, 27, 28, 29, 30] 0 a0) w1) :
    (Code.region 4 (regIn Try.f106 4) true).wp Try.prog Q a0 w := by
  refine region_by (G := fun w w1 => Below w.heap.size w w1) [IsV (.pointer (some ⟨H, 2, none⟩)),
    IsV (.bool false),
    IsV (.bool false),
    IsV (.agg #[.int .i64 p, .int .i64 b, .bool false, .int .i64 t]),
    IsV (.int .i64 sz),
    IsV (.pointer (some ⟨s, 0, none⟩)),
    IsV (.pointer (some ⟨s, 0, none⟩)),
    IsV (.pointer (some ⟨s, 2, none⟩)),
    IsV (.int .i64 top),
    IsV (.int .i64 a),
    IsV (.int .i64 room),
    IsV (.bool r),
    IsV (.bool r)]
    [18, 19, 20, 21, 22, 23, 24, 25, 26, 27, 28, 29, 30] (by kernel_rfl) (Gw.drew _) Gw.trans (by rw [hsz]; kernel_rfl) (by kernel_rfl) ?_ ?_ ?_
  · intro f hf
    simp only [List.mem_cons, List.not_mem_nil, or_false] at hf
    rcases hf with rfl | rfl | rfl | rfl | rfl | rfl | rfl | rfl | rfl | rfl | rfl | rfl | rfl <;> intro v a b h g <;> first | exact IsV.mono h
  · refine ⟨?_, ?_, ?_, ?_, ?_, ?_, ?_, ?_, ?_, ?_, ?_, ?_, ?_, trivial⟩
    · refine owes_v (Go.Op.fieldAddr 112 (Go.Operand.tmp 6) 2) 0 [] (by kernel_rfl) (by kernel_rfl) (by kernel_rfl) rfl fun vals w1 ρ hG hF hρ hcst hfun => ?_
      have e6 : ρ (.tmp 6) = .pointer (some ⟨H, 0, none⟩) := ((hρ 6).trans (slotO [] (by kernel_rfl))).trans sl6
      clear hρ hF hcst hfun sl0 sl1 sl6 fin
      exact opv_val (by go_simp <;> rfl) ⟨gw_self _, rfl⟩
    · refine owes_v (Go.Op.load 4 (Go.Operand.tmp 18)) 4 [0] (by kernel_rfl) (by kernel_rfl) (by kernel_rfl) rfl fun vals w1 ρ hG hF hρ hcst hfun => ?_
      have e18 : ρ (.tmp 18) = .pointer (some ⟨H, 2, none⟩) := ((hρ 18).trans (slotJ [0] (by rw [hsz]; decide) (by kernel_rfl))).trans (hF 0 (by decide))
      have k := ((hk.below hG hk.lt).four).2.2.1
      clear hρ hF hcst hfun sl0 sl1 sl6 fin
      exact opv_val (by go_simp <;> rfl) ⟨gw_self _, rfl⟩
    · exact owes_mvj 1 19 (by kernel_rfl) (by kernel_rfl) (by kernel_rfl) (by kernel_rfl) (by rw [hsz]; decide) (fun v w h => h)
    · refine owes_vt 2 false (Go.Op.load 112 (Go.Operand.tmp 6)) 112 [] (by kernel_rfl) (by kernel_rfl) (by kernel_rfl) (fun _ _ h => h) (by rw [hsz]; kernel_rfl) (by kernel_rfl) rfl fun vals w1 ρ hG hF hρ hcst hfun => ?_
      have e6 : ρ (.tmp 6) = .pointer (some ⟨H, 0, none⟩) := ((hρ 6).trans (slotO [] (by kernel_rfl))).trans sl6
      obtain ⟨k1, k2, k3, k4⟩ := (hk.below hG hk.lt).four
      clear hρ hF hcst hfun sl0 sl1 sl6 fin
      exact opv_val (by go_simp <;> rfl) ⟨gw_self _, rfl⟩
    · refine owes_vt 2 false (Go.Op.call { callee := Go.Callee.value (Go.Operand.func 72), args := #[Go.Operand.tmp 21], argTypes := #[112] }) 3 [3] (by kernel_rfl) (by kernel_rfl) (by kernel_rfl) (fun _ _ h => h) (by rw [hsz]; kernel_rfl) (by kernel_rfl) rfl fun vals w1 ρ hG hF hρ hcst hfun => ?_
      have e21 : ρ (.tmp 21) = .agg #[.int .i64 p, .int .i64 b, .bool false, .int .i64 t] := ((hρ 21).trans (slotJ [3] (by rw [hsz]; decide) (by kernel_rfl))).trans (hF 3 (by decide))
      have kz := size_c p b false t w1
      rw [hz] at kz
      clear hρ hF hcst sl0 sl1 sl6 fin
      exact opv_enter (by go_simp <;> rfl) (of_rp kz)
    · refine owes_vt 2 false (Go.Op.move (Go.Operand.tmp 0)) 64 [] (by kernel_rfl) (by kernel_rfl) (by kernel_rfl) (fun _ _ h => h) (by rw [hsz]; kernel_rfl) (by kernel_rfl) rfl fun vals w1 ρ hG hF hρ hcst hfun => ?_
      have e0 : ρ (.tmp 0) = .pointer (some ⟨s, 0, none⟩) := ((hρ 0).trans (slotO [] (by kernel_rfl))).trans sl0
      clear hρ hF hcst hfun sl0 sl1 sl6 fin
      exact opv_val (by go_simp <;> rfl) ⟨gw_self _, rfl⟩
    · refine owes_vt 2 false (Go.Op.nilCheck (Go.Operand.tmp 23)) 0 [5] (by kernel_rfl) (by kernel_rfl) (by kernel_rfl) (fun _ _ h => h) (by rw [hsz]; kernel_rfl) (by kernel_rfl) rfl fun vals w1 ρ hG hF hρ hcst hfun => ?_
      have e23 : ρ (.tmp 23) = .pointer (some ⟨s, 0, none⟩) := ((hρ 23).trans (slotJ [5] (by rw [hsz]; decide) (by kernel_rfl))).trans (hF 5 (by decide))
      clear hρ hF hcst hfun sl0 sl1 sl6 fin
      exact opv_val (by go_simp <;> rfl) ⟨gw_self _, rfl⟩
    · refine owes_vt 2 false (Go.Op.fieldAddr 147 (Go.Operand.tmp 24) 2) 0 [6] (by kernel_rfl) (by kernel_rfl) (by kernel_rfl) (fun _ _ h => h) (by rw [hsz]; kernel_rfl) (by kernel_rfl) rfl fun vals w1 ρ hG hF hρ hcst hfun => ?_
      have e24 : ρ (.tmp 24) = .pointer (some ⟨s, 0, none⟩) := ((hρ 24).trans (slotJ [6] (by rw [hsz]; decide) (by kernel_rfl))).trans (hF 6 (by decide))
      clear hρ hF hcst hfun sl0 sl1 sl6 fin
      exact opv_val (by go_simp <;> rfl) ⟨gw_self _, rfl⟩
    · refine owes_vt 2 false (Go.Op.load 3 (Go.Operand.tmp 25)) 3 [7] (by kernel_rfl) (by kernel_rfl) (by kernel_rfl) (fun _ _ h => h) (by rw [hsz]; kernel_rfl) (by kernel_rfl) rfl fun vals w1 ρ hG hF hρ hcst hfun => ?_
      have e25 : ρ (.tmp 25) = .pointer (some ⟨s, 2, none⟩) := ((hρ 25).trans (slotJ [7] (by rw [hsz]; decide) (by kernel_rfl))).trans (hF 7 (by decide))
      have k := (hG.cell (p := ⟨s, 2, none⟩) hs).trans ct
      clear hρ hF hcst hfun sl0 sl1 sl6 fin
      exact opv_val (by go_simp <;> rfl) ⟨gw_self _, rfl⟩
    · refine owes_vt 2 false (Go.Op.move (Go.Operand.tmp 1)) 3 [] (by kernel_rfl) (by kernel_rfl) (by kernel_rfl) (fun _ _ h => h) (by rw [hsz]; kernel_rfl) (by kernel_rfl) rfl fun vals w1 ρ hG hF hρ hcst hfun => ?_
      have e1 : ρ (.tmp 1) = .int .i64 a := ((hρ 1).trans (slotO [] (by kernel_rfl))).trans sl1
      clear hρ hF hcst hfun sl0 sl1 sl6 fin
      exact opv_val (by go_simp <;> rfl) ⟨gw_self _, rfl⟩
    · refine owes_vt 2 false (Go.Op.binOp Go.BinOp.sub 3 (Go.Operand.tmp 26) (Go.Operand.tmp 27) 3) 3 [8, 9] (by kernel_rfl) (by kernel_rfl) (by kernel_rfl) (fun _ _ h => h) (by rw [hsz]; kernel_rfl) (by kernel_rfl) rfl fun vals w1 ρ hG hF hρ hcst hfun => ?_
      have e26 : ρ (.tmp 26) = .int .i64 top := ((hρ 26).trans (slotJ [8, 9] (by rw [hsz]; decide) (by kernel_rfl))).trans (hF 8 (by decide))
      have e27 : ρ (.tmp 27) = .int .i64 a := ((hρ 27).trans (slotJ [8, 9] (by rw [hsz]; decide) (by kernel_rfl))).trans (hF 9 (by decide))
      have kw0 : IntKind.i64.wrap ((room : Int)) = (room : Int) := wrapIn (by omega) (by omega)
      clear hρ hF hcst hfun sl0 sl1 sl6 fin
      exact opv_val (by go_simp <;> rfl) ⟨gw_self _, rfl⟩
    · refine owes_vt 2 false (Go.Op.binOp Go.BinOp.gtr 3 (Go.Operand.tmp 22) (Go.Operand.tmp 28) 3) 4 [4, 10] (by kernel_rfl) (by kernel_rfl) (by kernel_rfl) (fun _ _ h => h) (by rw [hsz]; kernel_rfl) (by kernel_rfl) rfl fun vals w1 ρ hG hF hρ hcst hfun => ?_
      have e22 : ρ (.tmp 22) = .int .i64 sz := ((hρ 22).trans (slotJ [4, 10] (by rw [hsz]; decide) (by kernel_rfl))).trans (hF 4 (by decide))
      have e28 : ρ (.tmp 28) = .int .i64 room := ((hρ 28).trans (slotJ [4, 10] (by rw [hsz]; decide) (by kernel_rfl))).trans (hF 10 (by decide))
      clear hρ hF hcst hfun sl0 sl1 sl6 fin
      exact opv_val (by go_simp <;> first | rfl | exact hr | rw [hr]) ⟨gw_self _, rfl⟩
    · refine owes_v (Go.Op.pick (Go.Operand.tmp 20) (Go.Operand.const (Go.Value.bool true)) (Go.Operand.tmp 29)) 4 [2, 11] (by kernel_rfl) (by kernel_rfl) (by kernel_rfl) rfl fun vals w1 ρ hG hF hρ hcst hfun => ?_
      have e20 : ρ (.tmp 20) = .bool false := ((hρ 20).trans (slotJ [2, 11] (by rw [hsz]; decide) (by kernel_rfl))).trans (hF 2 (by decide))
      have e29 : ρ (.tmp 29) = .bool r := ((hρ 29).trans (slotJ [2, 11] (by rw [hsz]; decide) (by kernel_rfl))).trans (hF 11 (by decide))
      clear hρ hF hfun sl0 sl1 sl6 fin
      exact opv_val (by go_simp <;> rfl) ⟨gw_self _, rfl⟩
  · intro vals w1 hG hF
    exact fin vals w1 hG (hF 12 (by decide +kernel))
theorem head_set {W : World} {g : Nat} {a b c d a' b' c' d' : Value} (h : Bk W g 112 #[a, b, c, d]) : Bk ((((W.setCell ⟨g, 0, none⟩ a').setCell ⟨g, 1, none⟩ b').setCell ⟨g, 2, none⟩ c').setCell ⟨g, 3, none⟩ d') g 112 #[a', b', c', d'] := by
  have k := (((h.set 0 a').set 1 b').set 2 c').set 3 d'
  simpa using k
theorem head_below {W w : World} {B g : Nat} {a' b' c' d' : Value} (h : Below B w W) (hg : B ≤ g) : Below B w ((((W.setCell ⟨g, 0, none⟩ a').setCell ⟨g, 1, none⟩ b').setCell ⟨g, 2, none⟩ c').setCell ⟨g, 3, none⟩ d') :=
  (((h.setCell (p := ⟨g, 0, none⟩) hg _).setCell (p := ⟨g, 1, none⟩) hg _).setCell (p := ⟨g, 2, none⟩) hg _).setCell (p := ⟨g, 3, none⟩) hg _
theorem look_res {tmps : Array Value} {W : World} {g : Nat} {a b c d y : Value} (hb : Bk W g 112 #[a, b, c, d]) (h2 : tmps.getD 4 undef = .pointer (some ⟨g, 0, none⟩)) (h3 : tmps.getD 5 undef = y) :
    (results Try.f106 tmps).run Try.prog W = .ok (.tuple #[.agg #[a, b, c, d], y]) W := by
  have hl := run_loadVar_row (P := Try.prog) W g 112 112 #[a, b, c, d] (0, 0) _ hb Try.underlying112 rfl (by kernel_rfl)
  have h2' : tmps[4]?.getD undef = .pointer (some ⟨g, 0, none⟩) := by simpa using h2
  have h3' : tmps[5]?.getD undef = y := by simpa using h3
  simp [results, Try.results106, h2', h3', asAddr, hl]
theorem look_ok (w : World) (B s g : Nat) (v : Value) (ws : List (BitVec 64)) (b t e : Nat) (p : SpAt w B s g v ws b t e) (hl : ws.length ≤ 100000) (i : Nat) (hi1 : b ≤ i) (hi2 : i < t) (hg : goodX (ws.getD i 0#64) (t - i) = true) :
    Calls Try.prog 106 #[.pointer (some ⟨s, 0, none⟩), .int .i64 i] w (RetP (.tuple #[.agg #[.int .i64 (P0 (ws.getD i 0#64) : Int), .int .i64 (B0 (ws.getD i 0#64) : Int), .bool false, .int .i64 0], .int .i64 0]) w) := by
  have hb := Gw.alloc w (.cells #[.int .i64 0, .int .i64 0, .bool false, .int .i64 0] 112)
  have hp := p.below hb
  have hiw : i < ws.length := by have := p.te; have := p.el; omega
  have HH := Lib.hid (sphead_in _ B s g v ws b t e hp i hi1 hi2 hl hiw)
  obtain ⟨x, hx⟩ : ∃ x, x = ws.getD i 0#64 := ⟨_, rfl⟩
  have hgx : ws[i] = x := by rw [hx, List.getD_eq_getElem?_getD, List.getElem?_eq_getElem hiw]; rfl
  rw [hgx] at HH
  rw [← hx] at hg ⊢
  obtain ⟨hv, hP, hN, hsz, hsh, hroom⟩ := head_of hg
  rw [hv] at HH
  obtain ⟨P, hP'⟩ : ∃ P, P = P0 x := ⟨_, rfl⟩
  obtain ⟨N, hN'⟩ : ∃ N, N = B0 x := ⟨_, rfl⟩
  obtain ⟨Z, hZ'⟩ : ∃ N, N = szX x := ⟨_, rfl⟩
  rw [← hP', ← hN'] at HH hsh ⊢
  rw [← hZ'] at hsh hroom
  have HPt := Lib.hid hp
  have HK := Lib.hid (Bk.new w 112 #[.int .i64 0, .int .i64 0, .bool false, .int .i64 0])
  have HB := Lib.hid hb
  have HS := Lib.hid hsh
  have hrm : decide (t - i < Z) = false := by simp; omega
  have q2 : ((t - i : Nat) : Int) ≤ 100000 := by have := p.te; have := p.el; omega
  have q1 : (t : Int) - (i : Int) = ((t - i : Nat) : Int) := by omega
  obtain ⟨room, hroom'⟩ : ∃ r, r = t - i := ⟨_, rfl⟩
  rw [← hroom'] at hrm q1 q2
  have HQ := Lib.hid (And.intro hrm (And.intro q1 q2))
  clear p hb hp hx hgx hg hv hP hN hsz hsh hroom hP' hN' hZ' hrm q1 q2 hroom' hi1 hiw hl
  go_enter Try.func106, Try.ntmps106
  go_wp2_with fail
  refine Calls.mono HH.out ?_
  rintro r w2 ⟨rfl, b2⟩
  have hk2 := HK.out.below b2 HK.out.lt
  have HB2 := Lib.hid (HB.out.trans (b2.mono HB.out.size))
  have HP2 := Lib.hid (HPt.out.below b2)
  have hkl := hk2.lt
  have HK2 := Lib.hid hk2
  clear b2 hk2 HH
  go_wp2_with fail
  obtain ⟨w3, hw3⟩ : ∃ w3, w3 = w2.alloc (.cells #[.int .i64 P, .int .i64 N, .bool false, .int .i64 0] 112) := ⟨_, rfl⟩
  have hb3 : Below w2.heap.size w2 w3 := by rw [hw3]; exact Gw.alloc w2 _
  have hk3 : Bk w3 w2.heap.size 112 #[.int .i64 P, .int .i64 N, .bool false, .int .i64 0] := by rw [hw3]; exact Bk.new w2 _ _
  have HP3 := Lib.hid (HP2.out.below hb3)
  rw [← hw3]
  have HK3 := Lib.hid (HK2.out.below hb3 HK2.out.lt)
  have HB3 := Lib.hid (HB2.out.trans (hb3.mono HB2.out.size))
  clear hw3 hb3 hkl
  refine lk_s _ _ _ w2.heap.size s i t room Z _ _ _ false hk3 HP3.out.blk.lt HP3.out.four.2.2.1 HS.out HQ.out.2.1 HQ.out.2.2 (Int.natCast_nonneg _) HQ.out.1 rfl rfl rfl rfl ?_
  intro vals w4 hG h30
  unfold IsV at h30
  simp only [putD, Act.put, List.setIfInBounds_toArray, List.set_cons_zero, List.set_cons_succ, h30]
  have hk4 := hk3.below hG hk3.lt
  obtain ⟨d0, d1, d2, d3⟩ := hk4.four
  have hr4 := HK3.out.below hG HK3.out.lt
  have f0 := hr4.free 0
  have f1 := hr4.free 1
  have f2 := hr4.free 2
  have f3 := hr4.free 3
  obtain ⟨c0, c1, c2, c3⟩ := hr4.four
  have hkl := hr4.lt
  have HB4 := Lib.hid (HB3.out.trans (hG.mono HB3.out.size))
  have HR4 := Lib.hid hr4
  clear hG h30 hk3 hk4 hr4
  go_wp2_with fail
  exact bodyPost_ret (v := .tuple #[.agg #[.int .i64 P, .int .i64 N, .bool false, .int .i64 0], .int .i64 0]) (look_res (head_set HR4.out) rfl rfl) rfl ⟨rfl, head_below HB4.out (Nat.le_refl _)⟩
end Go.Proofs.Ytkkjnahjmomjgaa
/- obj's pointer, place, inside, data. Conditions: lengths. -/
namespace Go.Proofs.Ytkkjnahjmomjgaa
set_option linter.unusedVariables false
set_option linter.unusedSimpArgs false
open Go.RowKit
/-- What look answers of a place, as an error. -/
def lkE (ws : List (BitVec 64)) (b t : Nat) (a : Int) : Int := if (b : Int) ≤ a ∧ a < (t : Int) then (if goodX (ws.getD a.toNat 0#64) (t - a.toNat) = true then 0 else 2) else 1
set_option maxHeartbeats 1000000
set_option maxRecDepth 100000
theorem ptr_ok (w : World) (B s g : Nat) (v : Value) (ws : List (BitVec 64)) (b t e : Nat) (p : SpAt w B s g v ws b t e) (hl : ws.length ≤ 100000) (a k : Nat) (h1 : b ≤ a) (h2 : a < t) (hg : goodX (ws.getD a 0#64) (t - a) = true) (hk : k < P0 (ws.getD a 0#64)) :
    Calls Try.prog 92 #[.pointer (some ⟨s, 0, none⟩), .int .i64 a, .int .i64 k] w (RetP (.tuple #[.int .i64 ((a + 1 + k : Nat) : Int), .int .i64 0]) w) := by
  have HL := Lib.hid (look_ok w B s g v ws b t e p hl a h1 h2 hg)
  obtain ⟨P, hP⟩ : ∃ P, P = P0 (ws.getD a 0#64) := ⟨_, rfl⟩
  obtain ⟨N, hN⟩ : ∃ P, P = B0 (ws.getD a 0#64) := ⟨_, rfl⟩
  have hb := (head_of hg).2.1
  rw [← hP, ← hN] at HL
  rw [← hP] at hk hb
  have q1 : (a : Int) ≤ 100000 := by have := p.te; have := p.el; omega
  have q2 : (0 : Int) ≤ (a : Int) := by omega
  have q3 : (0 : Int) ≤ (k : Int) := by omega
  have q4 : (k : Int) < (P : Int) := by omega
  have q5 : (P : Int) ≤ 64 := by omega
  rw [show ((a + 1 + k : Nat) : Int) = (a : Int) + 1 + (k : Int) by omega]
  clear hP hN p hl h1 h2 hg hb
  go_enter Try.func92, Try.ntmps92
  go_wp2_with fail
  refine Calls.mono HL.out ?_
  rintro r w2 ⟨rfl, b2⟩
  have HB := Lib.hid b2
  clear b2
  go_wp2_with fail
  go_ret2
  exact ⟨rfl, HB.out.trans ((Gw.alloc w2 _).mono HB.out.size)⟩
theorem place_hi (w : World) (x : BitVec 64) (h : 8192 < U64 x) : Calls Try.prog 115 #[.int .u64 (U64 x)] w (RetP (.tuple #[.int .i64 0, .bool false]) w) := by
  go_enter Try.func115, Try.ntmps115
  go_wp2
  go_ret2
  exact ⟨rfl, (by repeat (first | with_reducible assumption | with_reducible exact Below.refl _ _ | with_reducible apply bdN | with_reducible apply Below.drew | with_reducible refine Below.alloc ?_ (by simp) _ | with_reducible refine Below.setCell ?_ (by simp) _))⟩
theorem place_lo (w : World) (n : Nat) (h : (n : Int) ≤ 8192) : Calls Try.prog 115 #[.int .u64 (n : Int)] w (RetP (.tuple #[.int .i64 ((n : Int) - 1), .bool true]) w) := by
  go_enter Try.func115, Try.ntmps115
  go_wp2
  go_ret2
  exact ⟨rfl, (by repeat (first | with_reducible assumption | with_reducible exact Below.refl _ _ | with_reducible apply bdN | with_reducible apply Below.drew | with_reducible refine Below.alloc ?_ (by simp) _ | with_reducible refine Below.setCell ?_ (by simp) _))⟩
def insB (b t : Nat) (a : Int) : Bool := decide ((b : Int) ≤ a ∧ a < (t : Int))
theorem inside_c (w : World) (B s g : Nat) (v : Value) (ws : List (BitVec 64)) (b t e : Nat) (p : SpAt w B s g v ws b t e) (a : Int) :
    Calls Try.prog 93 #[.pointer (some ⟨s, 0, none⟩), .int .i64 a] w (RetP (.bool (insB b t a)) w) := by
  obtain ⟨c0, c1, c2, c3⟩ := p.four
  unfold insB
  clear p
  by_cases h1 : (b : Int) ≤ a
  · by_cases h2 : a < (t : Int)
    · rw [show decide ((b : Int) ≤ a ∧ a < (t : Int)) = true by simp [h1, h2]]
      go_enter Try.func93, Try.ntmps93
      go_wp2
      go_ret
      exact ⟨by first | rfl | simp, (by repeat (first | with_reducible assumption | with_reducible exact Below.refl _ _ | with_reducible apply bdN | with_reducible apply Below.drew | with_reducible refine Below.alloc ?_ (by simp) _ | with_reducible refine Below.setCell ?_ (by simp) _))⟩
    · rw [show decide ((b : Int) ≤ a ∧ a < (t : Int)) = false by simp [h2]]
      go_enter Try.func93, Try.ntmps93
      go_wp2
      go_ret
      exact ⟨by first | rfl | simp, (by repeat (first | with_reducible assumption | with_reducible exact Below.refl _ _ | with_reducible apply bdN | with_reducible apply Below.drew | with_reducible refine Below.alloc ?_ (by simp) _ | with_reducible refine Below.setCell ?_ (by simp) _))⟩
  · rw [show decide ((b : Int) ≤ a ∧ a < (t : Int)) = false by simp [h1]]
    go_enter Try.func93, Try.ntmps93
    go_wp2
    go_ret
    exact ⟨by first | rfl | simp, (by repeat (first | with_reducible assumption | with_reducible exact Below.refl _ _ | with_reducible apply bdN | with_reducible apply Below.drew | with_reducible refine Below.alloc ?_ (by simp) _ | with_reducible refine Below.setCell ?_ (by simp) _))⟩
/-- Bytes that are not an object's. -/
def noD (N : Nat) (i n : Int) : Prop := i < 0 ∨ (0 ≤ i ∧ n < 0) ∨ (0 ≤ i ∧ 0 ≤ n ∧ (N : Int) < i) ∨ (0 ≤ i ∧ 0 ≤ n ∧ i ≤ (N : Int) ∧ (N : Int) - i < n)
theorem data_ok (w : World) (B s g : Nat) (v : Value) (ws : List (BitVec 64)) (b t e : Nat) (p : SpAt w B s g v ws b t e) (hl : ws.length ≤ 100000) (a i n : Nat) (h1 : b ≤ a) (h2 : a < t) (hg : goodX (ws.getD a 0#64) (t - a) = true) (hi : i + n ≤ B0 (ws.getD a 0#64)) :
    Calls Try.prog 94 #[.pointer (some ⟨s, 0, none⟩), .int .i64 a, .int .i64 i, .int .i64 n] w (RetP (.tuple #[.int .i64 ((8 * (a + 1 + P0 (ws.getD a 0#64)) + i : Nat) : Int), .int .i64 0]) w) := by
  have HL := Lib.hid (look_ok w B s g v ws b t e p hl a h1 h2 hg)
  obtain ⟨P, hP⟩ : ∃ P, P = P0 (ws.getD a 0#64) := ⟨_, rfl⟩
  obtain ⟨N, hN⟩ : ∃ P, P = B0 (ws.getD a 0#64) := ⟨_, rfl⟩
  obtain ⟨_, hb1, hb2, _⟩ := head_of hg
  rw [← hP, ← hN] at HL
  rw [← hN] at hi hb2
  rw [← hP] at hb1 ⊢
  have q1 : (a : Int) ≤ 100000 := by have := p.te; have := p.el; omega
  have q2 : (0 : Int) ≤ (a : Int) := by omega
  have q3 : (0 : Int) ≤ (i : Int) := by omega
  have q4 : (0 : Int) ≤ (n : Int) := by omega
  have q5 : (N : Int) ≤ 1024 := by omega
  have q6 : (P : Int) ≤ 64 := by omega
  have q7 : (i : Int) ≤ (N : Int) := by omega
  have q8 : (n : Int) ≤ (N : Int) - (i : Int) := by omega
  have e0 : ((8 * (a + 1 + P) + i : Nat) : Int) = ((a : Int) + 1 + (P : Int)) * 8 + (i : Int) := by omega
  rw [e0]
  clear hP hN p hl h1 h2 hg hb1 hb2 hi e0
  go_enter Try.func94, Try.ntmps94
  go_wp2_with fail
  refine Calls.mono HL.out ?_
  rintro r w2 ⟨rfl, b2⟩
  have HB := Lib.hid b2
  clear b2
  go_wp2_with fail
  go_ret2
  exact ⟨rfl, HB.out.trans ((Gw.alloc w2 _).mono HB.out.size)⟩
end Go.Proofs.Ytkkjnahjmomjgaa
/- obj.Ptr, SetPtr, Read, Write. Conditions: lengths. -/
namespace Go.Proofs.Ytkkjnahjmomjgaa
set_option linter.unusedVariables false
set_option linter.unusedSimpArgs false
open Go.RowKit
theorem ofNat_U64 (n : Nat) (h : n < 2 ^ 64) : U64 (BitVec.ofNat 64 n) = (n : Int) := by
  unfold U64; rw [BitVec.toNat_ofNat, Nat.mod_eq_of_lt h]
/-- May a word be a pointer's? -/
def pokB (b t : Nat) (y : BitVec 64) : Bool := decide (y.toNat = 0 ∨ (b < y.toNat ∧ y.toNat ≤ t))
/-- What Ptr answers of a word that is a pointer's. -/
def ptV (b t : Nat) (y : BitVec 64) : Int := if pokB b t y = true then (y.toNat : Int) - 1 else 0
def ptE (b t : Nat) (y : BitVec 64) : Int := if pokB b t y = true then 0 else 2
theorem pt_yes {b t : Nat} {y : BitVec 64} (h : pokB b t y = true) : ptV b t y = (y.toNat : Int) - 1 ∧ ptE b t y = 0 := by unfold ptV ptE; rw [if_pos h, if_pos h]; exact ⟨rfl, rfl⟩
theorem pt_no {b t : Nat} {y : BitVec 64} (h : pokB b t y = false) : ptV b t y = 0 ∧ ptE b t y = 2 := by unfold ptV ptE; rw [if_neg (by rw [h]; simp), if_neg (by rw [h]; simp)]; exact ⟨rfl, rfl⟩
theorem word_in {ws : List (BitVec 64)} {b t e a k : Nat} {x : BitVec 64} (hx : goodX x (t - a) = true) (h2 : a < t) (hte : t ≤ e) (hel : e ≤ ws.length) (hk : k < P0 x) : a + 1 + k < ws.length ∧ a + 1 + k < t := by
  obtain ⟨_, _, _, h, _, h3⟩ := head_of hx
  omega
set_option maxHeartbeats 1000000
set_option maxRecDepth 100000
theorem Ptr_c (w : World) (B s g : Nat) (v : Value) (ws : List (BitVec 64)) (b t e : Nat) (p : SpAt w B s g v ws b t e) (hl : ws.length ≤ 8192) (a k : Nat) (h1 : b ≤ a) (h2 : a < t) (hg : goodX (ws.getD a 0#64) (t - a) = true) (hk : k < P0 (ws.getD a 0#64)) :
    Calls Try.prog 109 #[.pointer (some ⟨s, 0, none⟩), .int .i64 a, .int .i64 k] w (RetP (.tuple #[.int .i64 (ptV b t (ws.getD (a + 1 + k) 0#64)), .int .i64 (ptE b t (ws.getD (a + 1 + k) 0#64))]) w) := by
  have HL := Lib.hid (ptr_ok w B s g v ws b t e p (by omega) a k h1 h2 hg hk)
  obtain ⟨hj, hjt⟩ := word_in (b := b) hg h2 p.te p.el hk
  obtain ⟨J, hJ⟩ : ∃ J, J = a + 1 + k := ⟨_, rfl⟩
  rw [← hJ] at HL hj ⊢
  obtain ⟨y, hy⟩ : ∃ y, y = ws.getD J 0#64 := ⟨_, rfl⟩
  have hgy : ws[J] = y := by rw [hy, List.getD_eq_getElem?_getD, List.getElem?_eq_getElem hj]; rfl
  have HGt := Lib.hid (fun W (hb : Below w.heap.size w W) => get_in W B g v ws J hj (by omega) (p.below hb).mem)
  rw [hgy] at HGt
  have HIn := Lib.hid (fun W (hb : Below w.heap.size w W) => inside_c W B s g v ws b t e (p.below hb))
  have HC := Lib.hid (fun W (hb : Below w.heap.size w W) => (p.below hb).four.1)
  have ht : t ≤ 8192 := by have := p.te; have := p.el; omega
  rw [← hy]
  have HT := Lib.hid ht
  obtain ⟨PV, hPV⟩ : ∃ v, v = ptV b t y := ⟨_, rfl⟩
  obtain ⟨PE, hPE⟩ : ∃ v, v = ptE b t y := ⟨_, rfl⟩
  rw [← hPV, ← hPE]
  have HV := Lib.hid (And.intro hPV hPE)
  clear hPV hPE
  clear hJ hy hgy p hl h1 h2 hg hk hj hjt ht
  go_enter Try.func109, Try.ntmps109
  go_wp2_with fail
  refine Calls.mono HL.out ?_
  rintro r w2 ⟨rfl, b2⟩
  have HB2 := Lib.hid b2
  have c0 := HC.out w2 b2
  clear b2 HL
  go_wp2_with fail
  refine Calls.mono (HGt.out w2 HB2.out) ?_
  rintro r w3 ⟨rfl, rfl⟩
  by_cases hhi : 8192 < U64 y
  · have HPl := Lib.hid (place_hi w3 y hhi)
    have hno : pokB b t y = false := by
      unfold pokB
      rw [decide_eq_false_iff_not]
      have := HT.out
      unfold U64 at hhi
      omega
    have e1 : PV = 0 := by rw [HV.out.1, (pt_no hno).1]
    have e2 : PE = 2 := by rw [HV.out.2, (pt_no hno).2]
    subst e1
    subst e2
    clear hhi hno
    go_wp2_with fail
    refine Calls.mono HPl.out ?_
    rintro r w4 ⟨rfl, b4⟩
    have HB4 := Lib.hid (HB2.out.trans (b4.mono HB2.out.size))
    clear b4
    go_wp2_with fail
    go_ret2
    exact ⟨rfl, HB4.out⟩
  · obtain ⟨n, hn⟩ : ∃ n, n = y.toNat := ⟨_, rfl⟩
    have hU : U64 y = (n : Int) := by rw [hn]; rfl
    have hn2 : (n : Int) ≤ 8192 := by omega
    have HPl := Lib.hid (place_lo w3 n hn2)
    have HNy := Lib.hid hn
    have hpk : pokB b t y = decide (n = 0 ∨ (b < n ∧ n ≤ t)) := by unfold pokB; rw [← hn]
    have HPk := Lib.hid hpk
    rw [hU]
    clear hhi hpk hn hU
    go_wp2_with fail
    refine Calls.mono HPl.out ?_
    rintro r w4 ⟨rfl, b4⟩
    have HB4 := Lib.hid (HB2.out.trans (b4.mono HB2.out.size))
    clear b4
    by_cases hn0 : n = 0
    · have hyes : pokB b t y = true := by rw [HPk.out]; simp [hn0]
      have e1 : PV = -1 := by rw [HV.out.1, (pt_yes hyes).1, ← HNy.out, hn0]; rfl
      have e2 : PE = 0 := by rw [HV.out.2, (pt_yes hyes).2]
      subst e1
      subst e2
      obtain rfl := hn0
      clear hyes HPk HNy
      go_wp2_with fail
      go_ret2
      exact ⟨rfl, HB4.out⟩
    · obtain ⟨m, hm⟩ : ∃ m : Nat, (n : Int) - 1 = (m : Int) := ⟨n - 1, by omega⟩
      have q1 : ((m : Int) == -1) = false := by simp
      have q2 : ((m : Int) != -1) = true := by simp
      have q3 : decide ((m : Int) = -1) = false := by simp
      rw [hm]
      have HI := Lib.hid (HIn.out w4 HB4.out (m : Int))
      obtain ⟨r, hr⟩ : ∃ r, r = insB b t (m : Int) := ⟨_, rfl⟩
      have hpr : pokB b t y = r := by
        rw [HPk.out, hr]
        unfold insB
        rw [decide_eq_decide]
        omega
      rw [← hr] at HI
      cases r with
      | true =>
        have e1 : PV = (m : Int) := by rw [HV.out.1, (pt_yes hpr).1, ← HNy.out, hm]
        have e2 : PE = 0 := by rw [HV.out.2, (pt_yes hpr).2]
        subst e1
        subst e2
        clear hm hr hpr hn0 hn2 HPk HNy
        go_wp2_with fail
        refine Calls.mono HI.out ?_
        rintro r2 w5 ⟨rfl, b5⟩
        have HB5 := Lib.hid (HB4.out.trans (b5.mono HB4.out.size))
        clear b5
        go_wp2_with fail
        go_ret2
        exact ⟨rfl, HB5.out⟩
      | false =>
        have e1 : PV = 0 := by rw [HV.out.1, (pt_no hpr).1]
        have e2 : PE = 2 := by rw [HV.out.2, (pt_no hpr).2]
        subst e1
        subst e2
        clear hm hr hpr hn0 hn2 HPk HNy
        go_wp2_with fail
        refine Calls.mono HI.out ?_
        rintro r2 w5 ⟨rfl, b5⟩
        have HB5 := Lib.hid (HB4.out.trans (b5.mono HB4.out.size))
        clear b5
        go_wp2_with fail
        go_ret2
        exact ⟨rfl, HB5.out⟩
end Go.Proofs.Ytkkjnahjmomjgaa
/- mem: Bytes. Conditions: lengths. -/
namespace Go.Proofs.Ytkkjnahjmomjgaa
set_option linter.unusedVariables false
set_option linter.unusedSimpArgs false
open Go.RowKit
def byteAt (ws : List (BitVec 64)) (k : Nat) : BitVec 8 := ((ws.getD (k / 8) 0#64) >>> (8 * (k % 8))).setWidth 8
def bytesM (ws : List (BitVec 64)) (a n : Nat) : List (BitVec 8) := (List.range n).map fun i => byteAt ws (a + i)
def partB (xs : List (BitVec 8)) (k : Nat) : List (BitVec 8) := xs.take k ++ List.replicate (xs.length - k) 0#8
theorem partB_len (xs : List (BitVec 8)) (k : Nat) (h : k ≤ xs.length) : (partB xs k).length = xs.length := by unfold partB; simp; omega
theorem partB_set (xs : List (BitVec 8)) (k : Nat) (hk : k < xs.length) : (partB xs k).set k xs[k] = partB xs (k + 1) := by
  have e : List.replicate (xs.length - k) 0#8 = 0#8 :: List.replicate (xs.length - (k + 1)) 0#8 := by
    rw [← List.replicate_succ]; congr 1; omega
  have ht : xs.take (k + 1) = xs.take k ++ [xs[k]] := List.take_succ_eq_append_getElem hk
  unfold partB
  rw [e, ht, List.set_append_right _ _ (by simp; omega)]
  have e3 : k - (xs.take k).length = 0 := by simp; omega
  rw [e3, List.append_assoc]
  simp
theorem u8_shr (y : BitVec 64) (s : Nat) : U64 y / 2 ^ s % 256 = U8 ((y >>> s).setWidth 8) := by
  rw [shrU64]
  unfold U64 U8
  rw [BitVec.toNat_setWidth]
  omega
set_option maxHeartbeats 400000
set_option maxRecDepth 100000
theorem bytes_in (w : World) (B g : Nat) (v : Value) (ws : List (BitVec 64)) (a n : Nat) (hi : a + n ≤ 8 * ws.length) (hl : ws.length ≤ 100000) (h : MemAt w B g v ws) :
    Calls Try.prog 100 #[.pointer (some ⟨g, 0, none⟩), .int .i64 a, .int .i64 n] w (MkEP b8 5 (bytesM ws a n) 0 w) := by
  have HL := Lib.hid (len_c w B g v ws h)
  have HI := Lib.hid (insideM_c w ((8 * ws.length : Nat) : Int) (a : Int) n (by omega) (by omega) (by omega) (by omega) (by omega) (by omega))
  rw [show inM ((8 * ws.length : Nat) : Int) (a : Int) n = true from by unfold inM; simp; omega] at HI
  obtain ⟨A, c, e, hc⟩ := h.row.form
  subst e
  have HK := Lib.hid h.blk
  have HR := Lib.hid h.row.rd
  obtain ⟨N, hN⟩ : ∃ N, N = ws.length := ⟨_, rfl⟩
  obtain ⟨M, hM⟩ : ∃ M, M = 8 * ws.length := ⟨_, rfl⟩
  rw [← hM] at HI
  rw [← hN] at HL HK
  have q1 : (N : Int) * 8 = (M : Int) := by omega
  have HM := Lib.hid hM
  have HAN := Lib.hid hi
  have HNN := Lib.hid hN
  have q2 : (M : Int) ≤ 800000 := by omega
  have q3 : (n : Int) ≤ 800000 := by omega
  clear h hc hM hN hi hl
  go_enter Try.func100, Try.ntmps100
  go_wp2_with fail
  refine Calls.mono HL.out ?_
  rintro e w1 ⟨rfl, rfl⟩
  go_wp2_with fail
  refine Calls.mono HI.out ?_
  rintro e w2 ⟨rfl, rfl⟩
  go_wp2_with (at_make; refine wp_make (f := b8) one8 rfl _ _ rfl 0#8 rfl w2.heap.size n _ _ _ _ rfl rfl rfl rfl (by omega) (by decide) (Nat.le_refl _) ?_; rintro q w3 hq ho3 hb3 _)
  rw [← hq]
  clear hq HL HI q1
  obtain ⟨xs, hxs⟩ : ∃ xs, xs = bytesM ws a n := ⟨_, rfl⟩
  have hxl : xs.length = n := by rw [hxs]; unfold bytesM; simp
  have HXL := Lib.hid hxl
  have HXS := Lib.hid hxs
  rw [← hxs]
  clear hxs hxl
  go_loopw [22] (fun i wr => ∃ k : Nat, k ≤ n ∧ i = .int .i64 k ∧ Ow b8 5 wr w2.heap.size (.slice (some ⟨q, 0, none⟩) n n) (partB xs k) ∧ Below w2.heap.size w2 wr) (fun i _ => n - (Go.RowKit.intOf i).toNat)
  case atStart => exact ⟨0, by omega, rfl, by have := HXL.out; simpa [partB, this] using ho3, hb3⟩
  case round =>
    obtain ⟨k, hkl, rfl, how, hB⟩ := hrel
    by_cases hlt : k < n
    · have p1 : (0 : Int) ≤ (k : Int) := by omega
      have p2 : (k : Int) < (n : Int) := by omega
      have hin := HAN.out
      have hNo := HNN.out
      have hMo := HM.out
      have p3 : (a : Int) + (k : Int) ≤ 800000 := by omega
      obtain ⟨j, hj⟩ : ∃ j, j = (a + k) / 8 := ⟨_, rfl⟩
      obtain ⟨b, hb⟩ : ∃ b, b = (a + k) % 8 := ⟨_, rfl⟩
      have hjl : j < ws.length := by omega
      have c0 := (HK.out.below hB HK.out.lt).cell 0
      obtain ⟨ad, rfl, hadb, hcl⟩ := (HR.out.below hB) j hjl
      obtain ⟨y, hy⟩ : ∃ y, y = ws[j] := ⟨_, rfl⟩
      rw [← hy] at hcl
      have HY := Lib.hid hy
      unfold u64v at hcl
      clear hy
      have p4 : (0 : Int) ≤ (j : Int) := by omega
      have p5 : (j : Int) < (N : Int) := by omega
      have HJ := Lib.hid (And.intro hj.symm hb.symm)
      obtain ⟨s, hs⟩ : ∃ s, s = a + k := ⟨_, rfl⟩
      have d0 : (a : Int) + (k : Int) = (s : Int) := by omega
      have d1 : (s : Int) / 8 = (j : Int) := by omega
      have d2 : (s : Int) % 8 = (b : Int) := by omega
      have d3 : (s : Int).tdiv 8 = (j : Int) := by rw [← d1]; exact Int.tdiv_eq_ediv_of_nonneg (by omega)
      have d4 : (s : Int).tmod 8 = (b : Int) := by rw [← d2]; exact Int.tmod_eq_emod_of_nonneg (by omega)
      have d5 : (0 : Int) ≤ (s : Int) := by omega
      have d6 : (s : Int) ≤ 800000 := by omega
      have d7 : (b : Int) < 8 := by omega
      have d8 : (0 : Int) ≤ (b : Int) := by omega
      clear hj hb hs hin hNo hMo hadb
      have hpl := partB_len xs k (by rw [HXL.out]; omega)
      have hxk : k < xs.length := by rw [HXL.out]; exact hlt
      have hf := how.free k
      have hge := how.ge
      have hcell := how.cell (j := k) (by rw [hpl]; exact hxk)
      have hset := how.set (j := k) (by rw [hpl]; exact hxk) xs[k]
      rw [partB_set xs k hxk] at hset
      obtain ⟨z, hz⟩ : ∃ z, z = (partB xs k)[k]'(by rw [hpl]; exact hxk) := ⟨_, rfl⟩
      rw [← hz] at hcell
      unfold b8 at hcell hset
      have hB' : ∀ m u, Below w2.heap.size w2 ((wr.drewN m).setCell ⟨q, k, none⟩ u) := fun m u => (bdN hB m).setCell (p := ⟨q, k, none⟩) hge.1 _
      have hval : xs[k] = (y >>> (8 * b)).setWidth 8 := by
        have e1 : xs[k] = byteAt ws (a + k) := by
          have := HXS.out
          subst this
          simp [bytesM]
        rw [e1, HY.out]
        unfold byteAt
        rw [HJ.out.1, HJ.out.2, List.getD_eq_getElem?_getD, List.getElem?_eq_getElem hjl]
        rfl
      rw [hval, ← u8_shr] at hset
      have HS := Lib.hid hset
      have HB' := Lib.hid hB'
      clear hset hB' hz how hge hval hpl hxk
      go_wp2_with fail
      go_roundw
      case rel => exact ⟨k + 1, by omega, by go_num, HS.out, HB'.out 0 _⟩
      case measure => (first | (simp [Go.RowKit.intOf]; done) | (simp [Go.RowKit.intOf]; omega))
    · have hkk : k = n := by omega
      subst hkk
      have hw : partB xs k = xs := by unfold partB; rw [HXL.out]; simp; rw [← HXL.out]; simp
      rw [hw] at how
      have hxl := HXL.out
      subst hxl
      go_wp2_with fail
      go_ret2
      rw [← HXS.out]
      exact MkEP.of how hB
end Go.Proofs.Ytkkjnahjmomjgaa
/- mem: bytes set in words, as lists. Conditions: lengths. -/
namespace Go.Proofs.Ytkkjnahjmomjgaa
set_option linter.unusedVariables false
set_option linter.unusedSimpArgs false
open Go.RowKit
def setB (ws : List (BitVec 64)) (k : Nat) (x : BitVec 8) : List (BitVec 64) := ws.set (k / 8) (((ws.getD (k / 8) 0#64) &&& ~~~(255#64 <<< (8 * (k % 8)))) ||| ((x.setWidth 64) <<< (8 * (k % 8))))
theorem setB_len (ws : List (BitVec 64)) (k : Nat) (x : BitVec 8) : (setB ws k x).length = ws.length := by simp [setB]
theorem ff_bit (q : Nat) : (255#64).getLsbD q = decide (q < 8) := by
  show ((BitVec.allOnes 8).setWidth 64).getLsbD q = _
  rw [BitVec.getLsbD_setWidth, BitVec.getLsbD_allOnes, Bool.eq_iff_iff]
  simp only [Bool.and_eq_true, decide_eq_true_eq]
  omega
theorem byteAt_bit (ws : List (BitVec 64)) (k i : Nat) (hi : i < 8) : (byteAt ws k).getLsbD i = (ws.getD (k / 8) 0#64).getLsbD (8 * (k % 8) + i) := by
  unfold byteAt
  rw [BitVec.getLsbD_setWidth, BitVec.getLsbD_ushiftRight]
  simp [hi]
theorem setB_at (ws : List (BitVec 64)) (k : Nat) (x : BitVec 8) (hk : k < 8 * ws.length) : (setB ws k x).getD (k / 8) 0#64 = ((ws.getD (k / 8) 0#64) &&& ~~~(255#64 <<< (8 * (k % 8)))) ||| ((x.setWidth 64) <<< (8 * (k % 8))) := by
  unfold setB
  rw [List.getD_eq_getElem?_getD, List.getElem?_set]
  have : k / 8 < ws.length := by omega
  simp [this]
theorem setB_far (ws : List (BitVec 64)) (k j : Nat) (x : BitVec 8) (h : j ≠ k / 8) : (setB ws k x).getD j 0#64 = ws.getD j 0#64 := by
  unfold setB
  rw [List.getD_eq_getElem?_getD, List.getElem?_set, if_neg (fun e => h e.symm), ← List.getD_eq_getElem?_getD]
theorem byteAt_setB (ws : List (BitVec 64)) (k j : Nat) (x : BitVec 8) (hk : k < 8 * ws.length) : byteAt (setB ws k x) j = if j = k then x else byteAt ws j := by
  apply BitVec.eq_of_getLsbD_eq
  intro i hi
  rw [byteAt_bit _ _ _ hi]
  by_cases e : j / 8 = k / 8
  · rw [e, setB_at ws k x hk, BitVec.getLsbD_or, BitVec.getLsbD_and, BitVec.getLsbD_not, BitVec.getLsbD_shiftLeft, BitVec.getLsbD_shiftLeft, BitVec.getLsbD_setWidth, ff_bit]
    have l1 : 8 * (j % 8) + i < 64 := by omega
    rcases Nat.lt_trichotomy (j % 8) (k % 8) with m | m | m
    · have l2 : 8 * (j % 8) + i < 8 * (k % 8) := by omega
      rw [if_neg (show ¬ j = k from by omega), byteAt_bit _ _ _ hi, e]
      simp [l1, l2]
    · have l2 : 8 * (j % 8) + i - 8 * (k % 8) = i := by omega
      have l3 : ¬ 8 * (j % 8) + i < 8 * (k % 8) := by omega
      rw [if_pos (show j = k from by omega), l2]
      simp [l1, l3, hi, show i < 64 from by omega]
    · have l3 : ¬ 8 * (j % 8) + i < 8 * (k % 8) := by omega
      have l4 : ¬ 8 * (j % 8) + i - 8 * (k % 8) < 8 := by omega
      rw [if_neg (show ¬ j = k from by omega), byteAt_bit _ _ _ hi, e]
      have l5 : x.getLsbD (8 * (j % 8) + i - 8 * (k % 8)) = false := BitVec.getLsbD_of_ge _ _ (by omega)
      simp [l1, l3, l4, l5]
  · rw [setB_far ws k _ x e, if_neg (fun h => e (by rw [h])), byteAt_bit _ _ _ hi]
/-- The words when k of the bytes lie in them from byte a on. -/
def putK (ws : List (BitVec 64)) (a : Nat) (bs : List (BitVec 8)) : Nat → List (BitVec 64)
  | 0 => ws
  | k + 1 => setB (putK ws a bs k) (a + k) (bs.getD k 0#8)
theorem putK_len (ws : List (BitVec 64)) (a : Nat) (bs : List (BitVec 8)) (k : Nat) : (putK ws a bs k).length = ws.length := by
  induction k with
  | zero => rfl
  | succ k ih => show (setB _ _ _).length = _; rw [setB_len, ih]
theorem byteAt_putK (ws : List (BitVec 64)) (a : Nat) (bs : List (BitVec 8)) (j : Nat) : ∀ k, a + k ≤ 8 * ws.length → byteAt (putK ws a bs k) j = if a ≤ j ∧ j < a + k then bs.getD (j - a) 0#8 else byteAt ws j
  | 0, _ => by
    rw [if_neg (by omega)]; rfl
  | k + 1, h => by
    show byteAt (setB _ _ _) j = _
    rw [byteAt_setB _ _ _ _ (by rw [putK_len]; omega), byteAt_putK ws a bs j k (by omega)]
    by_cases e : j = a + k
    · subst e
      rw [if_pos rfl, if_pos (by omega)]
      congr 1; omega
    · rw [if_neg e]
      by_cases c : a ≤ j ∧ j < a + k
      · rw [if_pos c, if_pos (by omega)]
      · rw [if_neg c, if_neg (by omega)]
end Go.Proofs.Ytkkjnahjmomjgaa
