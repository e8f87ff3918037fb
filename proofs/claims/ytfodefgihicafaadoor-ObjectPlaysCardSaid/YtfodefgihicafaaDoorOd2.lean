/- Texts joined: ObS ObA ObB ObC MmE MmF MmG ObD. -/
import Derived.Test.YtfodefgihicafaaDoorOd1
import Derived.Test.YtfodefgihicafaaDoorMmD
import Derived.Test.YtfodefgihicafaaDoorRegT
/- Sets of numbers as maps. No conditions. -/
namespace Go.Proofs.YtfodefgihicafaaDoor
set_option linter.unusedVariables false
set_option linter.unusedSimpArgs false
open Go.RowKit Go.Maps
def kW (p : Int) : Prop := (Lit.int .i64 p).wf = true
def keyL (p : Int) : Lit := .int .i64 p
theorem keyL_inj {p q : Int} (_ : kW p) (_ : kW q) (h : keyL p = keyL q) : p = q := by
  unfold keyL at h
  injection h
theorem keyL_key {p : Int} (hp : kW p) : WideAt.IsKeyLit (keyL p) := isKey_kI hp
theorem wfI {n : Int} (h1 : -9223372036854775808 ≤ n) (h2 : n ≤ 9223372036854775807) : (Lit.int .i64 n).wf = true := by
  simp [Lit.wf, IntKind.min, IntKind.max, IntKind.signed, IntKind.bits]; omega
/-- Block b is a map whose keys are those of m. -/
def SetI (w : World) (b : Nat) (m : List Int) : Prop := ∃ D : DataW Unit, w.ownsMap Tryd.prog 3 unitElem b m.length D ∧ size D = m.length ∧ (∀ p, kW p → has D (keyL p) = decide (p ∈ m)) ∧ (∀ p ∈ m, kW p) ∧ m.Nodup
theorem own_tight {P : Program} {k : TypeId} {H : Type} {R : Value → Option (DataW H × List MemPlace)} {w : World} {b n : Nat} {D : DataW H} (h : w.ownsMap P k R b n D) : w.ownsMap P k R b (size D) D := by
  obtain ⟨es, clock, hb, F, hs, rfl⟩ := h
  exact ⟨es, clock, hb, F, by simp [Maps.size, length_sorted], rfl⟩
section
variable {w w' : World} {b : Nat} {m : List (Int)}
theorem SetI.lt (h : SetI w b m) : b < w.heap.size := by obtain ⟨D, h, _⟩ := h; exact h.lt
theorem SetI.kept {S : Nat → Prop} (h : SetI w b m) (hk : Kept S w w') (hn : ¬ S b) : SetI w' b m := by
  obtain ⟨D, h1, h2⟩ := h
  exact ⟨D, hk.map h1 hn, h2⟩
theorem SetI.below (h : SetI w b m) (hb : Below w.heap.size w w') : SetI w' b m := h.kept (Kept.of_below hb (fun _ => False)) (fun f => f)
theorem SetI.made (w : World) : SetI (w.alloc (.map #[] 0)) w.heap.size [] :=
  ⟨.map [], World.ownsMap_made _ _ _ _, rfl, fun p _ => by simp [has], fun _ h => (by cases h), List.nodup_nil⟩
def addS (m : List (Int)) (p : Int) : List (Int) := if p ∈ m then m else m ++ [p]
def offS (m : List (Int)) (p : Int) : List (Int) := m.filter fun q => decide (q ≠ p)
theorem zeroU (w : World) : (zeroValue 88).run Tryd.prog w = .ok (.agg #[]) w := by kernel_rfl
theorem SetI.put (h : SetI w b m) {p : Int} (hp : kW p) (hn : m.length < maxLen) :
    ∃ w', (Instr.mapUpdate 87 (.map (some b)) (.int .i64 p) (.agg #[])).run Tryd.prog w = .ok () w' ∧ SetI w' b (addS m p) ∧ Kept (fun c => some b = some c) w w' := by
  obtain ⟨D, h1, h2, h3, h4, h5⟩ := h
  obtain ⟨w', hrun, ho, hg⟩ := World.ownsMap.update h1 lawI Tryd.underlying87 hn (keyI hp) (unitElem_mk (H := Unit))
  have hT := h1.tidy lawI
  have hsz : size (D.put (keyL p) (.agg [])) = (addS m p).length := by
    rw [size_put hT, h3 p hp, h2]
    unfold addS
    by_cases e : p ∈ m <;> simp [e]
  refine ⟨w', hrun, ⟨_, by rw [← hsz]; exact own_tight ho, hsz, fun q hq => ?_, fun q hq => ?_, ?_⟩, Kept.grown hg⟩
  · by_cases e : q = p
    · subst e
      rw [has_put_same h1.isMap (keyL_key hp)]
      unfold addS
      by_cases e : q ∈ m <;> simp [e]
    · rw [has_put_other (fun k => e (keyL_inj hq hp k)), h3 q hq]
      unfold addS
      by_cases e2 : p ∈ m <;> simp [e2, e]
  · unfold addS at hq
    split at hq
    · exact h4 q hq
    · rcases List.mem_append.1 hq with e | e
      · exact h4 q e
      · rw [List.mem_singleton] at e; subst e; exact hp
  · unfold addS
    split
    · exact h5
    · rename_i e
      exact List.nodup_append.2 ⟨h5, by simp, fun a ha b hb => by simp at hb; subst hb; exact fun e2 => e (e2 ▸ ha)⟩
theorem SetI.look (h : SetI w b m) {p : Int} (hp : kW p) : (Instr.lookup 87 (.map (some b)) (.int .i64 p) true).run Tryd.prog w = .ok (.tuple #[.agg #[], .bool (decide (p ∈ m))]) w := by
  obtain ⟨D, h1, h2, h3, h4, h5⟩ := h
  obtain ⟨v, ps, hrun, hR⟩ := h1.look_ok lawI Tryd.underlying87 (zeroU w) (unitElem_mk (H := Unit)) (keyI hp)
  obtain ⟨rfl, _⟩ := unitElem_inv hR
  have e : has D (kI p) = decide (p ∈ m) := h3 p hp
  rw [hrun, e]
theorem SetI.len (h : SetI w b m) (ty : TypeId) : (Builtin.len_ #[87] ty #[.map (some b)]).run Tryd.prog w = .ok (.int .i64 m.length) w := by
  obtain ⟨D, h1, h2, h3, h4, h5⟩ := h
  rw [h1.len Tryd.underlying87 ty, h2]
end
end Go.Proofs.YtfodefgihicafaaDoor
/- obj.look: the header of an object that stands there whole. Conditions: lengths. -/
namespace Go.Proofs.YtfodefgihicafaaDoor
set_option linter.unusedVariables false
set_option linter.unusedSimpArgs false
open Go.RowKit
theorem goodX_out {x : BitVec 64} {room : Nat} (h : goodX x room = true) : okU x = true ∧ fM x = false ∧ szX x ≤ room := by
  unfold goodX at h
  rw [Bool.and_eq_true, Bool.and_eq_true, decide_eq_true_eq, Bool.not_eq_true'] at h
  exact ⟨h.1, h.2.1, h.2.2⟩
/-- What a good header says, as numbers. -/
theorem head_nums {x : BitVec 64} (h : okU x = true) (hm : fM x = false) : ∃ P N : Nat, fP x = (P : Int) ∧ fB x = (N : Int) ∧ fT x = 0 ∧ P ≤ 64 ∧ N ≤ 1024 ∧ szX x = 1 + P + (N + 7) / 8 ∧ sizeH (P : Int) (N : Int) false 0 = (szX x : Int) := by
  obtain ⟨hr, _⟩ := okU_yes h
  obtain ⟨hs, _⟩ := szX_pos h hm
  rw [hm] at hr
  have hr2 := hr
  rcases rightH_out hr with ⟨h1, _⟩ | ⟨_, h2, h3, h4, h5, h6⟩
  · cases h1
  · refine ⟨(fP x).toNat, (fB x).toNat, by omega, by omega, h2, by omega, by omega, ?_, ?_⟩
    · have e : sizeH (fP x) (fB x) false (fT x) = 1 + fP x + (fB x + 7) / 8 := if_pos ⟨hr2, rfl⟩
      rw [e] at hs
      omega
    · rw [show (((fP x).toNat : Nat) : Int) = fP x by omega, show (((fB x).toNat : Nat) : Int) = fB x by omega]
      rw [h2] at hs
      exact hs
def P0 (x : BitVec 64) : Nat := (fP x).toNat
def B0 (x : BitVec 64) : Nat := (fB x).toNat
theorem head_of {x : BitVec 64} {room : Nat} (h : goodX x room = true) : unV x = .tuple #[.agg #[.int .i64 (P0 x : Int), .int .i64 (B0 x : Int), .bool false, .int .i64 0], .int .i64 0] ∧ P0 x ≤ 64 ∧ B0 x ≤ 1024 ∧ szX x = 1 + P0 x + (B0 x + 7) / 8 ∧ sizeH (P0 x : Int) (B0 x : Int) false 0 = (szX x : Int) ∧ szX x ≤ room := by
  obtain ⟨h1, h2, h3⟩ := goodX_out h
  obtain ⟨P, N, e1, e2, e3, e4, e5, e6, e7⟩ := head_nums h1 h2
  have p : P0 x = P := by unfold P0; omega
  have q : B0 x = N := by unfold B0; omega
  rw [unV_yes h1, e1, e2, e3, h2, p, q]
  exact ⟨rfl, e4, e5, e6, e7, h3⟩
def zH : Value := .agg #[.int .i64 0, .int .i64 0, .bool false, .int .i64 0]
set_option maxHeartbeats 1000000
set_option maxRecDepth 100000
theorem lk_m (Q : Exit → Act → World → Prop) (a0 : Act) (w : World) (H : Nat) (p b t : Int) (hk : Bk w H 60 #[.int .i64 p, .int .i64 b, .bool true, .int .i64 t]) (hsz : a0.tmps.size = 33) (sl6 : a0.tmps.getD 6 undef = .pointer (some ⟨H, 0, none⟩))
    (fin : ∀ (vals : Nat → Value) (w1 : World), Below w.heap.size w w1 → (IsV (.bool true)) (vals 12) w1 → Q .normal (putD vals [18, 19, 20, 21, 22, 23, 24, 25, 26, 27, 28, 29, 30] 0 a0) w1) :
    (Code.region 4 (regIn Tryd.f43 4) true).wp Tryd.prog Q a0 w := by
  refine region_by (G := fun w w1 => Below w.heap.size w w1) [IsV (.pointer (some ⟨H, 2, none⟩)),
    IsV (.bool true),
    IsV (.bool true),
    IsV undef,
    IsV undef,
    IsV undef,
    IsV undef,
    IsV undef,
    IsV undef,
    IsV undef,
    IsV undef,
    IsV undef,
    IsV (.bool true)]
    [18, 19, 20, 21, 22, 23, 24, 25, 26, 27, 28, 29, 30] (by kernel_rfl) (Gw.drew _) Gw.trans (by rw [hsz]; kernel_rfl) (by kernel_rfl) ?_ ?_ ?_
  · intro f hf
    simp only [List.mem_cons, List.not_mem_nil, or_false] at hf
    rcases hf with rfl | rfl | rfl | rfl | rfl | rfl | rfl | rfl | rfl | rfl | rfl | rfl | rfl <;> intro v a b h g <;> first | exact IsV.mono h
  · refine ⟨?_, ?_, ?_, ?_, ?_, ?_, ?_, ?_, ?_, ?_, ?_, ?_, ?_, trivial⟩
    · refine owes_v (Go.Op.fieldAddr 60 (Go.Operand.tmp 6) 2) 0 [] (by kernel_rfl) (by kernel_rfl) (by kernel_rfl) rfl fun vals w1 ρ hG hF hρ hcst hfun => ?_
      have e6 : ρ (.tmp 6) = .pointer (some ⟨H, 0, none⟩) := ((hρ 6).trans (slotO [] (by kernel_rfl))).trans sl6
      clear hρ hF hcst hfun sl6 fin
      exact opv_val (by go_simp <;> rfl) ⟨gw_self _, rfl⟩
    · refine owes_v (Go.Op.load 4 (Go.Operand.tmp 18)) 4 [0] (by kernel_rfl) (by kernel_rfl) (by kernel_rfl) rfl fun vals w1 ρ hG hF hρ hcst hfun => ?_
      have e18 : ρ (.tmp 18) = .pointer (some ⟨H, 2, none⟩) := ((hρ 18).trans (slotJ [0] (by rw [hsz]; decide) (by kernel_rfl))).trans (hF 0 (by decide))
      have k := ((hk.below hG hk.lt).four).2.2.1
      clear hρ hF hcst hfun sl6 fin
      exact opv_val (by go_simp <;> rfl) ⟨gw_self _, rfl⟩
    · exact owes_mvj 1 19 (by kernel_rfl) (by kernel_rfl) (by kernel_rfl) (by kernel_rfl) (by rw [hsz]; decide) (fun v w h => h)
    · exact owes_no 2 true false (by decide) (by kernel_rfl) (by kernel_rfl) (fun _ _ h => h) (by rw [hsz]; kernel_rfl) (fun _ => rfl)
    · exact owes_no 2 true false (by decide) (by kernel_rfl) (by kernel_rfl) (fun _ _ h => h) (by rw [hsz]; kernel_rfl) (fun _ => rfl)
    · exact owes_no 2 true false (by decide) (by kernel_rfl) (by kernel_rfl) (fun _ _ h => h) (by rw [hsz]; kernel_rfl) (fun _ => rfl)
    · exact owes_no 2 true false (by decide) (by kernel_rfl) (by kernel_rfl) (fun _ _ h => h) (by rw [hsz]; kernel_rfl) (fun _ => rfl)
    · exact owes_no 2 true false (by decide) (by kernel_rfl) (by kernel_rfl) (fun _ _ h => h) (by rw [hsz]; kernel_rfl) (fun _ => rfl)
    · exact owes_no 2 true false (by decide) (by kernel_rfl) (by kernel_rfl) (fun _ _ h => h) (by rw [hsz]; kernel_rfl) (fun _ => rfl)
    · exact owes_no 2 true false (by decide) (by kernel_rfl) (by kernel_rfl) (fun _ _ h => h) (by rw [hsz]; kernel_rfl) (fun _ => rfl)
    · exact owes_no 2 true false (by decide) (by kernel_rfl) (by kernel_rfl) (fun _ _ h => h) (by rw [hsz]; kernel_rfl) (fun _ => rfl)
    · exact owes_no 2 true false (by decide) (by kernel_rfl) (by kernel_rfl) (fun _ _ h => h) (by rw [hsz]; kernel_rfl) (fun _ => rfl)
    · refine owes_v (Go.Op.pick (Go.Operand.tmp 20) (Go.Operand.const (Go.Value.bool true)) (Go.Operand.tmp 29)) 4 [2, 11] (by kernel_rfl) (by kernel_rfl) (by kernel_rfl) rfl fun vals w1 ρ hG hF hρ hcst hfun => ?_
      have e20 : ρ (.tmp 20) = .bool true := ((hρ 20).trans (slotJ [2, 11] (by rw [hsz]; decide) (by kernel_rfl))).trans (hF 2 (by decide))
      have e29 : ρ (.tmp 29) = undef := ((hρ 29).trans (slotJ [2, 11] (by rw [hsz]; decide) (by kernel_rfl))).trans (hF 11 (by decide))
      clear hρ hF hfun sl6 fin
      exact opv_val (by go_simp <;> rfl) ⟨gw_self _, rfl⟩
  · intro vals w1 hG hF
    exact fin vals w1 hG (hF 12 (by decide +kernel))
theorem lk_s (Q : Exit → Act → World → Prop) (a0 : Act) (w : World) (H s a top room sz : Nat) (p b t : Int) (r : Bool) (hk : Bk w H 60 #[.int .i64 p, .int .i64 b, .bool false, .int .i64 t]) (hs : s < w.heap.size) (ct : w.cell? ⟨s, 2, none⟩ = some (.int .i64 top)) (hz : sizeH p b false t = (sz : Int)) (d1 : (top : Int) - (a : Int) = (room : Int)) (d2 : (room : Int) ≤ 100000) (d3 : (0 : Int) ≤ (room : Int)) (hr : decide (room < sz) = r) (hsz : a0.tmps.size = 33) (sl0 : a0.tmps.getD 0 undef = .pointer (some ⟨s, 0, none⟩)) (sl1 : a0.tmps.getD 1 undef = .int .i64 a) (sl6 : a0.tmps.getD 6 undef = .pointer (some ⟨H, 0, none⟩))
    (fin : ∀ (vals : Nat → Value) (w1 : World), Below w.heap.size w w1 → (IsV (.bool r)) (vals 12) w1 → Q .normal (putD vals [18, 19, 20, 21, 22, 23, 24, 25, 26, 27, 28, 29, 30] 0 a0) w1) :
    (Code.region 4 (regIn Tryd.f43 4) true).wp Tryd.prog Q a0 w := by
  refine region_by (G := fun w w1 => Below w.heap.size w w1) [IsV (.pointer (some ⟨H, 2, none⟩)),
    IsV (.bool false),
    IsV (.bool false),
    IsV (.agg #[.int .i64 p, .int .i64 b, .bool false, .int .i64 t]),
    IsV (.int .i64 sz),
    IsV (.pointer (some ⟨s, 0, none⟩)),
    IsV (.pointer (some ⟨s, 0, none⟩)),
    IsV (.pointer (some ⟨s, 2, none⟩)),
    IsV (.int .i64 top),
    IsV (.int .i64 a),
    IsV (.int .i64 room),
    IsV (.bool r),
    IsV (.bool r)]
    [18, 19, 20, 21, 22, 23, 24, 25, 26, 27, 28, 29, 30] (by kernel_rfl) (Gw.drew _) Gw.trans (by rw [hsz]; kernel_rfl) (by kernel_rfl) ?_ ?_ ?_
  · intro f hf
    simp only [List.mem_cons, List.not_mem_nil, or_false] at hf
    rcases hf with rfl | rfl | rfl | rfl | rfl | rfl | rfl | rfl | rfl | rfl | rfl | rfl | rfl <;> intro v a b h g <;> first | exact IsV.mono h
  · refine ⟨?_, ?_, ?_, ?_, ?_, ?_, ?_, ?_, ?_, ?_, ?_, ?_, ?_, trivial⟩
    · refine owes_v (Go.Op.fieldAddr 60 (Go.Operand.tmp 6) 2) 0 [] (by kernel_rfl) (by kernel_rfl) (by kernel_rfl) rfl fun vals w1 ρ hG hF hρ hcst hfun => ?_
      have e6 : ρ (.tmp 6) = .pointer (some ⟨H, 0, none⟩) := ((hρ 6).trans (slotO [] (by kernel_rfl))).trans sl6
      clear hρ hF hcst hfun sl0 sl1 sl6 fin
      exact opv_val (by go_simp <;> rfl) ⟨gw_self _, rfl⟩
    · refine owes_v (Go.Op.load 4 (Go.Operand.tmp 18)) 4 [0] (by kernel_rfl) (by kernel_rfl) (by kernel_rfl) rfl fun vals w1 ρ hG hF hρ hcst hfun => ?_
      have e18 : ρ (.tmp 18) = .pointer (some ⟨H, 2, none⟩) := ((hρ 18).trans (slotJ [0] (by rw [hsz]; decide) (by kernel_rfl))).trans (hF 0 (by decide))
      have k := ((hk.below hG hk.lt).four).2.2.1
      clear hρ hF hcst hfun sl0 sl1 sl6 fin
      exact opv_val (by go_simp <;> rfl) ⟨gw_self _, rfl⟩
    · exact owes_mvj 1 19 (by kernel_rfl) (by kernel_rfl) (by kernel_rfl) (by kernel_rfl) (by rw [hsz]; decide) (fun v w h => h)
    · refine owes_vt 2 false (Go.Op.load 60 (Go.Operand.tmp 6)) 60 [] (by kernel_rfl) (by kernel_rfl) (by kernel_rfl) (fun _ _ h => h) (by rw [hsz]; kernel_rfl) (by kernel_rfl) rfl fun vals w1 ρ hG hF hρ hcst hfun => ?_
      have e6 : ρ (.tmp 6) = .pointer (some ⟨H, 0, none⟩) := ((hρ 6).trans (slotO [] (by kernel_rfl))).trans sl6
      obtain ⟨k1, k2, k3, k4⟩ := (hk.below hG hk.lt).four
      clear hρ hF hcst hfun sl0 sl1 sl6 fin
      exact opv_val (by go_simp <;> rfl) ⟨gw_self _, rfl⟩
    · refine owes_vt 2 false (Go.Op.call { callee := Go.Callee.value (Go.Operand.func 60), args := #[Go.Operand.tmp 21], argTypes := #[60] }) 3 [3] (by kernel_rfl) (by kernel_rfl) (by kernel_rfl) (fun _ _ h => h) (by rw [hsz]; kernel_rfl) (by kernel_rfl) rfl fun vals w1 ρ hG hF hρ hcst hfun => ?_
      have e21 : ρ (.tmp 21) = .agg #[.int .i64 p, .int .i64 b, .bool false, .int .i64 t] := ((hρ 21).trans (slotJ [3] (by rw [hsz]; decide) (by kernel_rfl))).trans (hF 3 (by decide))
      have kz := size_c p b false t w1
      rw [hz] at kz
      clear hρ hF hcst sl0 sl1 sl6 fin
      exact opv_enter (by go_simp <;> rfl) (of_rp kz)
    · refine owes_vt 2 false (Go.Op.move (Go.Operand.tmp 0)) 25 [] (by kernel_rfl) (by kernel_rfl) (by kernel_rfl) (fun _ _ h => h) (by rw [hsz]; kernel_rfl) (by kernel_rfl) rfl fun vals w1 ρ hG hF hρ hcst hfun => ?_
      have e0 : ρ (.tmp 0) = .pointer (some ⟨s, 0, none⟩) := ((hρ 0).trans (slotO [] (by kernel_rfl))).trans sl0
      clear hρ hF hcst hfun sl0 sl1 sl6 fin
      exact opv_val (by go_simp <;> rfl) ⟨gw_self _, rfl⟩
    · refine owes_vt 2 false (Go.Op.nilCheck (Go.Operand.tmp 23)) 0 [5] (by kernel_rfl) (by kernel_rfl) (by kernel_rfl) (fun _ _ h => h) (by rw [hsz]; kernel_rfl) (by kernel_rfl) rfl fun vals w1 ρ hG hF hρ hcst hfun => ?_
      have e23 : ρ (.tmp 23) = .pointer (some ⟨s, 0, none⟩) := ((hρ 23).trans (slotJ [5] (by rw [hsz]; decide) (by kernel_rfl))).trans (hF 5 (by decide))
      clear hρ hF hcst hfun sl0 sl1 sl6 fin
      exact opv_val (by go_simp <;> rfl) ⟨gw_self _, rfl⟩
    · refine owes_vt 2 false (Go.Op.fieldAddr 65 (Go.Operand.tmp 24) 2) 0 [6] (by kernel_rfl) (by kernel_rfl) (by kernel_rfl) (fun _ _ h => h) (by rw [hsz]; kernel_rfl) (by kernel_rfl) rfl fun vals w1 ρ hG hF hρ hcst hfun => ?_
      have e24 : ρ (.tmp 24) = .pointer (some ⟨s, 0, none⟩) := ((hρ 24).trans (slotJ [6] (by rw [hsz]; decide) (by kernel_rfl))).trans (hF 6 (by decide))
      clear hρ hF hcst hfun sl0 sl1 sl6 fin
      exact opv_val (by go_simp <;> rfl) ⟨gw_self _, rfl⟩
    · refine owes_vt 2 false (Go.Op.load 3 (Go.Operand.tmp 25)) 3 [7] (by kernel_rfl) (by kernel_rfl) (by kernel_rfl) (fun _ _ h => h) (by rw [hsz]; kernel_rfl) (by kernel_rfl) rfl fun vals w1 ρ hG hF hρ hcst hfun => ?_
      have e25 : ρ (.tmp 25) = .pointer (some ⟨s, 2, none⟩) := ((hρ 25).trans (slotJ [7] (by rw [hsz]; decide) (by kernel_rfl))).trans (hF 7 (by decide))
      have k := (hG.cell (p := ⟨s, 2, none⟩) hs).trans ct
      clear hρ hF hcst hfun sl0 sl1 sl6 fin
      exact opv_val (by go_simp <;> rfl) ⟨gw_self _, rfl⟩
    · refine owes_vt 2 false (Go.Op.move (Go.Operand.tmp 1)) 3 [] (by kernel_rfl) (by kernel_rfl) (by kernel_rfl) (fun _ _ h => h) (by rw [hsz]; kernel_rfl) (by kernel_rfl) rfl fun vals w1 ρ hG hF hρ hcst hfun => ?_
      have e1 : ρ (.tmp 1) = .int .i64 a := ((hρ 1).trans (slotO [] (by kernel_rfl))).trans sl1
      clear hρ hF hcst hfun sl0 sl1 sl6 fin
      exact opv_val (by go_simp <;> rfl) ⟨gw_self _, rfl⟩
    · refine owes_vt 2 false (Go.Op.binOp Go.BinOp.sub 3 (Go.Operand.tmp 26) (Go.Operand.tmp 27) 3) 3 [8, 9] (by kernel_rfl) (by kernel_rfl) (by kernel_rfl) (fun _ _ h => h) (by rw [hsz]; kernel_rfl) (by kernel_rfl) rfl fun vals w1 ρ hG hF hρ hcst hfun => ?_
      have e26 : ρ (.tmp 26) = .int .i64 top := ((hρ 26).trans (slotJ [8, 9] (by rw [hsz]; decide) (by kernel_rfl))).trans (hF 8 (by decide))
      have e27 : ρ (.tmp 27) = .int .i64 a := ((hρ 27).trans (slotJ [8, 9] (by rw [hsz]; decide) (by kernel_rfl))).trans (hF 9 (by decide))
      have kw0 : IntKind.i64.wrap ((room : Int)) = (room : Int) := wrapIn (by omega) (by omega)
      clear hρ hF hcst hfun sl0 sl1 sl6 fin
      exact opv_val (by go_simp <;> rfl) ⟨gw_self _, rfl⟩
    · refine owes_vt 2 false (Go.Op.binOp Go.BinOp.gtr 3 (Go.Operand.tmp 22) (Go.Operand.tmp 28) 3) 4 [4, 10] (by kernel_rfl) (by kernel_rfl) (by kernel_rfl) (fun _ _ h => h) (by rw [hsz]; kernel_rfl) (by kernel_rfl) rfl fun vals w1 ρ hG hF hρ hcst hfun => ?_
      have e22 : ρ (.tmp 22) = .int .i64 sz := ((hρ 22).trans (slotJ [4, 10] (by rw [hsz]; decide) (by kernel_rfl))).trans (hF 4 (by decide))
      have e28 : ρ (.tmp 28) = .int .i64 room := ((hρ 28).trans (slotJ [4, 10] (by rw [hsz]; decide) (by kernel_rfl))).trans (hF 10 (by decide))
      clear hρ hF hcst hfun sl0 sl1 sl6 fin
      exact opv_val (by go_simp <;> first | rfl | exact hr | rw [hr]) ⟨gw_self _, rfl⟩
    · refine owes_v (Go.Op.pick (Go.Operand.tmp 20) (Go.Operand.const (Go.Value.bool true)) (Go.Operand.tmp 29)) 4 [2, 11] (by kernel_rfl) (by kernel_rfl) (by kernel_rfl) rfl fun vals w1 ρ hG hF hρ hcst hfun => ?_
      have e20 : ρ (.tmp 20) = .bool false := ((hρ 20).trans (slotJ [2, 11] (by rw [hsz]; decide) (by kernel_rfl))).trans (hF 2 (by decide))
      have e29 : ρ (.tmp 29) = .bool r := ((hρ 29).trans (slotJ [2, 11] (by rw [hsz]; decide) (by kernel_rfl))).trans (hF 11 (by decide))
      clear hρ hF hfun sl0 sl1 sl6 fin
      exact opv_val (by go_simp <;> rfl) ⟨gw_self _, rfl⟩
  · intro vals w1 hG hF
    exact fin vals w1 hG (hF 12 (by decide +kernel))
theorem head_set {W : World} {g : Nat} {a b c d a' b' c' d' : Value} (h : Bk W g 60 #[a, b, c, d]) : Bk ((((W.setCell ⟨g, 0, none⟩ a').setCell ⟨g, 1, none⟩ b').setCell ⟨g, 2, none⟩ c').setCell ⟨g, 3, none⟩ d') g 60 #[a', b', c', d'] := by
  have k := (((h.set 0 a').set 1 b').set 2 c').set 3 d'
  simpa using k
theorem head_below {W w : World} {B g : Nat} {a' b' c' d' : Value} (h : Below B w W) (hg : B ≤ g) : Below B w ((((W.setCell ⟨g, 0, none⟩ a').setCell ⟨g, 1, none⟩ b').setCell ⟨g, 2, none⟩ c').setCell ⟨g, 3, none⟩ d') :=
  (((h.setCell (p := ⟨g, 0, none⟩) hg _).setCell (p := ⟨g, 1, none⟩) hg _).setCell (p := ⟨g, 2, none⟩) hg _).setCell (p := ⟨g, 3, none⟩) hg _
theorem look_res {tmps : Array Value} {W : World} {g : Nat} {a b c d y : Value} (hb : Bk W g 60 #[a, b, c, d]) (h2 : tmps.getD 4 undef = .pointer (some ⟨g, 0, none⟩)) (h3 : tmps.getD 5 undef = y) :
    (results Tryd.f43 tmps).run Tryd.prog W = .ok (.tuple #[.agg #[a, b, c, d], y]) W := by
  have hl := run_loadVar_row (P := Tryd.prog) W g 60 60 #[a, b, c, d] (0, 0) _ hb Tryd.underlying60 rfl (by kernel_rfl)
  have h2' : tmps[4]?.getD undef = .pointer (some ⟨g, 0, none⟩) := by simpa using h2
  have h3' : tmps[5]?.getD undef = y := by simpa using h3
  simp [results, Tryd.results43, h2', h3', asAddr, hl]
theorem look_ok (w : World) (B s g : Nat) (v : Value) (ws : List (BitVec 64)) (b t e : Nat) (p : SpAt w B s g v ws b t e) (hl : ws.length ≤ 100000) (i : Nat) (hi1 : b ≤ i) (hi2 : i < t) (hg : goodX (ws.getD i 0#64) (t - i) = true) :
    Calls Tryd.prog 43 #[.pointer (some ⟨s, 0, none⟩), .int .i64 i] w (RetP (.tuple #[.agg #[.int .i64 (P0 (ws.getD i 0#64) : Int), .int .i64 (B0 (ws.getD i 0#64) : Int), .bool false, .int .i64 0], .int .i64 0]) w) := by
  have hb := Gw.alloc w (.cells #[.int .i64 0, .int .i64 0, .bool false, .int .i64 0] 60)
  have hp := p.below hb
  have hiw : i < ws.length := by have := p.te; have := p.el; omega
  have HH := Lib.hid (sphead_in _ B s g v ws b t e hp i hi1 hi2 hl hiw)
  obtain ⟨x, hx⟩ : ∃ x, x = ws.getD i 0#64 := ⟨_, rfl⟩
  have hgx : ws[i] = x := by rw [hx, List.getD_eq_getElem?_getD, List.getElem?_eq_getElem hiw]; rfl
  rw [hgx] at HH
  rw [← hx] at hg ⊢
  obtain ⟨hv, hP, hN, hsz, hsh, hroom⟩ := head_of hg
  rw [hv] at HH
  obtain ⟨P, hP'⟩ : ∃ P, P = P0 x := ⟨_, rfl⟩
  obtain ⟨N, hN'⟩ : ∃ N, N = B0 x := ⟨_, rfl⟩
  obtain ⟨Z, hZ'⟩ : ∃ N, N = szX x := ⟨_, rfl⟩
  rw [← hP', ← hN'] at HH hsh ⊢
  rw [← hZ'] at hsh hroom
  have HPt := Lib.hid hp
  have HK := Lib.hid (Bk.new w 60 #[.int .i64 0, .int .i64 0, .bool false, .int .i64 0])
  have HB := Lib.hid hb
  have HS := Lib.hid hsh
  have hrm : decide (t - i < Z) = false := by simp; omega
  have q2 : ((t - i : Nat) : Int) ≤ 100000 := by have := p.te; have := p.el; omega
  have q1 : (t : Int) - (i : Int) = ((t - i : Nat) : Int) := by omega
  obtain ⟨room, hroom'⟩ : ∃ r, r = t - i := ⟨_, rfl⟩
  rw [← hroom'] at hrm q1 q2
  have HQ := Lib.hid (And.intro hrm (And.intro q1 q2))
  clear p hb hp hx hgx hg hv hP hN hsz hsh hroom hP' hN' hZ' hrm q1 q2 hroom' hi1 hiw hl
  go_enter Tryd.func43, Tryd.ntmps43
  go_wp2_with fail
  refine Calls.mono HH.out ?_
  rintro r w2 ⟨rfl, b2⟩
  have hk2 := HK.out.below b2 HK.out.lt
  have HB2 := Lib.hid (HB.out.trans (b2.mono HB.out.size))
  have HP2 := Lib.hid (HPt.out.below b2)
  have hkl := hk2.lt
  have HK2 := Lib.hid hk2
  clear b2 hk2 HH
  go_wp2_with fail
  obtain ⟨w3, hw3⟩ : ∃ w3, w3 = w2.alloc (.cells #[.int .i64 P, .int .i64 N, .bool false, .int .i64 0] 60) := ⟨_, rfl⟩
  have hb3 : Below w2.heap.size w2 w3 := by rw [hw3]; exact Gw.alloc w2 _
  have hk3 : Bk w3 w2.heap.size 60 #[.int .i64 P, .int .i64 N, .bool false, .int .i64 0] := by rw [hw3]; exact Bk.new w2 _ _
  have HP3 := Lib.hid (HP2.out.below hb3)
  rw [← hw3]
  have HK3 := Lib.hid (HK2.out.below hb3 HK2.out.lt)
  have HB3 := Lib.hid (HB2.out.trans (hb3.mono HB2.out.size))
  clear hw3 hb3 hkl
  refine lk_s _ _ _ w2.heap.size s i t room Z _ _ _ false hk3 HP3.out.blk.lt HP3.out.four.2.2.1 HS.out HQ.out.2.1 HQ.out.2.2 (Int.natCast_nonneg _) HQ.out.1 rfl rfl rfl rfl ?_
  intro vals w4 hG h30
  unfold IsV at h30
  simp only [putD, Act.put, List.setIfInBounds_toArray, List.set_cons_zero, List.set_cons_succ, h30]
  have hk4 := hk3.below hG hk3.lt
  obtain ⟨d0, d1, d2, d3⟩ := hk4.four
  have hr4 := HK3.out.below hG HK3.out.lt
  have f0 := hr4.free 0
  have f1 := hr4.free 1
  have f2 := hr4.free 2
  have f3 := hr4.free 3
  obtain ⟨c0, c1, c2, c3⟩ := hr4.four
  have hkl := hr4.lt
  have HB4 := Lib.hid (HB3.out.trans (hG.mono HB3.out.size))
  have HR4 := Lib.hid hr4
  clear hG h30 hk3 hk4 hr4
  go_wp2_with fail
  exact bodyPost_ret (v := .tuple #[.agg #[.int .i64 P, .int .i64 N, .bool false, .int .i64 0], .int .i64 0]) (look_res (head_set HR4.out) rfl rfl) rfl ⟨rfl, head_below HB4.out (Nat.le_refl _)⟩
theorem look_out (w : World) (B s g : Nat) (v : Value) (ws : List (BitVec 64)) (b t e : Nat) (p : SpAt w B s g v ws b t e) (i : Int) (hi : i < (b : Int) ∨ (¬ i < (b : Int) ∧ (t : Int) ≤ i)) :
    Calls Tryd.prog 43 #[.pointer (some ⟨s, 0, none⟩), .int .i64 i] w (RetP (.tuple #[zH, .int .i64 1]) w) := by
  have hb := Gw.alloc w (.cells #[.int .i64 0, .int .i64 0, .bool false, .int .i64 0] 60)
  have HH := Lib.hid (sphead_out _ B s g v ws b t e (p.below hb) i hi)
  have HK := Lib.hid (Bk.new w 60 #[.int .i64 0, .int .i64 0, .bool false, .int .i64 0])
  have HB := Lib.hid hb
  clear p hb hi
  unfold zH
  go_enter Tryd.func43, Tryd.ntmps43
  go_wp2_with fail
  refine Calls.mono HH.out ?_
  rintro r w2 ⟨rfl, b2⟩
  have hk2 := (HK.out.below b2 HK.out.lt).alloc (.cells #[.int .i64 0, .int .i64 0, .bool false, .int .i64 0] 60)
  have f0 := hk2.free 0
  have f1 := hk2.free 1
  have f2 := hk2.free 2
  have f3 := hk2.free 3
  obtain ⟨c0, c1, c2, c3⟩ := hk2.four
  have hkl := hk2.lt
  have HB2 := Lib.hid ((HB.out.trans (b2.mono HB.out.size)).alloc (Nat.le_trans HB.out.size b2.size) (.cells #[.int .i64 0, .int .i64 0, .bool false, .int .i64 0] 60))
  have HR := Lib.hid hk2
  clear b2 hk2 HH
  go_wp2_with fail
  exact bodyPost_ret (v := .tuple #[.agg #[.int .i64 0, .int .i64 0, .bool false, .int .i64 0], .int .i64 1]) (look_res (head_set HR.out) rfl rfl) rfl ⟨rfl, head_below HB2.out (Nat.le_refl _)⟩
/-- No object stands there whole. -/
theorem look_bad (w : World) (B s g : Nat) (v : Value) (ws : List (BitVec 64)) (b t e : Nat) (p : SpAt w B s g v ws b t e) (hl : ws.length ≤ 100000) (i : Nat) (hi1 : b ≤ i) (hi2 : i < t) (hg : goodX (ws.getD i 0#64) (t - i) = false) :
    Calls Tryd.prog 43 #[.pointer (some ⟨s, 0, none⟩), .int .i64 i] w (RetP (.tuple #[zH, .int .i64 2]) w) := by
  have hb := Gw.alloc w (.cells #[.int .i64 0, .int .i64 0, .bool false, .int .i64 0] 60)
  have hp := p.below hb
  have hiw : i < ws.length := by have := p.te; have := p.el; omega
  have HH := Lib.hid (sphead_in _ B s g v ws b t e hp i hi1 hi2 hl hiw)
  obtain ⟨x, hx⟩ : ∃ x, x = ws.getD i 0#64 := ⟨_, rfl⟩
  have hgx : ws[i] = x := by rw [hx, List.getD_eq_getElem?_getD, List.getElem?_eq_getElem hiw]; rfl
  rw [hgx] at HH
  rw [← hx] at hg
  have HPt := Lib.hid hp
  have HK := Lib.hid (Bk.new w 60 #[.int .i64 0, .int .i64 0, .bool false, .int .i64 0])
  have HB := Lib.hid hb
  have HQ := Lib.hid (show ((t - i : Nat) : Int) ≤ 100000 ∧ (t : Int) - (i : Int) = ((t - i : Nat) : Int) from by have := p.te; have := p.el; omega)
  clear p hb hp hx hgx hi1 hiw hl
  unfold zH
  cases hok : okU x with
  | false =>
    rw [unV_bad hok] at HH
    clear hok hg
    go_enter Tryd.func43, Tryd.ntmps43
    go_wp2_with fail
    refine Calls.mono HH.out ?_
    rintro r w2 ⟨rfl, b2⟩
    have hk2 := (HK.out.below b2 HK.out.lt).alloc (.cells #[.int .i64 0, .int .i64 0, .bool false, .int .i64 0] 60)
    have f0 := hk2.free 0
    have f1 := hk2.free 1
    have f2 := hk2.free 2
    have f3 := hk2.free 3
    obtain ⟨c0, c1, c2, c3⟩ := hk2.four
    have hkl := hk2.lt
    have HB2 := Lib.hid ((HB.out.trans (b2.mono HB.out.size)).alloc (Nat.le_trans HB.out.size b2.size) (.cells #[.int .i64 0, .int .i64 0, .bool false, .int .i64 0] 60))
    have HR := Lib.hid hk2
    clear b2 hk2 HH
    go_wp2_with fail
    exact bodyPost_ret (v := .tuple #[.agg #[.int .i64 0, .int .i64 0, .bool false, .int .i64 0], .int .i64 2]) (look_res (head_set HR.out) rfl rfl) rfl ⟨rfl, head_below HB2.out (Nat.le_refl _)⟩
  | true =>
    have hv := unV_yes hok
    obtain ⟨F, hF⟩ : ∃ F, F = fP x := ⟨_, rfl⟩
    obtain ⟨G, hG⟩ : ∃ F, F = fB x := ⟨_, rfl⟩
    obtain ⟨T, hT⟩ : ∃ F, F = fT x := ⟨_, rfl⟩
    cases hm : fM x with
    | true =>
      rw [hm, ← hF, ← hG, ← hT] at hv
      rw [hv] at HH
      clear hv hF hG hT hm hok hg
      go_enter Tryd.func43, Tryd.ntmps43
      go_wp2_with fail
      refine Calls.mono HH.out ?_
      rintro r w2 ⟨rfl, b2⟩
      have HK2 := Lib.hid (HK.out.below b2 HK.out.lt)
      have HB2 := Lib.hid (HB.out.trans (b2.mono HB.out.size))
      have hkl := HK2.out.lt
      clear b2 HH
      go_wp2_with fail
      obtain ⟨w3, hw3⟩ : ∃ w3, w3 = w2.alloc (.cells #[.int .i64 F, .int .i64 G, .bool true, .int .i64 T] 60) := ⟨_, rfl⟩
      have hb3 : Below w2.heap.size w2 w3 := by rw [hw3]; exact Gw.alloc w2 _
      have hk3 : Bk w3 w2.heap.size 60 #[.int .i64 F, .int .i64 G, .bool true, .int .i64 T] := by rw [hw3]; exact Bk.new w2 _ _
      rw [← hw3]
      have HK3 := Lib.hid (HK2.out.below hb3 HK2.out.lt)
      have HB3 := Lib.hid (HB2.out.trans (hb3.mono HB2.out.size))
      clear hw3 hb3 hkl
      refine lk_m _ _ _ w2.heap.size _ _ _ hk3 rfl rfl ?_
      intro vals w4 hG h30
      unfold IsV at h30
      simp only [putD, Act.put, List.setIfInBounds_toArray, List.set_cons_zero, List.set_cons_succ, h30]
      have hr4 := HK3.out.below hG HK3.out.lt
      have f0 := hr4.free 0
      have f1 := hr4.free 1
      have f2 := hr4.free 2
      have f3 := hr4.free 3
      obtain ⟨c0, c1, c2, c3⟩ := hr4.four
      have hkl := hr4.lt
      have HB4 := Lib.hid (HB3.out.trans (hG.mono HB3.out.size))
      have HR4 := Lib.hid hr4
      clear hG h30 hk3 hr4
      go_wp2_with fail
      exact bodyPost_ret (v := .tuple #[.agg #[.int .i64 0, .int .i64 0, .bool false, .int .i64 0], .int .i64 2]) (look_res (head_set HR4.out) rfl rfl) rfl ⟨rfl, head_below HB4.out (Nat.le_refl _)⟩
    | false =>
      have hsz := szX_pos hok hm
      obtain ⟨Z, hZ⟩ : ∃ Z, Z = szX x := ⟨_, rfl⟩
      rw [← hF, ← hG, ← hT, ← hZ] at hsz
      have HS := Lib.hid hsz.1
      have hrm : decide (t - i < Z) = true := by
        unfold goodX at hg
        rw [hok, hm, ← hZ] at hg
        simp at hg
        simp; omega
      obtain ⟨room, hroom'⟩ : ∃ r, r = t - i := ⟨_, rfl⟩
      rw [← hroom'] at hrm HQ
      have HR := Lib.hid hrm
      rw [hm, ← hF, ← hG, ← hT] at hv
      rw [hv] at HH
      clear hv hF hG hT hm hok hg hsz hZ hrm hroom'
      go_enter Tryd.func43, Tryd.ntmps43
      go_wp2_with fail
      refine Calls.mono HH.out ?_
      rintro r w2 ⟨rfl, b2⟩
      have HK2 := Lib.hid (HK.out.below b2 HK.out.lt)
      have HB2 := Lib.hid (HB.out.trans (b2.mono HB.out.size))
      have HP2 := Lib.hid (HPt.out.below b2)
      have hkl := HK2.out.lt
      clear b2 HH
      go_wp2_with fail
      obtain ⟨w3, hw3⟩ : ∃ w3, w3 = w2.alloc (.cells #[.int .i64 F, .int .i64 G, .bool false, .int .i64 T] 60) := ⟨_, rfl⟩
      have hb3 : Below w2.heap.size w2 w3 := by rw [hw3]; exact Gw.alloc w2 _
      have hk3 : Bk w3 w2.heap.size 60 #[.int .i64 F, .int .i64 G, .bool false, .int .i64 T] := by rw [hw3]; exact Bk.new w2 _ _
      have HP3 := Lib.hid (HP2.out.below hb3)
      rw [← hw3]
      have HK3 := Lib.hid (HK2.out.below hb3 HK2.out.lt)
      have HB3 := Lib.hid (HB2.out.trans (hb3.mono HB2.out.size))
      clear hw3 hb3 hkl
      refine lk_s _ _ _ w2.heap.size s i t room Z _ _ _ true hk3 HP3.out.blk.lt HP3.out.four.2.2.1 HS.out HQ.out.2 HQ.out.1 (Int.natCast_nonneg _) HR.out rfl rfl rfl rfl ?_
      intro vals w4 hG h30
      unfold IsV at h30
      simp only [putD, Act.put, List.setIfInBounds_toArray, List.set_cons_zero, List.set_cons_succ, h30]
      have hr4 := HK3.out.below hG HK3.out.lt
      have f0 := hr4.free 0
      have f1 := hr4.free 1
      have f2 := hr4.free 2
      have f3 := hr4.free 3
      obtain ⟨c0, c1, c2, c3⟩ := hr4.four
      have hkl := hr4.lt
      have HB4 := Lib.hid (HB3.out.trans (hG.mono HB3.out.size))
      have HR4 := Lib.hid hr4
      clear hG h30 hk3 hr4
      go_wp2_with fail
      exact bodyPost_ret (v := .tuple #[.agg #[.int .i64 0, .int .i64 0, .bool false, .int .i64 0], .int .i64 2]) (look_res (head_set HR4.out) rfl rfl) rfl ⟨rfl, head_below HB4.out (Nat.le_refl _)⟩
end Go.Proofs.YtfodefgihicafaaDoor
/- obj's pointer, place, inside, data. Conditions: lengths. -/
namespace Go.Proofs.YtfodefgihicafaaDoor
set_option linter.unusedVariables false
set_option linter.unusedSimpArgs false
open Go.RowKit
/-- What look answers of a place, as an error. -/
def lkE (ws : List (BitVec 64)) (b t : Nat) (a : Int) : Int := if (b : Int) ≤ a ∧ a < (t : Int) then (if goodX (ws.getD a.toNat 0#64) (t - a.toNat) = true then 0 else 2) else 1
theorem lkE_zero {ws : List (BitVec 64)} {b t : Nat} {a : Int} (h : lkE ws b t a = 0) : ∃ i : Nat, a = (i : Int) ∧ b ≤ i ∧ i < t ∧ goodX (ws.getD i 0#64) (t - i) = true := by
  unfold lkE at h
  by_cases c : (b : Int) ≤ a ∧ a < (t : Int)
  · rw [if_pos c] at h
    by_cases d : goodX (ws.getD a.toNat 0#64) (t - a.toNat) = true
    · exact ⟨a.toNat, by omega, by omega, by omega, d⟩
    · rw [if_neg d] at h; cases h
  · rw [if_neg c] at h; cases h
theorem look_err (w : World) (B s g : Nat) (v : Value) (ws : List (BitVec 64)) (b t e : Nat) (p : SpAt w B s g v ws b t e) (hl : ws.length ≤ 100000) (a : Int) (h : lkE ws b t a ≠ 0) :
    Calls Tryd.prog 43 #[.pointer (some ⟨s, 0, none⟩), .int .i64 a] w (RetP (.tuple #[zH, .int .i64 (lkE ws b t a)]) w) := by
  unfold lkE at h ⊢
  by_cases c : (b : Int) ≤ a ∧ a < (t : Int)
  · rw [if_pos c] at h ⊢
    obtain ⟨i, rfl⟩ : ∃ i : Nat, a = (i : Int) := ⟨a.toNat, by omega⟩
    rw [Int.toNat_natCast] at h ⊢
    by_cases d : goodX (ws.getD i 0#64) (t - i) = true
    · rw [if_pos d] at h; exact absurd rfl h
    · rw [if_neg d]
      exact look_bad w B s g v ws b t e p hl i (by omega) (by omega) (by simpa using d)
  · rw [if_neg c]
    exact look_out w B s g v ws b t e p a (by omega)
theorem lkE_two {ws : List (BitVec 64)} {b t : Nat} {a : Int} : lkE ws b t a = 0 ∨ lkE ws b t a = 1 ∨ lkE ws b t a = 2 := by
  unfold lkE
  split
  · split
    · exact .inl rfl
    · exact .inr (.inr rfl)
  · exact .inr (.inl rfl)
set_option maxHeartbeats 1000000
set_option maxRecDepth 100000
theorem ptr_err (w : World) (B s g : Nat) (v : Value) (ws : List (BitVec 64)) (b t e : Nat) (p : SpAt w B s g v ws b t e) (hl : ws.length ≤ 100000) (a i : Int) (h : lkE ws b t a ≠ 0) :
    Calls Tryd.prog 27 #[.pointer (some ⟨s, 0, none⟩), .int .i64 a, .int .i64 i] w (RetP (.tuple #[.int .i64 0, .int .i64 (lkE ws b t a)]) w) := by
  have HL := Lib.hid (look_err w B s g v ws b t e p hl a h)
  obtain ⟨E, hE⟩ : ∃ E, E = lkE ws b t a := ⟨_, rfl⟩
  rw [← hE] at HL h ⊢
  unfold zH at HL
  have h1 : (E == 0) = false := by simpa using h
  have h2 : (E != 0) = true := by simpa using h
  clear hE p hl h
  go_enter Tryd.func27, Tryd.ntmps27
  go_wp2_with fail
  refine Calls.mono HL.out ?_
  rintro r w2 ⟨rfl, b2⟩
  have HB := Lib.hid b2
  clear b2 HL
  go_wp2_with fail
  go_ret2
  exact ⟨rfl, HB.out.trans ((Gw.alloc w2 _).mono HB.out.size)⟩
theorem ptr_no (w : World) (B s g : Nat) (v : Value) (ws : List (BitVec 64)) (b t e : Nat) (p : SpAt w B s g v ws b t e) (hl : ws.length ≤ 100000) (a : Nat) (i : Int) (h1 : b ≤ a) (h2 : a < t) (hg : goodX (ws.getD a 0#64) (t - a) = true) (hi : i < 0 ∨ (0 ≤ i ∧ (P0 (ws.getD a 0#64) : Int) ≤ i)) :
    Calls Tryd.prog 27 #[.pointer (some ⟨s, 0, none⟩), .int .i64 a, .int .i64 i] w (RetP (.tuple #[.int .i64 0, .int .i64 1]) w) := by
  have HL := Lib.hid (look_ok w B s g v ws b t e p hl a h1 h2 hg)
  obtain ⟨P, hP⟩ : ∃ P, P = P0 (ws.getD a 0#64) := ⟨_, rfl⟩
  obtain ⟨N, hN⟩ : ∃ P, P = B0 (ws.getD a 0#64) := ⟨_, rfl⟩
  rw [← hP, ← hN] at HL
  rw [← hP] at hi
  clear hP hN p hl h1 h2 hg
  rcases hi with hi | ⟨hi0, hi⟩
  all_goals
    go_enter Tryd.func27, Tryd.ntmps27
    go_wp2_with fail
    refine Calls.mono HL.out ?_
    rintro r w2 ⟨rfl, b2⟩
    have HB := Lib.hid b2
    clear b2
    go_wp2_with fail
    go_ret2
    exact ⟨rfl, HB.out.trans ((Gw.alloc w2 _).mono HB.out.size)⟩
theorem ptr_ok (w : World) (B s g : Nat) (v : Value) (ws : List (BitVec 64)) (b t e : Nat) (p : SpAt w B s g v ws b t e) (hl : ws.length ≤ 100000) (a k : Nat) (h1 : b ≤ a) (h2 : a < t) (hg : goodX (ws.getD a 0#64) (t - a) = true) (hk : k < P0 (ws.getD a 0#64)) :
    Calls Tryd.prog 27 #[.pointer (some ⟨s, 0, none⟩), .int .i64 a, .int .i64 k] w (RetP (.tuple #[.int .i64 ((a + 1 + k : Nat) : Int), .int .i64 0]) w) := by
  have HL := Lib.hid (look_ok w B s g v ws b t e p hl a h1 h2 hg)
  obtain ⟨P, hP⟩ : ∃ P, P = P0 (ws.getD a 0#64) := ⟨_, rfl⟩
  obtain ⟨N, hN⟩ : ∃ P, P = B0 (ws.getD a 0#64) := ⟨_, rfl⟩
  have hb := (head_of hg).2.1
  rw [← hP, ← hN] at HL
  rw [← hP] at hk hb
  have q1 : (a : Int) ≤ 100000 := by have := p.te; have := p.el; omega
  have q2 : (0 : Int) ≤ (a : Int) := by omega
  have q3 : (0 : Int) ≤ (k : Int) := by omega
  have q4 : (k : Int) < (P : Int) := by omega
  have q5 : (P : Int) ≤ 64 := by omega
  rw [show ((a + 1 + k : Nat) : Int) = (a : Int) + 1 + (k : Int) by omega]
  clear hP hN p hl h1 h2 hg hb
  go_enter Tryd.func27, Tryd.ntmps27
  go_wp2_with fail
  refine Calls.mono HL.out ?_
  rintro r w2 ⟨rfl, b2⟩
  have HB := Lib.hid b2
  clear b2
  go_wp2_with fail
  go_ret2
  exact ⟨rfl, HB.out.trans ((Gw.alloc w2 _).mono HB.out.size)⟩
theorem place_hi (w : World) (x : BitVec 64) (h : 8192 < U64 x) : Calls Tryd.prog 29 #[.int .u64 (U64 x)] w (RetP (.tuple #[.int .i64 0, .bool false]) w) := by
  go_enter Tryd.func29, Tryd.ntmps29
  go_wp2
  go_ret2
  exact ⟨rfl, (by repeat (first | with_reducible assumption | with_reducible exact Below.refl _ _ | with_reducible apply bdN | with_reducible apply Below.drew | with_reducible refine Below.alloc ?_ (by simp) _ | with_reducible refine Below.setCell ?_ (by simp) _))⟩
theorem place_lo (w : World) (n : Nat) (h : (n : Int) ≤ 8192) : Calls Tryd.prog 29 #[.int .u64 (n : Int)] w (RetP (.tuple #[.int .i64 ((n : Int) - 1), .bool true]) w) := by
  go_enter Tryd.func29, Tryd.ntmps29
  go_wp2
  go_ret2
  exact ⟨rfl, (by repeat (first | with_reducible assumption | with_reducible exact Below.refl _ _ | with_reducible apply bdN | with_reducible apply Below.drew | with_reducible refine Below.alloc ?_ (by simp) _ | with_reducible refine Below.setCell ?_ (by simp) _))⟩
def insB (b t : Nat) (a : Int) : Bool := decide ((b : Int) ≤ a ∧ a < (t : Int))
theorem inside_c (w : World) (B s g : Nat) (v : Value) (ws : List (BitVec 64)) (b t e : Nat) (p : SpAt w B s g v ws b t e) (a : Int) :
    Calls Tryd.prog 30 #[.pointer (some ⟨s, 0, none⟩), .int .i64 a] w (RetP (.bool (insB b t a)) w) := by
  obtain ⟨c0, c1, c2, c3⟩ := p.four
  unfold insB
  clear p
  by_cases h1 : (b : Int) ≤ a
  · by_cases h2 : a < (t : Int)
    · rw [show decide ((b : Int) ≤ a ∧ a < (t : Int)) = true by simp [h1, h2]]
      go_enter Tryd.func30, Tryd.ntmps30
      go_wp2
      go_ret
      exact ⟨by first | rfl | simp, (by repeat (first | with_reducible assumption | with_reducible exact Below.refl _ _ | with_reducible apply bdN | with_reducible apply Below.drew | with_reducible refine Below.alloc ?_ (by simp) _ | with_reducible refine Below.setCell ?_ (by simp) _))⟩
    · rw [show decide ((b : Int) ≤ a ∧ a < (t : Int)) = false by simp [h2]]
      go_enter Tryd.func30, Tryd.ntmps30
      go_wp2
      go_ret
      exact ⟨by first | rfl | simp, (by repeat (first | with_reducible assumption | with_reducible exact Below.refl _ _ | with_reducible apply bdN | with_reducible apply Below.drew | with_reducible refine Below.alloc ?_ (by simp) _ | with_reducible refine Below.setCell ?_ (by simp) _))⟩
  · rw [show decide ((b : Int) ≤ a ∧ a < (t : Int)) = false by simp [h1]]
    go_enter Tryd.func30, Tryd.ntmps30
    go_wp2
    go_ret
    exact ⟨by first | rfl | simp, (by repeat (first | with_reducible assumption | with_reducible exact Below.refl _ _ | with_reducible apply bdN | with_reducible apply Below.drew | with_reducible refine Below.alloc ?_ (by simp) _ | with_reducible refine Below.setCell ?_ (by simp) _))⟩
theorem data_err (w : World) (B s g : Nat) (v : Value) (ws : List (BitVec 64)) (b t e : Nat) (p : SpAt w B s g v ws b t e) (hl : ws.length ≤ 100000) (a i n : Int) (h : lkE ws b t a ≠ 0) :
    Calls Tryd.prog 34 #[.pointer (some ⟨s, 0, none⟩), .int .i64 a, .int .i64 i, .int .i64 n] w (RetP (.tuple #[.int .i64 0, .int .i64 (lkE ws b t a)]) w) := by
  have HL := Lib.hid (look_err w B s g v ws b t e p hl a h)
  obtain ⟨E, hE⟩ : ∃ E, E = lkE ws b t a := ⟨_, rfl⟩
  rw [← hE] at HL h ⊢
  unfold zH at HL
  have h1 : (E == 0) = false := by simpa using h
  have h2 : (E != 0) = true := by simpa using h
  clear hE p hl h
  go_enter Tryd.func34, Tryd.ntmps34
  go_wp2_with fail
  refine Calls.mono HL.out ?_
  rintro r w2 ⟨rfl, b2⟩
  have HB := Lib.hid b2
  clear b2 HL
  go_wp2_with fail
  go_ret2
  exact ⟨rfl, HB.out.trans ((Gw.alloc w2 _).mono HB.out.size)⟩
/-- Bytes that are not an object's. -/
def noD (N : Nat) (i n : Int) : Prop := i < 0 ∨ (0 ≤ i ∧ n < 0) ∨ (0 ≤ i ∧ 0 ≤ n ∧ (N : Int) < i) ∨ (0 ≤ i ∧ 0 ≤ n ∧ i ≤ (N : Int) ∧ (N : Int) - i < n)
theorem data_no (w : World) (B s g : Nat) (v : Value) (ws : List (BitVec 64)) (b t e : Nat) (p : SpAt w B s g v ws b t e) (hl : ws.length ≤ 100000) (a : Nat) (i n : Int) (h1 : b ≤ a) (h2 : a < t) (hg : goodX (ws.getD a 0#64) (t - a) = true) (hi : noD (B0 (ws.getD a 0#64)) i n) :
    Calls Tryd.prog 34 #[.pointer (some ⟨s, 0, none⟩), .int .i64 a, .int .i64 i, .int .i64 n] w (RetP (.tuple #[.int .i64 0, .int .i64 1]) w) := by
  have HL := Lib.hid (look_ok w B s g v ws b t e p hl a h1 h2 hg)
  obtain ⟨P, hP⟩ : ∃ P, P = P0 (ws.getD a 0#64) := ⟨_, rfl⟩
  obtain ⟨N, hN⟩ : ∃ P, P = B0 (ws.getD a 0#64) := ⟨_, rfl⟩
  have hb := (head_of hg).2.2.1
  rw [← hP, ← hN] at HL
  rw [← hN] at hi hb
  have q5 : (N : Int) ≤ 1024 := by omega
  clear hP hN p hl h1 h2 hg hb
  rcases hi with hi | ⟨hi, hi2⟩ | ⟨hi, hi2, hi3⟩ | ⟨hi, hi2, hi3, hi4⟩
  all_goals
    go_enter Tryd.func34, Tryd.ntmps34
    go_wp2_with fail
    refine Calls.mono HL.out ?_
    rintro r w2 ⟨rfl, b2⟩
    have HB := Lib.hid b2
    clear b2
    go_wp2_with fail
    go_ret2
    exact ⟨rfl, HB.out.trans ((Gw.alloc w2 _).mono HB.out.size)⟩
theorem data_ok (w : World) (B s g : Nat) (v : Value) (ws : List (BitVec 64)) (b t e : Nat) (p : SpAt w B s g v ws b t e) (hl : ws.length ≤ 100000) (a i n : Nat) (h1 : b ≤ a) (h2 : a < t) (hg : goodX (ws.getD a 0#64) (t - a) = true) (hi : i + n ≤ B0 (ws.getD a 0#64)) :
    Calls Tryd.prog 34 #[.pointer (some ⟨s, 0, none⟩), .int .i64 a, .int .i64 i, .int .i64 n] w (RetP (.tuple #[.int .i64 ((8 * (a + 1 + P0 (ws.getD a 0#64)) + i : Nat) : Int), .int .i64 0]) w) := by
  have HL := Lib.hid (look_ok w B s g v ws b t e p hl a h1 h2 hg)
  obtain ⟨P, hP⟩ : ∃ P, P = P0 (ws.getD a 0#64) := ⟨_, rfl⟩
  obtain ⟨N, hN⟩ : ∃ P, P = B0 (ws.getD a 0#64) := ⟨_, rfl⟩
  obtain ⟨_, hb1, hb2, _⟩ := head_of hg
  rw [← hP, ← hN] at HL
  rw [← hN] at hi hb2
  rw [← hP] at hb1 ⊢
  have q1 : (a : Int) ≤ 100000 := by have := p.te; have := p.el; omega
  have q2 : (0 : Int) ≤ (a : Int) := by omega
  have q3 : (0 : Int) ≤ (i : Int) := by omega
  have q4 : (0 : Int) ≤ (n : Int) := by omega
  have q5 : (N : Int) ≤ 1024 := by omega
  have q6 : (P : Int) ≤ 64 := by omega
  have q7 : (i : Int) ≤ (N : Int) := by omega
  have q8 : (n : Int) ≤ (N : Int) - (i : Int) := by omega
  have e0 : ((8 * (a + 1 + P) + i : Nat) : Int) = ((a : Int) + 1 + (P : Int)) * 8 + (i : Int) := by omega
  rw [e0]
  clear hP hN p hl h1 h2 hg hb1 hb2 hi e0
  go_enter Tryd.func34, Tryd.ntmps34
  go_wp2_with fail
  refine Calls.mono HL.out ?_
  rintro r w2 ⟨rfl, b2⟩
  have HB := Lib.hid b2
  clear b2
  go_wp2_with fail
  go_ret2
  exact ⟨rfl, HB.out.trans ((Gw.alloc w2 _).mono HB.out.size)⟩
end Go.Proofs.YtfodefgihicafaaDoor
/- obj.Ptr, SetPtr, Read, Write. Conditions: lengths. -/
namespace Go.Proofs.YtfodefgihicafaaDoor
set_option linter.unusedVariables false
set_option linter.unusedSimpArgs false
open Go.RowKit
theorem ofNat_U64 (n : Nat) (h : n < 2 ^ 64) : U64 (BitVec.ofNat 64 n) = (n : Int) := by
  unfold U64; rw [BitVec.toNat_ofNat, Nat.mod_eq_of_lt h]
/-- May a word be a pointer's? -/
def pokB (b t : Nat) (y : BitVec 64) : Bool := decide (y.toNat = 0 ∨ (b < y.toNat ∧ y.toNat ≤ t))
/-- What Ptr answers of a word that is a pointer's. -/
def ptV (b t : Nat) (y : BitVec 64) : Int := if pokB b t y = true then (y.toNat : Int) - 1 else 0
def ptE (b t : Nat) (y : BitVec 64) : Int := if pokB b t y = true then 0 else 2
theorem pt_yes {b t : Nat} {y : BitVec 64} (h : pokB b t y = true) : ptV b t y = (y.toNat : Int) - 1 ∧ ptE b t y = 0 := by unfold ptV ptE; rw [if_pos h, if_pos h]; exact ⟨rfl, rfl⟩
theorem pt_no {b t : Nat} {y : BitVec 64} (h : pokB b t y = false) : ptV b t y = 0 ∧ ptE b t y = 2 := by unfold ptV ptE; rw [if_neg (by rw [h]; simp), if_neg (by rw [h]; simp)]; exact ⟨rfl, rfl⟩
theorem word_in {ws : List (BitVec 64)} {b t e a k : Nat} {x : BitVec 64} (hx : goodX x (t - a) = true) (h2 : a < t) (hte : t ≤ e) (hel : e ≤ ws.length) (hk : k < P0 x) : a + 1 + k < ws.length ∧ a + 1 + k < t := by
  obtain ⟨_, _, _, h, _, h3⟩ := head_of hx
  omega
set_option maxHeartbeats 1000000
set_option maxRecDepth 100000
theorem Ptr_err (w : World) (B s g : Nat) (v : Value) (ws : List (BitVec 64)) (b t e : Nat) (p : SpAt w B s g v ws b t e) (hl : ws.length ≤ 100000) (a i : Int) (h : lkE ws b t a ≠ 0) :
    Calls Tryd.prog 9 #[.pointer (some ⟨s, 0, none⟩), .int .i64 a, .int .i64 i] w (RetP (.tuple #[.int .i64 0, .int .i64 (lkE ws b t a)]) w) := by
  have HL := Lib.hid (ptr_err w B s g v ws b t e p hl a i h)
  obtain ⟨E, hE⟩ : ∃ E, E = lkE ws b t a := ⟨_, rfl⟩
  rw [← hE] at HL h ⊢
  have h1 : (E == 0) = false := by simpa using h
  have h2 : (E != 0) = true := by simpa using h
  clear hE p hl h
  go_enter Tryd.func9, Tryd.ntmps9
  go_wp2_with fail
  refine Calls.mono HL.out ?_
  rintro r w2 ⟨rfl, b2⟩
  have HB := Lib.hid b2
  clear b2 HL
  go_wp2_with fail
  go_ret2
  exact ⟨rfl, HB.out⟩
theorem Ptr_no (w : World) (B s g : Nat) (v : Value) (ws : List (BitVec 64)) (b t e : Nat) (p : SpAt w B s g v ws b t e) (hl : ws.length ≤ 100000) (a : Nat) (i : Int) (h1 : b ≤ a) (h2 : a < t) (hg : goodX (ws.getD a 0#64) (t - a) = true) (hi : i < 0 ∨ (0 ≤ i ∧ (P0 (ws.getD a 0#64) : Int) ≤ i)) :
    Calls Tryd.prog 9 #[.pointer (some ⟨s, 0, none⟩), .int .i64 a, .int .i64 i] w (RetP (.tuple #[.int .i64 0, .int .i64 1]) w) := by
  have HL := Lib.hid (ptr_no w B s g v ws b t e p hl a i h1 h2 hg hi)
  clear p hl h1 h2 hg hi
  go_enter Tryd.func9, Tryd.ntmps9
  go_wp2_with fail
  refine Calls.mono HL.out ?_
  rintro r w2 ⟨rfl, b2⟩
  have HB := Lib.hid b2
  clear b2 HL
  go_wp2_with fail
  go_ret2
  exact ⟨rfl, HB.out⟩
theorem Ptr_c (w : World) (B s g : Nat) (v : Value) (ws : List (BitVec 64)) (b t e : Nat) (p : SpAt w B s g v ws b t e) (hl : ws.length ≤ 8192) (a k : Nat) (h1 : b ≤ a) (h2 : a < t) (hg : goodX (ws.getD a 0#64) (t - a) = true) (hk : k < P0 (ws.getD a 0#64)) :
    Calls Tryd.prog 9 #[.pointer (some ⟨s, 0, none⟩), .int .i64 a, .int .i64 k] w (RetP (.tuple #[.int .i64 (ptV b t (ws.getD (a + 1 + k) 0#64)), .int .i64 (ptE b t (ws.getD (a + 1 + k) 0#64))]) w) := by
  have HL := Lib.hid (ptr_ok w B s g v ws b t e p (by omega) a k h1 h2 hg hk)
  obtain ⟨hj, hjt⟩ := word_in (b := b) hg h2 p.te p.el hk
  obtain ⟨J, hJ⟩ : ∃ J, J = a + 1 + k := ⟨_, rfl⟩
  rw [← hJ] at HL hj ⊢
  obtain ⟨y, hy⟩ : ∃ y, y = ws.getD J 0#64 := ⟨_, rfl⟩
  have hgy : ws[J] = y := by rw [hy, List.getD_eq_getElem?_getD, List.getElem?_eq_getElem hj]; rfl
  have HGt := Lib.hid (fun W (hb : Below w.heap.size w W) => get_in W B g v ws J hj (by omega) (p.below hb).mem)
  rw [hgy] at HGt
  have HIn := Lib.hid (fun W (hb : Below w.heap.size w W) => inside_c W B s g v ws b t e (p.below hb))
  have HC := Lib.hid (fun W (hb : Below w.heap.size w W) => (p.below hb).four.1)
  have ht : t ≤ 8192 := by have := p.te; have := p.el; omega
  rw [← hy]
  have HT := Lib.hid ht
  obtain ⟨PV, hPV⟩ : ∃ v, v = ptV b t y := ⟨_, rfl⟩
  obtain ⟨PE, hPE⟩ : ∃ v, v = ptE b t y := ⟨_, rfl⟩
  rw [← hPV, ← hPE]
  have HV := Lib.hid (And.intro hPV hPE)
  clear hPV hPE
  clear hJ hy hgy p hl h1 h2 hg hk hj hjt ht
  go_enter Tryd.func9, Tryd.ntmps9
  go_wp2_with fail
  refine Calls.mono HL.out ?_
  rintro r w2 ⟨rfl, b2⟩
  have HB2 := Lib.hid b2
  have c0 := HC.out w2 b2
  clear b2 HL
  go_wp2_with fail
  refine Calls.mono (HGt.out w2 HB2.out) ?_
  rintro r w3 ⟨rfl, rfl⟩
  by_cases hhi : 8192 < U64 y
  · have HPl := Lib.hid (place_hi w3 y hhi)
    have hno : pokB b t y = false := by
      unfold pokB
      rw [decide_eq_false_iff_not]
      have := HT.out
      unfold U64 at hhi
      omega
    have e1 : PV = 0 := by rw [HV.out.1, (pt_no hno).1]
    have e2 : PE = 2 := by rw [HV.out.2, (pt_no hno).2]
    subst e1
    subst e2
    clear hhi hno
    go_wp2_with fail
    refine Calls.mono HPl.out ?_
    rintro r w4 ⟨rfl, b4⟩
    have HB4 := Lib.hid (HB2.out.trans (b4.mono HB2.out.size))
    clear b4
    go_wp2_with fail
    go_ret2
    exact ⟨rfl, HB4.out⟩
  · obtain ⟨n, hn⟩ : ∃ n, n = y.toNat := ⟨_, rfl⟩
    have hU : U64 y = (n : Int) := by rw [hn]; rfl
    have hn2 : (n : Int) ≤ 8192 := by omega
    have HPl := Lib.hid (place_lo w3 n hn2)
    have HNy := Lib.hid hn
    have hpk : pokB b t y = decide (n = 0 ∨ (b < n ∧ n ≤ t)) := by unfold pokB; rw [← hn]
    have HPk := Lib.hid hpk
    rw [hU]
    clear hhi hpk hn hU
    go_wp2_with fail
    refine Calls.mono HPl.out ?_
    rintro r w4 ⟨rfl, b4⟩
    have HB4 := Lib.hid (HB2.out.trans (b4.mono HB2.out.size))
    clear b4
    by_cases hn0 : n = 0
    · have hyes : pokB b t y = true := by rw [HPk.out]; simp [hn0]
      have e1 : PV = -1 := by rw [HV.out.1, (pt_yes hyes).1, ← HNy.out, hn0]; rfl
      have e2 : PE = 0 := by rw [HV.out.2, (pt_yes hyes).2]
      subst e1
      subst e2
      obtain rfl := hn0
      clear hyes HPk HNy
      go_wp2_with fail
      go_ret2
      exact ⟨rfl, HB4.out⟩
    · obtain ⟨m, hm⟩ : ∃ m : Nat, (n : Int) - 1 = (m : Int) := ⟨n - 1, by omega⟩
      have q1 : ((m : Int) == -1) = false := by simp
      have q2 : ((m : Int) != -1) = true := by simp
      have q3 : decide ((m : Int) = -1) = false := by simp
      rw [hm]
      have HI := Lib.hid (HIn.out w4 HB4.out (m : Int))
      obtain ⟨r, hr⟩ : ∃ r, r = insB b t (m : Int) := ⟨_, rfl⟩
      have hpr : pokB b t y = r := by
        rw [HPk.out, hr]
        unfold insB
        rw [decide_eq_decide]
        omega
      rw [← hr] at HI
      cases r with
      | true =>
        have e1 : PV = (m : Int) := by rw [HV.out.1, (pt_yes hpr).1, ← HNy.out, hm]
        have e2 : PE = 0 := by rw [HV.out.2, (pt_yes hpr).2]
        subst e1
        subst e2
        clear hm hr hpr hn0 hn2 HPk HNy
        go_wp2_with fail
        refine Calls.mono HI.out ?_
        rintro r2 w5 ⟨rfl, b5⟩
        have HB5 := Lib.hid (HB4.out.trans (b5.mono HB4.out.size))
        clear b5
        go_wp2_with fail
        go_ret2
        exact ⟨rfl, HB5.out⟩
      | false =>
        have e1 : PV = 0 := by rw [HV.out.1, (pt_no hpr).1]
        have e2 : PE = 2 := by rw [HV.out.2, (pt_no hpr).2]
        subst e1
        subst e2
        clear hm hr hpr hn0 hn2 HPk HNy
        go_wp2_with fail
        refine Calls.mono HI.out ?_
        rintro r2 w5 ⟨rfl, b5⟩
        have HB5 := Lib.hid (HB4.out.trans (b5.mono HB4.out.size))
        clear b5
        go_wp2_with fail
        go_ret2
        exact ⟨rfl, HB5.out⟩
end Go.Proofs.YtfodefgihicafaaDoor
/- mem: Bytes. Conditions: lengths. -/
namespace Go.Proofs.YtfodefgihicafaaDoor
set_option linter.unusedVariables false
set_option linter.unusedSimpArgs false
open Go.RowKit
def byteAt (ws : List (BitVec 64)) (k : Nat) : BitVec 8 := ((ws.getD (k / 8) 0#64) >>> (8 * (k % 8))).setWidth 8
def bytesM (ws : List (BitVec 64)) (a n : Nat) : List (BitVec 8) := (List.range n).map fun i => byteAt ws (a + i)
def partB (xs : List (BitVec 8)) (k : Nat) : List (BitVec 8) := xs.take k ++ List.replicate (xs.length - k) 0#8
theorem partB_len (xs : List (BitVec 8)) (k : Nat) (h : k ≤ xs.length) : (partB xs k).length = xs.length := by unfold partB; simp; omega
theorem partB_set (xs : List (BitVec 8)) (k : Nat) (hk : k < xs.length) : (partB xs k).set k xs[k] = partB xs (k + 1) := by
  have e : List.replicate (xs.length - k) 0#8 = 0#8 :: List.replicate (xs.length - (k + 1)) 0#8 := by
    rw [← List.replicate_succ]; congr 1; omega
  have ht : xs.take (k + 1) = xs.take k ++ [xs[k]] := List.take_succ_eq_append_getElem hk
  unfold partB
  rw [e, ht, List.set_append_right _ _ (by simp; omega)]
  have e3 : k - (xs.take k).length = 0 := by simp; omega
  rw [e3, List.append_assoc]
  simp
theorem u8_shr (y : BitVec 64) (s : Nat) : U64 y / 2 ^ s % 256 = U8 ((y >>> s).setWidth 8) := by
  rw [shrU64]
  unfold U64 U8
  rw [BitVec.toNat_setWidth]
  omega
set_option maxHeartbeats 400000
set_option maxRecDepth 100000
theorem bytes_in (w : World) (B g : Nat) (v : Value) (ws : List (BitVec 64)) (a n : Nat) (hi : a + n ≤ 8 * ws.length) (hl : ws.length ≤ 100000) (h : MemAt w B g v ws) :
    Calls Tryd.prog 35 #[.pointer (some ⟨g, 0, none⟩), .int .i64 a, .int .i64 n] w (MkEP b8 5 (bytesM ws a n) 0 w) := by
  have HL := Lib.hid (len_c w B g v ws h)
  have HI := Lib.hid (insideM_c w ((8 * ws.length : Nat) : Int) (a : Int) n (by omega) (by omega) (by omega) (by omega) (by omega) (by omega))
  rw [show inM ((8 * ws.length : Nat) : Int) (a : Int) n = true from by unfold inM; simp; omega] at HI
  obtain ⟨A, c, e, hc⟩ := h.row.form
  subst e
  have HK := Lib.hid h.blk
  have HR := Lib.hid h.row.rd
  obtain ⟨N, hN⟩ : ∃ N, N = ws.length := ⟨_, rfl⟩
  obtain ⟨M, hM⟩ : ∃ M, M = 8 * ws.length := ⟨_, rfl⟩
  rw [← hM] at HI
  rw [← hN] at HL HK
  have q1 : (N : Int) * 8 = (M : Int) := by omega
  have HM := Lib.hid hM
  have HAN := Lib.hid hi
  have HNN := Lib.hid hN
  have q2 : (M : Int) ≤ 800000 := by omega
  have q3 : (n : Int) ≤ 800000 := by omega
  clear h hc hM hN hi hl
  go_enter Tryd.func35, Tryd.ntmps35
  go_wp2_with fail
  refine Calls.mono HL.out ?_
  rintro e w1 ⟨rfl, rfl⟩
  go_wp2_with fail
  refine Calls.mono HI.out ?_
  rintro e w2 ⟨rfl, rfl⟩
  go_wp2_with (at_make; refine wp_make (f := b8) one8 rfl _ _ rfl 0#8 rfl w2.heap.size n _ _ _ _ rfl rfl rfl rfl (by omega) (by decide) (Nat.le_refl _) ?_; rintro q w3 hq ho3 hb3 _)
  rw [← hq]
  clear hq HL HI q1
  obtain ⟨xs, hxs⟩ : ∃ xs, xs = bytesM ws a n := ⟨_, rfl⟩
  have hxl : xs.length = n := by rw [hxs]; unfold bytesM; simp
  have HXL := Lib.hid hxl
  have HXS := Lib.hid hxs
  rw [← hxs]
  clear hxs hxl
  go_loopw [22] (fun i wr => ∃ k : Nat, k ≤ n ∧ i = .int .i64 k ∧ Ow b8 5 wr w2.heap.size (.slice (some ⟨q, 0, none⟩) n n) (partB xs k) ∧ Below w2.heap.size w2 wr) (fun i _ => n - (Go.RowKit.intOf i).toNat)
  case atStart => exact ⟨0, by omega, rfl, by have := HXL.out; simpa [partB, this] using ho3, hb3⟩
  case round =>
    obtain ⟨k, hkl, rfl, how, hB⟩ := hrel
    by_cases hlt : k < n
    · have p1 : (0 : Int) ≤ (k : Int) := by omega
      have p2 : (k : Int) < (n : Int) := by omega
      have hin := HAN.out
      have hNo := HNN.out
      have hMo := HM.out
      have p3 : (a : Int) + (k : Int) ≤ 800000 := by omega
      obtain ⟨j, hj⟩ : ∃ j, j = (a + k) / 8 := ⟨_, rfl⟩
      obtain ⟨b, hb⟩ : ∃ b, b = (a + k) % 8 := ⟨_, rfl⟩
      have hjl : j < ws.length := by omega
      have c0 := (HK.out.below hB HK.out.lt).cell 0
      obtain ⟨ad, rfl, hadb, hcl⟩ := (HR.out.below hB) j hjl
      obtain ⟨y, hy⟩ : ∃ y, y = ws[j] := ⟨_, rfl⟩
      rw [← hy] at hcl
      have HY := Lib.hid hy
      unfold u64v at hcl
      clear hy
      have p4 : (0 : Int) ≤ (j : Int) := by omega
      have p5 : (j : Int) < (N : Int) := by omega
      have HJ := Lib.hid (And.intro hj.symm hb.symm)
      obtain ⟨s, hs⟩ : ∃ s, s = a + k := ⟨_, rfl⟩
      have d0 : (a : Int) + (k : Int) = (s : Int) := by omega
      have d1 : (s : Int) / 8 = (j : Int) := by omega
      have d2 : (s : Int) % 8 = (b : Int) := by omega
      have d3 : (s : Int).tdiv 8 = (j : Int) := by rw [← d1]; exact Int.tdiv_eq_ediv_of_nonneg (by omega)
      have d4 : (s : Int).tmod 8 = (b : Int) := by rw [← d2]; exact Int.tmod_eq_emod_of_nonneg (by omega)
      have d5 : (0 : Int) ≤ (s : Int) := by omega
      have d6 : (s : Int) ≤ 800000 := by omega
      have d7 : (b : Int) < 8 := by omega
      have d8 : (0 : Int) ≤ (b : Int) := by omega
      clear hj hb hs hin hNo hMo hadb
      have hpl := partB_len xs k (by rw [HXL.out]; omega)
      have hxk : k < xs.length := by rw [HXL.out]; exact hlt
      have hf := how.free k
      have hge := how.ge
      have hcell := how.cell (j := k) (by rw [hpl]; exact hxk)
      have hset := how.set (j := k) (by rw [hpl]; exact hxk) xs[k]
      rw [partB_set xs k hxk] at hset
      obtain ⟨z, hz⟩ : ∃ z, z = (partB xs k)[k]'(by rw [hpl]; exact hxk) := ⟨_, rfl⟩
      rw [← hz] at hcell
      unfold b8 at hcell hset
      have hB' : ∀ m u, Below w2.heap.size w2 ((wr.drewN m).setCell ⟨q, k, none⟩ u) := fun m u => (bdN hB m).setCell (p := ⟨q, k, none⟩) hge.1 _
      have hval : xs[k] = (y >>> (8 * b)).setWidth 8 := by
        have e1 : xs[k] = byteAt ws (a + k) := by
          have := HXS.out
          subst this
          simp [bytesM]
        rw [e1, HY.out]
        unfold byteAt
        rw [HJ.out.1, HJ.out.2, List.getD_eq_getElem?_getD, List.getElem?_eq_getElem hjl]
        rfl
      rw [hval, ← u8_shr] at hset
      have HS := Lib.hid hset
      have HB' := Lib.hid hB'
      clear hset hB' hz how hge hval hpl hxk
      go_wp2_with fail
      go_roundw
      case rel => exact ⟨k + 1, by omega, by go_num, HS.out, HB'.out 0 _⟩
      case measure => (first | (simp [Go.RowKit.intOf]; done) | (simp [Go.RowKit.intOf]; omega))
    · have hkk : k = n := by omega
      subst hkk
      have hw : partB xs k = xs := by unfold partB; rw [HXL.out]; simp; rw [← HXL.out]; simp
      rw [hw] at how
      have hxl := HXL.out
      subst hxl
      go_wp2_with fail
      go_ret2
      rw [← HXS.out]
      exact MkEP.of how hB
end Go.Proofs.YtfodefgihicafaaDoor
/- mem: bytes set in words, as lists. Conditions: lengths. -/
namespace Go.Proofs.YtfodefgihicafaaDoor
set_option linter.unusedVariables false
set_option linter.unusedSimpArgs false
open Go.RowKit
def setB (ws : List (BitVec 64)) (k : Nat) (x : BitVec 8) : List (BitVec 64) := ws.set (k / 8) (((ws.getD (k / 8) 0#64) &&& ~~~(255#64 <<< (8 * (k % 8)))) ||| ((x.setWidth 64) <<< (8 * (k % 8))))
theorem setB_len (ws : List (BitVec 64)) (k : Nat) (x : BitVec 8) : (setB ws k x).length = ws.length := by simp [setB]
theorem ff_bit (q : Nat) : (255#64).getLsbD q = decide (q < 8) := by
  show ((BitVec.allOnes 8).setWidth 64).getLsbD q = _
  rw [BitVec.getLsbD_setWidth, BitVec.getLsbD_allOnes, Bool.eq_iff_iff]
  simp only [Bool.and_eq_true, decide_eq_true_eq]
  omega
/-- The words when k of the bytes lie in them from byte a on. -/
def putK (ws : List (BitVec 64)) (a : Nat) (bs : List (BitVec 8)) : Nat → List (BitVec 64)
  | 0 => ws
  | k + 1 => setB (putK ws a bs k) (a + k) (bs.getD k 0#8)
theorem putK_len (ws : List (BitVec 64)) (a : Nat) (bs : List (BitVec 8)) (k : Nat) : (putK ws a bs k).length = ws.length := by
  induction k with
  | zero => rfl
  | succ k ih => show (setB _ _ _).length = _; rw [setB_len, ih]
end Go.Proofs.YtfodefgihicafaaDoor
/- mem: SetBytes. Conditions: lengths. -/
namespace Go.Proofs.YtfodefgihicafaaDoor
set_option linter.unusedVariables false
set_option linter.unusedSimpArgs false
open Go.RowKit
theorem shl255 (s : Nat) : IntKind.u64.wrap (255 * 2 ^ s) = U64 (255#64 <<< s) := shlU64 255#64 s
attribute [local go_sem] shl255 shlU64 andNotU64 orU64 u8_u64 wrapU64
set_option maxHeartbeats 400000
set_option maxRecDepth 100000
theorem sb_reg (Q : Exit → Act → World → Prop) (a0 : Act) (w : World) (g q N c k j s : Nat) (x : BitVec 8) (y : BitVec 64) (hb : Bk w g 112 #[.slice (some ⟨q, 0, none⟩) N c]) (hq : q < w.heap.size) (hy : w.cell? ⟨q, j, none⟩ = some (.int .u64 (U64 y))) (d3 : (k : Int).tdiv 8 = (j : Int)) (p1 : (0 : Int) ≤ (j : Int)) (p2 : (j : Int) < (N : Int)) (p3 : (0 : Int) ≤ (s : Int)) (p4 : (s : Int) < 64) (p5 : (j : Int) ≤ 1000000) (hsz : a0.tmps.size = 56) (sl0 : a0.tmps.getD 0 undef = .pointer (some ⟨g, 0, none⟩)) (sl8 : a0.tmps.getD 8 undef = .int .u8 (U8 x)) (sl9 : a0.tmps.getD 9 undef = .int .i64 k) (sl10 : a0.tmps.getD 10 undef = .int .i64 s)
    (fin : ∀ (vals : Nat → Value) (w1 : World), Below w.heap.size w w1 → (IsV (.int .u64 (U64 ((y &&& ~~~(255#64 <<< s)) ||| (x.setWidth 64 <<< s))))) (vals 21) w1 → (IsV (.pointer (some ⟨q, j, none⟩))) (vals 22) w1 → wpList Tryd.prog #[{ dst := none, op := Go.Op.store 68 (Go.Operand.tmp 54) (Go.Operand.tmp 53), type := 0, pos := "", after := #[], guard := none }] Q [{ dst := none, op := Go.Op.store 68 (Go.Operand.tmp 54) (Go.Operand.tmp 53), type := 0, pos := "", after := #[], guard := none }] (putD vals [32, 33, 34, 35, 36, 37, 38, 39, 40, 41, 42, 43, 44, 45, 46, 47, 48, 49, 50, 51, 52, 53, 54] 0 a0) w1) :
    (Code.region 8 (regIn Tryd.f37 8) true).wp Tryd.prog Q a0 w := by
  refine region_by_tail (m := 23) (G := fun w w1 => Below w.heap.size w w1) [IsV (.pointer (some ⟨g, 0, none⟩)),
    IsV (.pointer (some ⟨g, 0, none⟩)),
    IsV (.pointer (some ⟨g, 0, none⟩)),
    IsV (.slice (some ⟨q, 0, none⟩) N c),
    IsV (.int .i64 k),
    IsV (.int .i64 j),
    IsV (.pointer (some ⟨g, 0, none⟩)),
    IsV (.pointer (some ⟨g, 0, none⟩)),
    IsV (.pointer (some ⟨g, 0, none⟩)),
    IsV (.slice (some ⟨q, 0, none⟩) N c),
    IsV (.int .i64 k),
    IsV (.int .i64 j),
    IsV (.pointer (some ⟨q, j, none⟩)),
    IsV (.int .u64 (U64 y)),
    IsV (.int .i64 s),
    IsV (.int .u64 (U64 (255#64 <<< s))),
    IsV (.int .u64 (U64 (y &&& ~~~(255#64 <<< s)))),
    IsV (.int .u8 (U8 x)),
    IsV (.int .u64 (U64 (x.setWidth 64))),
    IsV (.int .i64 s),
    IsV (.int .u64 (U64 (x.setWidth 64 <<< s))),
    IsV (.int .u64 (U64 ((y &&& ~~~(255#64 <<< s)) ||| (x.setWidth 64 <<< s)))),
    IsV (.pointer (some ⟨q, j, none⟩))]
    [32, 33, 34, 35, 36, 37, 38, 39, 40, 41, 42, 43, 44, 45, 46, 47, 48, 49, 50, 51, 52, 53, 54] (by kernel_rfl) (Gw.drew _) Gw.trans (by rw [hsz]; kernel_rfl) (by kernel_rfl) ?_ ?_ ?_
  · intro f hf
    simp only [List.mem_cons, List.not_mem_nil, or_false] at hf
    rcases hf with rfl | rfl | rfl | rfl | rfl | rfl | rfl | rfl | rfl | rfl | rfl | rfl | rfl | rfl | rfl | rfl | rfl | rfl | rfl | rfl | rfl | rfl | rfl <;> intro v a b h g <;> first | exact IsV.mono h
  · refine ⟨?_, ?_, ?_, ?_, ?_, ?_, ?_, ?_, ?_, ?_, ?_, ?_, ?_, ?_, ?_, ?_, ?_, ?_, ?_, ?_, ?_, ?_, ?_, trivial⟩
    · exact owes_mv 0 (by kernel_rfl) (by kernel_rfl) (by kernel_rfl) sl0 (fun _ => rfl)
    · refine owes_v (Go.Op.nilCheck (Go.Operand.tmp 32)) 0 [0] (by kernel_rfl) (by kernel_rfl) (by kernel_rfl) rfl fun vals w1 ρ hG hF hρ hcst hfun => ?_
      have e32 : ρ (.tmp 32) = .pointer (some ⟨g, 0, none⟩) := ((hρ 32).trans (slotJ [0] (by rw [hsz]; decide) (by kernel_rfl))).trans (hF 0 (by decide))
      clear hρ hF hcst hfun sl0 sl8 sl9 sl10 fin
      exact opv_val (by go_simp <;> rfl) ⟨gw_self _, rfl⟩
    · refine owes_v (Go.Op.fieldAddr 112 (Go.Operand.tmp 33) 0) 0 [1] (by kernel_rfl) (by kernel_rfl) (by kernel_rfl) rfl fun vals w1 ρ hG hF hρ hcst hfun => ?_
      have e33 : ρ (.tmp 33) = .pointer (some ⟨g, 0, none⟩) := ((hρ 33).trans (slotJ [1] (by rw [hsz]; decide) (by kernel_rfl))).trans (hF 1 (by decide))
      clear hρ hF hcst hfun sl0 sl8 sl9 sl10 fin
      exact opv_val (by go_simp <;> rfl) ⟨gw_self _, rfl⟩
    · refine owes_v (Go.Op.load 22 (Go.Operand.tmp 34)) 22 [2] (by kernel_rfl) (by kernel_rfl) (by kernel_rfl) rfl fun vals w1 ρ hG hF hρ hcst hfun => ?_
      have e34 : ρ (.tmp 34) = .pointer (some ⟨g, 0, none⟩) := ((hρ 34).trans (slotJ [2] (by rw [hsz]; decide) (by kernel_rfl))).trans (hF 2 (by decide))
      have c0 := (hb.below hG hb.lt).cell 0
      clear hρ hF hcst hfun sl0 sl8 sl9 sl10 fin
      exact opv_val (by go_simp <;> rfl) ⟨gw_self _, rfl⟩
    · exact owes_mv 9 (by kernel_rfl) (by kernel_rfl) (by kernel_rfl) sl9 (fun _ => rfl)
    · refine owes_v (Go.Op.binOp Go.BinOp.quo 3 (Go.Operand.tmp 36) (Go.Operand.const (Go.Value.int Go.IntKind.i64 8)) 3) 3 [4] (by kernel_rfl) (by kernel_rfl) (by kernel_rfl) rfl fun vals w1 ρ hG hF hρ hcst hfun => ?_
      have e36 : ρ (.tmp 36) = .int .i64 k := ((hρ 36).trans (slotJ [4] (by rw [hsz]; decide) (by kernel_rfl))).trans (hF 4 (by decide))
      have kw0 : IntKind.i64.wrap ((j : Int)) = (j : Int) := wrapIn (by omega) (by omega)
      clear hρ hF hfun sl0 sl8 sl9 sl10 fin
      exact opv_val (by go_simp <;> rfl) ⟨gw_self _, rfl⟩
    · exact owes_mv 0 (by kernel_rfl) (by kernel_rfl) (by kernel_rfl) sl0 (fun _ => rfl)
    · refine owes_v (Go.Op.nilCheck (Go.Operand.tmp 38)) 0 [6] (by kernel_rfl) (by kernel_rfl) (by kernel_rfl) rfl fun vals w1 ρ hG hF hρ hcst hfun => ?_
      have e38 : ρ (.tmp 38) = .pointer (some ⟨g, 0, none⟩) := ((hρ 38).trans (slotJ [6] (by rw [hsz]; decide) (by kernel_rfl))).trans (hF 6 (by decide))
      clear hρ hF hcst hfun sl0 sl8 sl9 sl10 fin
      exact opv_val (by go_simp <;> rfl) ⟨gw_self _, rfl⟩
    · refine owes_v (Go.Op.fieldAddr 112 (Go.Operand.tmp 39) 0) 0 [7] (by kernel_rfl) (by kernel_rfl) (by kernel_rfl) rfl fun vals w1 ρ hG hF hρ hcst hfun => ?_
      have e39 : ρ (.tmp 39) = .pointer (some ⟨g, 0, none⟩) := ((hρ 39).trans (slotJ [7] (by rw [hsz]; decide) (by kernel_rfl))).trans (hF 7 (by decide))
      clear hρ hF hcst hfun sl0 sl8 sl9 sl10 fin
      exact opv_val (by go_simp <;> rfl) ⟨gw_self _, rfl⟩
    · refine owes_v (Go.Op.load 22 (Go.Operand.tmp 40)) 22 [8] (by kernel_rfl) (by kernel_rfl) (by kernel_rfl) rfl fun vals w1 ρ hG hF hρ hcst hfun => ?_
      have e40 : ρ (.tmp 40) = .pointer (some ⟨g, 0, none⟩) := ((hρ 40).trans (slotJ [8] (by rw [hsz]; decide) (by kernel_rfl))).trans (hF 8 (by decide))
      have c0 := (hb.below hG hb.lt).cell 0
      clear hρ hF hcst hfun sl0 sl8 sl9 sl10 fin
      exact opv_val (by go_simp <;> rfl) ⟨gw_self _, rfl⟩
    · exact owes_mv 9 (by kernel_rfl) (by kernel_rfl) (by kernel_rfl) sl9 (fun _ => rfl)
    · refine owes_v (Go.Op.binOp Go.BinOp.quo 3 (Go.Operand.tmp 42) (Go.Operand.const (Go.Value.int Go.IntKind.i64 8)) 3) 3 [10] (by kernel_rfl) (by kernel_rfl) (by kernel_rfl) rfl fun vals w1 ρ hG hF hρ hcst hfun => ?_
      have e42 : ρ (.tmp 42) = .int .i64 k := ((hρ 42).trans (slotJ [10] (by rw [hsz]; decide) (by kernel_rfl))).trans (hF 10 (by decide))
      have kw0 : IntKind.i64.wrap ((j : Int)) = (j : Int) := wrapIn (by omega) (by omega)
      clear hρ hF hfun sl0 sl8 sl9 sl10 fin
      exact opv_val (by go_simp <;> rfl) ⟨gw_self _, rfl⟩
    · refine owes_v (Go.Op.indexAddr 22 (Go.Operand.tmp 41) (Go.Operand.tmp 43)) 0 [9, 11] (by kernel_rfl) (by kernel_rfl) (by kernel_rfl) rfl fun vals w1 ρ hG hF hρ hcst hfun => ?_
      have e41 : ρ (.tmp 41) = .slice (some ⟨q, 0, none⟩) N c := ((hρ 41).trans (slotJ [9, 11] (by rw [hsz]; decide) (by kernel_rfl))).trans (hF 9 (by decide))
      have e43 : ρ (.tmp 43) = .int .i64 j := ((hρ 43).trans (slotJ [9, 11] (by rw [hsz]; decide) (by kernel_rfl))).trans (hF 11 (by decide))
      clear hρ hF hcst hfun sl0 sl8 sl9 sl10 fin
      exact opv_val (by go_simp <;> rfl) ⟨gw_self _, rfl⟩
    · refine owes_v (Go.Op.load 68 (Go.Operand.tmp 44)) 68 [12] (by kernel_rfl) (by kernel_rfl) (by kernel_rfl) rfl fun vals w1 ρ hG hF hρ hcst hfun => ?_
      have e44 : ρ (.tmp 44) = .pointer (some ⟨q, j, none⟩) := ((hρ 44).trans (slotJ [12] (by rw [hsz]; decide) (by kernel_rfl))).trans (hF 12 (by decide))
      have c0 := (hG.cell (p := ⟨q, j, none⟩) hq).trans hy
      clear hρ hF hcst hfun sl0 sl8 sl9 sl10 fin
      exact opv_val (by go_simp <;> rfl) ⟨gw_self _, rfl⟩
    · exact owes_mv 10 (by kernel_rfl) (by kernel_rfl) (by kernel_rfl) sl10 (fun _ => rfl)
    · refine owes_v (Go.Op.binOp Go.BinOp.shl 68 (Go.Operand.const (Go.Value.int Go.IntKind.u64 255)) (Go.Operand.tmp 46) 3) 68 [14] (by kernel_rfl) (by kernel_rfl) (by kernel_rfl) rfl fun vals w1 ρ hG hF hρ hcst hfun => ?_
      have e46 : ρ (.tmp 46) = .int .i64 s := ((hρ 46).trans (slotJ [14] (by rw [hsz]; decide) (by kernel_rfl))).trans (hF 14 (by decide))
      clear hρ hF hfun sl0 sl8 sl9 sl10 fin
      exact opv_val (by go_simp <;> rfl) ⟨gw_self _, rfl⟩
    · refine owes_v (Go.Op.binOp Go.BinOp.andNot 68 (Go.Operand.tmp 45) (Go.Operand.tmp 47) 68) 68 [13, 15] (by kernel_rfl) (by kernel_rfl) (by kernel_rfl) rfl fun vals w1 ρ hG hF hρ hcst hfun => ?_
      have e45 : ρ (.tmp 45) = .int .u64 (U64 y) := ((hρ 45).trans (slotJ [13, 15] (by rw [hsz]; decide) (by kernel_rfl))).trans (hF 13 (by decide))
      have e47 : ρ (.tmp 47) = .int .u64 (U64 (255#64 <<< s)) := ((hρ 47).trans (slotJ [13, 15] (by rw [hsz]; decide) (by kernel_rfl))).trans (hF 15 (by decide))
      clear hρ hF hcst hfun sl0 sl8 sl9 sl10 fin
      exact opv_val (by go_simp <;> rfl) ⟨gw_self _, rfl⟩
    · exact owes_mv 8 (by kernel_rfl) (by kernel_rfl) (by kernel_rfl) sl8 (fun _ => rfl)
    · refine owes_v (Go.Op.convert 5 68 (Go.Operand.tmp 49)) 68 [17] (by kernel_rfl) (by kernel_rfl) (by kernel_rfl) rfl fun vals w1 ρ hG hF hρ hcst hfun => ?_
      have e49 : ρ (.tmp 49) = .int .u8 (U8 x) := ((hρ 49).trans (slotJ [17] (by rw [hsz]; decide) (by kernel_rfl))).trans (hF 17 (by decide))
      clear hρ hF hcst hfun sl0 sl8 sl9 sl10 fin
      exact opv_val (by go_simp <;> rfl) ⟨gw_self _, rfl⟩
    · exact owes_mv 10 (by kernel_rfl) (by kernel_rfl) (by kernel_rfl) sl10 (fun _ => rfl)
    · refine owes_v (Go.Op.binOp Go.BinOp.shl 68 (Go.Operand.tmp 50) (Go.Operand.tmp 51) 3) 68 [18, 19] (by kernel_rfl) (by kernel_rfl) (by kernel_rfl) rfl fun vals w1 ρ hG hF hρ hcst hfun => ?_
      have e50 : ρ (.tmp 50) = .int .u64 (U64 (x.setWidth 64)) := ((hρ 50).trans (slotJ [18, 19] (by rw [hsz]; decide) (by kernel_rfl))).trans (hF 18 (by decide))
      have e51 : ρ (.tmp 51) = .int .i64 s := ((hρ 51).trans (slotJ [18, 19] (by rw [hsz]; decide) (by kernel_rfl))).trans (hF 19 (by decide))
      clear hρ hF hcst hfun sl0 sl8 sl9 sl10 fin
      exact opv_val (by go_simp <;> rfl) ⟨gw_self _, rfl⟩
    · refine owes_v (Go.Op.binOp Go.BinOp.or 68 (Go.Operand.tmp 48) (Go.Operand.tmp 52) 68) 68 [16, 20] (by kernel_rfl) (by kernel_rfl) (by kernel_rfl) rfl fun vals w1 ρ hG hF hρ hcst hfun => ?_
      have e48 : ρ (.tmp 48) = .int .u64 (U64 (y &&& ~~~(255#64 <<< s))) := ((hρ 48).trans (slotJ [16, 20] (by rw [hsz]; decide) (by kernel_rfl))).trans (hF 16 (by decide))
      have e52 : ρ (.tmp 52) = .int .u64 (U64 (x.setWidth 64 <<< s)) := ((hρ 52).trans (slotJ [16, 20] (by rw [hsz]; decide) (by kernel_rfl))).trans (hF 20 (by decide))
      clear hρ hF hcst hfun sl0 sl8 sl9 sl10 fin
      exact opv_val (by go_simp <;> rfl) ⟨gw_self _, rfl⟩
    · refine owes_v (Go.Op.indexAddr 22 (Go.Operand.tmp 35) (Go.Operand.tmp 37)) 0 [3, 5] (by kernel_rfl) (by kernel_rfl) (by kernel_rfl) rfl fun vals w1 ρ hG hF hρ hcst hfun => ?_
      have e35 : ρ (.tmp 35) = .slice (some ⟨q, 0, none⟩) N c := ((hρ 35).trans (slotJ [3, 5] (by rw [hsz]; decide) (by kernel_rfl))).trans (hF 3 (by decide))
      have e37 : ρ (.tmp 37) = .int .i64 j := ((hρ 37).trans (slotJ [3, 5] (by rw [hsz]; decide) (by kernel_rfl))).trans (hF 5 (by decide))
      clear hρ hF hcst hfun sl0 sl8 sl9 sl10 fin
      exact opv_val (by go_simp <;> rfl) ⟨gw_self _, rfl⟩
  · intro vals w1 hG hF
    exact last_list (by kernel_rfl) (by kernel_rfl) (by kernel_rfl) (fin vals w1 hG (hF 21 (by decide +kernel)) (hF 22 (by decide +kernel)))
theorem setBytes_in (w : World) (B g : Nat) (v : Value) (ws : List (BitVec 64)) (a : Nat) (A : Option Addr) (cb : Nat) (bs : List (BitVec 8)) (hi : a + bs.length ≤ 8 * ws.length) (hl : ws.length ≤ 100000) (h : MemAt w B g v ws) (hr : Rd b8 w w.heap.size A bs) (hap : 0 < bs.length → ∀ x, A = some x → some x.block ≠ v.ownBlock) :
    Calls Tryd.prog 37 #[.pointer (some ⟨g, 0, none⟩), .int .i64 a, .slice A bs.length cb] w fun e w' => e = .returned (.int .i64 0) ∧ MemAt w' B g v (putK ws a bs bs.length) ∧ w.grownBy w' v.ownBlock := by
  have HL := Lib.hid (len_c w B g v ws h)
  have HI := Lib.hid (insideM_c w ((8 * ws.length : Nat) : Int) (a : Int) bs.length (by omega) (by omega) (by omega) (by omega) (by omega) (by omega))
  rw [show inM ((8 * ws.length : Nat) : Int) (a : Int) bs.length = true from by unfold inM; simp; omega] at HI
  obtain ⟨A1, c, e, hc⟩ := h.row.form
  subst e
  have HM := Lib.hid h
  have HR := Lib.hid hr
  have HAP := Lib.hid hap
  obtain ⟨N, hN⟩ : ∃ N, N = ws.length := ⟨_, rfl⟩
  obtain ⟨M, hM⟩ : ∃ M, M = 8 * ws.length := ⟨_, rfl⟩
  obtain ⟨n, hn⟩ : ∃ n, n = bs.length := ⟨_, rfl⟩
  rw [← hM] at HI
  rw [← hN] at HL HM HAP ⊢
  rw [← hn] at HI ⊢
  have q1 : (N : Int) * 8 = (M : Int) := by omega
  have HAN := Lib.hid hi
  have HNN := Lib.hid hN
  have HBN := Lib.hid hn
  have q2 : (M : Int) ≤ 800000 := by omega
  have q3 : (n : Int) ≤ 800000 := by omega
  clear h hc hM hN hi hl hr hap hn
  go_enter Tryd.func37, Tryd.ntmps37
  go_wp2_with fail
  refine Calls.mono HL.out ?_
  rintro e w1 ⟨rfl, rfl⟩
  go_wp2_with fail
  refine Calls.mono HI.out ?_
  rintro e w2 ⟨rfl, rfl⟩
  go_wp2_with fail
  go_loopw [21] (fun i wr => ∃ k : Nat, k ≤ n ∧ i = .int .i64 k ∧ MemAt wr B g (.slice A1 N c) (putK ws a bs k) ∧ w2.grownBy wr (Value.slice A1 N c).ownBlock) (fun i _ => n - (Go.RowKit.intOf i).toNat)
  case atStart => exact ⟨0, by omega, rfl, HM.out, grown_refl _ _⟩
  case round =>
    obtain ⟨k, hkl, rfl, hm, hg⟩ := hrel
    by_cases hlt : k < n
    · have p1 : (0 : Int) ≤ (k : Int) := by omega
      have p2 : (k : Int) < (n : Int) := by omega
      have hin := HAN.out
      have hNo := HNN.out
      have hBo := HBN.out
      obtain ⟨q, rfl⟩ : ∃ q, A1 = some ⟨q, 0, none⟩ := by
        rcases hm.row.2 with ⟨e, hn⟩ | ⟨q, _, _, e, _⟩
        · have hn' : (putK ws a bs k).length = 0 := hn
          rw [putK_len] at hn'
          omega
        · injection e with e
          exact ⟨q, e⟩
      obtain ⟨ad, rfl, hadb, hcl⟩ := (HR.out.grown hg (HAP.out (by omega))) k (by omega)
      obtain ⟨x, hx⟩ : ∃ x, x = bs[k]'(by omega) := ⟨_, rfl⟩
      rw [← hx] at hcl
      unfold b8 at hcl
      obtain ⟨s, hs⟩ : ∃ s, s = a + k := ⟨_, rfl⟩
      obtain ⟨j, hj⟩ : ∃ j, j = s / 8 := ⟨_, rfl⟩
      obtain ⟨b, hb⟩ : ∃ b, b = s % 8 := ⟨_, rfl⟩
      obtain ⟨t, ht⟩ : ∃ t, t = 8 * b := ⟨_, rfl⟩
      have hjl : j < ws.length := by omega
      have hjp : j < (putK ws a bs k).length := by rw [putK_len]; exact hjl
      have hbk := hm.blk
      have hq := hm.row.ge
      have hfz := hm.row.free j
      have hcell := hm.row.cell hjp
      obtain ⟨y, hy⟩ : ∃ y, y = (putK ws a bs k)[j] := ⟨_, rfl⟩
      rw [← hy] at hcell
      unfold u64v at hcell
      have hput : putK ws a bs (k + 1) = (putK ws a bs k).set j ((y &&& ~~~(255#64 <<< t)) ||| (x.setWidth 64 <<< t)) := by
        show setB (putK ws a bs k) (a + k) (bs.getD k 0#8) = _
        unfold setB
        rw [← hs, ← hj, ← hb, ← ht, hy, hx, List.getD_eq_getElem?_getD, List.getElem?_eq_getElem hjp, List.getD_eq_getElem?_getD, List.getElem?_eq_getElem (by omega)]
        rfl
      have hrow := hm.row.set hjp ((y &&& ~~~(255#64 <<< t)) ||| (x.setWidth 64 <<< t))
      rw [← hput] at hrow
      have hne : q ≠ g := fun e => hm.ne (by rw [e]; rfl)
      have HS := Lib.hid (fun (W : World) (hW : Below wr.heap.size wr W) (u : Value) (hu : u = u64v ((y &&& ~~~(255#64 <<< t)) ||| (x.setWidth 64 <<< t))) => show MemAt (W.setCell ⟨q, j, none⟩ u) B g (.slice (some ⟨q, 0, none⟩) N c) (putK ws a bs (k + 1)) ∧ w2.grownBy (W.setCell ⟨q, j, none⟩ u) (some q) from by
        subst hu
        have r2 := (hm.row.below hW).set hjp ((y &&& ~~~(255#64 <<< t)) ||| (x.setWidth 64 <<< t))
        rw [← hput] at r2
        exact ⟨⟨(hm.blk.below hW hm.blk.lt).far (p := ⟨q, j, none⟩) hne.symm _, hm.ge, r2, hm.ne⟩, (hg.trans (grown_none hW _)).trans (grown_set W ⟨q, j, none⟩ _)⟩)
      have HFZ := Lib.hid (fun (W : World) (hW : Below wr.heap.size wr W) => (hm.row.below hW).free j)
      have HCL := Lib.hid (fun (W : World) (hW : Below wr.heap.size wr W) => show W.cell? ⟨q, j, none⟩ = some (.int .u64 (U64 y)) from by have h0 := (hm.row.below hW).cell hjp; rw [← hy] at h0; exact h0)
      have d0 : (a : Int) + (k : Int) = (s : Int) := by omega
      have d2 : (s : Int) % 8 = (b : Int) := by omega
      have d3 : (s : Int).tdiv 8 = (j : Int) := by rw [Int.tdiv_eq_ediv_of_nonneg (by omega)]; omega
      have d4 : (s : Int).tmod 8 = (b : Int) := by rw [← d2]; exact Int.tmod_eq_emod_of_nonneg (by omega)
      have d5 : (0 : Int) ≤ (s : Int) := by omega
      have d6 : (s : Int) ≤ 800000 := by omega
      have d7 : (b : Int) < 8 := by omega
      have d8 : (0 : Int) ≤ (b : Int) := by omega
      have d9 : (8 : Int) * (b : Int) = (t : Int) := by omega
      have HX := Lib.hid (And.intro (show (0 : Int) ≤ (j : Int) by omega) (And.intro (show (j : Int) < (N : Int) by omega) (And.intro (show (t : Int) < 64 by omega) (show (j : Int) ≤ 1000000 by omega))))
      have HC := Lib.hid hcell
      have HQ := Lib.hid hq.2
      have HK := Lib.hid hbk
      clear hj hb hs hin hNo hBo hadb hx hy ht hjl hjp hbk hq hfz hcell hput hrow hne hm
      go_wp2_with fail
      refine sb_reg _ _ _ g q N c s j t x y HK.out HQ.out HC.out d3 HX.out.1 HX.out.2.1 (by omega) HX.out.2.2.1 HX.out.2.2.2 rfl rfl rfl rfl rfl ?_
      intro vals w3 hG h53 h54
      unfold IsV at h53 h54
      simp only [putD, Act.put, List.setIfInBounds_toArray, List.set_cons_zero, List.set_cons_succ, h53, h54]
      have hS := HS.out w3 hG _ rfl
      have hf := HFZ.out w3 hG
      have hc := HCL.out w3 hG
      have HS3 := Lib.hid hS
      clear hS h53 h54 HK HQ HC HX HS HFZ HCL
      go_wp2_with fail
      go_roundw
      case rel => exact ⟨k + 1, by omega, by go_num, HS3.out.1, HS3.out.2⟩
      case measure => (first | (simp [Go.RowKit.intOf]; done) | (simp [Go.RowKit.intOf]; omega))
    · have hkk : k = n := by omega
      subst hkk
      have HF := Lib.hid (And.intro hm hg)
      clear hm hg
      go_wp2_with fail
      go_ret
      exact ⟨rfl, HF.out.1, HF.out.2⟩
end Go.Proofs.YtfodefgihicafaaDoor
/- obj.SetPtr, Read, Write. Conditions: lengths. -/
namespace Go.Proofs.YtfodefgihicafaaDoor
set_option linter.unusedVariables false
set_option linter.unusedSimpArgs false
open Go.RowKit
/-- Nothing of the old world but the row of words has changed. -/
def SetP (w : World) (B s g : Nat) (v : Value) (ws : List (BitVec 64)) (b t e : Nat) (r : Ending) (w' : World) : Prop := r = .returned (.int .i64 0) ∧ SpAt w' B s g v ws b t e ∧ Two w w' s v.ownBlock ∧ Below B w w'
set_option maxHeartbeats 1000000
set_option maxRecDepth 100000
theorem setptr_err (w : World) (B s g : Nat) (v : Value) (ws : List (BitVec 64)) (b t e : Nat) (p : SpAt w B s g v ws b t e) (hl : ws.length ≤ 100000) (a i to_ : Int) (h : lkE ws b t a ≠ 0) :
    Calls Tryd.prog 11 #[.pointer (some ⟨s, 0, none⟩), .int .i64 a, .int .i64 i, .int .i64 to_] w (RetP (.int .i64 (lkE ws b t a)) w) := by
  have HL := Lib.hid (ptr_err w B s g v ws b t e p hl a i h)
  obtain ⟨E, hE⟩ : ∃ E, E = lkE ws b t a := ⟨_, rfl⟩
  rw [← hE] at HL h ⊢
  have h1 : (E == 0) = false := by simpa using h
  have h2 : (E != 0) = true := by simpa using h
  clear hE p hl h
  go_enter Tryd.func11, Tryd.ntmps11
  go_wp2_with fail
  refine Calls.mono HL.out ?_
  rintro r w2 ⟨rfl, b2⟩
  have HB := Lib.hid b2
  clear b2 HL
  go_wp2_with fail
  go_ret
  exact ⟨rfl, HB.out⟩
theorem setptr_no (w : World) (B s g : Nat) (v : Value) (ws : List (BitVec 64)) (b t e : Nat) (p : SpAt w B s g v ws b t e) (hl : ws.length ≤ 100000) (a : Nat) (i to_ : Int) (h1 : b ≤ a) (h2 : a < t) (hg : goodX (ws.getD a 0#64) (t - a) = true) (hi : i < 0 ∨ (0 ≤ i ∧ (P0 (ws.getD a 0#64) : Int) ≤ i)) :
    Calls Tryd.prog 11 #[.pointer (some ⟨s, 0, none⟩), .int .i64 a, .int .i64 i, .int .i64 to_] w (RetP (.int .i64 1) w) := by
  have HL := Lib.hid (ptr_no w B s g v ws b t e p hl a i h1 h2 hg hi)
  clear p hl h1 h2 hg hi
  go_enter Tryd.func11, Tryd.ntmps11
  go_wp2_with fail
  refine Calls.mono HL.out ?_
  rintro r w2 ⟨rfl, b2⟩
  have HB := Lib.hid b2
  clear b2 HL
  go_wp2_with fail
  go_ret
  exact ⟨rfl, HB.out⟩
theorem setptr_bad (w : World) (B s g : Nat) (v : Value) (ws : List (BitVec 64)) (b t e : Nat) (p : SpAt w B s g v ws b t e) (hl : ws.length ≤ 100000) (a k : Nat) (to_ : Int) (h1 : b ≤ a) (h2 : a < t) (hg : goodX (ws.getD a 0#64) (t - a) = true) (hk : k < P0 (ws.getD a 0#64)) (hto : to_ ≠ -1) (hin : insB b t to_ = false) :
    Calls Tryd.prog 11 #[.pointer (some ⟨s, 0, none⟩), .int .i64 a, .int .i64 k, .int .i64 to_] w (RetP (.int .i64 1) w) := by
  have HL := Lib.hid (ptr_ok w B s g v ws b t e p hl a k h1 h2 hg hk)
  obtain ⟨J, hJ⟩ : ∃ J, J = a + 1 + k := ⟨_, rfl⟩
  rw [← hJ] at HL
  have HI := Lib.hid (fun W (hb : Below w.heap.size w W) => inside_c W B s g v ws b t e (p.below hb) to_)
  rw [hin] at HI
  have q1 : (to_ == -1) = false := by simpa using hto
  have q2 : (to_ != -1) = true := by simpa using hto
  clear hJ p hl h1 h2 hg hk hto hin
  go_enter Tryd.func11, Tryd.ntmps11
  go_wp2_with fail
  refine Calls.mono HL.out ?_
  rintro r w2 ⟨rfl, b2⟩
  have HB := Lib.hid b2
  clear b2 HL
  go_wp2_with fail
  refine Calls.mono (HI.out w2 HB.out) ?_
  rintro r w3 ⟨rfl, b3⟩
  have HB3 := Lib.hid (HB.out.trans (b3.mono HB.out.size))
  clear b3
  go_wp2_with fail
  go_ret
  exact ⟨rfl, HB3.out⟩
theorem setptr_nil (w : World) (B s g : Nat) (v : Value) (ws : List (BitVec 64)) (b t e : Nat) (p : SpAt w B s g v ws b t e) (hl : ws.length ≤ 100000) (a k : Nat) (h1 : b ≤ a) (h2 : a < t) (hg : goodX (ws.getD a 0#64) (t - a) = true) (hk : k < P0 (ws.getD a 0#64)) :
    Calls Tryd.prog 11 #[.pointer (some ⟨s, 0, none⟩), .int .i64 a, .int .i64 k, .int .i64 (-1)] w (SetP w B s g v (ws.set (a + 1 + k) 0#64) b t e) := by
  have HL := Lib.hid (ptr_ok w B s g v ws b t e p hl a k h1 h2 hg hk)
  obtain ⟨hj, _⟩ := word_in (b := b) hg h2 p.te p.el hk
  obtain ⟨J, hJ⟩ : ∃ J, J = a + 1 + k := ⟨_, rfl⟩
  rw [← hJ] at HL hj ⊢
  have HS := Lib.hid (fun W (hb : Below w.heap.size w W) => set_in W B g v ws J 0#64 hj hl (p.below hb).mem)
  rw [show U64 (0#64) = 0 from by decide +kernel] at HS
  have HP := Lib.hid p
  have hBw := p.mem.le
  clear hJ p hl h1 h2 hg hk hj
  go_enter Tryd.func11, Tryd.ntmps11
  go_wp2_with fail
  refine Calls.mono HL.out ?_
  rintro r w2 ⟨rfl, b2⟩
  have HB := Lib.hid b2
  have c0 := (HP.out.below b2).four.1
  clear b2 HL
  go_wp2_with fail
  refine Calls.mono (HS.out w2 HB.out) ?_
  rintro r w3 ⟨rfl, hm, hg3⟩
  have HF := Lib.hid (And.intro hm hg3)
  clear hm hg3 c0
  go_wp2_with fail
  go_ret
  exact ⟨rfl, (HP.out.below HB.out).memTo HF.out.1 HF.out.2 (by rw [List.length_set]), (Two.below HB.out).trans (Two.grown HF.out.2), (HB.out.mono hBw).trans ((HP.out.below HB.out).mem.own HF.out.2)⟩
theorem setptr_to (w : World) (B s g : Nat) (v : Value) (ws : List (BitVec 64)) (b t e : Nat) (p : SpAt w B s g v ws b t e) (hl : ws.length ≤ 100000) (a k m : Nat) (h1 : b ≤ a) (h2 : a < t) (hg : goodX (ws.getD a 0#64) (t - a) = true) (hk : k < P0 (ws.getD a 0#64)) (hm1 : b ≤ m) (hm2 : m < t) :
    Calls Tryd.prog 11 #[.pointer (some ⟨s, 0, none⟩), .int .i64 a, .int .i64 k, .int .i64 m] w (SetP w B s g v (ws.set (a + 1 + k) (BitVec.ofNat 64 (m + 1))) b t e) := by
  have HL := Lib.hid (ptr_ok w B s g v ws b t e p hl a k h1 h2 hg hk)
  obtain ⟨hj, _⟩ := word_in (b := b) hg h2 p.te p.el hk
  obtain ⟨J, hJ⟩ : ∃ J, J = a + 1 + k := ⟨_, rfl⟩
  rw [← hJ] at HL hj ⊢
  have hm3 : m < 100000 := by have := p.te; have := p.el; omega
  have HS := Lib.hid (fun W (hb : Below w.heap.size w W) => set_in W B g v ws J (BitVec.ofNat 64 (m + 1)) hj hl (p.below hb).mem)
  rw [ofNat_U64 (m + 1) (by omega), show ((m + 1 : Nat) : Int) = (m : Int) + 1 by omega] at HS
  have HI := Lib.hid (fun W (hb : Below w.heap.size w W) => inside_c W B s g v ws b t e (p.below hb) (m : Int))
  rw [show insB b t (m : Int) = true by unfold insB; simp; omega] at HI
  have HP := Lib.hid p
  have hBw := p.mem.le
  have q1 : ((m : Int) == -1) = false := by simp
  have q2 : ((m : Int) != -1) = true := by simp
  have q3 : (m : Int) ≤ 100000 := by omega
  have q4 : (0 : Int) ≤ (m : Int) := by omega
  clear hJ p hl h1 h2 hg hk hj hm1 hm2 hm3
  go_enter Tryd.func11, Tryd.ntmps11
  go_wp2_with fail
  refine Calls.mono HL.out ?_
  rintro r w2 ⟨rfl, b2⟩
  have HB := Lib.hid b2
  clear b2 HL
  go_wp2_with fail
  refine Calls.mono (HI.out w2 HB.out) ?_
  rintro r w3 ⟨rfl, b3⟩
  have HB3 := Lib.hid (HB.out.trans (b3.mono HB.out.size))
  have c0 := (HP.out.below HB3.out).four.1
  clear b3
  go_wp2_with fail
  refine Calls.mono (HS.out w3 HB3.out) ?_
  rintro r w4 ⟨rfl, hm, hg4⟩
  have HF := Lib.hid (And.intro hm hg4)
  clear hm hg4 c0
  go_wp2_with fail
  go_ret
  exact ⟨rfl, (HP.out.below HB3.out).memTo HF.out.1 HF.out.2 (by rw [List.length_set]), (Two.below HB3.out).trans (Two.grown HF.out.2), (HB3.out.mono hBw).trans ((HP.out.below HB3.out).mem.own HF.out.2)⟩
theorem read_err (w : World) (B s g : Nat) (v : Value) (ws : List (BitVec 64)) (b t e : Nat) (p : SpAt w B s g v ws b t e) (hl : ws.length ≤ 100000) (a i n : Int) (h : lkE ws b t a ≠ 0) :
    Calls Tryd.prog 13 #[.pointer (some ⟨s, 0, none⟩), .int .i64 a, .int .i64 i, .int .i64 n] w (RetP (.tuple #[.slice none 0 0, .int .i64 (lkE ws b t a)]) w) := by
  have HL := Lib.hid (data_err w B s g v ws b t e p hl a i n h)
  obtain ⟨E, hE⟩ : ∃ E, E = lkE ws b t a := ⟨_, rfl⟩
  rw [← hE] at HL h ⊢
  have h1 : (E == 0) = false := by simpa using h
  have h2 : (E != 0) = true := by simpa using h
  clear hE p hl h
  go_enter Tryd.func13, Tryd.ntmps13
  go_wp2_with fail
  refine Calls.mono HL.out ?_
  rintro r w2 ⟨rfl, b2⟩
  have HB := Lib.hid b2
  clear b2 HL
  go_wp2_with fail
  go_ret2
  exact ⟨rfl, HB.out⟩
theorem read_no (w : World) (B s g : Nat) (v : Value) (ws : List (BitVec 64)) (b t e : Nat) (p : SpAt w B s g v ws b t e) (hl : ws.length ≤ 100000) (a : Nat) (i n : Int) (h1 : b ≤ a) (h2 : a < t) (hg : goodX (ws.getD a 0#64) (t - a) = true) (hi : noD (B0 (ws.getD a 0#64)) i n) :
    Calls Tryd.prog 13 #[.pointer (some ⟨s, 0, none⟩), .int .i64 a, .int .i64 i, .int .i64 n] w (RetP (.tuple #[.slice none 0 0, .int .i64 1]) w) := by
  have HL := Lib.hid (data_no w B s g v ws b t e p hl a i n h1 h2 hg hi)
  clear p hl h1 h2 hg hi
  go_enter Tryd.func13, Tryd.ntmps13
  go_wp2_with fail
  refine Calls.mono HL.out ?_
  rintro r w2 ⟨rfl, b2⟩
  have HB := Lib.hid b2
  clear b2 HL
  go_wp2_with fail
  go_ret2
  exact ⟨rfl, HB.out⟩
theorem bytes_room {ws : List (BitVec 64)} {t e a i n : Nat} {x : BitVec 64} (hx : goodX x (t - a) = true) (h2 : a < t) (hte : t ≤ e) (hel : e ≤ ws.length) (hi : i + n ≤ B0 x) : 8 * (a + 1 + P0 x) + i + n ≤ 8 * t ∧ 8 * (a + 1 + P0 x) + i + n ≤ 8 * ws.length := by
  obtain ⟨_, _, _, h, _, h3⟩ := head_of hx
  omega
theorem read_ok (w : World) (B s g : Nat) (v : Value) (ws : List (BitVec 64)) (b t e : Nat) (p : SpAt w B s g v ws b t e) (hl : ws.length ≤ 100000) (a i n : Nat) (h1 : b ≤ a) (h2 : a < t) (hg : goodX (ws.getD a 0#64) (t - a) = true) (hi : i + n ≤ B0 (ws.getD a 0#64)) :
    Calls Tryd.prog 13 #[.pointer (some ⟨s, 0, none⟩), .int .i64 a, .int .i64 i, .int .i64 n] w (MkEP b8 5 (bytesM ws (8 * (a + 1 + P0 (ws.getD a 0#64)) + i) n) 0 w) := by
  have HL := Lib.hid (data_ok w B s g v ws b t e p hl a i n h1 h2 hg hi)
  obtain ⟨_, hr⟩ := bytes_room hg h2 p.te p.el hi
  obtain ⟨J, hJ⟩ : ∃ J, J = 8 * (a + 1 + P0 (ws.getD a 0#64)) + i := ⟨_, rfl⟩
  rw [← hJ] at HL hr ⊢
  have HR := Lib.hid (fun W (hb : Below w.heap.size w W) => bytes_in W B g v ws J n hr hl (p.below hb).mem)
  have HC := Lib.hid (fun W (hb : Below w.heap.size w W) => (p.below hb).four.1)
  clear hJ p hl h1 h2 hg hi hr
  go_enter Tryd.func13, Tryd.ntmps13
  go_wp2_with fail
  refine Calls.mono HL.out ?_
  rintro r w2 ⟨rfl, b2⟩
  have HB := Lib.hid b2
  have c0 := HC.out w2 b2
  clear b2 HL
  go_wp2_with fail
  refine Calls.mono (HR.out w2 HB.out) ?_
  rintro r w3 ⟨A, c, rfl, hc, ho, b3⟩
  have HO := Lib.hid (And.intro hc (And.intro ho b3))
  obtain ⟨F, hF⟩ : ∃ F, F = (bytesM ws J n).length := ⟨_, rfl⟩
  have HFl := Lib.hid hF
  rw [← hF]
  clear hc ho b3 c0 hF
  go_wp2_with fail
  go_ret2
  rw [HFl.out]
  exact MkEP.of (HO.out.2.1.mono HB.out.size) (HB.out.trans (HO.out.2.2.mono HB.out.size))
theorem write_err (w : World) (B s g : Nat) (v : Value) (ws : List (BitVec 64)) (b t e : Nat) (p : SpAt w B s g v ws b t e) (hl : ws.length ≤ 100000) (a i : Int) (A : Option Addr) (n c : Nat) (h : lkE ws b t a ≠ 0) :
    Calls Tryd.prog 15 #[.pointer (some ⟨s, 0, none⟩), .int .i64 a, .int .i64 i, .slice A n c] w (RetP (.int .i64 (lkE ws b t a)) w) := by
  have HL := Lib.hid (data_err w B s g v ws b t e p hl a i (n : Int) h)
  obtain ⟨E, hE⟩ : ∃ E, E = lkE ws b t a := ⟨_, rfl⟩
  rw [← hE] at HL h ⊢
  have h1 : (E == 0) = false := by simpa using h
  have h2 : (E != 0) = true := by simpa using h
  clear hE p hl h
  go_enter Tryd.func15, Tryd.ntmps15
  go_wp2_with fail
  refine Calls.mono HL.out ?_
  rintro r w2 ⟨rfl, b2⟩
  have HB := Lib.hid b2
  clear b2 HL
  go_wp2_with fail
  go_ret
  exact ⟨rfl, HB.out⟩
theorem write_no (w : World) (B s g : Nat) (v : Value) (ws : List (BitVec 64)) (b t e : Nat) (p : SpAt w B s g v ws b t e) (hl : ws.length ≤ 100000) (a : Nat) (i : Int) (A : Option Addr) (n c : Nat) (h1 : b ≤ a) (h2 : a < t) (hg : goodX (ws.getD a 0#64) (t - a) = true) (hi : noD (B0 (ws.getD a 0#64)) i (n : Int)) :
    Calls Tryd.prog 15 #[.pointer (some ⟨s, 0, none⟩), .int .i64 a, .int .i64 i, .slice A n c] w (RetP (.int .i64 1) w) := by
  have HL := Lib.hid (data_no w B s g v ws b t e p hl a i (n : Int) h1 h2 hg hi)
  clear p hl h1 h2 hg hi
  go_enter Tryd.func15, Tryd.ntmps15
  go_wp2_with fail
  refine Calls.mono HL.out ?_
  rintro r w2 ⟨rfl, b2⟩
  have HB := Lib.hid b2
  clear b2 HL
  go_wp2_with fail
  go_ret
  exact ⟨rfl, HB.out⟩
theorem write_ok (w : World) (B s g : Nat) (v : Value) (ws : List (BitVec 64)) (b t e : Nat) (p : SpAt w B s g v ws b t e) (hl : ws.length ≤ 100000) (a i : Nat) (A : Option Addr) (c : Nat) (bs : List (BitVec 8)) (h1 : b ≤ a) (h2 : a < t) (hg : goodX (ws.getD a 0#64) (t - a) = true) (hi : i + bs.length ≤ B0 (ws.getD a 0#64)) (hr : Rd b8 w w.heap.size A bs) (hap : 0 < bs.length → ∀ x, A = some x → some x.block ≠ v.ownBlock) :
    Calls Tryd.prog 15 #[.pointer (some ⟨s, 0, none⟩), .int .i64 a, .int .i64 i, .slice A bs.length c] w (SetP w B s g v (putK ws (8 * (a + 1 + P0 (ws.getD a 0#64)) + i) bs bs.length) b t e) := by
  have HL := Lib.hid (data_ok w B s g v ws b t e p hl a i bs.length h1 h2 hg hi)
  obtain ⟨_, hro⟩ := bytes_room hg h2 p.te p.el hi
  obtain ⟨J, hJ⟩ : ∃ J, J = 8 * (a + 1 + P0 (ws.getD a 0#64)) + i := ⟨_, rfl⟩
  rw [← hJ] at HL hro ⊢
  have HS := Lib.hid (fun W (hb : Below w.heap.size w W) => setBytes_in W B g v ws J A c bs hro hl (p.below hb).mem ((hr.below hb).more hb.size) hap)
  obtain ⟨n, hn⟩ : ∃ n, n = bs.length := ⟨_, rfl⟩
  rw [← hn] at HL HS ⊢
  have HP := Lib.hid p
  have hBw := p.mem.le
  have HLn := Lib.hid hl
  clear hJ p hl h1 h2 hg hi hro hr hap hn
  go_enter Tryd.func15, Tryd.ntmps15
  go_wp2_with fail
  refine Calls.mono HL.out ?_
  rintro r w2 ⟨rfl, b2⟩
  have HB := Lib.hid b2
  have c0 := (HP.out.below b2).four.1
  clear b2 HL
  go_wp2_with fail
  refine Calls.mono (HS.out w2 HB.out) ?_
  rintro r w3 ⟨rfl, hm, hg3⟩
  have HF := Lib.hid (And.intro hm hg3)
  clear hm hg3 c0
  go_wp2_with fail
  go_ret
  exact ⟨rfl, (HP.out.below HB.out).memTo HF.out.1 HF.out.2 (putK_len _ _ _ _), (Two.below HB.out).trans (Two.grown HF.out.2), (HB.out.mono hBw).trans ((HP.out.below HB.out).mem.own HF.out.2)⟩
end Go.Proofs.YtfodefgihicafaaDoor
