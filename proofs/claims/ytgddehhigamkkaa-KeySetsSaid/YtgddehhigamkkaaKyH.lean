/- key.Set: Add, Remove, Has, Len. Conditions: lengths. -/
import Derived.Test.YtgddehhigamkkaaKyG
import Derived.Test.YtgddehhigamkkaaRegT
import Derived.Deep.CutRange
namespace Go.Proofs.Ytgddehhigamkkaa
set_option linter.unusedVariables false
set_option linter.unusedSimpArgs false
open Go.RowKit Go.Maps
set_option maxHeartbeats 800000
set_option maxRecDepth 100000
/-- A slice's address reads as keys. -/
def KRd (W : World) (B : Nat) (A : Option Addr) (ks : List (Int × Int)) : Prop := ∀ k (h : k < ks.length), ∃ ad, A = some ad ∧ ad.block < B ∧ W.cell? (ad.add (k * 2)) = some (.int .i64 ks[k].1) ∧ W.cell? ⟨(ad.add (k * 2)).block, (ad.add (k * 2)).off + 1, none⟩ = some (.int .i64 ks[k].2)
section
variable {w w' : World} {B b : Nat} {A : Option Addr} {ks m : List (Int × Int)} {S : Nat → Prop}
theorem KRd.kept (h : KRd w w.heap.size A ks) (hk : Kept S w w') (hn : ∀ ad, A = some ad → ¬ S ad.block) : KRd w' w'.heap.size A ks := fun k hk2 => by
  obtain ⟨ad, e, hb, c1, c2⟩ := h k hk2
  exact ⟨ad, e, Nat.lt_of_lt_of_le hb hk.size, (hk.cell (by rw [add_block]; exact hb) (by rw [add_block]; exact hn ad e)).trans c1, (hk.cell (p := ⟨(ad.add (k * 2)).block, (ad.add (k * 2)).off + 1, none⟩) (by show (ad.add (k * 2)).block < _; rw [add_block]; exact hb) (by show ¬ S (ad.add (k * 2)).block; rw [add_block]; exact hn ad e)).trans c2⟩
theorem KRd.below (h : KRd w w.heap.size A ks) (hb : Below w.heap.size w w') : KRd w' w'.heap.size A ks := h.kept (Kept.of_below hb (fun _ => False)) (fun _ _ f => f)
theorem KRd.nil : KRd w B A [] := fun k h => absurd h (by simp)
theorem RdK.krd {q : Nat} (h : RdK w (some ⟨q, 0, none⟩) ks) (hq : q < B) : KRd w B (some ⟨q, 0, none⟩) ks := fun k hk => by
  obtain ⟨f0, f1⟩ := flatK_at ks k hk
  obtain ⟨a0, e0, c0⟩ := h _ _ f0
  obtain ⟨a1, e1, c1⟩ := h _ _ f1
  injection e0 with e0
  injection e1 with e1
  subst e0
  subst e1
  rw [add_off] at c0 c1
  refine ⟨_, rfl, hq, ?_, ?_⟩
  · rw [add_off, ← c0]; congr 2; omega
  · rw [add_off, ← c1]; congr 2; simp; omega
/-- A map, or none. -/
theorem SetO.kept {mb : Option Nat} (h : SetO w mb m) (hk : Kept S w w') (hn : ∀ b, mb = some b → ¬ S b) : SetO w' mb m := by
  cases mb with
  | none => exact h
  | some b => exact SetIs.kept h hk (hn b rfl)
theorem SetO.lt {mb : Option Nat} (h : SetO w mb m) : ∀ b, mb = some b → b < w.heap.size := fun b e => by subst e; exact SetIs.lt h
theorem SetO.len {mb : Option Nat} (h : SetO w mb m) (ty : TypeId) : (Builtin.len_ #[35] ty #[.map mb]).run Try.prog w = .ok (.int .i64 m.length) w := by
  cases mb with
  | none =>
    have e : m = [] := h
    subst e
    exact Maps.len_nil Try.underlying35 ty
  | some b => exact SetIs.len h ty
theorem SetO.look {mb : Option Nat} (h : SetO w mb m) {p : Int × Int} (hp : kW p) : (Instr.lookup 35 (.map mb) (kV p) true).run Try.prog w = .ok (.tuple #[.agg #[], .bool (decide (p ∈ m))]) w := by
  cases mb with
  | none =>
    have e : m = [] := h
    subst e
    have := Maps.look_nil (w := w) true lawK Try.underlying35 (zeroU w) (keyK hp)
    simpa using this
  | some b => exact SetIs.look h hp
theorem SetO.del {mb : Option Nat} (h : SetO w mb m) {p : Int × Int} (hp : kW p) (ty : TypeId) :
    ∃ w', (Builtin.delete_ #[35, 23] ty #[.map mb, kV p]).run Try.prog w = .ok (.tuple #[]) w' ∧ SetO w' mb (offK m p) ∧ Kept (fun c => mb = some c) w w' := by
  cases mb with
  | none =>
    have e : m = [] := h
    subst e
    exact ⟨w, Maps.drop_nil lawK Try.underlying35 (keyK hp) ty, rfl, Kept.refl _ _⟩
  | some b => exact SetIs.del h hp ty
variable {ops : Array Oper} {rest : List Oper} {o : Oper} {a : Act} {Q : Exit → Act → World → Prop}
theorem wp_putK (hg : o.guard = none) (mm x v : Operand) (hop : o.op = Op.mapUpdate 35 mm x v)
    (hm : a.eval mm = .map (some b)) (h : SetIs w b m) (p : Int × Int) (hx : a.eval x = kV p) (hv : a.eval v = .agg #[]) (hp : kW p) (hl : m.length ≤ 1000000)
    (hK : ∀ w', SetIs w' b (addK m p) → Kept (fun c => some b = some c) w w' → wpList Try.prog ops Q rest (a.put o.dst undef) w') : wpList Try.prog ops Q (o :: rest) a w := by
  refine wpList_plain hg fun K' hK' => ?_
  obtain ⟨w', hrun, r1, r2⟩ := h.put hp (by unfold maxLen; omega)
  unfold Oper.wp
  simp [execOp, hop, hm, hx, hv, hrun, Result.andThen]
  exact hK' _ _ (hK w' r1 r2)
theorem wp_delK {mb : Option Nat} (hg : o.guard = none) (mm x : Operand) (hop : o.op = Op.call { callee := Callee.builtin Builtin.delete, args := #[mm, x], argTypes := #[35, 23] })
    (hm : a.eval mm = .map mb) (h : SetO w mb m) (p : Int × Int) (hx : a.eval x = kV p) (hp : kW p)
    (hK : ∀ w', SetO w' mb (offK m p) → Kept (fun c => mb = some c) w w' → wpList Try.prog ops Q rest (a.put o.dst (.tuple #[])) w') : wpList Try.prog ops Q (o :: rest) a w := by
  refine wpList_plain hg fun K' hK' => ?_
  obtain ⟨w', hrun, r1, r2⟩ := h.del hp o.type
  unfold Oper.wp execOp
  simp only [hop, resolve, invoke, builtin, Sem.run_bind, Sem.run_pure, Result.andThen_ok, List.map_toArray, List.map_cons, List.map_nil, hm, hx, hrun]
  exact hK' _ _ (hK w' r1 r2)
end
def addL (m ks : List (Int × Int)) : List (Int × Int) := ks.foldl addK m
def offL (m ks : List (Int × Int)) : List (Int × Int) := ks.foldl offK m
theorem addK_len (m : List (Int × Int)) (p : Int × Int) : m.length ≤ (addK m p).length ∧ (addK m p).length ≤ m.length + 1 := by unfold addK; split <;> simp
theorem addL_len (ks : List (Int × Int)) : ∀ m : List (Int × Int), m.length ≤ (addL m ks).length ∧ (addL m ks).length ≤ m.length + ks.length := by
  induction ks with
  | nil => intro m; exact ⟨Nat.le_refl _, Nat.le_refl _⟩
  | cons k ks ih => intro m; have := ih (addK m k); have h := addK_len m k; simp only [addL, List.foldl_cons, List.length_cons] at this ⊢; omega
theorem offL_len (ks : List (Int × Int)) : ∀ m : List (Int × Int), (offL m ks).length ≤ m.length := by
  induction ks with
  | nil => intro m; exact Nat.le_refl _
  | cons k ks ih => intro m; have := ih (offK m k); have h : (offK m k).length ≤ m.length := List.length_filter_le _ _; simp only [offL, List.foldl_cons] at this ⊢; omega
theorem addL_snoc (m ks : List (Int × Int)) (p : Int × Int) : addL m (ks ++ [p]) = addK (addL m ks) p := by simp [addL]
theorem offL_snoc (m ks : List (Int × Int)) (p : Int × Int) : offL m (ks ++ [p]) = offK (offL m ks) p := by simp [offL]
/-- Block g is a set of m, its map is mb. -/
structure SetAt (w : World) (g : Nat) (mb : Option Nat) (m : List (Int × Int)) : Prop where
  blk : Bk w g 37 #[.map mb]
  set : SetO w mb m
theorem SetAt.kept {w w' : World} {g : Nat} {mb : Option Nat} {m : List (Int × Int)} {S : Nat → Prop} (h : SetAt w g mb m) (hk : Kept S w w') (hg : ¬ S g) (hm : ∀ b, mb = some b → ¬ S b) : SetAt w' g mb m := ⟨hk.bk h.blk hg, h.set.kept hk hm⟩
/-- .. of blocks from B on that are none of X. -/
def SetX (B : Nat) (X : Nat → Prop) (w : World) (g : Nat) (m : List (Int × Int)) : Prop := ∃ mb, SetAt w g mb m ∧ ∀ k, (k = g ∨ mb = some k) → B ≤ k ∧ ¬ X k
def SxP (B : Nat) (X : Nat → Prop) (w : World) (g : Nat) (m : List (Int × Int)) (v : Value) (e : Ending) (w' : World) : Prop := e = .returned v ∧ SetX B X w' g m ∧ Kept (fun k => B ≤ k ∧ ¬ X k) w w'
section
variable {B : Nat} {X X' S : Nat → Prop} {w w' : World} {g : Nat} {m : List (Int × Int)}
theorem SetX.kept (h : SetX B X w g m) (hk : Kept S w w') (hS : ∀ k, S k → k < B ∨ X k ∨ w.heap.size ≤ k) : SetX B X w' g m := by
  obtain ⟨mb, h1, h2⟩ := h
  have hlt : ∀ k, (k = g ∨ mb = some k) → k < w.heap.size := fun k hk => by
    rcases hk with rfl | e
    · exact h1.blk.lt
    · exact h1.set.lt k e
  have hn : ∀ k, (k = g ∨ mb = some k) → ¬ S k := fun k ho hs => by
    have h3 := h2 k ho
    have h4 := hlt k ho
    rcases hS k hs with e | e | e
    · omega
    · exact h3.2 e
    · omega
  exact ⟨mb, h1.kept hk (hn g (.inl rfl)) (fun b e => hn b (.inr e)), h2⟩
theorem SetX.below (h : SetX B X w g m) (hb : Below w.heap.size w w') : SetX B X w' g m := h.kept (Kept.of_below hb (fun _ => False)) (fun _ f => f.elim)
theorem SetX.lt (h : SetX B X w g m) : g < w.heap.size := by obtain ⟨mb, h1, _⟩ := h; exact h1.blk.lt
theorem SetX.besides (h : SetX B X w g m) (hX : ∀ k, X' k → X k ∨ w.heap.size ≤ k) : SetX B X' w g m := by
  obtain ⟨mb, h1, h2⟩ := h
  refine ⟨mb, h1, fun k ho => ⟨(h2 k ho).1, fun hx => ?_⟩⟩
  have hlt : k < w.heap.size := by
    rcases ho with rfl | e
    · exact h1.blk.lt
    · exact h1.set.lt k e
  rcases hX k hx with e | e
  · exact (h2 k ho).2 e
  · omega
theorem SxP.bel {v : Value} {e : Ending} (h : SxP B X w g m v e w') (hB : B ≤ w.heap.size) : Below B w w' := h.2.2.below hB (fun _ e => e.1)
theorem slen_c (h : SetX B X w g m) : Calls Try.prog 17 #[.pointer (some ⟨g, 0, none⟩)] w fun e w' => e = .returned (.int .i64 m.length) ∧ w' = w := by
  obtain ⟨mb, h1, _⟩ := h
  have c0 := h1.blk.cell 0
  have hlen := h1.set.len
  clear h1
  go_enter Try.func17, Try.ntmps17
  go_wp2_with fail
  go_ret
  exact ⟨rfl, rfl⟩
end
theorem sa_reg (Q : Exit → Act → World → Prop) (a0 : Act) (w : World) (g b q : Nat) (x y : Int) (hg : g < w.heap.size) (hq : q < w.heap.size) (c0 : w.cell? ⟨g, 0, none⟩ = some (.map (some b))) (c1 : w.cell? ⟨q, 0, none⟩ = some (.int .i64 x)) (c2 : w.cell? ⟨q, 1, none⟩ = some (.int .i64 y)) (hsz : a0.tmps.size = 42) (sl0 : a0.tmps.getD 0 undef = .pointer (some ⟨g, 0, none⟩)) (sl7 : a0.tmps.getD 7 undef = .pointer (some ⟨q, 0, none⟩))
    (fin : ∀ (vals : Nat → Value) (w1 : World), Below w.heap.size w w1 → (IsV (.map (some b))) (vals 3) w1 → (IsV (.agg #[.int .i64 x, .int .i64 y])) (vals 4) w1 → (IsV (.agg #[])) (vals 5) w1 → wpList Try.prog #[{ dst := none, op := Go.Op.mapUpdate 35 (Go.Operand.tmp 31) (Go.Operand.tmp 32) (Go.Operand.tmp 33), type := 0, pos := "", after := #[], guard := none }] Q [{ dst := none, op := Go.Op.mapUpdate 35 (Go.Operand.tmp 31) (Go.Operand.tmp 32) (Go.Operand.tmp 33), type := 0, pos := "", after := #[], guard := none }] (putD vals [28, 29, 30, 31, 32, 33] 0 a0) w1) :
    (Code.region 7 (regIn Try.f15 7) true).wp Try.prog Q a0 w := by
  refine region_by_tail (m := 6) (G := fun w w1 => Below w.heap.size w w1) [IsV (.pointer (some ⟨g, 0, none⟩)),
    IsV (.pointer (some ⟨g, 0, none⟩)),
    IsV (.pointer (some ⟨g, 0, none⟩)),
    IsV (.map (some b)),
    IsV (.agg #[.int .i64 x, .int .i64 y]),
    IsV (.agg #[])]
    [28, 29, 30, 31, 32, 33] (by kernel_rfl) (Gw.drew _) Gw.trans (by rw [hsz]; kernel_rfl) (by kernel_rfl) ?_ ?_ ?_
  · intro f hf
    simp only [List.mem_cons, List.not_mem_nil, or_false] at hf
    rcases hf with rfl | rfl | rfl | rfl | rfl | rfl <;> intro v a b h g <;> first | exact IsV.mono h
  · refine ⟨?_, ?_, ?_, ?_, ?_, ?_, trivial⟩
    · exact owes_mv 0 (by kernel_rfl) (by kernel_rfl) (by kernel_rfl) sl0 (fun _ => rfl)
    · refine owes_v (Go.Op.nilCheck (Go.Operand.tmp 28)) 0 [0] (by kernel_rfl) (by kernel_rfl) (by kernel_rfl) rfl fun vals w1 ρ hG hF hρ hcst hfun => ?_
      have e28 : ρ (.tmp 28) = .pointer (some ⟨g, 0, none⟩) := ((hρ 28).trans (slotJ [0] (by rw [hsz]; decide) (by kernel_rfl))).trans (hF 0 (by decide))
      clear hρ hF hcst hfun sl0 sl7 fin
      exact opv_val (by go_simp <;> rfl) ⟨gw_self _, rfl⟩
    · refine owes_v (Go.Op.fieldAddr 37 (Go.Operand.tmp 29) 0) 0 [1] (by kernel_rfl) (by kernel_rfl) (by kernel_rfl) rfl fun vals w1 ρ hG hF hρ hcst hfun => ?_
      have e29 : ρ (.tmp 29) = .pointer (some ⟨g, 0, none⟩) := ((hρ 29).trans (slotJ [1] (by rw [hsz]; decide) (by kernel_rfl))).trans (hF 1 (by decide))
      clear hρ hF hcst hfun sl0 sl7 fin
      exact opv_val (by go_simp <;> rfl) ⟨gw_self _, rfl⟩
    · refine owes_v (Go.Op.load 35 (Go.Operand.tmp 30)) 35 [2] (by kernel_rfl) (by kernel_rfl) (by kernel_rfl) rfl fun vals w1 ρ hG hF hρ hcst hfun => ?_
      have e30 : ρ (.tmp 30) = .pointer (some ⟨g, 0, none⟩) := ((hρ 30).trans (slotJ [2] (by rw [hsz]; decide) (by kernel_rfl))).trans (hF 2 (by decide))
      have k := (hG.cell (p := ⟨g, 0, none⟩) hg).trans c0
      clear hρ hF hcst hfun sl0 sl7 fin
      exact opv_val (by go_simp <;> rfl) ⟨gw_self _, rfl⟩
    · refine owes_v (Go.Op.load 23 (Go.Operand.tmp 7)) 23 [] (by kernel_rfl) (by kernel_rfl) (by kernel_rfl) rfl fun vals w1 ρ hG hF hρ hcst hfun => ?_
      have e7 : ρ (.tmp 7) = .pointer (some ⟨q, 0, none⟩) := ((hρ 7).trans (slotO [] (by kernel_rfl))).trans sl7
      obtain ⟨k1, k2⟩ := And.intro ((hG.cell (p := ⟨q, 0, none⟩) hq).trans c1) ((hG.cell (p := ⟨q, 1, none⟩) hq).trans c2)
      clear hρ hF hcst hfun sl0 sl7 fin
      exact opv_val (by go_simp <;> rfl) ⟨gw_self _, rfl⟩
    · refine owes_v (Go.Op.build 56 #[]) 56 [] (by kernel_rfl) (by kernel_rfl) (by kernel_rfl) rfl fun vals w1 ρ hG hF hρ hcst hfun => ?_
      clear hρ hF hcst hfun sl0 sl7 fin
      exact opv_val (by go_simp <;> rfl) ⟨gw_self _, rfl⟩
  · intro vals w1 hG hF
    exact last_list (by kernel_rfl) (by kernel_rfl) (by kernel_rfl) (fin vals w1 hG (hF 3 (by decide +kernel)) (hF 4 (by decide +kernel)) (hF 5 (by decide +kernel)))
theorem sd_reg (Q : Exit → Act → World → Prop) (a0 : Act) (w : World) (g q : Nat) (mb : Option Nat) (x y : Int) (hg : g < w.heap.size) (hq : q < w.heap.size) (c0 : w.cell? ⟨g, 0, none⟩ = some (.map mb)) (c1 : w.cell? ⟨q, 0, none⟩ = some (.int .i64 x)) (c2 : w.cell? ⟨q, 1, none⟩ = some (.int .i64 y)) (hsz : a0.tmps.size = 32) (sl0 : a0.tmps.getD 0 undef = .pointer (some ⟨g, 0, none⟩)) (sl7 : a0.tmps.getD 7 undef = .pointer (some ⟨q, 0, none⟩))
    (fin : ∀ (vals : Nat → Value) (w1 : World), Below w.heap.size w w1 → (IsV (.map mb)) (vals 3) w1 → (IsV (.agg #[.int .i64 x, .int .i64 y])) (vals 4) w1 → wpList Try.prog #[{ dst := none, op := Go.Op.call { callee := Go.Callee.builtin Go.Builtin.delete, args := #[Go.Operand.tmp 22, Go.Operand.tmp 23], argTypes := #[35, 23] }, type := 0, pos := "", after := #[], guard := none }] Q [{ dst := none, op := Go.Op.call { callee := Go.Callee.builtin Go.Builtin.delete, args := #[Go.Operand.tmp 22, Go.Operand.tmp 23], argTypes := #[35, 23] }, type := 0, pos := "", after := #[], guard := none }] (putD vals [19, 20, 21, 22, 23] 0 a0) w1) :
    (Code.region 5 (regIn Try.f16 5) true).wp Try.prog Q a0 w := by
  refine region_by_tail (m := 5) (G := fun w w1 => Below w.heap.size w w1) [IsV (.pointer (some ⟨g, 0, none⟩)),
    IsV (.pointer (some ⟨g, 0, none⟩)),
    IsV (.pointer (some ⟨g, 0, none⟩)),
    IsV (.map mb),
    IsV (.agg #[.int .i64 x, .int .i64 y])]
    [19, 20, 21, 22, 23] (by kernel_rfl) (Gw.drew _) Gw.trans (by rw [hsz]; kernel_rfl) (by kernel_rfl) ?_ ?_ ?_
  · intro f hf
    simp only [List.mem_cons, List.not_mem_nil, or_false] at hf
    rcases hf with rfl | rfl | rfl | rfl | rfl <;> intro v a b h g <;> first | exact IsV.mono h
  · refine ⟨?_, ?_, ?_, ?_, ?_, trivial⟩
    · exact owes_mv 0 (by kernel_rfl) (by kernel_rfl) (by kernel_rfl) sl0 (fun _ => rfl)
    · refine owes_v (Go.Op.nilCheck (Go.Operand.tmp 19)) 0 [0] (by kernel_rfl) (by kernel_rfl) (by kernel_rfl) rfl fun vals w1 ρ hG hF hρ hcst hfun => ?_
      have e19 : ρ (.tmp 19) = .pointer (some ⟨g, 0, none⟩) := ((hρ 19).trans (slotJ [0] (by rw [hsz]; decide) (by kernel_rfl))).trans (hF 0 (by decide))
      clear hρ hF hcst hfun sl0 sl7 fin
      exact opv_val (by go_simp <;> rfl) ⟨gw_self _, rfl⟩
    · refine owes_v (Go.Op.fieldAddr 37 (Go.Operand.tmp 20) 0) 0 [1] (by kernel_rfl) (by kernel_rfl) (by kernel_rfl) rfl fun vals w1 ρ hG hF hρ hcst hfun => ?_
      have e20 : ρ (.tmp 20) = .pointer (some ⟨g, 0, none⟩) := ((hρ 20).trans (slotJ [1] (by rw [hsz]; decide) (by kernel_rfl))).trans (hF 1 (by decide))
      clear hρ hF hcst hfun sl0 sl7 fin
      exact opv_val (by go_simp <;> rfl) ⟨gw_self _, rfl⟩
    · refine owes_v (Go.Op.load 35 (Go.Operand.tmp 21)) 35 [2] (by kernel_rfl) (by kernel_rfl) (by kernel_rfl) rfl fun vals w1 ρ hG hF hρ hcst hfun => ?_
      have e21 : ρ (.tmp 21) = .pointer (some ⟨g, 0, none⟩) := ((hρ 21).trans (slotJ [2] (by rw [hsz]; decide) (by kernel_rfl))).trans (hF 2 (by decide))
      have k := (hG.cell (p := ⟨g, 0, none⟩) hg).trans c0
      clear hρ hF hcst hfun sl0 sl7 fin
      exact opv_val (by go_simp <;> rfl) ⟨gw_self _, rfl⟩
    · refine owes_v (Go.Op.load 23 (Go.Operand.tmp 7)) 23 [] (by kernel_rfl) (by kernel_rfl) (by kernel_rfl) rfl fun vals w1 ρ hG hF hρ hcst hfun => ?_
      have e7 : ρ (.tmp 7) = .pointer (some ⟨q, 0, none⟩) := ((hρ 7).trans (slotO [] (by kernel_rfl))).trans sl7
      obtain ⟨k1, k2⟩ := And.intro ((hG.cell (p := ⟨q, 0, none⟩) hq).trans c1) ((hG.cell (p := ⟨q, 1, none⟩) hq).trans c2)
      clear hρ hF hcst hfun sl0 sl7 fin
      exact opv_val (by go_simp <;> rfl) ⟨gw_self _, rfl⟩
  · intro vals w1 hG hF
    exact last_list (by kernel_rfl) (by kernel_rfl) (by kernel_rfl) (fin vals w1 hG (hF 3 (by decide +kernel)) (hF 4 (by decide +kernel)))
end Go.Proofs.Ytgddehhigamkkaa
