/- What table's Lookup, Unbind, Len, Bind answer. Conditions: lengths. -/
import Derived.Test.YtdfhdgdhhgabbaaNmD
import Derived.Test.YtdfhdgdhhgabbaaNmB
namespace Go.Proofs.Ytdfhdgdhhgabbaa
set_option linter.unusedVariables false
set_option linter.unusedSimpArgs false
open Go.RowKit Go.Maps
set_option maxRecDepth 100000
set_option maxHeartbeats 800000
theorem opv_loadN {ρ : Operand → Value} {x : Operand} {w : World} {g : Nat} {E : TypeId} {cs : Array Value} {ty : TypeId} (hx : ρ x = .pointer (some ⟨g, 0, none⟩)) (hb : Bk w g E cs) (hs : cs.size = 32) :
    OpV Try.prog (.load 24 x) ty ρ w (fun v w2 => Below w.heap.size w w2 ∧ IsV (.agg cs) v w2) :=
  opv_val (by unfold execOp; simp [hx, Instr.loadAt, Instr.sureAddr, ldN hb hs]) ⟨gw_self _, rfl⟩
/-- Block g is a table, of blocks from B on. -/
def TbX (B : Nat) (w : World) (g : Nat) (m : Tb) : Prop := ∃ mb, Bk w g 34 #[.map mb] ∧ NmO w mb m ∧ B ≤ g ∧ ∀ b, mb = some b → B ≤ b ∧ b ≠ g
section
variable {B : Nat} {w w' : World} {g : Nat} {m : Tb}
theorem TbX.below (h : TbX B w g m) (hb : Below w.heap.size w w') : TbX B w' g m := by
  obtain ⟨mb, h1, h2, h3, h4⟩ := h
  exact ⟨mb, h1.below hb h1.lt, h2.kept (Kept.of_below hb (fun _ => False)) (fun _ _ f => f), h3, h4⟩
theorem TbX.lt (h : TbX B w g m) : g < w.heap.size := by obtain ⟨mb, h1, _⟩ := h; exact h1.lt
end
def LkF (w : World) (mb : Option Nat) (arr : Array Value) (x : Int) (ok : Bool) : Prop := ∀ W, Below w.heap.size w W → (Instr.lookup 32 (.map mb) (.agg arr) true).run Try.prog W = .ok (.tuple #[.int .i64 x, .bool ok]) W
theorem NmO.lkf {w : World} {mb : Option Nat} {m : Tb} (h : NmO w mb m) {k : Nm} (hk : nW k) : LkF w mb (nC k) ((vOf m k).getD 0) (vOf m k).isSome := fun W hb =>
  (h.kept (Kept.of_below hb (fun _ => False)) (fun _ _ f => f)).look hk
theorem lk_reg (Q : Exit → Act → World → Prop) (a0 : Act) (w : World) (g q : Nat) (mb : Option Nat) (arr : Array Value) (x : Int) (ok : Bool) (hs : arr.size = 32) (hg : Bk w g 34 #[.map mb]) (hq : Bk w q 24 arr) (HL : Hid (LkF w mb arr x ok)) (hsz : a0.tmps.size = 19) (sl0 : a0.tmps.getD 0 undef = .pointer (some ⟨g, 0, none⟩)) (sl3 : a0.tmps.getD 3 undef = .pointer (some ⟨q, 0, none⟩))
    (fin : ∀ (vals : Nat → Value) (w1 : World), Below w.heap.size w w1 → (IsV (.int .i64 x)) (vals 9) w1 → (IsV (.bool ok)) (vals 10) w1 → Q .normal (putD vals [9, 10, 11, 12, 13, 14, 8, 15, 16, 6, 7] 0 a0) w1) :
    (Code.region 1 (regIn Try.f15 1) true).wp Try.prog Q a0 w := by
  refine region_by (G := fun w w1 => Below w.heap.size w w1) [IsV (.pointer (some ⟨g, 0, none⟩)),
    IsV (.pointer (some ⟨g, 0, none⟩)),
    IsV (.pointer (some ⟨g, 0, none⟩)),
    IsV (.map mb),
    IsV (.agg arr),
    IsV (.tuple #[.int .i64 x, .bool ok]),
    IsV (.tuple #[.int .i64 x, .bool ok]),
    IsV (.int .i64 x),
    IsV (.bool ok),
    IsV (.int .i64 x),
    IsV (.bool ok)]
    [9, 10, 11, 12, 13, 14, 8, 15, 16, 6, 7] (by kernel_rfl) (Gw.drew _) Gw.trans (by rw [hsz]; kernel_rfl) (by kernel_rfl) ?_ ?_ ?_
  · intro f hf
    simp only [List.mem_cons, List.not_mem_nil, or_false] at hf
    rcases hf with rfl | rfl | rfl | rfl | rfl | rfl | rfl | rfl | rfl | rfl | rfl <;> intro v a b h g <;> first | exact IsV.mono h
  · refine ⟨?_, ?_, ?_, ?_, ?_, ?_, ?_, ?_, ?_, ?_, ?_, trivial⟩
    · exact owes_mv 0 (by kernel_rfl) (by kernel_rfl) (by kernel_rfl) sl0 (fun _ => rfl)
    · refine owes_v (Go.Op.nilCheck (Go.Operand.tmp 9)) 0 [0] (by kernel_rfl) (by kernel_rfl) (by kernel_rfl) rfl fun vals w1 ρ hG hF hρ hcst hfun => ?_
      have e9 : ρ (.tmp 9) = .pointer (some ⟨g, 0, none⟩) := ((hρ 9).trans (slotJ [0] (by rw [hsz]; decide) (by kernel_rfl))).trans (hF 0 (by decide))
      clear hρ hF hcst hfun sl0 sl3 fin
      exact opv_val (by go_simp <;> rfl) ⟨gw_self _, rfl⟩
    · refine owes_v (Go.Op.fieldAddr 34 (Go.Operand.tmp 10) 0) 0 [1] (by kernel_rfl) (by kernel_rfl) (by kernel_rfl) rfl fun vals w1 ρ hG hF hρ hcst hfun => ?_
      have e10 : ρ (.tmp 10) = .pointer (some ⟨g, 0, none⟩) := ((hρ 10).trans (slotJ [1] (by rw [hsz]; decide) (by kernel_rfl))).trans (hF 1 (by decide))
      clear hρ hF hcst hfun sl0 sl3 fin
      exact opv_val (by go_simp <;> rfl) ⟨gw_self _, rfl⟩
    · refine owes_v (Go.Op.load 32 (Go.Operand.tmp 11)) 32 [2] (by kernel_rfl) (by kernel_rfl) (by kernel_rfl) rfl fun vals w1 ρ hG hF hρ hcst hfun => ?_
      have e11 : ρ (.tmp 11) = .pointer (some ⟨g, 0, none⟩) := ((hρ 11).trans (slotJ [2] (by rw [hsz]; decide) (by kernel_rfl))).trans (hF 2 (by decide))
      have k0 := (hg.below hG hg.lt).cell 0
      clear hρ hF hcst hfun sl0 sl3 fin
      exact opv_val (by go_simp <;> rfl) ⟨gw_self _, rfl⟩
    · refine owes_v (Go.Op.load 24 (Go.Operand.tmp 3)) 24 [] (by kernel_rfl) (by kernel_rfl) (by kernel_rfl) rfl fun vals w1 ρ hG hF hρ hcst hfun => ?_
      have e3 : ρ (.tmp 3) = .pointer (some ⟨q, 0, none⟩) := ((hρ 3).trans (slotO [] (by kernel_rfl))).trans sl3
      clear hρ hF hcst hfun sl0 sl3 fin
      exact opv_loadN e3 (hq.below hG hq.lt) hs
    · refine owes_v (Go.Op.lookup 32 (Go.Operand.tmp 12) (Go.Operand.tmp 13) true) 45 [3, 4] (by kernel_rfl) (by kernel_rfl) (by kernel_rfl) rfl fun vals w1 ρ hG hF hρ hcst hfun => ?_
      have e12 : ρ (.tmp 12) = .map mb := ((hρ 12).trans (slotJ [3, 4] (by rw [hsz]; decide) (by kernel_rfl))).trans (hF 3 (by decide))
      have e13 : ρ (.tmp 13) = .agg arr := ((hρ 13).trans (slotJ [3, 4] (by rw [hsz]; decide) (by kernel_rfl))).trans (hF 4 (by decide))
      have k1 := HL.out w1 hG
      clear hρ hF hcst hfun sl0 sl3 fin
      exact opv_val (by go_simp <;> rfl) ⟨gw_self _, rfl⟩
    · exact owes_mvj 5 14 (by kernel_rfl) (by kernel_rfl) (by kernel_rfl) (by kernel_rfl) (by rw [hsz]; decide) (fun v w h => h)
    · refine owes_v (Go.Op.extract (Go.Operand.tmp 8) 0) 3 [6] (by kernel_rfl) (by kernel_rfl) (by kernel_rfl) rfl fun vals w1 ρ hG hF hρ hcst hfun => ?_
      have e8 : ρ (.tmp 8) = .tuple #[.int .i64 x, .bool ok] := ((hρ 8).trans (slotJ [6] (by rw [hsz]; decide) (by kernel_rfl))).trans (hF 6 (by decide))
      clear hρ hF hcst hfun sl0 sl3 fin
      exact opv_val (by go_simp <;> rfl) ⟨gw_self _, rfl⟩
    · refine owes_v (Go.Op.extract (Go.Operand.tmp 8) 1) 4 [6] (by kernel_rfl) (by kernel_rfl) (by kernel_rfl) rfl fun vals w1 ρ hG hF hρ hcst hfun => ?_
      have e8 : ρ (.tmp 8) = .tuple #[.int .i64 x, .bool ok] := ((hρ 8).trans (slotJ [6] (by rw [hsz]; decide) (by kernel_rfl))).trans (hF 6 (by decide))
      clear hρ hF hcst hfun sl0 sl3 fin
      exact opv_val (by go_simp <;> rfl) ⟨gw_self _, rfl⟩
    · exact owes_mvj 7 15 (by kernel_rfl) (by kernel_rfl) (by kernel_rfl) (by kernel_rfl) (by rw [hsz]; decide) (fun v w h => h)
    · exact owes_mvj 8 16 (by kernel_rfl) (by kernel_rfl) (by kernel_rfl) (by kernel_rfl) (by rw [hsz]; decide) (fun v w h => h)
  · intro vals w1 hG hF
    exact fin vals w1 hG (hF 9 (by decide +kernel)) (hF 10 (by decide +kernel))
theorem ub_reg (Q : Exit → Act → World → Prop) (a0 : Act) (w : World) (g q : Nat) (mb : Option Nat) (arr : Array Value) (x : Int) (ok : Bool) (hs : arr.size = 32) (hg : Bk w g 34 #[.map mb]) (hq : Bk w q 24 arr) (HL : Hid (LkF w mb arr x ok)) (hsz : a0.tmps.size = 24) (sl0 : a0.tmps.getD 0 undef = .pointer (some ⟨g, 0, none⟩)) (sl3 : a0.tmps.getD 3 undef = .pointer (some ⟨q, 0, none⟩))
    (fin : ∀ (vals : Nat → Value) (w1 : World), Below w.heap.size w w1 → (IsV (.int .i64 x)) (vals 9) w1 → (IsV (.bool ok)) (vals 10) w1 → Q .normal (putD vals [9, 10, 11, 12, 13, 14, 8, 15, 16, 6, 7] 0 a0) w1) :
    (Code.region 1 (regIn Try.f14 1) true).wp Try.prog Q a0 w := by
  refine region_by (G := fun w w1 => Below w.heap.size w w1) [IsV (.pointer (some ⟨g, 0, none⟩)),
    IsV (.pointer (some ⟨g, 0, none⟩)),
    IsV (.pointer (some ⟨g, 0, none⟩)),
    IsV (.map mb),
    IsV (.agg arr),
    IsV (.tuple #[.int .i64 x, .bool ok]),
    IsV (.tuple #[.int .i64 x, .bool ok]),
    IsV (.int .i64 x),
    IsV (.bool ok),
    IsV (.int .i64 x),
    IsV (.bool ok)]
    [9, 10, 11, 12, 13, 14, 8, 15, 16, 6, 7] (by kernel_rfl) (Gw.drew _) Gw.trans (by rw [hsz]; kernel_rfl) (by kernel_rfl) ?_ ?_ ?_
  · intro f hf
    simp only [List.mem_cons, List.not_mem_nil, or_false] at hf
    rcases hf with rfl | rfl | rfl | rfl | rfl | rfl | rfl | rfl | rfl | rfl | rfl <;> intro v a b h g <;> first | exact IsV.mono h
  · refine ⟨?_, ?_, ?_, ?_, ?_, ?_, ?_, ?_, ?_, ?_, ?_, trivial⟩
    · exact owes_mv 0 (by kernel_rfl) (by kernel_rfl) (by kernel_rfl) sl0 (fun _ => rfl)
    · refine owes_v (Go.Op.nilCheck (Go.Operand.tmp 9)) 0 [0] (by kernel_rfl) (by kernel_rfl) (by kernel_rfl) rfl fun vals w1 ρ hG hF hρ hcst hfun => ?_
      have e9 : ρ (.tmp 9) = .pointer (some ⟨g, 0, none⟩) := ((hρ 9).trans (slotJ [0] (by rw [hsz]; decide) (by kernel_rfl))).trans (hF 0 (by decide))
      clear hρ hF hcst hfun sl0 sl3 fin
      exact opv_val (by go_simp <;> rfl) ⟨gw_self _, rfl⟩
    · refine owes_v (Go.Op.fieldAddr 34 (Go.Operand.tmp 10) 0) 0 [1] (by kernel_rfl) (by kernel_rfl) (by kernel_rfl) rfl fun vals w1 ρ hG hF hρ hcst hfun => ?_
      have e10 : ρ (.tmp 10) = .pointer (some ⟨g, 0, none⟩) := ((hρ 10).trans (slotJ [1] (by rw [hsz]; decide) (by kernel_rfl))).trans (hF 1 (by decide))
      clear hρ hF hcst hfun sl0 sl3 fin
      exact opv_val (by go_simp <;> rfl) ⟨gw_self _, rfl⟩
    · refine owes_v (Go.Op.load 32 (Go.Operand.tmp 11)) 32 [2] (by kernel_rfl) (by kernel_rfl) (by kernel_rfl) rfl fun vals w1 ρ hG hF hρ hcst hfun => ?_
      have e11 : ρ (.tmp 11) = .pointer (some ⟨g, 0, none⟩) := ((hρ 11).trans (slotJ [2] (by rw [hsz]; decide) (by kernel_rfl))).trans (hF 2 (by decide))
      have k0 := (hg.below hG hg.lt).cell 0
      clear hρ hF hcst hfun sl0 sl3 fin
      exact opv_val (by go_simp <;> rfl) ⟨gw_self _, rfl⟩
    · refine owes_v (Go.Op.load 24 (Go.Operand.tmp 3)) 24 [] (by kernel_rfl) (by kernel_rfl) (by kernel_rfl) rfl fun vals w1 ρ hG hF hρ hcst hfun => ?_
      have e3 : ρ (.tmp 3) = .pointer (some ⟨q, 0, none⟩) := ((hρ 3).trans (slotO [] (by kernel_rfl))).trans sl3
      clear hρ hF hcst hfun sl0 sl3 fin
      exact opv_loadN e3 (hq.below hG hq.lt) hs
    · refine owes_v (Go.Op.lookup 32 (Go.Operand.tmp 12) (Go.Operand.tmp 13) true) 45 [3, 4] (by kernel_rfl) (by kernel_rfl) (by kernel_rfl) rfl fun vals w1 ρ hG hF hρ hcst hfun => ?_
      have e12 : ρ (.tmp 12) = .map mb := ((hρ 12).trans (slotJ [3, 4] (by rw [hsz]; decide) (by kernel_rfl))).trans (hF 3 (by decide))
      have e13 : ρ (.tmp 13) = .agg arr := ((hρ 13).trans (slotJ [3, 4] (by rw [hsz]; decide) (by kernel_rfl))).trans (hF 4 (by decide))
      have k1 := HL.out w1 hG
      clear hρ hF hcst hfun sl0 sl3 fin
      exact opv_val (by go_simp <;> rfl) ⟨gw_self _, rfl⟩
    · exact owes_mvj 5 14 (by kernel_rfl) (by kernel_rfl) (by kernel_rfl) (by kernel_rfl) (by rw [hsz]; decide) (fun v w h => h)
    · refine owes_v (Go.Op.extract (Go.Operand.tmp 8) 0) 3 [6] (by kernel_rfl) (by kernel_rfl) (by kernel_rfl) rfl fun vals w1 ρ hG hF hρ hcst hfun => ?_
      have e8 : ρ (.tmp 8) = .tuple #[.int .i64 x, .bool ok] := ((hρ 8).trans (slotJ [6] (by rw [hsz]; decide) (by kernel_rfl))).trans (hF 6 (by decide))
      clear hρ hF hcst hfun sl0 sl3 fin
      exact opv_val (by go_simp <;> rfl) ⟨gw_self _, rfl⟩
    · refine owes_v (Go.Op.extract (Go.Operand.tmp 8) 1) 4 [6] (by kernel_rfl) (by kernel_rfl) (by kernel_rfl) rfl fun vals w1 ρ hG hF hρ hcst hfun => ?_
      have e8 : ρ (.tmp 8) = .tuple #[.int .i64 x, .bool ok] := ((hρ 8).trans (slotJ [6] (by rw [hsz]; decide) (by kernel_rfl))).trans (hF 6 (by decide))
      clear hρ hF hcst hfun sl0 sl3 fin
      exact opv_val (by go_simp <;> rfl) ⟨gw_self _, rfl⟩
    · exact owes_mvj 7 15 (by kernel_rfl) (by kernel_rfl) (by kernel_rfl) (by kernel_rfl) (by rw [hsz]; decide) (fun v w h => h)
    · exact owes_mvj 8 16 (by kernel_rfl) (by kernel_rfl) (by kernel_rfl) (by kernel_rfl) (by rw [hsz]; decide) (fun v w h => h)
  · intro vals w1 hG hF
    exact fin vals w1 hG (hF 9 (by decide +kernel)) (hF 10 (by decide +kernel))
theorem ud_reg (Q : Exit → Act → World → Prop) (a0 : Act) (w : World) (g q : Nat) (mb : Option Nat) (arr : Array Value) (hs : arr.size = 32) (hg : Bk w g 34 #[.map mb]) (hq : Bk w q 24 arr) (hsz : a0.tmps.size = 24) (sl0 : a0.tmps.getD 0 undef = .pointer (some ⟨g, 0, none⟩)) (sl3 : a0.tmps.getD 3 undef = .pointer (some ⟨q, 0, none⟩))
    (fin : ∀ (vals : Nat → Value) (w1 : World), Below w.heap.size w w1 → (IsV (.map mb)) (vals 3) w1 → (IsV (.agg arr)) (vals 4) w1 → wpList Try.prog #[{ dst := none, op := Go.Op.call { callee := Go.Callee.builtin Go.Builtin.delete, args := #[Go.Operand.tmp 20, Go.Operand.tmp 21], argTypes := #[32, 24] }, type := 0, pos := "", after := #[], guard := none }] Q [{ dst := none, op := Go.Op.call { callee := Go.Callee.builtin Go.Builtin.delete, args := #[Go.Operand.tmp 20, Go.Operand.tmp 21], argTypes := #[32, 24] }, type := 0, pos := "", after := #[], guard := none }] (putD vals [17, 18, 19, 20, 21] 0 a0) w1) :
    (Code.region 2 (regIn Try.f14 2) true).wp Try.prog Q a0 w := by
  refine region_by_tail (m := 5) (G := fun w w1 => Below w.heap.size w w1) [IsV (.pointer (some ⟨g, 0, none⟩)),
    IsV (.pointer (some ⟨g, 0, none⟩)),
    IsV (.pointer (some ⟨g, 0, none⟩)),
    IsV (.map mb),
    IsV (.agg arr)]
    [17, 18, 19, 20, 21] (by kernel_rfl) (Gw.drew _) Gw.trans (by rw [hsz]; kernel_rfl) (by kernel_rfl) ?_ ?_ ?_
  · intro f hf
    simp only [List.mem_cons, List.not_mem_nil, or_false] at hf
    rcases hf with rfl | rfl | rfl | rfl | rfl <;> intro v a b h g <;> first | exact IsV.mono h
  · refine ⟨?_, ?_, ?_, ?_, ?_, trivial⟩
    · exact owes_mv 0 (by kernel_rfl) (by kernel_rfl) (by kernel_rfl) sl0 (fun _ => rfl)
    · refine owes_v (Go.Op.nilCheck (Go.Operand.tmp 17)) 0 [0] (by kernel_rfl) (by kernel_rfl) (by kernel_rfl) rfl fun vals w1 ρ hG hF hρ hcst hfun => ?_
      have e17 : ρ (.tmp 17) = .pointer (some ⟨g, 0, none⟩) := ((hρ 17).trans (slotJ [0] (by rw [hsz]; decide) (by kernel_rfl))).trans (hF 0 (by decide))
      clear hρ hF hcst hfun sl0 sl3 fin
      exact opv_val (by go_simp <;> rfl) ⟨gw_self _, rfl⟩
    · refine owes_v (Go.Op.fieldAddr 34 (Go.Operand.tmp 18) 0) 0 [1] (by kernel_rfl) (by kernel_rfl) (by kernel_rfl) rfl fun vals w1 ρ hG hF hρ hcst hfun => ?_
      have e18 : ρ (.tmp 18) = .pointer (some ⟨g, 0, none⟩) := ((hρ 18).trans (slotJ [1] (by rw [hsz]; decide) (by kernel_rfl))).trans (hF 1 (by decide))
      clear hρ hF hcst hfun sl0 sl3 fin
      exact opv_val (by go_simp <;> rfl) ⟨gw_self _, rfl⟩
    · refine owes_v (Go.Op.load 32 (Go.Operand.tmp 19)) 32 [2] (by kernel_rfl) (by kernel_rfl) (by kernel_rfl) rfl fun vals w1 ρ hG hF hρ hcst hfun => ?_
      have e19 : ρ (.tmp 19) = .pointer (some ⟨g, 0, none⟩) := ((hρ 19).trans (slotJ [2] (by rw [hsz]; decide) (by kernel_rfl))).trans (hF 2 (by decide))
      have k0 := (hg.below hG hg.lt).cell 0
      clear hρ hF hcst hfun sl0 sl3 fin
      exact opv_val (by go_simp <;> rfl) ⟨gw_self _, rfl⟩
    · refine owes_v (Go.Op.load 24 (Go.Operand.tmp 3)) 24 [] (by kernel_rfl) (by kernel_rfl) (by kernel_rfl) rfl fun vals w1 ρ hG hF hρ hcst hfun => ?_
      have e3 : ρ (.tmp 3) = .pointer (some ⟨q, 0, none⟩) := ((hρ 3).trans (slotO [] (by kernel_rfl))).trans sl3
      clear hρ hF hcst hfun sl0 sl3 fin
      exact opv_loadN e3 (hq.below hG hq.lt) hs
  · intro vals w1 hG hF
    exact last_list (by kernel_rfl) (by kernel_rfl) (by kernel_rfl) (fin vals w1 hG (hF 3 (by decide +kernel)) (hF 4 (by decide +kernel)))
theorem look_c {B : Nat} {w : World} {g : Nat} {m : Tb} (h : TbX B w g m) (k : Nm) (hk : nW k) (x : Int) (ok : Bool) (hx : (vOf m k).getD 0 = x) (ho : (vOf m k).isSome = ok) : Calls Try.prog 15 #[.pointer (some ⟨g, 0, none⟩), nV k] w (RetP (.tuple #[.int .i64 x, .bool ok]) w) := by
  obtain ⟨mb, h1, h2, h3, h4⟩ := h
  have hl := h2.lkf hk
  rw [hx, ho] at hl
  have hs := nC_size hk
  unfold nV
  obtain ⟨arr, harr⟩ : ∃ arr, arr = nC k := ⟨_, rfl⟩
  rw [← harr] at hl hs ⊢
  have HL := Lib.hid hl
  have HG := Lib.hid h1
  have HS := Lib.hid hs
  clear hl hs harr h1 h2 h3 h4 hx ho hk
  have HQ := Lib.hid (Bk.new w 24 arr)
  have HW := Lib.hid (Gw.alloc w (.cells arr 24))
  have HL1 := Lib.hid (show LkF (w.alloc (.cells arr 24)) mb arr x ok from fun W hb => HL.out W (HW.out.trans (hb.mono (by simp))))
  go_enter Try.func15, Try.ntmps15
  go_wp2_with fail
  refine lk_reg _ _ _ g w.heap.size mb arr x ok HS.out (HG.out.below HW.out HG.out.lt) HQ.out HL1 rfl rfl rfl ?_
  intro vals w1 hG h6 h7
  unfold IsV at h6 h7
  simp only [putD, Act.put, List.setIfInBounds_toArray, List.set_cons_zero, List.set_cons_succ, h6, h7]
  have HB := Lib.hid (HW.out.trans (hG.mono (by simp)))
  clear h6 h7 hG
  go_wp2_with fail
  go_ret2
  exact ⟨rfl, HB.out⟩
theorem len_c {B : Nat} {w : World} {g : Nat} {m : Tb} (h : TbX B w g m) : Calls Try.prog 19 #[.pointer (some ⟨g, 0, none⟩)] w fun e w' => e = .returned (.int .i64 m.length) ∧ w' = w := by
  obtain ⟨mb, h1, h2, _⟩ := h
  have c0 := h1.cell 0
  have hlen := h2.len
  clear h1 h2
  go_enter Try.func19, Try.ntmps19
  go_wp2_with fail
  go_ret
  exact ⟨rfl, rfl⟩
/-- What a call that turns a table leaves. -/
def TbP (B : Nat) (w : World) (g : Nat) (m : Tb) (v : Value) (e : Ending) (w' : World) : Prop := e = .returned v ∧ TbX B w' g m ∧ Below B w w'
theorem unbind_c {B : Nat} {w : World} {g : Nat} {m : Tb} (h : TbX B w g m) (hB : B ≤ w.heap.size) (k : Nm) (hk : nW k) (x : Int) (ok : Bool) (hx : (vOf m k).getD 0 = x) (ho : (vOf m k).isSome = ok) : Calls Try.prog 14 #[.pointer (some ⟨g, 0, none⟩), nV k] w (TbP B w g (delN m k) (.tuple #[.int .i64 x, .bool ok])) := by
  obtain ⟨mb, h1, h2, h3, h4⟩ := h
  have hl := h2.lkf hk
  rw [hx, ho] at hl
  have hs := nC_size hk
  have HM := Lib.hid (And.intro h2 (And.intro h3 h4))
  have HK := Lib.hid hk
  unfold nV
  obtain ⟨arr, harr⟩ : ∃ arr, arr = nC k := ⟨_, rfl⟩
  rw [← harr] at hl hs ⊢
  have HA := Lib.hid harr
  have HL := Lib.hid hl
  have HG := Lib.hid h1
  have HS := Lib.hid hs
  have HBB := Lib.hid hB
  clear hl hs harr h1 h2 h3 h4 hx ho hk hB
  have HQ := Lib.hid (Bk.new w 24 arr)
  have HW := Lib.hid (Gw.alloc w (.cells arr 24))
  have HL1 := Lib.hid (show LkF (w.alloc (.cells arr 24)) mb arr x ok from fun W hb => HL.out W (HW.out.trans (hb.mono (by simp))))
  go_enter Try.func14, Try.ntmps14
  go_wp2_with fail
  refine ub_reg _ _ _ g w.heap.size mb arr x ok HS.out (HG.out.below HW.out HG.out.lt) HQ.out HL1 rfl rfl rfl ?_
  intro vals w1 hG h6 h7
  unfold IsV at h6 h7
  simp only [putD, Act.put, List.setIfInBounds_toArray, List.set_cons_zero, List.set_cons_succ, h6, h7]
  have HB := Lib.hid (HW.out.trans (hG.mono (by simp)))
  have HQ1 := Lib.hid (HQ.out.below hG HQ.out.lt)
  clear h6 h7 hG HQ HL HL1
  go_wp2_with fail
  refine ud_reg _ _ _ g w.heap.size mb arr HS.out (HG.out.below HB.out HG.out.lt) HQ1.out rfl rfl rfl ?_
  intro vals w2 hG h20 h21
  unfold IsV at h20 h21
  simp only [putD, Act.put, List.setIfInBounds_toArray, List.set_cons_zero, List.set_cons_succ, h20, h21]
  have HB2 := Lib.hid (HB.out.trans (hG.mono HB.out.size))
  clear h20 h21 hG
  have HM2 := Lib.hid (HM.out.1.kept (Kept.of_below HB2.out (fun _ => False)) (fun _ _ f => f))
  go_wp2_with (refine wp_delN rfl _ _ rfl rfl HM2.out k (by rw [nV, ← HA.out]; rfl) HK.out ?_; intro w3 hm3 hk3; have HM3 := Lib.hid (And.intro hm3 hk3); clear hm3 hk3)
  go_ret2
  have hb := HM3.out.2
  have hg2 := HG.out.below HB2.out HG.out.lt
  refine ⟨rfl, ⟨mb, hb.bk hg2 (fun e => (HM.out.2.2 g e).2 rfl), HM3.out.1, HM.out.2.1, HM.out.2.2⟩, ?_⟩
  exact (HB2.out.mono HBB.out).trans (hb.below (Nat.le_trans HBB.out HB2.out.size) (fun c e => (HM.out.2.2 c e).1))
end Go.Proofs.Ytdfhdgdhhgabbaa
