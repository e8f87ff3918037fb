/- The reference's Check. Conditions: lengths. -/
import Derived.Test.YtkkjnahjmomjgaaGuBz
import Derived.Test.YtkkjnahjmomjgaaRegL
namespace Go.Proofs.Ytkkjnahjmomjgaa
set_option linter.unusedVariables false
set_option linter.unusedSimpArgs false
open Go.RowKit
set_option maxHeartbeats 4000000
set_option maxRecDepth 100000
theorem okP_iff {N : Nat} {p : Int} : okP N p = true ↔ 0 ≤ p ∧ p ≤ (N : Int) := by
  unfold okP hasG
  simp
  omega
theorem leS_empty {s : ByteArray} (h : goodS s = true) : leS s emptyS = false := by
  have hs : 1 ≤ s.size := by
    unfold goodS at h
    simp only [Bool.and_eq_true, decide_eq_true_eq] at h
    exact h.1
  have hl : s.toList.length = s.size := by rw [ByteArray.toList_eq]; simp
  have e0 : emptyS.toList = [] := by rw [ByteArray.toList_eq]; rfl
  unfold leS
  rw [e0]
  cases hc : s.toList with
  | nil => rw [hc] at hl; simp at hl; omega
  | cons a l => rfl
theorem less_tri : ∀ x y : List UInt8, Op.bytesLess y x = !(Op.bytesLess x y || x == y)
  | [], [] => rfl
  | [], b :: y => by simp [Op.bytesLess]
  | a :: x, [] => by simp [Op.bytesLess]
  | a :: x, b :: y => by
    have ih := less_tri x y
    simp only [Op.bytesLess]
    rw [ih]
    rcases Nat.lt_trichotomy a.toNat b.toNat with h | h | h
    · have h1 : a < b := UInt8.lt_iff_toNat_lt.2 h
      have h2 : ¬ b < a := fun e => by have := UInt8.lt_iff_toNat_lt.1 e; omega
      have h3 : ¬ b = a := fun e => by subst e; omega
      have h4 : (b == a) = false := by simpa using h3
      simp [h1, h2, h4]
    · have h1 : a = b := UInt8.toNat_inj.1 h
      subst h1
      have h2 : ¬ a < a := fun e => by have := UInt8.lt_iff_toNat_lt.1 e; omega
      simp [h2]
    · have h1 : b < a := UInt8.lt_iff_toNat_lt.2 h
      have h2 : ¬ a < b := fun e => by have := UInt8.lt_iff_toNat_lt.1 e; omega
      have h3 : ¬ a = b := fun e => by subst e; omega
      have h4 : (a == b) = false := by simpa using h3
      simp [h1, h2, h4, h3]
theorem of_ret17 {P : Program} {f : FuncId} {args : Array Value} {v : Value} {w : World} (h : Calls P f args w fun e w' => e = .returned v ∧ w' = w) : Calls P f args w fun e w2 => ∃ u, e = .returned u ∧ Below w.heap.size w w2 ∧ IsV v u w2 :=
  h.mono fun _ _ h => ⟨_, h.1, by rw [h.2]; exact Below.refl _ _, rfl⟩
def prevS (rs : List Rv) : Nat → ByteArray
  | 0 => emptyS
  | k + 1 => ((rs[k]?).map (·.s)).getD emptyS
theorem rcka_r (Q : Exit → Act → World → Prop) (a0 : Act) (w : World) (bx : Nat) (s : ByteArray) (i : Int) (hs : Hid (∀ W, Below w.heap.size w W → W.cell? ⟨bx, 0, none⟩ = some (.string s))) (hg : goodS s = false) (hsz : a0.tmps.size = 99) (sl8 : a0.tmps.getD 8 undef = .pointer (some ⟨bx, 0, none⟩))
    (fin : ∀ (vals : Nat → Value) (w1 : World), Below w.heap.size w w1 → (IsV (.bool true)) (vals 19) w1 → Q .normal (putD vals [70, 71, 72, 73, 74, 75, 76, 77, 78, 79, 80, 81, 82, 83, 84, 85, 86, 87, 88, 89] 0 a0) w1) :
    (Code.region 19 (regIn Try.f13 19) true).wp Try.prog Q a0 w := by
  refine region_by (G := fun w w1 => Below w.heap.size w w1) [IsV (.pointer (some ⟨bx, 0, none⟩)),
    IsV (.string s),
    IsV (.bool false),
    IsV (.bool true),
    IsV (.bool true),
    IsV undef,
    IsV undef,
    IsV undef,
    IsV undef,
    IsV undef,
    IsV undef,
    IsV undef,
    IsV undef,
    IsV undef,
    IsV undef,
    IsV undef,
    IsV undef,
    IsV undef,
    IsV undef,
    IsV (.bool true)]
    [70, 71, 72, 73, 74, 75, 76, 77, 78, 79, 80, 81, 82, 83, 84, 85, 86, 87, 88, 89] (by kernel_rfl) (Gw.drew _) Gw.trans (by rw [hsz]; kernel_rfl) (by kernel_rfl) ?_ ?_ ?_
  · intro f hf
    simp only [List.mem_cons, List.not_mem_nil, or_false] at hf
    rcases hf with rfl | rfl | rfl | rfl | rfl | rfl | rfl | rfl | rfl | rfl | rfl | rfl | rfl | rfl | rfl | rfl | rfl | rfl | rfl | rfl <;> intro v a b h g <;> first | exact IsV.mono h
  · refine ⟨?_, ?_, ?_, ?_, ?_, ?_, ?_, ?_, ?_, ?_, ?_, ?_, ?_, ?_, ?_, ?_, ?_, ?_, ?_, ?_, trivial⟩
    · refine owes_v (Go.Op.fieldAddr 59 (Go.Operand.tmp 8) 0) 0 [] (by kernel_rfl) (by kernel_rfl) (by kernel_rfl) rfl fun vals w1 ρ hG hF hρ hcst hfun => ?_
      have e8 : ρ (.tmp 8) = .pointer (some ⟨bx, 0, none⟩) := ((hρ 8).trans (slotO [] (by kernel_rfl))).trans sl8
      clear hρ hF hcst hfun sl8 fin
      exact opv_val (by go_simp <;> rfl) ⟨gw_self _, rfl⟩
    · refine owes_v (Go.Op.load 9 (Go.Operand.tmp 70)) 9 [0] (by kernel_rfl) (by kernel_rfl) (by kernel_rfl) rfl fun vals w1 ρ hG hF hρ hcst hfun => ?_
      have e70 : ρ (.tmp 70) = .pointer (some ⟨bx, 0, none⟩) := ((hρ 70).trans (slotJ [0] (by rw [hsz]; decide) (by kernel_rfl))).trans (hF 0 (by decide))
      have k := hs.out w1 hG
      clear hρ hF hcst hfun sl8 fin
      exact opv_val (by go_simp <;> rfl) ⟨gw_self _, rfl⟩
    · refine owes_v (Go.Op.call { callee := Go.Callee.value (Go.Operand.func 35), args := #[Go.Operand.tmp 71], argTypes := #[9] }) 4 [1] (by kernel_rfl) (by kernel_rfl) (by kernel_rfl) rfl fun vals w1 ρ hG hF hρ hcst hfun => ?_
      have e71 : ρ (.tmp 71) = .string s := ((hρ 71).trans (slotJ [1] (by rw [hsz]; decide) (by kernel_rfl))).trans (hF 1 (by decide))
      clear hρ hF hcst sl8 fin
      exact opv_enter (by go_simp <;> rfl) (of_ret17 (hg ▸ rgood_s s w1))
    · refine owes_v (Go.Op.unOp Go.UnOp.not 4 (Go.Operand.tmp 72)) 4 [2] (by kernel_rfl) (by kernel_rfl) (by kernel_rfl) rfl fun vals w1 ρ hG hF hρ hcst hfun => ?_
      have e72 : ρ (.tmp 72) = .bool false := ((hρ 72).trans (slotJ [2] (by rw [hsz]; decide) (by kernel_rfl))).trans (hF 2 (by decide))
      clear hρ hF hcst hfun sl8 fin
      exact opv_val (by go_simp <;> rfl) ⟨gw_self _, rfl⟩
    · exact owes_mvj 3 73 (by kernel_rfl) (by kernel_rfl) (by kernel_rfl) (by kernel_rfl) (by rw [hsz]; decide) (fun v w h => h)
    · exact owes_no 4 true false (by decide) (by kernel_rfl) (by kernel_rfl) (fun _ _ h => h) (by rw [hsz]; kernel_rfl) (fun _ => rfl)
    · exact owes_no 4 true false (by decide) (by kernel_rfl) (by kernel_rfl) (fun _ _ h => h) (by rw [hsz]; kernel_rfl) (fun _ => rfl)
    · exact owes_no 4 true false (by decide) (by kernel_rfl) (by kernel_rfl) (fun _ _ h => h) (by rw [hsz]; kernel_rfl) (fun _ => rfl)
    · exact owes_un 7 true (by kernel_rfl) (by kernel_rfl) (fun _ _ h => h) (by rw [hsz]; kernel_rfl) (fun _ => rfl)
    · exact owes_un 7 true (by kernel_rfl) (by kernel_rfl) (fun _ _ h => h) (by rw [hsz]; kernel_rfl) (fun _ => rfl)
    · exact owes_un 7 true (by kernel_rfl) (by kernel_rfl) (fun _ _ h => h) (by rw [hsz]; kernel_rfl) (fun _ => rfl)
    · exact owes_un 7 true (by kernel_rfl) (by kernel_rfl) (fun _ _ h => h) (by rw [hsz]; kernel_rfl) (fun _ => rfl)
    · exact owes_un 7 true (by kernel_rfl) (by kernel_rfl) (fun _ _ h => h) (by rw [hsz]; kernel_rfl) (fun _ => rfl)
    · exact owes_un 7 true (by kernel_rfl) (by kernel_rfl) (fun _ _ h => h) (by rw [hsz]; kernel_rfl) (fun _ => rfl)
    · exact owes_un 7 true (by kernel_rfl) (by kernel_rfl) (fun _ _ h => h) (by rw [hsz]; kernel_rfl) (fun _ => rfl)
    · exact owes_un 7 true (by kernel_rfl) (by kernel_rfl) (fun _ _ h => h) (by rw [hsz]; kernel_rfl) (fun _ => rfl)
    · exact owes_un 7 true (by kernel_rfl) (by kernel_rfl) (fun _ _ h => h) (by rw [hsz]; kernel_rfl) (fun _ => rfl)
    · exact owes_un 7 true (by kernel_rfl) (by kernel_rfl) (fun _ _ h => h) (by rw [hsz]; kernel_rfl) (fun _ => rfl)
    · exact owes_no 4 true false (by decide) (by kernel_rfl) (by kernel_rfl) (fun _ _ h => h) (by rw [hsz]; kernel_rfl) (fun _ => rfl)
    · refine owes_v (Go.Op.pick (Go.Operand.tmp 74) (Go.Operand.const (Go.Value.bool true)) (Go.Operand.tmp 88)) 4 [4, 18] (by kernel_rfl) (by kernel_rfl) (by kernel_rfl) rfl fun vals w1 ρ hG hF hρ hcst hfun => ?_
      have e74 : ρ (.tmp 74) = .bool true := ((hρ 74).trans (slotJ [4, 18] (by rw [hsz]; decide) (by kernel_rfl))).trans (hF 4 (by decide))
      have e88 : ρ (.tmp 88) = undef := ((hρ 88).trans (slotJ [4, 18] (by rw [hsz]; decide) (by kernel_rfl))).trans (hF 18 (by decide))
      clear hρ hF hfun sl8 fin
      exact opv_val (by go_simp <;> rfl) ⟨gw_self _, rfl⟩
  · intro vals w1 hG hF
    exact fin vals w1 hG (hF 19 (by decide +kernel))
theorem rckb_r (Q : Exit → Act → World → Prop) (a0 : Act) (w : World) (bx : Nat) (s : ByteArray) (hs : Hid (∀ W, Below w.heap.size w W → W.cell? ⟨bx, 0, none⟩ = some (.string s))) (hg : goodS s = true) (hsz : a0.tmps.size = 99) (sl7 : a0.tmps.getD 7 undef = .int .i64 0) (sl8 : a0.tmps.getD 8 undef = .pointer (some ⟨bx, 0, none⟩))
    (fin : ∀ (vals : Nat → Value) (w1 : World), Below w.heap.size w w1 → (IsV (.bool false)) (vals 19) w1 → Q .normal (putD vals [70, 71, 72, 73, 74, 75, 76, 77, 78, 79, 80, 81, 82, 83, 84, 85, 86, 87, 88, 89] 0 a0) w1) :
    (Code.region 19 (regIn Try.f13 19) true).wp Try.prog Q a0 w := by
  refine region_by (G := fun w w1 => Below w.heap.size w w1) [IsV (.pointer (some ⟨bx, 0, none⟩)),
    IsV (.string s),
    IsV (.bool true),
    IsV (.bool false),
    IsV (.bool false),
    IsV (.int .i64 0),
    IsV (.bool false),
    IsV (.bool false),
    IsV undef,
    IsV undef,
    IsV undef,
    IsV undef,
    IsV undef,
    IsV undef,
    IsV undef,
    IsV undef,
    IsV undef,
    IsV undef,
    IsV (.bool false),
    IsV (.bool false)]
    [70, 71, 72, 73, 74, 75, 76, 77, 78, 79, 80, 81, 82, 83, 84, 85, 86, 87, 88, 89] (by kernel_rfl) (Gw.drew _) Gw.trans (by rw [hsz]; kernel_rfl) (by kernel_rfl) ?_ ?_ ?_
  · intro f hf
    simp only [List.mem_cons, List.not_mem_nil, or_false] at hf
    rcases hf with rfl | rfl | rfl | rfl | rfl | rfl | rfl | rfl | rfl | rfl | rfl | rfl | rfl | rfl | rfl | rfl | rfl | rfl | rfl | rfl <;> intro v a b h g <;> first | exact IsV.mono h
  · refine ⟨?_, ?_, ?_, ?_, ?_, ?_, ?_, ?_, ?_, ?_, ?_, ?_, ?_, ?_, ?_, ?_, ?_, ?_, ?_, ?_, trivial⟩
    · refine owes_v (Go.Op.fieldAddr 59 (Go.Operand.tmp 8) 0) 0 [] (by kernel_rfl) (by kernel_rfl) (by kernel_rfl) rfl fun vals w1 ρ hG hF hρ hcst hfun => ?_
      have e8 : ρ (.tmp 8) = .pointer (some ⟨bx, 0, none⟩) := ((hρ 8).trans (slotO [] (by kernel_rfl))).trans sl8
      clear hρ hF hcst hfun sl7 sl8 fin
      exact opv_val (by go_simp <;> rfl) ⟨gw_self _, rfl⟩
    · refine owes_v (Go.Op.load 9 (Go.Operand.tmp 70)) 9 [0] (by kernel_rfl) (by kernel_rfl) (by kernel_rfl) rfl fun vals w1 ρ hG hF hρ hcst hfun => ?_
      have e70 : ρ (.tmp 70) = .pointer (some ⟨bx, 0, none⟩) := ((hρ 70).trans (slotJ [0] (by rw [hsz]; decide) (by kernel_rfl))).trans (hF 0 (by decide))
      have k := hs.out w1 hG
      clear hρ hF hcst hfun sl7 sl8 fin
      exact opv_val (by go_simp <;> rfl) ⟨gw_self _, rfl⟩
    · refine owes_v (Go.Op.call { callee := Go.Callee.value (Go.Operand.func 35), args := #[Go.Operand.tmp 71], argTypes := #[9] }) 4 [1] (by kernel_rfl) (by kernel_rfl) (by kernel_rfl) rfl fun vals w1 ρ hG hF hρ hcst hfun => ?_
      have e71 : ρ (.tmp 71) = .string s := ((hρ 71).trans (slotJ [1] (by rw [hsz]; decide) (by kernel_rfl))).trans (hF 1 (by decide))
      clear hρ hF hcst sl7 sl8 fin
      exact opv_enter (by go_simp <;> rfl) (of_ret17 (hg ▸ rgood_s s w1))
    · refine owes_v (Go.Op.unOp Go.UnOp.not 4 (Go.Operand.tmp 72)) 4 [2] (by kernel_rfl) (by kernel_rfl) (by kernel_rfl) rfl fun vals w1 ρ hG hF hρ hcst hfun => ?_
      have e72 : ρ (.tmp 72) = .bool true := ((hρ 72).trans (slotJ [2] (by rw [hsz]; decide) (by kernel_rfl))).trans (hF 2 (by decide))
      clear hρ hF hcst hfun sl7 sl8 fin
      exact opv_val (by go_simp <;> rfl) ⟨gw_self _, rfl⟩
    · exact owes_mvj 3 73 (by kernel_rfl) (by kernel_rfl) (by kernel_rfl) (by kernel_rfl) (by rw [hsz]; decide) (fun v w h => h)
    · refine owes_vt 4 false (Go.Op.move (Go.Operand.tmp 7)) 3 [] (by kernel_rfl) (by kernel_rfl) (by kernel_rfl) (fun _ _ h => h) (by rw [hsz]; kernel_rfl) (by kernel_rfl) rfl fun vals w1 ρ hG hF hρ hcst hfun => ?_
      have e7 : ρ (.tmp 7) = .int .i64 0 := ((hρ 7).trans (slotO [] (by kernel_rfl))).trans sl7
      clear hρ hF hcst hfun sl7 sl8 fin
      exact opv_val (by go_simp <;> rfl) ⟨gw_self _, rfl⟩
    · refine owes_vt 4 false (Go.Op.binOp Go.BinOp.gtr 3 (Go.Operand.tmp 75) (Go.Operand.const (Go.Value.int Go.IntKind.i64 0)) 3) 4 [5] (by kernel_rfl) (by kernel_rfl) (by kernel_rfl) (fun _ _ h => h) (by rw [hsz]; kernel_rfl) (by kernel_rfl) rfl fun vals w1 ρ hG hF hρ hcst hfun => ?_
      have e75 : ρ (.tmp 75) = .int .i64 0 := ((hρ 75).trans (slotJ [5] (by rw [hsz]; decide) (by kernel_rfl))).trans (hF 5 (by decide))
      clear hρ hF hfun sl7 sl8 fin
      exact opv_val (by go_simp <;> rfl) ⟨gw_self _, rfl⟩
    · refine owes_vt 4 false (Go.Op.move (Go.Operand.tmp 76)) 4 [6] (by kernel_rfl) (by kernel_rfl) (by kernel_rfl) (fun _ _ h => h) (by rw [hsz]; kernel_rfl) (by kernel_rfl) rfl fun vals w1 ρ hG hF hρ hcst hfun => ?_
      have e76 : ρ (.tmp 76) = .bool false := ((hρ 76).trans (slotJ [6] (by rw [hsz]; decide) (by kernel_rfl))).trans (hF 6 (by decide))
      clear hρ hF hcst hfun sl7 sl8 fin
      exact opv_val (by go_simp <;> rfl) ⟨gw_self _, rfl⟩
    · exact owes_no 7 false true (by decide) (by kernel_rfl) (by kernel_rfl) (fun _ _ h => h) (by rw [hsz]; kernel_rfl) (fun _ => rfl)
    · exact owes_no 7 false true (by decide) (by kernel_rfl) (by kernel_rfl) (fun _ _ h => h) (by rw [hsz]; kernel_rfl) (fun _ => rfl)
    · exact owes_no 7 false true (by decide) (by kernel_rfl) (by kernel_rfl) (fun _ _ h => h) (by rw [hsz]; kernel_rfl) (fun _ => rfl)
    · exact owes_no 7 false true (by decide) (by kernel_rfl) (by kernel_rfl) (fun _ _ h => h) (by rw [hsz]; kernel_rfl) (fun _ => rfl)
    · exact owes_no 7 false true (by decide) (by kernel_rfl) (by kernel_rfl) (fun _ _ h => h) (by rw [hsz]; kernel_rfl) (fun _ => rfl)
    · exact owes_no 7 false true (by decide) (by kernel_rfl) (by kernel_rfl) (fun _ _ h => h) (by rw [hsz]; kernel_rfl) (fun _ => rfl)
    · exact owes_no 7 false true (by decide) (by kernel_rfl) (by kernel_rfl) (fun _ _ h => h) (by rw [hsz]; kernel_rfl) (fun _ => rfl)
    · exact owes_no 7 false true (by decide) (by kernel_rfl) (by kernel_rfl) (fun _ _ h => h) (by rw [hsz]; kernel_rfl) (fun _ => rfl)
    · exact owes_no 7 false true (by decide) (by kernel_rfl) (by kernel_rfl) (fun _ _ h => h) (by rw [hsz]; kernel_rfl) (fun _ => rfl)
    · exact owes_no 7 false true (by decide) (by kernel_rfl) (by kernel_rfl) (fun _ _ h => h) (by rw [hsz]; kernel_rfl) (fun _ => rfl)
    · refine owes_vt 4 false (Go.Op.pick (Go.Operand.tmp 77) (Go.Operand.tmp 87) (Go.Operand.const (Go.Value.bool false))) 4 [7, 17] (by kernel_rfl) (by kernel_rfl) (by kernel_rfl) (fun _ _ h => h) (by rw [hsz]; kernel_rfl) (by kernel_rfl) rfl fun vals w1 ρ hG hF hρ hcst hfun => ?_
      have e77 : ρ (.tmp 77) = .bool false := ((hρ 77).trans (slotJ [7, 17] (by rw [hsz]; decide) (by kernel_rfl))).trans (hF 7 (by decide))
      have e87 : ρ (.tmp 87) = undef := ((hρ 87).trans (slotJ [7, 17] (by rw [hsz]; decide) (by kernel_rfl))).trans (hF 17 (by decide))
      clear hρ hF hfun sl7 sl8 fin
      exact opv_val (by go_simp <;> rfl) ⟨gw_self _, rfl⟩
    · refine owes_v (Go.Op.pick (Go.Operand.tmp 74) (Go.Operand.const (Go.Value.bool true)) (Go.Operand.tmp 88)) 4 [4, 18] (by kernel_rfl) (by kernel_rfl) (by kernel_rfl) rfl fun vals w1 ρ hG hF hρ hcst hfun => ?_
      have e74 : ρ (.tmp 74) = .bool false := ((hρ 74).trans (slotJ [4, 18] (by rw [hsz]; decide) (by kernel_rfl))).trans (hF 4 (by decide))
      have e88 : ρ (.tmp 88) = .bool false := ((hρ 88).trans (slotJ [4, 18] (by rw [hsz]; decide) (by kernel_rfl))).trans (hF 18 (by decide))
      clear hρ hF hfun sl7 sl8 fin
      exact opv_val (by go_simp <;> rfl) ⟨gw_self _, rfl⟩
  · intro vals w1 hG hF
    exact fin vals w1 hG (hF 19 (by decide +kernel))
theorem rckc_r (Q : Exit → Act → World → Prop) (a0 : Act) (w : World) (bx bg M c j : Nat) (ad : Addr) (s u : ByteArray) (r : Bool) (hs : Hid (∀ W, Below w.heap.size w W → W.cell? ⟨bx, 0, none⟩ = some (.string s) ∧ W.cell? ⟨bg, 1, none⟩ = some (.slice (some ad) M c) ∧ W.cell? (ad.add (j * 2)) = some (.string u))) (hg : goodS s = true) (hr : leS s u = r) (p1 : (0 : Int) ≤ (j : Int)) (p2 : (j : Int) + 1 < (M : Int)) (p3 : (M : Int) ≤ 100) (hsz : a0.tmps.size = 99) (sl1 : a0.tmps.getD 1 undef = .pointer (some ⟨bg, 0, none⟩)) (sl7 : a0.tmps.getD 7 undef = .int .i64 ((j : Int) + 1)) (sl8 : a0.tmps.getD 8 undef = .pointer (some ⟨bx, 0, none⟩))
    (fin : ∀ (vals : Nat → Value) (w1 : World), Below w.heap.size w w1 → (IsV (.bool r)) (vals 19) w1 → Q .normal (putD vals [70, 71, 72, 73, 74, 75, 76, 77, 78, 79, 80, 81, 82, 83, 84, 85, 86, 87, 88, 89] 0 a0) w1) :
    (Code.region 19 (regIn Try.f13 19) true).wp Try.prog Q a0 w := by
  refine region_by (G := fun w w1 => Below w.heap.size w w1) [IsV (.pointer (some ⟨bx, 0, none⟩)),
    IsV (.string s),
    IsV (.bool true),
    IsV (.bool false),
    IsV (.bool false),
    IsV (.int .i64 ((j : Int) + 1)),
    IsV (.bool true),
    IsV (.bool true),
    IsV (.pointer (some ⟨bg, 1, none⟩)),
    IsV (.slice (some ad) M c),
    IsV (.int .i64 ((j : Int) + 1)),
    IsV (.int .i64 j),
    IsV (.pointer (some (ad.add (j * 2)))),
    IsV (.pointer (some (ad.add (j * 2)))),
    IsV (.string u),
    IsV (.pointer (some ⟨bx, 0, none⟩)),
    IsV (.string s),
    IsV (.bool r),
    IsV (.bool r),
    IsV (.bool r)]
    [70, 71, 72, 73, 74, 75, 76, 77, 78, 79, 80, 81, 82, 83, 84, 85, 86, 87, 88, 89] (by kernel_rfl) (Gw.drew _) Gw.trans (by rw [hsz]; kernel_rfl) (by kernel_rfl) ?_ ?_ ?_
  · intro f hf
    simp only [List.mem_cons, List.not_mem_nil, or_false] at hf
    rcases hf with rfl | rfl | rfl | rfl | rfl | rfl | rfl | rfl | rfl | rfl | rfl | rfl | rfl | rfl | rfl | rfl | rfl | rfl | rfl | rfl <;> intro v a b h g <;> first | exact IsV.mono h
  · refine ⟨?_, ?_, ?_, ?_, ?_, ?_, ?_, ?_, ?_, ?_, ?_, ?_, ?_, ?_, ?_, ?_, ?_, ?_, ?_, ?_, trivial⟩
    · refine owes_v (Go.Op.fieldAddr 59 (Go.Operand.tmp 8) 0) 0 [] (by kernel_rfl) (by kernel_rfl) (by kernel_rfl) rfl fun vals w1 ρ hG hF hρ hcst hfun => ?_
      have e8 : ρ (.tmp 8) = .pointer (some ⟨bx, 0, none⟩) := ((hρ 8).trans (slotO [] (by kernel_rfl))).trans sl8
      clear hρ hF hcst hfun sl1 sl7 sl8 fin
      exact opv_val (by go_simp <;> rfl) ⟨gw_self _, rfl⟩
    · refine owes_v (Go.Op.load 9 (Go.Operand.tmp 70)) 9 [0] (by kernel_rfl) (by kernel_rfl) (by kernel_rfl) rfl fun vals w1 ρ hG hF hρ hcst hfun => ?_
      have e70 : ρ (.tmp 70) = .pointer (some ⟨bx, 0, none⟩) := ((hρ 70).trans (slotJ [0] (by rw [hsz]; decide) (by kernel_rfl))).trans (hF 0 (by decide))
      have k := (hs.out w1 hG).1
      clear hρ hF hcst hfun sl1 sl7 sl8 fin
      exact opv_val (by go_simp <;> rfl) ⟨gw_self _, rfl⟩
    · refine owes_v (Go.Op.call { callee := Go.Callee.value (Go.Operand.func 35), args := #[Go.Operand.tmp 71], argTypes := #[9] }) 4 [1] (by kernel_rfl) (by kernel_rfl) (by kernel_rfl) rfl fun vals w1 ρ hG hF hρ hcst hfun => ?_
      have e71 : ρ (.tmp 71) = .string s := ((hρ 71).trans (slotJ [1] (by rw [hsz]; decide) (by kernel_rfl))).trans (hF 1 (by decide))
      clear hρ hF hcst sl1 sl7 sl8 fin
      exact opv_enter (by go_simp <;> rfl) (of_ret17 (hg ▸ rgood_s s w1))
    · refine owes_v (Go.Op.unOp Go.UnOp.not 4 (Go.Operand.tmp 72)) 4 [2] (by kernel_rfl) (by kernel_rfl) (by kernel_rfl) rfl fun vals w1 ρ hG hF hρ hcst hfun => ?_
      have e72 : ρ (.tmp 72) = .bool true := ((hρ 72).trans (slotJ [2] (by rw [hsz]; decide) (by kernel_rfl))).trans (hF 2 (by decide))
      clear hρ hF hcst hfun sl1 sl7 sl8 fin
      exact opv_val (by go_simp <;> rfl) ⟨gw_self _, rfl⟩
    · exact owes_mvj 3 73 (by kernel_rfl) (by kernel_rfl) (by kernel_rfl) (by kernel_rfl) (by rw [hsz]; decide) (fun v w h => h)
    · refine owes_vt 4 false (Go.Op.move (Go.Operand.tmp 7)) 3 [] (by kernel_rfl) (by kernel_rfl) (by kernel_rfl) (fun _ _ h => h) (by rw [hsz]; kernel_rfl) (by kernel_rfl) rfl fun vals w1 ρ hG hF hρ hcst hfun => ?_
      have e7 : ρ (.tmp 7) = .int .i64 ((j : Int) + 1) := ((hρ 7).trans (slotO [] (by kernel_rfl))).trans sl7
      clear hρ hF hcst hfun sl1 sl7 sl8 fin
      exact opv_val (by go_simp <;> rfl) ⟨gw_self _, rfl⟩
    · refine owes_vt 4 false (Go.Op.binOp Go.BinOp.gtr 3 (Go.Operand.tmp 75) (Go.Operand.const (Go.Value.int Go.IntKind.i64 0)) 3) 4 [5] (by kernel_rfl) (by kernel_rfl) (by kernel_rfl) (fun _ _ h => h) (by rw [hsz]; kernel_rfl) (by kernel_rfl) rfl fun vals w1 ρ hG hF hρ hcst hfun => ?_
      have e75 : ρ (.tmp 75) = .int .i64 ((j : Int) + 1) := ((hρ 75).trans (slotJ [5] (by rw [hsz]; decide) (by kernel_rfl))).trans (hF 5 (by decide))
      have q : (0 : Int) < (j : Int) + 1 := by omega
      clear hρ hF hfun sl1 sl7 sl8 fin
      exact opv_val (by go_simp <;> rfl) ⟨gw_self _, rfl⟩
    · refine owes_vt 4 false (Go.Op.move (Go.Operand.tmp 76)) 4 [6] (by kernel_rfl) (by kernel_rfl) (by kernel_rfl) (fun _ _ h => h) (by rw [hsz]; kernel_rfl) (by kernel_rfl) rfl fun vals w1 ρ hG hF hρ hcst hfun => ?_
      have e76 : ρ (.tmp 76) = .bool true := ((hρ 76).trans (slotJ [6] (by rw [hsz]; decide) (by kernel_rfl))).trans (hF 6 (by decide))
      clear hρ hF hcst hfun sl1 sl7 sl8 fin
      exact opv_val (by go_simp <;> rfl) ⟨gw_self _, rfl⟩
    · refine owes_vt 7 true (Go.Op.fieldAddr 31 (Go.Operand.tmp 1) 1) 0 [] (by kernel_rfl) (by kernel_rfl) (by kernel_rfl) (fun _ _ h => h) (by rw [hsz]; kernel_rfl) (by kernel_rfl) rfl fun vals w1 ρ hG hF hρ hcst hfun => ?_
      have e1 : ρ (.tmp 1) = .pointer (some ⟨bg, 0, none⟩) := ((hρ 1).trans (slotO [] (by kernel_rfl))).trans sl1
      clear hρ hF hcst hfun sl1 sl7 sl8 fin
      exact opv_val (by go_simp <;> rfl) ⟨gw_self _, rfl⟩
    · refine owes_vt 7 true (Go.Op.load 29 (Go.Operand.tmp 78)) 29 [8] (by kernel_rfl) (by kernel_rfl) (by kernel_rfl) (fun _ _ h => h) (by rw [hsz]; kernel_rfl) (by kernel_rfl) rfl fun vals w1 ρ hG hF hρ hcst hfun => ?_
      have e78 : ρ (.tmp 78) = .pointer (some ⟨bg, 1, none⟩) := ((hρ 78).trans (slotJ [8] (by rw [hsz]; decide) (by kernel_rfl))).trans (hF 8 (by decide))
      have k := (hs.out w1 hG).2.1
      clear hρ hF hcst hfun sl1 sl7 sl8 fin
      exact opv_val (by go_simp <;> rfl) ⟨gw_self _, rfl⟩
    · refine owes_vt 7 true (Go.Op.move (Go.Operand.tmp 7)) 3 [] (by kernel_rfl) (by kernel_rfl) (by kernel_rfl) (fun _ _ h => h) (by rw [hsz]; kernel_rfl) (by kernel_rfl) rfl fun vals w1 ρ hG hF hρ hcst hfun => ?_
      have e7 : ρ (.tmp 7) = .int .i64 ((j : Int) + 1) := ((hρ 7).trans (slotO [] (by kernel_rfl))).trans sl7
      clear hρ hF hcst hfun sl1 sl7 sl8 fin
      exact opv_val (by go_simp <;> rfl) ⟨gw_self _, rfl⟩
    · refine owes_vt 7 true (Go.Op.binOp Go.BinOp.sub 3 (Go.Operand.tmp 80) (Go.Operand.const (Go.Value.int Go.IntKind.i64 1)) 3) 3 [10] (by kernel_rfl) (by kernel_rfl) (by kernel_rfl) (fun _ _ h => h) (by rw [hsz]; kernel_rfl) (by kernel_rfl) rfl fun vals w1 ρ hG hF hρ hcst hfun => ?_
      have e80 : ρ (.tmp 80) = .int .i64 ((j : Int) + 1) := ((hρ 80).trans (slotJ [10] (by rw [hsz]; decide) (by kernel_rfl))).trans (hF 10 (by decide))
      have kw : IntKind.i64.wrap (j : Int) = (j : Int) := wrapIn (by omega) (by omega)
      clear hρ hF hfun sl1 sl7 sl8 fin
      exact opv_val (by go_simp <;> rfl) ⟨gw_self _, rfl⟩
    · refine owes_vt 7 true (Go.Op.indexAddr 29 (Go.Operand.tmp 79) (Go.Operand.tmp 81)) 0 [9, 11] (by kernel_rfl) (by kernel_rfl) (by kernel_rfl) (fun _ _ h => h) (by rw [hsz]; kernel_rfl) (by kernel_rfl) rfl fun vals w1 ρ hG hF hρ hcst hfun => ?_
      have e79 : ρ (.tmp 79) = .slice (some ad) M c := ((hρ 79).trans (slotJ [9, 11] (by rw [hsz]; decide) (by kernel_rfl))).trans (hF 9 (by decide))
      have e81 : ρ (.tmp 81) = .int .i64 j := ((hρ 81).trans (slotJ [9, 11] (by rw [hsz]; decide) (by kernel_rfl))).trans (hF 11 (by decide))
      have q : (j : Int) < (M : Int) := by omega
      clear hρ hF hcst hfun sl1 sl7 sl8 fin
      exact opv_val (by go_simp <;> rfl) ⟨gw_self _, rfl⟩
    · refine owes_vt 7 true (Go.Op.fieldAddr 59 (Go.Operand.tmp 82) 0) 0 [12] (by kernel_rfl) (by kernel_rfl) (by kernel_rfl) (fun _ _ h => h) (by rw [hsz]; kernel_rfl) (by kernel_rfl) rfl fun vals w1 ρ hG hF hρ hcst hfun => ?_
      have e82 : ρ (.tmp 82) = .pointer (some (ad.add (j * 2))) := ((hρ 82).trans (slotJ [12] (by rw [hsz]; decide) (by kernel_rfl))).trans (hF 12 (by decide))
      clear hρ hF hcst hfun sl1 sl7 sl8 fin
      exact opv_val (by go_simp <;> rfl) ⟨gw_self _, rfl⟩
    · refine owes_vt 7 true (Go.Op.load 9 (Go.Operand.tmp 83)) 9 [13] (by kernel_rfl) (by kernel_rfl) (by kernel_rfl) (fun _ _ h => h) (by rw [hsz]; kernel_rfl) (by kernel_rfl) rfl fun vals w1 ρ hG hF hρ hcst hfun => ?_
      have e83 : ρ (.tmp 83) = .pointer (some (ad.add (j * 2))) := ((hρ 83).trans (slotJ [13] (by rw [hsz]; decide) (by kernel_rfl))).trans (hF 13 (by decide))
      have k := (hs.out w1 hG).2.2
      clear hρ hF hcst hfun sl1 sl7 sl8 fin
      exact opv_val (by go_simp <;> rfl) ⟨gw_self _, rfl⟩
    · refine owes_vt 7 true (Go.Op.fieldAddr 59 (Go.Operand.tmp 8) 0) 0 [] (by kernel_rfl) (by kernel_rfl) (by kernel_rfl) (fun _ _ h => h) (by rw [hsz]; kernel_rfl) (by kernel_rfl) rfl fun vals w1 ρ hG hF hρ hcst hfun => ?_
      have e8 : ρ (.tmp 8) = .pointer (some ⟨bx, 0, none⟩) := ((hρ 8).trans (slotO [] (by kernel_rfl))).trans sl8
      clear hρ hF hcst hfun sl1 sl7 sl8 fin
      exact opv_val (by go_simp <;> rfl) ⟨gw_self _, rfl⟩
    · refine owes_vt 7 true (Go.Op.load 9 (Go.Operand.tmp 85)) 9 [15] (by kernel_rfl) (by kernel_rfl) (by kernel_rfl) (fun _ _ h => h) (by rw [hsz]; kernel_rfl) (by kernel_rfl) rfl fun vals w1 ρ hG hF hρ hcst hfun => ?_
      have e85 : ρ (.tmp 85) = .pointer (some ⟨bx, 0, none⟩) := ((hρ 85).trans (slotJ [15] (by rw [hsz]; decide) (by kernel_rfl))).trans (hF 15 (by decide))
      have k := (hs.out w1 hG).1
      clear hρ hF hcst hfun sl1 sl7 sl8 fin
      exact opv_val (by go_simp <;> rfl) ⟨gw_self _, rfl⟩
    · refine owes_vt 7 true (Go.Op.binOp Go.BinOp.geq 9 (Go.Operand.tmp 84) (Go.Operand.tmp 86) 9) 4 [14, 16] (by kernel_rfl) (by kernel_rfl) (by kernel_rfl) (fun _ _ h => h) (by rw [hsz]; kernel_rfl) (by kernel_rfl) rfl fun vals w1 ρ hG hF hρ hcst hfun => ?_
      have e84 : ρ (.tmp 84) = .string u := ((hρ 84).trans (slotJ [14, 16] (by rw [hsz]; decide) (by kernel_rfl))).trans (hF 14 (by decide))
      have e86 : ρ (.tmp 86) = .string s := ((hρ 86).trans (slotJ [14, 16] (by rw [hsz]; decide) (by kernel_rfl))).trans (hF 16 (by decide))
      have q := hr
      unfold leS at q
      clear hρ hF hcst hfun sl1 sl7 sl8 fin
      exact opv_val (by go_simp <;> first | rfl | exact q | (rw [← q]; exact less_tri _ _) | exact less_tri _ _) ⟨gw_self _, rfl⟩
    · refine owes_vt 4 false (Go.Op.pick (Go.Operand.tmp 77) (Go.Operand.tmp 87) (Go.Operand.const (Go.Value.bool false))) 4 [7, 17] (by kernel_rfl) (by kernel_rfl) (by kernel_rfl) (fun _ _ h => h) (by rw [hsz]; kernel_rfl) (by kernel_rfl) rfl fun vals w1 ρ hG hF hρ hcst hfun => ?_
      have e77 : ρ (.tmp 77) = .bool true := ((hρ 77).trans (slotJ [7, 17] (by rw [hsz]; decide) (by kernel_rfl))).trans (hF 7 (by decide))
      have e87 : ρ (.tmp 87) = .bool r := ((hρ 87).trans (slotJ [7, 17] (by rw [hsz]; decide) (by kernel_rfl))).trans (hF 17 (by decide))
      clear hρ hF hfun sl1 sl7 sl8 fin
      exact opv_val (by go_simp <;> rfl) ⟨gw_self _, rfl⟩
    · refine owes_v (Go.Op.pick (Go.Operand.tmp 74) (Go.Operand.const (Go.Value.bool true)) (Go.Operand.tmp 88)) 4 [4, 18] (by kernel_rfl) (by kernel_rfl) (by kernel_rfl) rfl fun vals w1 ρ hG hF hρ hcst hfun => ?_
      have e74 : ρ (.tmp 74) = .bool false := ((hρ 74).trans (slotJ [4, 18] (by rw [hsz]; decide) (by kernel_rfl))).trans (hF 4 (by decide))
      have e88 : ρ (.tmp 88) = .bool r := ((hρ 88).trans (slotJ [4, 18] (by rw [hsz]; decide) (by kernel_rfl))).trans (hF 18 (by decide))
      clear hρ hF hfun sl1 sl7 sl8 fin
      exact opv_val (by go_simp <;> rfl) ⟨gw_self _, rfl⟩
  · intro vals w1 hG hF
    exact fin vals w1 hG (hF 19 (by decide +kernel))
theorem all_snoc {N : Nat} {l : List Int} {n : Nat} (h : n < l.length) (h1 : (l.take n).all (okP N) = true) (h2 : okP N l[n] = true) : (l.take (n + 1)).all (okP N) = true := by
  rw [List.take_succ_eq_append_getElem h, List.all_append, h1]
  simp [h2]
theorem all_bad {N : Nat} {l : List Int} {n : Nat} (h : n < l.length) (h2 : ¬ okP N l[n] = true) : ¬ l.all (okP N) = true := fun e => by
  rw [List.all_eq_true] at e
  exact h2 (e _ (List.getElem_mem h))
theorem rcheck_c (w : World) (g : Gv) (hg : g.At w w.heap.size) (hs : FewP g) : Calls Try.prog 13 #[g.v] w (RetP (.int .i64 (ckG g)) w) := by
  obtain ⟨R, hR⟩ : ∃ R, R = ckG g := ⟨_, rfl⟩
  rw [← hR]
  have HR := Lib.hid hR
  have HG := Lib.hid hg
  have HP := Lib.hid hs.2.2.1
  have hsn := hs.1
  have hsr := hs.2.1
  obtain ⟨A, ca, A2, ca2, ns, rs⟩ := g
  obtain ⟨N, hN⟩ : ∃ N, N = ns.length := ⟨_, rfl⟩
  obtain ⟨M, hM⟩ : ∃ M, M = rs.length := ⟨_, rfl⟩
  have q0 : (N : Int) ≤ 60 := by rw [hN]; exact Int.ofNat_le.2 hsn
  have q1 : (M : Int) ≤ 80 := by rw [hM]; exact Int.ofNat_le.2 hsr
  have HN := Lib.hid (And.intro hN hM)
  have HR2 := Lib.hid (show R = if ckNodes N ns = 0 then (if 64 < M then 3 else ckRoots N emptyS rs) else ckNodes N ns from by rw [hR, hN, hM]; rfl)
  unfold Gv.v Gv.vn Gv.vr
  simp only at HP ⊢
  rw [← hN, ← hM]
  clear hg hs hsn hsr hN hM hR
  go_enter Try.func13, Try.ntmps13
  go_wp2_with fail
  obtain ⟨W1, hW1⟩ : ∃ W1, W1 = w.alloc (.cells #[.slice A N ca, .slice A2 M ca2] 31) := ⟨_, rfl⟩
  have HW1 := Lib.hid (show Bk W1 w.heap.size 31 #[.slice A N ca, .slice A2 M ca2] ∧ Below w.heap.size w W1 from by
    rw [hW1]
    exact ⟨Bk.new w _ _, Gw.alloc w _⟩)
  rw [← hW1]
  clear hW1
  go_loopw [4] (fun i W => ∃ k : Nat, i = .int .i64 k ∧ k ≤ N ∧ Hid (ckNodes N (ns.drop k) = ckNodes N ns) ∧ Below W1.heap.size W1 W) (fun i _ => N - (Go.RowKit.intOf i).toNat)
  case atStart => exact ⟨0, rfl, Nat.zero_le _, Lib.hid rfl, Below.refl _ _⟩
  case round =>
    obtain ⟨k, rfl, hk, hck, hB⟩ := hrel
    have HBk := Lib.hid hB
    have hb1 := HW1.out.1.below hB HW1.out.1.lt
    have c0 := hb1.two.1
    have hl1 := hb1.lt
    have HBw := Lib.hid (show Below w.heap.size w wr from HW1.out.2.trans (hB.mono HW1.out.2.size))
    by_cases hlt : k < N
    · have hkn : k < ns.length := by rw [← HN.out.1]; exact hlt
      obtain ⟨x, hx⟩ : ∃ x, x = ns[k] := ⟨_, rfl⟩
      obtain ⟨ad, rfl, hc2, hc3, hxa⟩ : ∃ ad, A = some ad ∧ wr.cell? (ad.add (k * 2)) = some x.vp ∧ wr.cell? ⟨(ad.add (k * 2)).block, (ad.add (k * 2)).off + 1, none⟩ = some x.vd ∧ x.At wr wr.heap.size := by
        obtain ⟨ad, e, _, h1, h2, h3⟩ := (HG.out.n.below HBw.out) k hkn
        exact ⟨ad, e, by rw [hx]; exact h1, by rw [hx]; exact h2, by rw [hx]; exact h3.more HBw.out.size⟩
      have hsz := HP.out x (by rw [hx]; exact List.getElem_mem _)
      have HS := Lib.hid (ckNodes_drop N ns k hkn)
      rw [← hx] at HS
      have HZ := Lib.hid (show ∀ z, ckNode N x = z → z ≠ 0 → R = z from fun z hz h0 => by
        have e : ckNodes N ns = z := by rw [← hck.out, HS.out, if_neg (by rw [hz]; exact h0), hz]
        rw [HR2.out, e, if_neg h0])
      have HO := Lib.hid (show ckNode N x = 0 → ckNodes N (ns.drop (k + 1)) = ckNodes N ns from fun h0 => by rw [← hck.out, HS.out, if_pos h0])
      have p1 : (0 : Int) ≤ (k : Int) := by omega
      have p2 : (k : Int) < (N : Int) := by omega
      clear hx hkn hB hck hb1 HS
      obtain ⟨xA, xc, xD, xd, xps, xbs⟩ := x
      obtain ⟨xn, hxn⟩ : ∃ n, n = xps.length := ⟨_, rfl⟩
      obtain ⟨xm, hxm⟩ : ∃ n, n = xbs.length := ⟨_, rfl⟩
      unfold Nv.vp at hc2
      unfold Nv.vd at hc3
      simp only at hc2 hc3 hsz
      rw [← hxn] at hc2 hsz
      rw [← hxm] at hc3 hsz
      have HX := Lib.hid (show ∀ b, xps.all (okP N) = b → ckNode N ⟨xA, xc, xD, xd, xps, xbs⟩ = if b = true then (if 64 < xn ∨ 1024 < xm then 3 else 0) else 1 from fun b hb => by unfold ckNode; rw [hb, hxn, hxm])
      have hcl := cell_lt hc2
      have hcl' : (ad.add (k * 2)).block < wr.heap.size := hcl
      obtain ⟨W2, hW2⟩ : ∃ W2, W2 = wr.alloc (.cells #[.slice xA xn xc, .slice xD xm xd] 58) := ⟨_, rfl⟩
      have HW2 := Lib.hid (show Bk W2 wr.heap.size 58 #[.slice xA xn xc, .slice xD xm xd] ∧ Below wr.heap.size wr W2 from by
        rw [hW2]
        exact ⟨Bk.new wr _ _, Gw.alloc wr _⟩)
      have HXY := Lib.hid (hxa.up HW2.out.2)
      have hW2' := Lib.hid hW2
      have HL := Lib.hid hxn
      have hq1 : (xn : Int) ≤ 70 := by have := hsz.1; omega
      have hq2 : (xm : Int) ≤ 1100 := by have := hsz.2; omega
      clear hxa hcl hW2 hxn hxm hsz
      go_wp2_with fail
      rw [← hW2'.out]
      clear hc2 hc3 hcl' c0
      have HBo := Lib.hid (show Below W1.heap.size W1 W2 from HBk.out.trans (HW2.out.2.mono HBk.out.size))
      have HBz := Lib.hid (show Below w.heap.size w W2 from HBw.out.trans (HW2.out.2.mono HBw.out.size))
      obtain ⟨bx, hbx⟩ : ∃ bx, bx = wr.heap.size := ⟨_, rfl⟩
      rw [← hbx] at HW2 ⊢
      clear hbx
      go_loopw [6] (fun i W => ∃ n : Nat, i = .int .i64 n ∧ n ≤ xn ∧ Hid ((xps.take n).all (okP N) = true) ∧ Below W2.heap.size W2 W) (fun i _ => xn - (Go.RowKit.intOf i).toNat)
      case atStart => exact ⟨0, rfl, Nat.zero_le _, Lib.hid rfl, Below.refl _ _⟩
      case round =>
        obtain ⟨n, rfl, hn, ht, hB⟩ := hrel
        have hb1 := HW2.out.1.below hB HW2.out.1.lt
        have HBn := Lib.hid hB
        have d0 := hb1.two.1
        have d1 := hb1.two.2
        by_cases hln : n < xn
        · have h1 : n < xps.length := by rw [← HL.out]; exact hln
          obtain ⟨x, hx⟩ : ∃ y, y = xps[n] := ⟨_, rfl⟩
          obtain ⟨aa, rfl, haa, hca⟩ := (HXY.out.p.below hB) n h1
          rw [← hx] at hca
          unfold iV at hca
          have p3 : (0 : Int) ≤ (n : Int) := by omega
          have p4 : (n : Int) < (xn : Int) := by omega
          have HBd := Lib.hid (show ¬ okP N x = true → R = 1 from fun e => by
            have ha : xps.all (okP N) = false := by
              cases hc : xps.all (okP N) with
              | false => rfl
              | true => exact absurd hc (all_bad h1 (by rw [← hx]; exact e))
            have := HX.out false ha
            exact HZ.out 1 (by rw [this]; rfl) (by decide))
          have HGd := Lib.hid (show okP N x = true → (xps.take (n + 1)).all (okP N) = true from fun e => all_snoc h1 ht.out (by rw [← hx]; exact e))
          clear hx haa h1 ht hB hb1
          by_cases h0 : x < 0
          · have HRf := Lib.hid (HBd.out (fun e => by have := okP_iff.1 e; omega))
            go_wp2_with fail
            go_ret
            rw [HRf.out]
            exact ⟨rfl, HBz.out.trans (HBn.out.mono HBz.out.size)⟩
          · by_cases h2 : (N : Int) < x
            · have HRf := Lib.hid (HBd.out (fun e => by have := okP_iff.1 e; omega))
              go_wp2_with fail
              go_ret
              rw [HRf.out]
              exact ⟨rfl, HBz.out.trans (HBn.out.mono HBz.out.size)⟩
            · have HT := Lib.hid (HGd.out (okP_iff.2 (by omega)))
              go_wp2_with fail
              go_roundw
              case rel => exact ⟨n + 1, by go_num, by omega, HT, HBn.out⟩
              case measure => simp [Go.RowKit.intOf]; omega
        · have hnx : n = xn := by omega
          have HC := Lib.hid (HX.out true (by
            have := ht.out
            rwa [hnx, List.take_of_length_le (by rw [← HL.out]; exact Nat.le_refl _)] at this))
          clear hnx ht hb1 hB
          by_cases g1 : 64 < xn
          · have t1 : (64 : Int) < (xn : Int) := by omega
            have HRf := Lib.hid (HZ.out 3 (by rw [HC.out, if_pos rfl, if_pos (.inl g1)]) (by decide))
            go_wp2_with fail
            go_ret
            rw [HRf.out]
            exact ⟨rfl, HBz.out.trans (HBn.out.mono HBz.out.size)⟩
          · have t1 : ¬ (64 : Int) < (xn : Int) := by omega
            by_cases g2 : 1024 < xm
            · have t2 : (1024 : Int) < (xm : Int) := by omega
              have HRf := Lib.hid (HZ.out 3 (by rw [HC.out, if_pos rfl, if_pos (.inr g2)]) (by decide))
              go_wp2_with fail
              go_ret
              rw [HRf.out]
              exact ⟨rfl, HBz.out.trans (HBn.out.mono HBz.out.size)⟩
            · have t2 : ¬ (1024 : Int) < (xm : Int) := by omega
              have HK := Lib.hid (HO.out (by rw [HC.out, if_pos rfl, if_neg (by omega)]))
              have HBy := Lib.hid (HBo.out.trans (HBn.out.mono HBo.out.size))
              go_wp2_with fail
              go_roundw
              case rel => exact ⟨k + 1, by go_num, by omega, HK, HBy.out⟩
              case measure => simp [Go.RowKit.intOf]; omega
    · have hkN : k = N := by omega
      have hck0 : ckNodes N ns = 0 := by rw [← hck.out, hkN, HN.out.1, List.drop_length]; rfl
      have hR3 : R = if 64 < M then 3 else ckRoots N emptyS rs := by rw [HR2.out, if_pos hck0]
      have c1 := hb1.two.2
      clear hkN hck hck0 hb1 c0
      by_cases h64 : 64 < M
      · have t1 : (64 : Int) < (M : Int) := by omega
        have HRf := Lib.hid (hR3.trans (if_pos h64))
        clear hR3 hB
        go_wp2_with fail
        go_ret
        rw [HRf.out]
        exact ⟨rfl, HBw.out⟩
      · have t1 : ¬ (64 : Int) < (M : Int) := by omega
        have HR3 := Lib.hid (hR3.trans (if_neg h64))
        clear hR3
        go_wp2_with fail
        clear c1 hl1 hlt hk h64 t1
        obtain ⟨W0, hW0⟩ : ∃ W0, W0 = wr := ⟨_, rfl⟩
        rw [← hW0] at hB ⊢
        clear hW0
        go_loopw [7] (fun i W => ∃ k : Nat, i = .int .i64 k ∧ k ≤ M ∧ Hid (R = ckRoots N (prevS rs k) (rs.drop k)) ∧ Below W1.heap.size W1 W) (fun i _ => M - (Go.RowKit.intOf i).toNat)
        case atStart => exact ⟨0, rfl, Nat.zero_le _, Lib.hid HR3.out, hB⟩
        case round =>
          obtain ⟨k, rfl, hk, hck, hB⟩ := hrel
          have HBk := Lib.hid hB
          have hb1 := HW1.out.1.below hB HW1.out.1.lt
          have c1 := hb1.two.2
          have hl1 := hb1.lt
          have HBw := Lib.hid (show Below w.heap.size w wr from HW1.out.2.trans (hB.mono HW1.out.2.size))
          by_cases hlt : k < M
          · have hkn : k < rs.length := by rw [← HN.out.2]; exact hlt
            obtain ⟨x, hx⟩ : ∃ x, x = rs[k] := ⟨_, rfl⟩
            obtain ⟨ad, rfl, hc2, hc3, hprev⟩ : ∃ ad, A2 = some ad ∧ wr.cell? (ad.add (k * 2)) = some (.string x.s) ∧ wr.cell? ⟨(ad.add (k * 2)).block, (ad.add (k * 2)).off + 1, none⟩ = some (.int .i64 x.t) ∧ ∀ j, k = j + 1 → wr.cell? (ad.add (j * 2)) = some (.string (prevS rs k)) := by
              obtain ⟨ad, e, _, h1, h2⟩ := (HG.out.r.below HBw.out) k hkn
              refine ⟨ad, e, by rw [hx]; exact h1, by rw [hx]; exact h2, fun j hj => ?_⟩
              have hjn : j < rs.length := by omega
              obtain ⟨ad', e', _, h3, _⟩ := (HG.out.r.below HBw.out) j hjn
              have he : ad = ad' := by rw [e] at e'; injection e'
              subst he
              rw [h3, hj]
              show some (Value.string _) = some (Value.string (((rs[j]?).map (·.s)).getD emptyS))
              rw [List.getElem?_eq_getElem hjn]; rfl
            have HS := Lib.hid (hck.out.trans (ckRoots_drop N (prevS rs k) rs k hkn))
            rw [← hx] at HS
            have HPn := Lib.hid (show prevS rs (k + 1) = x.s from by show ((rs[k]?).map (·.s)).getD emptyS = _; rw [List.getElem?_eq_getElem hkn, hx]; rfl)
            have p1 : (0 : Int) ≤ (k : Int) := by omega
            have p2 : (k : Int) < (M : Int) := by omega
            obtain ⟨s, t⟩ := x
            simp only at hc2 hc3 HS HPn
            have hcl := cell_lt hc2
            have hcl' : (ad.add (k * 2)).block < wr.heap.size := hcl
            obtain ⟨W2, hW2⟩ : ∃ W2, W2 = wr.alloc (.cells #[.string s, .int .i64 t] 59) := ⟨_, rfl⟩
            have HW2 := Lib.hid (show Bk W2 wr.heap.size 59 #[.string s, .int .i64 t] ∧ Below wr.heap.size wr W2 from by
              rw [hW2]
              exact ⟨Bk.new wr _ _, Gw.alloc wr _⟩)
            have hW2' := Lib.hid hW2
            have HBo := Lib.hid (show Below W1.heap.size W1 W2 from HBk.out.trans (HW2.out.2.mono HBk.out.size))
            have HBz := Lib.hid (show Below w.heap.size w W2 from HBw.out.trans (HW2.out.2.mono HBw.out.size))
            have HQ := Lib.hid (show ∀ W, Below W2.heap.size W2 W → W.cell? ⟨wr.heap.size, 0, none⟩ = some (.string s) from fun W b => (HW2.out.1.below b HW2.out.1.lt).cell 0)
            have HQ3 := Lib.hid (show ∀ j, k = j + 1 → ∀ W, Below W2.heap.size W2 W → W.cell? ⟨wr.heap.size, 0, none⟩ = some (.string s) ∧ W.cell? ⟨w.heap.size, 1, none⟩ = some (.slice (some ad) M ca2) ∧ W.cell? (ad.add (j * 2)) = some (.string (prevS rs k)) from fun j hj W b =>
              ⟨HQ.out W b, ((hb1.below HW2.out.2 hb1.lt).below b (hb1.below HW2.out.2 hb1.lt).lt).cell 1, ((HW2.out.2.trans (b.mono HW2.out.2.size)).cell (cell_lt (hprev j hj))).trans (hprev j hj)⟩)
            clear hx hkn hB hck hb1 hcl hW2 hprev
            by_cases hg : goodS s = true
            · go_wp2_with fail
              rw [← hW2'.out]
              clear hc2 hc3 hcl' c1 hl1
              cases hle : leS s (prevS rs k) with
              | true =>
                have HRf := Lib.hid (show R = 4 from by rw [HS.out, if_neg (by rw [hle]; simp)])
                cases k with
                | zero => exact absurd (leS_empty hg) (by rw [show emptyS = prevS rs 0 from rfl, hle]; simp)
                | succ j =>
                  have p3 : (0 : Int) ≤ (j : Int) := by omega
                  have p4 : (j : Int) + 1 < (M : Int) := by omega
                  have p5 : (M : Int) ≤ 100 := by omega
                  refine rckc_r _ _ _ wr.heap.size w.heap.size M ca2 j ad s (prevS rs (j + 1)) true (Lib.hid (HQ3.out j rfl)) hg hle p3 p4 p5 rfl rfl rfl rfl ?_
                  intro vals w7 hG h89
                  unfold IsV at h89
                  simp only [putD, Act.put, List.setIfInBounds_toArray, List.set_cons_zero, List.set_cons_succ, h89]
                  have HB7 := Lib.hid (HBz.out.trans (hG.mono HBz.out.size))
                  clear hG h89
                  go_wp2_with fail
                  go_ret
                  rw [HRf.out]
                  exact ⟨rfl, HB7.out⟩
              | false =>
                have HS2 := Lib.hid (show R = if okP N t = true then ckRoots N s (rs.drop (k + 1)) else 1 from by rw [HS.out, if_pos ⟨hg, hle⟩])
                cases k with
                | zero =>
                  refine rckb_r _ _ _ wr.heap.size s HQ hg rfl rfl rfl ?_
                  intro vals w7 hG h89
                  unfold IsV at h89
                  simp only [putD, Act.put, List.setIfInBounds_toArray, List.set_cons_zero, List.set_cons_succ, h89]
                  have HB7 := Lib.hid (HBz.out.trans (hG.mono HBz.out.size))
                  have HBy := Lib.hid (HBo.out.trans (hG.mono HBo.out.size))
                  have d1 := (HW2.out.1.below hG HW2.out.1.lt).cell 1
                  have d1 : w7.cell? ⟨wr.heap.size, 1, none⟩ = some (.int .i64 t) := d1
                  clear hG h89
                  by_cases h0 : t < 0
                  · have HRf := Lib.hid (show R = 1 from by rw [HS2.out, if_neg (fun e => by have := okP_iff.1 e; omega)])
                    go_wp2_with fail
                    go_ret
                    rw [HRf.out]
                    exact ⟨rfl, HB7.out⟩
                  · by_cases h2 : (N : Int) < t
                    · have HRf := Lib.hid (show R = 1 from by rw [HS2.out, if_neg (fun e => by have := okP_iff.1 e; omega)])
                      go_wp2_with fail
                      go_ret
                      rw [HRf.out]
                      exact ⟨rfl, HB7.out⟩
                    · have HRn := Lib.hid (show R = ckRoots N (prevS rs (0 + 1)) (rs.drop (0 + 1)) from by rw [HPn.out, HS2.out, if_pos (okP_iff.2 (by omega))])
                      go_wp2_with fail
                      go_roundw
                      case rel => exact ⟨0 + 1, by go_num, by omega, HRn, HBy.out⟩
                      case measure => simp [Go.RowKit.intOf] <;> omega
                | succ j =>
                  have p3 : (0 : Int) ≤ (j : Int) := by omega
                  have p4 : (j : Int) + 1 < (M : Int) := by omega
                  have p5 : (M : Int) ≤ 100 := by omega
                  refine rckc_r _ _ _ wr.heap.size w.heap.size M ca2 j ad s (prevS rs (j + 1)) false (Lib.hid (HQ3.out j rfl)) hg hle p3 p4 p5 rfl rfl rfl rfl ?_
                  intro vals w7 hG h89
                  unfold IsV at h89
                  simp only [putD, Act.put, List.setIfInBounds_toArray, List.set_cons_zero, List.set_cons_succ, h89]
                  have HB7 := Lib.hid (HBz.out.trans (hG.mono HBz.out.size))
                  have HBy := Lib.hid (HBo.out.trans (hG.mono HBo.out.size))
                  have d1 := (HW2.out.1.below hG HW2.out.1.lt).cell 1
                  have d1 : w7.cell? ⟨wr.heap.size, 1, none⟩ = some (.int .i64 t) := d1
                  clear hG h89
                  by_cases h0 : t < 0
                  · have HRf := Lib.hid (show R = 1 from by rw [HS2.out, if_neg (fun e => by have := okP_iff.1 e; omega)])
                    go_wp2_with fail
                    go_ret
                    rw [HRf.out]
                    exact ⟨rfl, HB7.out⟩
                  · by_cases h2 : (N : Int) < t
                    · have HRf := Lib.hid (show R = 1 from by rw [HS2.out, if_neg (fun e => by have := okP_iff.1 e; omega)])
                      go_wp2_with fail
                      go_ret
                      rw [HRf.out]
                      exact ⟨rfl, HB7.out⟩
                    · have HRn := Lib.hid (show R = ckRoots N (prevS rs ((j + 1) + 1)) (rs.drop ((j + 1) + 1)) from by rw [HPn.out, HS2.out, if_pos (okP_iff.2 (by omega))])
                      go_wp2_with fail
                      go_roundw
                      case rel => exact ⟨(j + 1) + 1, by go_num, by omega, HRn, HBy.out⟩
                      case measure => simp [Go.RowKit.intOf] <;> omega
            · have hg0 : goodS s = false := by simpa using hg
              have HRf := Lib.hid (show R = 4 from by rw [HS.out, if_neg (by rw [hg0]; simp)])
              go_wp2_with fail
              rw [← hW2'.out]
              refine rcka_r _ _ _ wr.heap.size s (k : Int) HQ hg0 rfl rfl ?_
              intro vals w7 hG h89
              unfold IsV at h89
              simp only [putD, Act.put, List.setIfInBounds_toArray, List.set_cons_zero, List.set_cons_succ, h89]
              have HB7 := Lib.hid (HBz.out.trans (hG.mono HBz.out.size))
              clear hG h89
              go_wp2_with fail
              go_ret
              rw [HRf.out]
              exact ⟨rfl, HB7.out⟩
          · have hkM : k = M := by omega
            have HRf := Lib.hid (show R = 0 from by rw [hck.out, hkM, HN.out.2, List.drop_length]; rfl)
            clear hkM hck hb1 hB
            go_wp2_with fail
            go_ret
            rw [HRf.out]
            exact ⟨rfl, HBw.out⟩
end Go.Proofs.Ytkkjnahjmomjgaa
