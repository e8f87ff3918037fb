/- Texts joined: GuCz EnA EnB CrA CrE ApZ EnC EnD. -/
import Derived.Test.YtaminpfgkegibaaXc7
import Derived.Test.YtaminpfgkegibaaMmC
import Derived.Test.YtaminpfgkegibaaSpF
import Derived.Test.YtaminpfgkegibaaMmF
import Derived.Test.YtaminpfgkegibaaBel
import Derived.Test.YtaminpfgkegibaaBitsB
import Derived.Lib.AppendZeros
import Derived.Lib.AppendZerosOnto
import Derived.Lib.ConvBytes
import Derived.Laws.IdiomStrings
/- The reference's Check. Conditions: lengths. -/
namespace Go.Proofs.Ytaminpfgkegibaa
set_option linter.unusedVariables false
set_option linter.unusedSimpArgs false
open Go.RowKit
set_option maxHeartbeats 4000000
set_option maxRecDepth 100000
theorem okP_iff {N : Nat} {p : Int} : okP N p = true ↔ 0 ≤ p ∧ p ≤ (N : Int) := by
  unfold okP hasG
  simp
  omega
theorem leS_empty {s : ByteArray} (h : goodS s = true) : leS s emptyS = false := by
  have hs : 1 ≤ s.size := by
    unfold goodS at h
    simp only [Bool.and_eq_true, decide_eq_true_eq] at h
    exact h.1
  have hl : s.toList.length = s.size := by rw [ByteArray.toList_eq]; simp
  have e0 : emptyS.toList = [] := by rw [ByteArray.toList_eq]; rfl
  unfold leS
  rw [e0]
  cases hc : s.toList with
  | nil => rw [hc] at hl; simp at hl; omega
  | cons a l => rfl
theorem less_tri : ∀ x y : List UInt8, Op.bytesLess y x = !(Op.bytesLess x y || x == y)
  | [], [] => rfl
  | [], b :: y => by simp [Op.bytesLess]
  | a :: x, [] => by simp [Op.bytesLess]
  | a :: x, b :: y => by
    have ih := less_tri x y
    simp only [Op.bytesLess]
    rw [ih]
    rcases Nat.lt_trichotomy a.toNat b.toNat with h | h | h
    · have h1 : a < b := UInt8.lt_iff_toNat_lt.2 h
      have h2 : ¬ b < a := fun e => by have := UInt8.lt_iff_toNat_lt.1 e; omega
      have h3 : ¬ b = a := fun e => by subst e; omega
      have h4 : (b == a) = false := by simpa using h3
      simp [h1, h2, h4]
    · have h1 : a = b := UInt8.toNat_inj.1 h
      subst h1
      have h2 : ¬ a < a := fun e => by have := UInt8.lt_iff_toNat_lt.1 e; omega
      simp [h2]
    · have h1 : b < a := UInt8.lt_iff_toNat_lt.2 h
      have h2 : ¬ a < b := fun e => by have := UInt8.lt_iff_toNat_lt.1 e; omega
      have h3 : ¬ a = b := fun e => by subst e; omega
      have h4 : (a == b) = false := by simpa using h3
      simp [h1, h2, h4, h3]
theorem of_ret17 {P : Program} {f : FuncId} {args : Array Value} {v : Value} {w : World} (h : Calls P f args w fun e w' => e = .returned v ∧ w' = w) : Calls P f args w fun e w2 => ∃ u, e = .returned u ∧ Below w.heap.size w w2 ∧ IsV v u w2 :=
  h.mono fun _ _ h => ⟨_, h.1, by rw [h.2]; exact Below.refl _ _, rfl⟩
def prevS (rs : List Rv) : Nat → ByteArray
  | 0 => emptyS
  | k + 1 => ((rs[k]?).map (·.s)).getD emptyS
theorem rcka_r (Q : Exit → Act → World → Prop) (a0 : Act) (w : World) (bx : Nat) (s : ByteArray) (i : Int) (hs : Hid (∀ W, Below w.heap.size w W → W.cell? ⟨bx, 0, none⟩ = some (.string s))) (hg : goodS s = false) (hsz : a0.tmps.size = 99) (sl8 : a0.tmps.getD 8 undef = .pointer (some ⟨bx, 0, none⟩))
    (fin : ∀ (vals : Nat → Value) (w1 : World), Below w.heap.size w w1 → (IsV (.bool true)) (vals 19) w1 → Q .normal (putD vals [70, 71, 72, 73, 74, 75, 76, 77, 78, 79, 80, 81, 82, 83, 84, 85, 86, 87, 88, 89] 0 a0) w1) :
    (Code.region 19 (regIn Try.f39 19) true).wp Try.prog Q a0 w := by
  refine region_by (G := fun w w1 => Below w.heap.size w w1) [IsV (.pointer (some ⟨bx, 0, none⟩)),
    IsV (.string s),
    IsV (.bool false),
    IsV (.bool true),
    IsV (.bool true),
    IsV undef,
    IsV undef,
    IsV undef,
    IsV undef,
    IsV undef,
    IsV undef,
    IsV undef,
    IsV undef,
    IsV undef,
    IsV undef,
    IsV undef,
    IsV undef,
    IsV undef,
    IsV undef,
    IsV (.bool true)]
    [70, 71, 72, 73, 74, 75, 76, 77, 78, 79, 80, 81, 82, 83, 84, 85, 86, 87, 88, 89] (by kernel_rfl) (Gw.drew _) Gw.trans (by rw [hsz]; kernel_rfl) (by kernel_rfl) ?_ ?_ ?_
  · intro f hf
    simp only [List.mem_cons, List.not_mem_nil, or_false] at hf
    rcases hf with rfl | rfl | rfl | rfl | rfl | rfl | rfl | rfl | rfl | rfl | rfl | rfl | rfl | rfl | rfl | rfl | rfl | rfl | rfl | rfl <;> intro v a b h g <;> first | exact IsV.mono h
  · refine ⟨?_, ?_, ?_, ?_, ?_, ?_, ?_, ?_, ?_, ?_, ?_, ?_, ?_, ?_, ?_, ?_, ?_, ?_, ?_, ?_, trivial⟩
    · refine owes_v (Go.Op.fieldAddr 103 (Go.Operand.tmp 8) 0) 0 [] (by kernel_rfl) (by kernel_rfl) (by kernel_rfl) rfl fun vals w1 ρ hG hF hρ hcst hfun => ?_
      have e8 : ρ (.tmp 8) = .pointer (some ⟨bx, 0, none⟩) := ((hρ 8).trans (slotO [] (by kernel_rfl))).trans sl8
      clear hρ hF hcst hfun sl8 fin
      exact opv_val (by go_simp <;> rfl) ⟨gw_self _, rfl⟩
    · refine owes_v (Go.Op.load 9 (Go.Operand.tmp 70)) 9 [0] (by kernel_rfl) (by kernel_rfl) (by kernel_rfl) rfl fun vals w1 ρ hG hF hρ hcst hfun => ?_
      have e70 : ρ (.tmp 70) = .pointer (some ⟨bx, 0, none⟩) := ((hρ 70).trans (slotJ [0] (by rw [hsz]; decide) (by kernel_rfl))).trans (hF 0 (by decide))
      have k := hs.out w1 hG
      clear hρ hF hcst hfun sl8 fin
      exact opv_val (by go_simp <;> rfl) ⟨gw_self _, rfl⟩
    · refine owes_v (Go.Op.call { callee := Go.Callee.value (Go.Operand.func 73), args := #[Go.Operand.tmp 71], argTypes := #[9] }) 4 [1] (by kernel_rfl) (by kernel_rfl) (by kernel_rfl) rfl fun vals w1 ρ hG hF hρ hcst hfun => ?_
      have e71 : ρ (.tmp 71) = .string s := ((hρ 71).trans (slotJ [1] (by rw [hsz]; decide) (by kernel_rfl))).trans (hF 1 (by decide))
      clear hρ hF hcst sl8 fin
      exact opv_enter (by go_simp <;> rfl) (of_ret17 (hg ▸ rgood_s s w1))
    · refine owes_v (Go.Op.unOp Go.UnOp.not 4 (Go.Operand.tmp 72)) 4 [2] (by kernel_rfl) (by kernel_rfl) (by kernel_rfl) rfl fun vals w1 ρ hG hF hρ hcst hfun => ?_
      have e72 : ρ (.tmp 72) = .bool false := ((hρ 72).trans (slotJ [2] (by rw [hsz]; decide) (by kernel_rfl))).trans (hF 2 (by decide))
      clear hρ hF hcst hfun sl8 fin
      exact opv_val (by go_simp <;> rfl) ⟨gw_self _, rfl⟩
    · exact owes_mvj 3 73 (by kernel_rfl) (by kernel_rfl) (by kernel_rfl) (by kernel_rfl) (by rw [hsz]; decide) (fun v w h => h)
    · exact owes_no 4 true false (by decide) (by kernel_rfl) (by kernel_rfl) (fun _ _ h => h) (by rw [hsz]; kernel_rfl) (fun _ => rfl)
    · exact owes_no 4 true false (by decide) (by kernel_rfl) (by kernel_rfl) (fun _ _ h => h) (by rw [hsz]; kernel_rfl) (fun _ => rfl)
    · exact owes_no 4 true false (by decide) (by kernel_rfl) (by kernel_rfl) (fun _ _ h => h) (by rw [hsz]; kernel_rfl) (fun _ => rfl)
    · exact owes_un 7 true (by kernel_rfl) (by kernel_rfl) (fun _ _ h => h) (by rw [hsz]; kernel_rfl) (fun _ => rfl)
    · exact owes_un 7 true (by kernel_rfl) (by kernel_rfl) (fun _ _ h => h) (by rw [hsz]; kernel_rfl) (fun _ => rfl)
    · exact owes_un 7 true (by kernel_rfl) (by kernel_rfl) (fun _ _ h => h) (by rw [hsz]; kernel_rfl) (fun _ => rfl)
    · exact owes_un 7 true (by kernel_rfl) (by kernel_rfl) (fun _ _ h => h) (by rw [hsz]; kernel_rfl) (fun _ => rfl)
    · exact owes_un 7 true (by kernel_rfl) (by kernel_rfl) (fun _ _ h => h) (by rw [hsz]; kernel_rfl) (fun _ => rfl)
    · exact owes_un 7 true (by kernel_rfl) (by kernel_rfl) (fun _ _ h => h) (by rw [hsz]; kernel_rfl) (fun _ => rfl)
    · exact owes_un 7 true (by kernel_rfl) (by kernel_rfl) (fun _ _ h => h) (by rw [hsz]; kernel_rfl) (fun _ => rfl)
    · exact owes_un 7 true (by kernel_rfl) (by kernel_rfl) (fun _ _ h => h) (by rw [hsz]; kernel_rfl) (fun _ => rfl)
    · exact owes_un 7 true (by kernel_rfl) (by kernel_rfl) (fun _ _ h => h) (by rw [hsz]; kernel_rfl) (fun _ => rfl)
    · exact owes_un 7 true (by kernel_rfl) (by kernel_rfl) (fun _ _ h => h) (by rw [hsz]; kernel_rfl) (fun _ => rfl)
    · exact owes_no 4 true false (by decide) (by kernel_rfl) (by kernel_rfl) (fun _ _ h => h) (by rw [hsz]; kernel_rfl) (fun _ => rfl)
    · refine owes_v (Go.Op.pick (Go.Operand.tmp 74) (Go.Operand.const (Go.Value.bool true)) (Go.Operand.tmp 88)) 4 [4, 18] (by kernel_rfl) (by kernel_rfl) (by kernel_rfl) rfl fun vals w1 ρ hG hF hρ hcst hfun => ?_
      have e74 : ρ (.tmp 74) = .bool true := ((hρ 74).trans (slotJ [4, 18] (by rw [hsz]; decide) (by kernel_rfl))).trans (hF 4 (by decide))
      have e88 : ρ (.tmp 88) = undef := ((hρ 88).trans (slotJ [4, 18] (by rw [hsz]; decide) (by kernel_rfl))).trans (hF 18 (by decide))
      clear hρ hF hfun sl8 fin
      exact opv_val (by go_simp <;> rfl) ⟨gw_self _, rfl⟩
  · intro vals w1 hG hF
    exact fin vals w1 hG (hF 19 (by decide +kernel))
theorem rckb_r (Q : Exit → Act → World → Prop) (a0 : Act) (w : World) (bx : Nat) (s : ByteArray) (hs : Hid (∀ W, Below w.heap.size w W → W.cell? ⟨bx, 0, none⟩ = some (.string s))) (hg : goodS s = true) (hsz : a0.tmps.size = 99) (sl7 : a0.tmps.getD 7 undef = .int .i64 0) (sl8 : a0.tmps.getD 8 undef = .pointer (some ⟨bx, 0, none⟩))
    (fin : ∀ (vals : Nat → Value) (w1 : World), Below w.heap.size w w1 → (IsV (.bool false)) (vals 19) w1 → Q .normal (putD vals [70, 71, 72, 73, 74, 75, 76, 77, 78, 79, 80, 81, 82, 83, 84, 85, 86, 87, 88, 89] 0 a0) w1) :
    (Code.region 19 (regIn Try.f39 19) true).wp Try.prog Q a0 w := by
  refine region_by (G := fun w w1 => Below w.heap.size w w1) [IsV (.pointer (some ⟨bx, 0, none⟩)),
    IsV (.string s),
    IsV (.bool true),
    IsV (.bool false),
    IsV (.bool false),
    IsV (.int .i64 0),
    IsV (.bool false),
    IsV (.bool false),
    IsV undef,
    IsV undef,
    IsV undef,
    IsV undef,
    IsV undef,
    IsV undef,
    IsV undef,
    IsV undef,
    IsV undef,
    IsV undef,
    IsV (.bool false),
    IsV (.bool false)]
    [70, 71, 72, 73, 74, 75, 76, 77, 78, 79, 80, 81, 82, 83, 84, 85, 86, 87, 88, 89] (by kernel_rfl) (Gw.drew _) Gw.trans (by rw [hsz]; kernel_rfl) (by kernel_rfl) ?_ ?_ ?_
  · intro f hf
    simp only [List.mem_cons, List.not_mem_nil, or_false] at hf
    rcases hf with rfl | rfl | rfl | rfl | rfl | rfl | rfl | rfl | rfl | rfl | rfl | rfl | rfl | rfl | rfl | rfl | rfl | rfl | rfl | rfl <;> intro v a b h g <;> first | exact IsV.mono h
  · refine ⟨?_, ?_, ?_, ?_, ?_, ?_, ?_, ?_, ?_, ?_, ?_, ?_, ?_, ?_, ?_, ?_, ?_, ?_, ?_, ?_, trivial⟩
    · refine owes_v (Go.Op.fieldAddr 103 (Go.Operand.tmp 8) 0) 0 [] (by kernel_rfl) (by kernel_rfl) (by kernel_rfl) rfl fun vals w1 ρ hG hF hρ hcst hfun => ?_
      have e8 : ρ (.tmp 8) = .pointer (some ⟨bx, 0, none⟩) := ((hρ 8).trans (slotO [] (by kernel_rfl))).trans sl8
      clear hρ hF hcst hfun sl7 sl8 fin
      exact opv_val (by go_simp <;> rfl) ⟨gw_self _, rfl⟩
    · refine owes_v (Go.Op.load 9 (Go.Operand.tmp 70)) 9 [0] (by kernel_rfl) (by kernel_rfl) (by kernel_rfl) rfl fun vals w1 ρ hG hF hρ hcst hfun => ?_
      have e70 : ρ (.tmp 70) = .pointer (some ⟨bx, 0, none⟩) := ((hρ 70).trans (slotJ [0] (by rw [hsz]; decide) (by kernel_rfl))).trans (hF 0 (by decide))
      have k := hs.out w1 hG
      clear hρ hF hcst hfun sl7 sl8 fin
      exact opv_val (by go_simp <;> rfl) ⟨gw_self _, rfl⟩
    · refine owes_v (Go.Op.call { callee := Go.Callee.value (Go.Operand.func 73), args := #[Go.Operand.tmp 71], argTypes := #[9] }) 4 [1] (by kernel_rfl) (by kernel_rfl) (by kernel_rfl) rfl fun vals w1 ρ hG hF hρ hcst hfun => ?_
      have e71 : ρ (.tmp 71) = .string s := ((hρ 71).trans (slotJ [1] (by rw [hsz]; decide) (by kernel_rfl))).trans (hF 1 (by decide))
      clear hρ hF hcst sl7 sl8 fin
      exact opv_enter (by go_simp <;> rfl) (of_ret17 (hg ▸ rgood_s s w1))
    · refine owes_v (Go.Op.unOp Go.UnOp.not 4 (Go.Operand.tmp 72)) 4 [2] (by kernel_rfl) (by kernel_rfl) (by kernel_rfl) rfl fun vals w1 ρ hG hF hρ hcst hfun => ?_
      have e72 : ρ (.tmp 72) = .bool true := ((hρ 72).trans (slotJ [2] (by rw [hsz]; decide) (by kernel_rfl))).trans (hF 2 (by decide))
      clear hρ hF hcst hfun sl7 sl8 fin
      exact opv_val (by go_simp <;> rfl) ⟨gw_self _, rfl⟩
    · exact owes_mvj 3 73 (by kernel_rfl) (by kernel_rfl) (by kernel_rfl) (by kernel_rfl) (by rw [hsz]; decide) (fun v w h => h)
    · refine owes_vt 4 false (Go.Op.move (Go.Operand.tmp 7)) 3 [] (by kernel_rfl) (by kernel_rfl) (by kernel_rfl) (fun _ _ h => h) (by rw [hsz]; kernel_rfl) (by kernel_rfl) rfl fun vals w1 ρ hG hF hρ hcst hfun => ?_
      have e7 : ρ (.tmp 7) = .int .i64 0 := ((hρ 7).trans (slotO [] (by kernel_rfl))).trans sl7
      clear hρ hF hcst hfun sl7 sl8 fin
      exact opv_val (by go_simp <;> rfl) ⟨gw_self _, rfl⟩
    · refine owes_vt 4 false (Go.Op.binOp Go.BinOp.gtr 3 (Go.Operand.tmp 75) (Go.Operand.const (Go.Value.int Go.IntKind.i64 0)) 3) 4 [5] (by kernel_rfl) (by kernel_rfl) (by kernel_rfl) (fun _ _ h => h) (by rw [hsz]; kernel_rfl) (by kernel_rfl) rfl fun vals w1 ρ hG hF hρ hcst hfun => ?_
      have e75 : ρ (.tmp 75) = .int .i64 0 := ((hρ 75).trans (slotJ [5] (by rw [hsz]; decide) (by kernel_rfl))).trans (hF 5 (by decide))
      clear hρ hF hfun sl7 sl8 fin
      exact opv_val (by go_simp <;> rfl) ⟨gw_self _, rfl⟩
    · refine owes_vt 4 false (Go.Op.move (Go.Operand.tmp 76)) 4 [6] (by kernel_rfl) (by kernel_rfl) (by kernel_rfl) (fun _ _ h => h) (by rw [hsz]; kernel_rfl) (by kernel_rfl) rfl fun vals w1 ρ hG hF hρ hcst hfun => ?_
      have e76 : ρ (.tmp 76) = .bool false := ((hρ 76).trans (slotJ [6] (by rw [hsz]; decide) (by kernel_rfl))).trans (hF 6 (by decide))
      clear hρ hF hcst hfun sl7 sl8 fin
      exact opv_val (by go_simp <;> rfl) ⟨gw_self _, rfl⟩
    · exact owes_no 7 false true (by decide) (by kernel_rfl) (by kernel_rfl) (fun _ _ h => h) (by rw [hsz]; kernel_rfl) (fun _ => rfl)
    · exact owes_no 7 false true (by decide) (by kernel_rfl) (by kernel_rfl) (fun _ _ h => h) (by rw [hsz]; kernel_rfl) (fun _ => rfl)
    · exact owes_no 7 false true (by decide) (by kernel_rfl) (by kernel_rfl) (fun _ _ h => h) (by rw [hsz]; kernel_rfl) (fun _ => rfl)
    · exact owes_no 7 false true (by decide) (by kernel_rfl) (by kernel_rfl) (fun _ _ h => h) (by rw [hsz]; kernel_rfl) (fun _ => rfl)
    · exact owes_no 7 false true (by decide) (by kernel_rfl) (by kernel_rfl) (fun _ _ h => h) (by rw [hsz]; kernel_rfl) (fun _ => rfl)
    · exact owes_no 7 false true (by decide) (by kernel_rfl) (by kernel_rfl) (fun _ _ h => h) (by rw [hsz]; kernel_rfl) (fun _ => rfl)
    · exact owes_no 7 false true (by decide) (by kernel_rfl) (by kernel_rfl) (fun _ _ h => h) (by rw [hsz]; kernel_rfl) (fun _ => rfl)
    · exact owes_no 7 false true (by decide) (by kernel_rfl) (by kernel_rfl) (fun _ _ h => h) (by rw [hsz]; kernel_rfl) (fun _ => rfl)
    · exact owes_no 7 false true (by decide) (by kernel_rfl) (by kernel_rfl) (fun _ _ h => h) (by rw [hsz]; kernel_rfl) (fun _ => rfl)
    · exact owes_no 7 false true (by decide) (by kernel_rfl) (by kernel_rfl) (fun _ _ h => h) (by rw [hsz]; kernel_rfl) (fun _ => rfl)
    · refine owes_vt 4 false (Go.Op.pick (Go.Operand.tmp 77) (Go.Operand.tmp 87) (Go.Operand.const (Go.Value.bool false))) 4 [7, 17] (by kernel_rfl) (by kernel_rfl) (by kernel_rfl) (fun _ _ h => h) (by rw [hsz]; kernel_rfl) (by kernel_rfl) rfl fun vals w1 ρ hG hF hρ hcst hfun => ?_
      have e77 : ρ (.tmp 77) = .bool false := ((hρ 77).trans (slotJ [7, 17] (by rw [hsz]; decide) (by kernel_rfl))).trans (hF 7 (by decide))
      have e87 : ρ (.tmp 87) = undef := ((hρ 87).trans (slotJ [7, 17] (by rw [hsz]; decide) (by kernel_rfl))).trans (hF 17 (by decide))
      clear hρ hF hfun sl7 sl8 fin
      exact opv_val (by go_simp <;> rfl) ⟨gw_self _, rfl⟩
    · refine owes_v (Go.Op.pick (Go.Operand.tmp 74) (Go.Operand.const (Go.Value.bool true)) (Go.Operand.tmp 88)) 4 [4, 18] (by kernel_rfl) (by kernel_rfl) (by kernel_rfl) rfl fun vals w1 ρ hG hF hρ hcst hfun => ?_
      have e74 : ρ (.tmp 74) = .bool false := ((hρ 74).trans (slotJ [4, 18] (by rw [hsz]; decide) (by kernel_rfl))).trans (hF 4 (by decide))
      have e88 : ρ (.tmp 88) = .bool false := ((hρ 88).trans (slotJ [4, 18] (by rw [hsz]; decide) (by kernel_rfl))).trans (hF 18 (by decide))
      clear hρ hF hfun sl7 sl8 fin
      exact opv_val (by go_simp <;> rfl) ⟨gw_self _, rfl⟩
  · intro vals w1 hG hF
    exact fin vals w1 hG (hF 19 (by decide +kernel))
theorem rckc_r (Q : Exit → Act → World → Prop) (a0 : Act) (w : World) (bx bg M c j : Nat) (ad : Addr) (s u : ByteArray) (r : Bool) (hs : Hid (∀ W, Below w.heap.size w W → W.cell? ⟨bx, 0, none⟩ = some (.string s) ∧ W.cell? ⟨bg, 1, none⟩ = some (.slice (some ad) M c) ∧ W.cell? (ad.add (j * 2)) = some (.string u))) (hg : goodS s = true) (hr : leS s u = r) (p1 : (0 : Int) ≤ (j : Int)) (p2 : (j : Int) + 1 < (M : Int)) (p3 : (M : Int) ≤ 100) (hsz : a0.tmps.size = 99) (sl1 : a0.tmps.getD 1 undef = .pointer (some ⟨bg, 0, none⟩)) (sl7 : a0.tmps.getD 7 undef = .int .i64 ((j : Int) + 1)) (sl8 : a0.tmps.getD 8 undef = .pointer (some ⟨bx, 0, none⟩))
    (fin : ∀ (vals : Nat → Value) (w1 : World), Below w.heap.size w w1 → (IsV (.bool r)) (vals 19) w1 → Q .normal (putD vals [70, 71, 72, 73, 74, 75, 76, 77, 78, 79, 80, 81, 82, 83, 84, 85, 86, 87, 88, 89] 0 a0) w1) :
    (Code.region 19 (regIn Try.f39 19) true).wp Try.prog Q a0 w := by
  refine region_by (G := fun w w1 => Below w.heap.size w w1) [IsV (.pointer (some ⟨bx, 0, none⟩)),
    IsV (.string s),
    IsV (.bool true),
    IsV (.bool false),
    IsV (.bool false),
    IsV (.int .i64 ((j : Int) + 1)),
    IsV (.bool true),
    IsV (.bool true),
    IsV (.pointer (some ⟨bg, 1, none⟩)),
    IsV (.slice (some ad) M c),
    IsV (.int .i64 ((j : Int) + 1)),
    IsV (.int .i64 j),
    IsV (.pointer (some (ad.add (j * 2)))),
    IsV (.pointer (some (ad.add (j * 2)))),
    IsV (.string u),
    IsV (.pointer (some ⟨bx, 0, none⟩)),
    IsV (.string s),
    IsV (.bool r),
    IsV (.bool r),
    IsV (.bool r)]
    [70, 71, 72, 73, 74, 75, 76, 77, 78, 79, 80, 81, 82, 83, 84, 85, 86, 87, 88, 89] (by kernel_rfl) (Gw.drew _) Gw.trans (by rw [hsz]; kernel_rfl) (by kernel_rfl) ?_ ?_ ?_
  · intro f hf
    simp only [List.mem_cons, List.not_mem_nil, or_false] at hf
    rcases hf with rfl | rfl | rfl | rfl | rfl | rfl | rfl | rfl | rfl | rfl | rfl | rfl | rfl | rfl | rfl | rfl | rfl | rfl | rfl | rfl <;> intro v a b h g <;> first | exact IsV.mono h
  · refine ⟨?_, ?_, ?_, ?_, ?_, ?_, ?_, ?_, ?_, ?_, ?_, ?_, ?_, ?_, ?_, ?_, ?_, ?_, ?_, ?_, trivial⟩
    · refine owes_v (Go.Op.fieldAddr 103 (Go.Operand.tmp 8) 0) 0 [] (by kernel_rfl) (by kernel_rfl) (by kernel_rfl) rfl fun vals w1 ρ hG hF hρ hcst hfun => ?_
      have e8 : ρ (.tmp 8) = .pointer (some ⟨bx, 0, none⟩) := ((hρ 8).trans (slotO [] (by kernel_rfl))).trans sl8
      clear hρ hF hcst hfun sl1 sl7 sl8 fin
      exact opv_val (by go_simp <;> rfl) ⟨gw_self _, rfl⟩
    · refine owes_v (Go.Op.load 9 (Go.Operand.tmp 70)) 9 [0] (by kernel_rfl) (by kernel_rfl) (by kernel_rfl) rfl fun vals w1 ρ hG hF hρ hcst hfun => ?_
      have e70 : ρ (.tmp 70) = .pointer (some ⟨bx, 0, none⟩) := ((hρ 70).trans (slotJ [0] (by rw [hsz]; decide) (by kernel_rfl))).trans (hF 0 (by decide))
      have k := (hs.out w1 hG).1
      clear hρ hF hcst hfun sl1 sl7 sl8 fin
      exact opv_val (by go_simp <;> rfl) ⟨gw_self _, rfl⟩
    · refine owes_v (Go.Op.call { callee := Go.Callee.value (Go.Operand.func 73), args := #[Go.Operand.tmp 71], argTypes := #[9] }) 4 [1] (by kernel_rfl) (by kernel_rfl) (by kernel_rfl) rfl fun vals w1 ρ hG hF hρ hcst hfun => ?_
      have e71 : ρ (.tmp 71) = .string s := ((hρ 71).trans (slotJ [1] (by rw [hsz]; decide) (by kernel_rfl))).trans (hF 1 (by decide))
      clear hρ hF hcst sl1 sl7 sl8 fin
      exact opv_enter (by go_simp <;> rfl) (of_ret17 (hg ▸ rgood_s s w1))
    · refine owes_v (Go.Op.unOp Go.UnOp.not 4 (Go.Operand.tmp 72)) 4 [2] (by kernel_rfl) (by kernel_rfl) (by kernel_rfl) rfl fun vals w1 ρ hG hF hρ hcst hfun => ?_
      have e72 : ρ (.tmp 72) = .bool true := ((hρ 72).trans (slotJ [2] (by rw [hsz]; decide) (by kernel_rfl))).trans (hF 2 (by decide))
      clear hρ hF hcst hfun sl1 sl7 sl8 fin
      exact opv_val (by go_simp <;> rfl) ⟨gw_self _, rfl⟩
    · exact owes_mvj 3 73 (by kernel_rfl) (by kernel_rfl) (by kernel_rfl) (by kernel_rfl) (by rw [hsz]; decide) (fun v w h => h)
    · refine owes_vt 4 false (Go.Op.move (Go.Operand.tmp 7)) 3 [] (by kernel_rfl) (by kernel_rfl) (by kernel_rfl) (fun _ _ h => h) (by rw [hsz]; kernel_rfl) (by kernel_rfl) rfl fun vals w1 ρ hG hF hρ hcst hfun => ?_
      have e7 : ρ (.tmp 7) = .int .i64 ((j : Int) + 1) := ((hρ 7).trans (slotO [] (by kernel_rfl))).trans sl7
      clear hρ hF hcst hfun sl1 sl7 sl8 fin
      exact opv_val (by go_simp <;> rfl) ⟨gw_self _, rfl⟩
    · refine owes_vt 4 false (Go.Op.binOp Go.BinOp.gtr 3 (Go.Operand.tmp 75) (Go.Operand.const (Go.Value.int Go.IntKind.i64 0)) 3) 4 [5] (by kernel_rfl) (by kernel_rfl) (by kernel_rfl) (fun _ _ h => h) (by rw [hsz]; kernel_rfl) (by kernel_rfl) rfl fun vals w1 ρ hG hF hρ hcst hfun => ?_
      have e75 : ρ (.tmp 75) = .int .i64 ((j : Int) + 1) := ((hρ 75).trans (slotJ [5] (by rw [hsz]; decide) (by kernel_rfl))).trans (hF 5 (by decide))
      have q : (0 : Int) < (j : Int) + 1 := by omega
      clear hρ hF hfun sl1 sl7 sl8 fin
      exact opv_val (by go_simp <;> rfl) ⟨gw_self _, rfl⟩
    · refine owes_vt 4 false (Go.Op.move (Go.Operand.tmp 76)) 4 [6] (by kernel_rfl) (by kernel_rfl) (by kernel_rfl) (fun _ _ h => h) (by rw [hsz]; kernel_rfl) (by kernel_rfl) rfl fun vals w1 ρ hG hF hρ hcst hfun => ?_
      have e76 : ρ (.tmp 76) = .bool true := ((hρ 76).trans (slotJ [6] (by rw [hsz]; decide) (by kernel_rfl))).trans (hF 6 (by decide))
      clear hρ hF hcst hfun sl1 sl7 sl8 fin
      exact opv_val (by go_simp <;> rfl) ⟨gw_self _, rfl⟩
    · refine owes_vt 7 true (Go.Op.fieldAddr 52 (Go.Operand.tmp 1) 1) 0 [] (by kernel_rfl) (by kernel_rfl) (by kernel_rfl) (fun _ _ h => h) (by rw [hsz]; kernel_rfl) (by kernel_rfl) rfl fun vals w1 ρ hG hF hρ hcst hfun => ?_
      have e1 : ρ (.tmp 1) = .pointer (some ⟨bg, 0, none⟩) := ((hρ 1).trans (slotO [] (by kernel_rfl))).trans sl1
      clear hρ hF hcst hfun sl1 sl7 sl8 fin
      exact opv_val (by go_simp <;> rfl) ⟨gw_self _, rfl⟩
    · refine owes_vt 7 true (Go.Op.load 50 (Go.Operand.tmp 78)) 50 [8] (by kernel_rfl) (by kernel_rfl) (by kernel_rfl) (fun _ _ h => h) (by rw [hsz]; kernel_rfl) (by kernel_rfl) rfl fun vals w1 ρ hG hF hρ hcst hfun => ?_
      have e78 : ρ (.tmp 78) = .pointer (some ⟨bg, 1, none⟩) := ((hρ 78).trans (slotJ [8] (by rw [hsz]; decide) (by kernel_rfl))).trans (hF 8 (by decide))
      have k := (hs.out w1 hG).2.1
      clear hρ hF hcst hfun sl1 sl7 sl8 fin
      exact opv_val (by go_simp <;> rfl) ⟨gw_self _, rfl⟩
    · refine owes_vt 7 true (Go.Op.move (Go.Operand.tmp 7)) 3 [] (by kernel_rfl) (by kernel_rfl) (by kernel_rfl) (fun _ _ h => h) (by rw [hsz]; kernel_rfl) (by kernel_rfl) rfl fun vals w1 ρ hG hF hρ hcst hfun => ?_
      have e7 : ρ (.tmp 7) = .int .i64 ((j : Int) + 1) := ((hρ 7).trans (slotO [] (by kernel_rfl))).trans sl7
      clear hρ hF hcst hfun sl1 sl7 sl8 fin
      exact opv_val (by go_simp <;> rfl) ⟨gw_self _, rfl⟩
    · refine owes_vt 7 true (Go.Op.binOp Go.BinOp.sub 3 (Go.Operand.tmp 80) (Go.Operand.const (Go.Value.int Go.IntKind.i64 1)) 3) 3 [10] (by kernel_rfl) (by kernel_rfl) (by kernel_rfl) (fun _ _ h => h) (by rw [hsz]; kernel_rfl) (by kernel_rfl) rfl fun vals w1 ρ hG hF hρ hcst hfun => ?_
      have e80 : ρ (.tmp 80) = .int .i64 ((j : Int) + 1) := ((hρ 80).trans (slotJ [10] (by rw [hsz]; decide) (by kernel_rfl))).trans (hF 10 (by decide))
      have kw : IntKind.i64.wrap (j : Int) = (j : Int) := wrapIn (by omega) (by omega)
      clear hρ hF hfun sl1 sl7 sl8 fin
      exact opv_val (by go_simp <;> rfl) ⟨gw_self _, rfl⟩
    · refine owes_vt 7 true (Go.Op.indexAddr 50 (Go.Operand.tmp 79) (Go.Operand.tmp 81)) 0 [9, 11] (by kernel_rfl) (by kernel_rfl) (by kernel_rfl) (fun _ _ h => h) (by rw [hsz]; kernel_rfl) (by kernel_rfl) rfl fun vals w1 ρ hG hF hρ hcst hfun => ?_
      have e79 : ρ (.tmp 79) = .slice (some ad) M c := ((hρ 79).trans (slotJ [9, 11] (by rw [hsz]; decide) (by kernel_rfl))).trans (hF 9 (by decide))
      have e81 : ρ (.tmp 81) = .int .i64 j := ((hρ 81).trans (slotJ [9, 11] (by rw [hsz]; decide) (by kernel_rfl))).trans (hF 11 (by decide))
      have q : (j : Int) < (M : Int) := by omega
      clear hρ hF hcst hfun sl1 sl7 sl8 fin
      exact opv_val (by go_simp <;> rfl) ⟨gw_self _, rfl⟩
    · refine owes_vt 7 true (Go.Op.fieldAddr 103 (Go.Operand.tmp 82) 0) 0 [12] (by kernel_rfl) (by kernel_rfl) (by kernel_rfl) (fun _ _ h => h) (by rw [hsz]; kernel_rfl) (by kernel_rfl) rfl fun vals w1 ρ hG hF hρ hcst hfun => ?_
      have e82 : ρ (.tmp 82) = .pointer (some (ad.add (j * 2))) := ((hρ 82).trans (slotJ [12] (by rw [hsz]; decide) (by kernel_rfl))).trans (hF 12 (by decide))
      clear hρ hF hcst hfun sl1 sl7 sl8 fin
      exact opv_val (by go_simp <;> rfl) ⟨gw_self _, rfl⟩
    · refine owes_vt 7 true (Go.Op.load 9 (Go.Operand.tmp 83)) 9 [13] (by kernel_rfl) (by kernel_rfl) (by kernel_rfl) (fun _ _ h => h) (by rw [hsz]; kernel_rfl) (by kernel_rfl) rfl fun vals w1 ρ hG hF hρ hcst hfun => ?_
      have e83 : ρ (.tmp 83) = .pointer (some (ad.add (j * 2))) := ((hρ 83).trans (slotJ [13] (by rw [hsz]; decide) (by kernel_rfl))).trans (hF 13 (by decide))
      have k := (hs.out w1 hG).2.2
      clear hρ hF hcst hfun sl1 sl7 sl8 fin
      exact opv_val (by go_simp <;> rfl) ⟨gw_self _, rfl⟩
    · refine owes_vt 7 true (Go.Op.fieldAddr 103 (Go.Operand.tmp 8) 0) 0 [] (by kernel_rfl) (by kernel_rfl) (by kernel_rfl) (fun _ _ h => h) (by rw [hsz]; kernel_rfl) (by kernel_rfl) rfl fun vals w1 ρ hG hF hρ hcst hfun => ?_
      have e8 : ρ (.tmp 8) = .pointer (some ⟨bx, 0, none⟩) := ((hρ 8).trans (slotO [] (by kernel_rfl))).trans sl8
      clear hρ hF hcst hfun sl1 sl7 sl8 fin
      exact opv_val (by go_simp <;> rfl) ⟨gw_self _, rfl⟩
    · refine owes_vt 7 true (Go.Op.load 9 (Go.Operand.tmp 85)) 9 [15] (by kernel_rfl) (by kernel_rfl) (by kernel_rfl) (fun _ _ h => h) (by rw [hsz]; kernel_rfl) (by kernel_rfl) rfl fun vals w1 ρ hG hF hρ hcst hfun => ?_
      have e85 : ρ (.tmp 85) = .pointer (some ⟨bx, 0, none⟩) := ((hρ 85).trans (slotJ [15] (by rw [hsz]; decide) (by kernel_rfl))).trans (hF 15 (by decide))
      have k := (hs.out w1 hG).1
      clear hρ hF hcst hfun sl1 sl7 sl8 fin
      exact opv_val (by go_simp <;> rfl) ⟨gw_self _, rfl⟩
    · refine owes_vt 7 true (Go.Op.binOp Go.BinOp.geq 9 (Go.Operand.tmp 84) (Go.Operand.tmp 86) 9) 4 [14, 16] (by kernel_rfl) (by kernel_rfl) (by kernel_rfl) (fun _ _ h => h) (by rw [hsz]; kernel_rfl) (by kernel_rfl) rfl fun vals w1 ρ hG hF hρ hcst hfun => ?_
      have e84 : ρ (.tmp 84) = .string u := ((hρ 84).trans (slotJ [14, 16] (by rw [hsz]; decide) (by kernel_rfl))).trans (hF 14 (by decide))
      have e86 : ρ (.tmp 86) = .string s := ((hρ 86).trans (slotJ [14, 16] (by rw [hsz]; decide) (by kernel_rfl))).trans (hF 16 (by decide))
      have q := hr
      unfold leS at q
      clear hρ hF hcst hfun sl1 sl7 sl8 fin
      exact opv_val (by go_simp <;> first | rfl | exact q | (rw [← q]; exact less_tri _ _) | exact less_tri _ _) ⟨gw_self _, rfl⟩
    · refine owes_vt 4 false (Go.Op.pick (Go.Operand.tmp 77) (Go.Operand.tmp 87) (Go.Operand.const (Go.Value.bool false))) 4 [7, 17] (by kernel_rfl) (by kernel_rfl) (by kernel_rfl) (fun _ _ h => h) (by rw [hsz]; kernel_rfl) (by kernel_rfl) rfl fun vals w1 ρ hG hF hρ hcst hfun => ?_
      have e77 : ρ (.tmp 77) = .bool true := ((hρ 77).trans (slotJ [7, 17] (by rw [hsz]; decide) (by kernel_rfl))).trans (hF 7 (by decide))
      have e87 : ρ (.tmp 87) = .bool r := ((hρ 87).trans (slotJ [7, 17] (by rw [hsz]; decide) (by kernel_rfl))).trans (hF 17 (by decide))
      clear hρ hF hfun sl1 sl7 sl8 fin
      exact opv_val (by go_simp <;> rfl) ⟨gw_self _, rfl⟩
    · refine owes_v (Go.Op.pick (Go.Operand.tmp 74) (Go.Operand.const (Go.Value.bool true)) (Go.Operand.tmp 88)) 4 [4, 18] (by kernel_rfl) (by kernel_rfl) (by kernel_rfl) rfl fun vals w1 ρ hG hF hρ hcst hfun => ?_
      have e74 : ρ (.tmp 74) = .bool false := ((hρ 74).trans (slotJ [4, 18] (by rw [hsz]; decide) (by kernel_rfl))).trans (hF 4 (by decide))
      have e88 : ρ (.tmp 88) = .bool r := ((hρ 88).trans (slotJ [4, 18] (by rw [hsz]; decide) (by kernel_rfl))).trans (hF 18 (by decide))
      clear hρ hF hfun sl1 sl7 sl8 fin
      exact opv_val (by go_simp <;> rfl) ⟨gw_self _, rfl⟩
  · intro vals w1 hG hF
    exact fin vals w1 hG (hF 19 (by decide +kernel))
theorem all_snoc {N : Nat} {l : List Int} {n : Nat} (h : n < l.length) (h1 : (l.take n).all (okP N) = true) (h2 : okP N l[n] = true) : (l.take (n + 1)).all (okP N) = true := by
  rw [List.take_succ_eq_append_getElem h, List.all_append, h1]
  simp [h2]
theorem all_bad {N : Nat} {l : List Int} {n : Nat} (h : n < l.length) (h2 : ¬ okP N l[n] = true) : ¬ l.all (okP N) = true := fun e => by
  rw [List.all_eq_true] at e
  exact h2 (e _ (List.getElem_mem h))
theorem rcheck_c (w : World) (g : Gv) (hg : g.At w w.heap.size) (hs : FewP g) : Calls Try.prog 39 #[g.v] w (RetP (.int .i64 (ckG g)) w) := by
  obtain ⟨R, hR⟩ : ∃ R, R = ckG g := ⟨_, rfl⟩
  rw [← hR]
  have HR := Lib.hid hR
  have HG := Lib.hid hg
  have HP := Lib.hid hs.2.2.1
  have hsn := hs.1
  have hsr := hs.2.1
  obtain ⟨A, ca, A2, ca2, ns, rs⟩ := g
  obtain ⟨N, hN⟩ : ∃ N, N = ns.length := ⟨_, rfl⟩
  obtain ⟨M, hM⟩ : ∃ M, M = rs.length := ⟨_, rfl⟩
  have q0 : (N : Int) ≤ 60 := by rw [hN]; exact Int.ofNat_le.2 hsn
  have q1 : (M : Int) ≤ 80 := by rw [hM]; exact Int.ofNat_le.2 hsr
  have HN := Lib.hid (And.intro hN hM)
  have HR2 := Lib.hid (show R = if ckNodes N ns = 0 then (if 64 < M then 3 else ckRoots N emptyS rs) else ckNodes N ns from by rw [hR, hN, hM]; rfl)
  unfold Gv.v Gv.vn Gv.vr
  simp only at HP ⊢
  rw [← hN, ← hM]
  clear hg hs hsn hsr hN hM hR
  go_enter Try.func39, Try.ntmps39
  go_wp2_with fail
  obtain ⟨W1, hW1⟩ : ∃ W1, W1 = w.alloc (.cells #[.slice A N ca, .slice A2 M ca2] 52) := ⟨_, rfl⟩
  have HW1 := Lib.hid (show Bk W1 w.heap.size 52 #[.slice A N ca, .slice A2 M ca2] ∧ Below w.heap.size w W1 from by
    rw [hW1]
    exact ⟨Bk.new w _ _, Gw.alloc w _⟩)
  rw [← hW1]
  clear hW1
  go_loopw [4] (fun i W => ∃ k : Nat, i = .int .i64 k ∧ k ≤ N ∧ Hid (ckNodes N (ns.drop k) = ckNodes N ns) ∧ Below W1.heap.size W1 W) (fun i _ => N - (Go.RowKit.intOf i).toNat)
  case atStart => exact ⟨0, rfl, Nat.zero_le _, Lib.hid rfl, Below.refl _ _⟩
  case round =>
    obtain ⟨k, rfl, hk, hck, hB⟩ := hrel
    have HBk := Lib.hid hB
    have hb1 := HW1.out.1.below hB HW1.out.1.lt
    have c0 := hb1.two.1
    have hl1 := hb1.lt
    have HBw := Lib.hid (show Below w.heap.size w wr from HW1.out.2.trans (hB.mono HW1.out.2.size))
    by_cases hlt : k < N
    · have hkn : k < ns.length := by rw [← HN.out.1]; exact hlt
      obtain ⟨x, hx⟩ : ∃ x, x = ns[k] := ⟨_, rfl⟩
      obtain ⟨ad, rfl, hc2, hc3, hxa⟩ : ∃ ad, A = some ad ∧ wr.cell? (ad.add (k * 2)) = some x.vp ∧ wr.cell? ⟨(ad.add (k * 2)).block, (ad.add (k * 2)).off + 1, none⟩ = some x.vd ∧ x.At wr wr.heap.size := by
        obtain ⟨ad, e, _, h1, h2, h3⟩ := (HG.out.n.below HBw.out) k hkn
        exact ⟨ad, e, by rw [hx]; exact h1, by rw [hx]; exact h2, by rw [hx]; exact h3.more HBw.out.size⟩
      have hsz := HP.out x (by rw [hx]; exact List.getElem_mem _)
      have HS := Lib.hid (ckNodes_drop N ns k hkn)
      rw [← hx] at HS
      have HZ := Lib.hid (show ∀ z, ckNode N x = z → z ≠ 0 → R = z from fun z hz h0 => by
        have e : ckNodes N ns = z := by rw [← hck.out, HS.out, if_neg (by rw [hz]; exact h0), hz]
        rw [HR2.out, e, if_neg h0])
      have HO := Lib.hid (show ckNode N x = 0 → ckNodes N (ns.drop (k + 1)) = ckNodes N ns from fun h0 => by rw [← hck.out, HS.out, if_pos h0])
      have p1 : (0 : Int) ≤ (k : Int) := by omega
      have p2 : (k : Int) < (N : Int) := by omega
      clear hx hkn hB hck hb1 HS
      obtain ⟨xA, xc, xD, xd, xps, xbs⟩ := x
      obtain ⟨xn, hxn⟩ : ∃ n, n = xps.length := ⟨_, rfl⟩
      obtain ⟨xm, hxm⟩ : ∃ n, n = xbs.length := ⟨_, rfl⟩
      unfold Nv.vp at hc2
      unfold Nv.vd at hc3
      simp only at hc2 hc3 hsz
      rw [← hxn] at hc2 hsz
      rw [← hxm] at hc3 hsz
      have HX := Lib.hid (show ∀ b, xps.all (okP N) = b → ckNode N ⟨xA, xc, xD, xd, xps, xbs⟩ = if b = true then (if 64 < xn ∨ 1024 < xm then 3 else 0) else 1 from fun b hb => by unfold ckNode; rw [hb, hxn, hxm])
      have hcl := cell_lt hc2
      have hcl' : (ad.add (k * 2)).block < wr.heap.size := hcl
      obtain ⟨W2, hW2⟩ : ∃ W2, W2 = wr.alloc (.cells #[.slice xA xn xc, .slice xD xm xd] 102) := ⟨_, rfl⟩
      have HW2 := Lib.hid (show Bk W2 wr.heap.size 102 #[.slice xA xn xc, .slice xD xm xd] ∧ Below wr.heap.size wr W2 from by
        rw [hW2]
        exact ⟨Bk.new wr _ _, Gw.alloc wr _⟩)
      have HXY := Lib.hid (hxa.up HW2.out.2)
      have hW2' := Lib.hid hW2
      have HL := Lib.hid hxn
      have hq1 : (xn : Int) ≤ 70 := by have := hsz.1; omega
      have hq2 : (xm : Int) ≤ 1100 := by have := hsz.2; omega
      clear hxa hcl hW2 hxn hxm hsz
      go_wp2_with fail
      rw [← hW2'.out]
      clear hc2 hc3 hcl' c0
      have HBo := Lib.hid (show Below W1.heap.size W1 W2 from HBk.out.trans (HW2.out.2.mono HBk.out.size))
      have HBz := Lib.hid (show Below w.heap.size w W2 from HBw.out.trans (HW2.out.2.mono HBw.out.size))
      obtain ⟨bx, hbx⟩ : ∃ bx, bx = wr.heap.size := ⟨_, rfl⟩
      rw [← hbx] at HW2 ⊢
      clear hbx
      go_loopw [6] (fun i W => ∃ n : Nat, i = .int .i64 n ∧ n ≤ xn ∧ Hid ((xps.take n).all (okP N) = true) ∧ Below W2.heap.size W2 W) (fun i _ => xn - (Go.RowKit.intOf i).toNat)
      case atStart => exact ⟨0, rfl, Nat.zero_le _, Lib.hid rfl, Below.refl _ _⟩
      case round =>
        obtain ⟨n, rfl, hn, ht, hB⟩ := hrel
        have hb1 := HW2.out.1.below hB HW2.out.1.lt
        have HBn := Lib.hid hB
        have d0 := hb1.two.1
        have d1 := hb1.two.2
        by_cases hln : n < xn
        · have h1 : n < xps.length := by rw [← HL.out]; exact hln
          obtain ⟨x, hx⟩ : ∃ y, y = xps[n] := ⟨_, rfl⟩
          obtain ⟨aa, rfl, haa, hca⟩ := (HXY.out.p.below hB) n h1
          rw [← hx] at hca
          unfold iV at hca
          have p3 : (0 : Int) ≤ (n : Int) := by omega
          have p4 : (n : Int) < (xn : Int) := by omega
          have HBd := Lib.hid (show ¬ okP N x = true → R = 1 from fun e => by
            have ha : xps.all (okP N) = false := by
              cases hc : xps.all (okP N) with
              | false => rfl
              | true => exact absurd hc (all_bad h1 (by rw [← hx]; exact e))
            have := HX.out false ha
            exact HZ.out 1 (by rw [this]; rfl) (by decide))
          have HGd := Lib.hid (show okP N x = true → (xps.take (n + 1)).all (okP N) = true from fun e => all_snoc h1 ht.out (by rw [← hx]; exact e))
          clear hx haa h1 ht hB hb1
          by_cases h0 : x < 0
          · have HRf := Lib.hid (HBd.out (fun e => by have := okP_iff.1 e; omega))
            go_wp2_with fail
            go_ret
            rw [HRf.out]
            exact ⟨rfl, HBz.out.trans (HBn.out.mono HBz.out.size)⟩
          · by_cases h2 : (N : Int) < x
            · have HRf := Lib.hid (HBd.out (fun e => by have := okP_iff.1 e; omega))
              go_wp2_with fail
              go_ret
              rw [HRf.out]
              exact ⟨rfl, HBz.out.trans (HBn.out.mono HBz.out.size)⟩
            · have HT := Lib.hid (HGd.out (okP_iff.2 (by omega)))
              go_wp2_with fail
              go_roundw
              case rel => exact ⟨n + 1, by go_num, by omega, HT, HBn.out⟩
              case measure => simp [Go.RowKit.intOf]; omega
        · have hnx : n = xn := by omega
          have HC := Lib.hid (HX.out true (by
            have := ht.out
            rwa [hnx, List.take_of_length_le (by rw [← HL.out]; exact Nat.le_refl _)] at this))
          clear hnx ht hb1 hB
          by_cases g1 : 64 < xn
          · have t1 : (64 : Int) < (xn : Int) := by omega
            have HRf := Lib.hid (HZ.out 3 (by rw [HC.out, if_pos rfl, if_pos (.inl g1)]) (by decide))
            go_wp2_with fail
            go_ret
            rw [HRf.out]
            exact ⟨rfl, HBz.out.trans (HBn.out.mono HBz.out.size)⟩
          · have t1 : ¬ (64 : Int) < (xn : Int) := by omega
            by_cases g2 : 1024 < xm
            · have t2 : (1024 : Int) < (xm : Int) := by omega
              have HRf := Lib.hid (HZ.out 3 (by rw [HC.out, if_pos rfl, if_pos (.inr g2)]) (by decide))
              go_wp2_with fail
              go_ret
              rw [HRf.out]
              exact ⟨rfl, HBz.out.trans (HBn.out.mono HBz.out.size)⟩
            · have t2 : ¬ (1024 : Int) < (xm : Int) := by omega
              have HK := Lib.hid (HO.out (by rw [HC.out, if_pos rfl, if_neg (by omega)]))
              have HBy := Lib.hid (HBo.out.trans (HBn.out.mono HBo.out.size))
              go_wp2_with fail
              go_roundw
              case rel => exact ⟨k + 1, by go_num, by omega, HK, HBy.out⟩
              case measure => simp [Go.RowKit.intOf]; omega
    · have hkN : k = N := by omega
      have hck0 : ckNodes N ns = 0 := by rw [← hck.out, hkN, HN.out.1, List.drop_length]; rfl
      have hR3 : R = if 64 < M then 3 else ckRoots N emptyS rs := by rw [HR2.out, if_pos hck0]
      have c1 := hb1.two.2
      clear hkN hck hck0 hb1 c0
      by_cases h64 : 64 < M
      · have t1 : (64 : Int) < (M : Int) := by omega
        have HRf := Lib.hid (hR3.trans (if_pos h64))
        clear hR3 hB
        go_wp2_with fail
        go_ret
        rw [HRf.out]
        exact ⟨rfl, HBw.out⟩
      · have t1 : ¬ (64 : Int) < (M : Int) := by omega
        have HR3 := Lib.hid (hR3.trans (if_neg h64))
        clear hR3
        go_wp2_with fail
        clear c1 hl1 hlt hk h64 t1
        obtain ⟨W0, hW0⟩ : ∃ W0, W0 = wr := ⟨_, rfl⟩
        rw [← hW0] at hB ⊢
        clear hW0
        go_loopw [7] (fun i W => ∃ k : Nat, i = .int .i64 k ∧ k ≤ M ∧ Hid (R = ckRoots N (prevS rs k) (rs.drop k)) ∧ Below W1.heap.size W1 W) (fun i _ => M - (Go.RowKit.intOf i).toNat)
        case atStart => exact ⟨0, rfl, Nat.zero_le _, Lib.hid HR3.out, hB⟩
        case round =>
          obtain ⟨k, rfl, hk, hck, hB⟩ := hrel
          have HBk := Lib.hid hB
          have hb1 := HW1.out.1.below hB HW1.out.1.lt
          have c1 := hb1.two.2
          have hl1 := hb1.lt
          have HBw := Lib.hid (show Below w.heap.size w wr from HW1.out.2.trans (hB.mono HW1.out.2.size))
          by_cases hlt : k < M
          · have hkn : k < rs.length := by rw [← HN.out.2]; exact hlt
            obtain ⟨x, hx⟩ : ∃ x, x = rs[k] := ⟨_, rfl⟩
            obtain ⟨ad, rfl, hc2, hc3, hprev⟩ : ∃ ad, A2 = some ad ∧ wr.cell? (ad.add (k * 2)) = some (.string x.s) ∧ wr.cell? ⟨(ad.add (k * 2)).block, (ad.add (k * 2)).off + 1, none⟩ = some (.int .i64 x.t) ∧ ∀ j, k = j + 1 → wr.cell? (ad.add (j * 2)) = some (.string (prevS rs k)) := by
              obtain ⟨ad, e, _, h1, h2⟩ := (HG.out.r.below HBw.out) k hkn
              refine ⟨ad, e, by rw [hx]; exact h1, by rw [hx]; exact h2, fun j hj => ?_⟩
              have hjn : j < rs.length := by omega
              obtain ⟨ad', e', _, h3, _⟩ := (HG.out.r.below HBw.out) j hjn
              have he : ad = ad' := by rw [e] at e'; injection e'
              subst he
              rw [h3, hj]
              show some (Value.string _) = some (Value.string (((rs[j]?).map (·.s)).getD emptyS))
              rw [List.getElem?_eq_getElem hjn]; rfl
            have HS := Lib.hid (hck.out.trans (ckRoots_drop N (prevS rs k) rs k hkn))
            rw [← hx] at HS
            have HPn := Lib.hid (show prevS rs (k + 1) = x.s from by show ((rs[k]?).map (·.s)).getD emptyS = _; rw [List.getElem?_eq_getElem hkn, hx]; rfl)
            have p1 : (0 : Int) ≤ (k : Int) := by omega
            have p2 : (k : Int) < (M : Int) := by omega
            obtain ⟨s, t⟩ := x
            simp only at hc2 hc3 HS HPn
            have hcl := cell_lt hc2
            have hcl' : (ad.add (k * 2)).block < wr.heap.size := hcl
            obtain ⟨W2, hW2⟩ : ∃ W2, W2 = wr.alloc (.cells #[.string s, .int .i64 t] 103) := ⟨_, rfl⟩
            have HW2 := Lib.hid (show Bk W2 wr.heap.size 103 #[.string s, .int .i64 t] ∧ Below wr.heap.size wr W2 from by
              rw [hW2]
              exact ⟨Bk.new wr _ _, Gw.alloc wr _⟩)
            have hW2' := Lib.hid hW2
            have HBo := Lib.hid (show Below W1.heap.size W1 W2 from HBk.out.trans (HW2.out.2.mono HBk.out.size))
            have HBz := Lib.hid (show Below w.heap.size w W2 from HBw.out.trans (HW2.out.2.mono HBw.out.size))
            have HQ := Lib.hid (show ∀ W, Below W2.heap.size W2 W → W.cell? ⟨wr.heap.size, 0, none⟩ = some (.string s) from fun W b => (HW2.out.1.below b HW2.out.1.lt).cell 0)
            have HQ3 := Lib.hid (show ∀ j, k = j + 1 → ∀ W, Below W2.heap.size W2 W → W.cell? ⟨wr.heap.size, 0, none⟩ = some (.string s) ∧ W.cell? ⟨w.heap.size, 1, none⟩ = some (.slice (some ad) M ca2) ∧ W.cell? (ad.add (j * 2)) = some (.string (prevS rs k)) from fun j hj W b =>
              ⟨HQ.out W b, ((hb1.below HW2.out.2 hb1.lt).below b (hb1.below HW2.out.2 hb1.lt).lt).cell 1, ((HW2.out.2.trans (b.mono HW2.out.2.size)).cell (cell_lt (hprev j hj))).trans (hprev j hj)⟩)
            clear hx hkn hB hck hb1 hcl hW2 hprev
            by_cases hg : goodS s = true
            · go_wp2_with fail
              rw [← hW2'.out]
              clear hc2 hc3 hcl' c1 hl1
              cases hle : leS s (prevS rs k) with
              | true =>
                have HRf := Lib.hid (show R = 4 from by rw [HS.out, if_neg (by rw [hle]; simp)])
                cases k with
                | zero => exact absurd (leS_empty hg) (by rw [show emptyS = prevS rs 0 from rfl, hle]; simp)
                | succ j =>
                  have p3 : (0 : Int) ≤ (j : Int) := by omega
                  have p4 : (j : Int) + 1 < (M : Int) := by omega
                  have p5 : (M : Int) ≤ 100 := by omega
                  refine rckc_r _ _ _ wr.heap.size w.heap.size M ca2 j ad s (prevS rs (j + 1)) true (Lib.hid (HQ3.out j rfl)) hg hle p3 p4 p5 rfl rfl rfl rfl ?_
                  intro vals w7 hG h89
                  unfold IsV at h89
                  simp only [putD, Act.put, List.setIfInBounds_toArray, List.set_cons_zero, List.set_cons_succ, h89]
                  have HB7 := Lib.hid (HBz.out.trans (hG.mono HBz.out.size))
                  clear hG h89
                  go_wp2_with fail
                  go_ret
                  rw [HRf.out]
                  exact ⟨rfl, HB7.out⟩
              | false =>
                have HS2 := Lib.hid (show R = if okP N t = true then ckRoots N s (rs.drop (k + 1)) else 1 from by rw [HS.out, if_pos ⟨hg, hle⟩])
                cases k with
                | zero =>
                  refine rckb_r _ _ _ wr.heap.size s HQ hg rfl rfl rfl ?_
                  intro vals w7 hG h89
                  unfold IsV at h89
                  simp only [putD, Act.put, List.setIfInBounds_toArray, List.set_cons_zero, List.set_cons_succ, h89]
                  have HB7 := Lib.hid (HBz.out.trans (hG.mono HBz.out.size))
                  have HBy := Lib.hid (HBo.out.trans (hG.mono HBo.out.size))
                  have d1 := (HW2.out.1.below hG HW2.out.1.lt).cell 1
                  have d1 : w7.cell? ⟨wr.heap.size, 1, none⟩ = some (.int .i64 t) := d1
                  clear hG h89
                  by_cases h0 : t < 0
                  · have HRf := Lib.hid (show R = 1 from by rw [HS2.out, if_neg (fun e => by have := okP_iff.1 e; omega)])
                    go_wp2_with fail
                    go_ret
                    rw [HRf.out]
                    exact ⟨rfl, HB7.out⟩
                  · by_cases h2 : (N : Int) < t
                    · have HRf := Lib.hid (show R = 1 from by rw [HS2.out, if_neg (fun e => by have := okP_iff.1 e; omega)])
                      go_wp2_with fail
                      go_ret
                      rw [HRf.out]
                      exact ⟨rfl, HB7.out⟩
                    · have HRn := Lib.hid (show R = ckRoots N (prevS rs (0 + 1)) (rs.drop (0 + 1)) from by rw [HPn.out, HS2.out, if_pos (okP_iff.2 (by omega))])
                      go_wp2_with fail
                      go_roundw
                      case rel => exact ⟨0 + 1, by go_num, by omega, HRn, HBy.out⟩
                      case measure => simp [Go.RowKit.intOf] <;> omega
                | succ j =>
                  have p3 : (0 : Int) ≤ (j : Int) := by omega
                  have p4 : (j : Int) + 1 < (M : Int) := by omega
                  have p5 : (M : Int) ≤ 100 := by omega
                  refine rckc_r _ _ _ wr.heap.size w.heap.size M ca2 j ad s (prevS rs (j + 1)) false (Lib.hid (HQ3.out j rfl)) hg hle p3 p4 p5 rfl rfl rfl rfl ?_
                  intro vals w7 hG h89
                  unfold IsV at h89
                  simp only [putD, Act.put, List.setIfInBounds_toArray, List.set_cons_zero, List.set_cons_succ, h89]
                  have HB7 := Lib.hid (HBz.out.trans (hG.mono HBz.out.size))
                  have HBy := Lib.hid (HBo.out.trans (hG.mono HBo.out.size))
                  have d1 := (HW2.out.1.below hG HW2.out.1.lt).cell 1
                  have d1 : w7.cell? ⟨wr.heap.size, 1, none⟩ = some (.int .i64 t) := d1
                  clear hG h89
                  by_cases h0 : t < 0
                  · have HRf := Lib.hid (show R = 1 from by rw [HS2.out, if_neg (fun e => by have := okP_iff.1 e; omega)])
                    go_wp2_with fail
                    go_ret
                    rw [HRf.out]
                    exact ⟨rfl, HB7.out⟩
                  · by_cases h2 : (N : Int) < t
                    · have HRf := Lib.hid (show R = 1 from by rw [HS2.out, if_neg (fun e => by have := okP_iff.1 e; omega)])
                      go_wp2_with fail
                      go_ret
                      rw [HRf.out]
                      exact ⟨rfl, HB7.out⟩
                    · have HRn := Lib.hid (show R = ckRoots N (prevS rs ((j + 1) + 1)) (rs.drop ((j + 1) + 1)) from by rw [HPn.out, HS2.out, if_pos (okP_iff.2 (by omega))])
                      go_wp2_with fail
                      go_roundw
                      case rel => exact ⟨(j + 1) + 1, by go_num, by omega, HRn, HBy.out⟩
                      case measure => simp [Go.RowKit.intOf] <;> omega
            · have hg0 : goodS s = false := by simpa using hg
              have HRf := Lib.hid (show R = 4 from by rw [HS.out, if_neg (by rw [hg0]; simp)])
              go_wp2_with fail
              rw [← hW2'.out]
              refine rcka_r _ _ _ wr.heap.size s (k : Int) HQ hg0 rfl rfl ?_
              intro vals w7 hG h89
              unfold IsV at h89
              simp only [putD, Act.put, List.setIfInBounds_toArray, List.set_cons_zero, List.set_cons_succ, h89]
              have HB7 := Lib.hid (HBz.out.trans (hG.mono HBz.out.size))
              clear hG h89
              go_wp2_with fail
              go_ret
              rw [HRf.out]
              exact ⟨rfl, HB7.out⟩
          · have hkM : k = M := by omega
            have HRf := Lib.hid (show R = 0 from by rw [hck.out, hkM, HN.out.2, List.drop_length]; rfl)
            clear hkM hck hb1 hB
            go_wp2_with fail
            go_ret
            rw [HRf.out]
            exact ⟨rfl, HBw.out⟩
end Go.Proofs.Ytaminpfgkegibaa
/- Rows of bytes in words; a place's word: the reference's. Conditions: lengths. -/
namespace Go.Proofs.Ytaminpfgkegibaa
set_option linter.unusedVariables false
set_option linter.unusedSimpArgs false
open Go.RowKit Go.Maps
set_option maxHeartbeats 4000000
set_option maxRecDepth 100000
/-- The first k words of bytes. -/
def wordsN (bs : List (BitVec 8)) (k : Nat) : List (BitVec 64) := (List.range k).map fun i => leN ((bs.drop (8 * i)).take 8)
def wordsW (bs : List (BitVec 8)) : List (BitVec 64) := wordsN bs ((bs.length + 7) / 8)
theorem wordsN_len (bs : List (BitVec 8)) (k : Nat) : (wordsN bs k).length = k := by unfold wordsN; simp
theorem wordsN_snoc (bs : List (BitVec 8)) (k : Nat) : wordsN bs (k + 1) = wordsN bs k ++ [leN ((bs.drop (8 * k)).take 8)] := by unfold wordsN; rw [List.range_succ, List.map_append]; rfl
theorem leN_more (l : List (BitVec 8)) (j : Nat) (h : j < l.length) : leN (l.take (j + 1)) = leN (l.take j) ||| (l[j]).setWidth 64 <<< (8 * j) := by
  rw [take_snoc' _ _ h, leN_snoc, List.length_take, Nat.min_eq_left (by omega)]
theorem rwd_c (w : World) (A : Option Addr) (c : Nat) (bs : List (BitVec 8)) (hr : Rd b8 w w.heap.size A bs) (hl : bs.length ≤ 1000000) :
    Calls Try.prog 42 #[.slice A bs.length c] w (MkP u64v 57 (wordsW bs) w) := by
  obtain ⟨N, hN⟩ : ∃ N, N = bs.length := ⟨_, rfl⟩
  have HN := Lib.hid (And.intro hN hr)
  rw [← hN] at hl ⊢
  have NI : (N : Int) ≤ 1000000 := by omega
  clear hr hN
  go_enter Try.func42, Try.ntmps42
  go_wp2_with fail
  go_loopw [3, 4] (fun o i W => ∃ k p : Nat, i = .int .i64 p ∧ p = 8 * k ∧ p < N + 8 ∧ Hid (Ow u64v 57 W w.heap.size o (wordsN bs k) ∧ Below w.heap.size w W)) (fun _ i _ => N + 8 - (Go.RowKit.intOf i).toNat)
  case atStart => exact ⟨0, 0, rfl, rfl, by omega, Lib.hid ⟨Ow.nil_ _ _ _ _, Below.refl _ _⟩⟩
  case round =>
    obtain ⟨k, p, rfl, hp, hpN, HO⟩ := hrel
    have HP := Lib.hid (And.intro hp (And.intro hpN hl))
    have p0 : (0 : Int) ≤ (p : Int) := by omega
    by_cases hlt : p < N
    · have p1 : (p : Int) < (N : Int) := by omega
      clear hp
      go_wp2_with fail
      go_loopw [5, 6] (fun v x W => ∃ (j : Nat) (y : BitVec 64), x = .int .i64 j ∧ v = .int .u64 (U64 y) ∧ j ≤ 8 ∧ p + j ≤ N ∧ Hid (y = leN ((bs.drop p).take j)) ∧ W = wr) (fun _ x _ => 8 - (Go.RowKit.intOf x).toNat)
      case atStart => exact ⟨0, 0#64, rfl, rfl, by omega, by omega, Lib.hid rfl, rfl⟩
      case round =>
        obtain ⟨j, y, rfl, rfl, hj8, hjN, HY, rfl⟩ := hrel
        have j0 : (0 : Int) ≤ (j : Int) := by omega
        by_cases h8 : j < 8
        · have t1 : (j : Int) < 8 := by omega
          by_cases hn : p + j < N
          · have t2 : (p : Int) + (j : Int) < (N : Int) := by omega
            obtain ⟨ad, hA, _, hc⟩ := (HN.out.2.below HO.out.2).at_ (j := p + j) (by rw [← HN.out.1]; exact hn)
            obtain ⟨x, hx⟩ : ∃ x, x = bs[p + j]'(by rw [← HN.out.1]; exact hn) := ⟨_, rfl⟩
            rw [← hx] at hc
            unfold b8 at hc
            have HX := Lib.hid hx
            obtain ⟨q, hq⟩ : ∃ q, q = p + j := ⟨_, rfl⟩
            have q1 : (p : Int) + (j : Int) = (q : Int) := by omega
            have q2 : (q : Int) < (N : Int) := by omega
            have q3 : (0 : Int) ≤ (q : Int) := by omega
            rw [← hq] at hc
            clear hx hq
            subst hA
            go_wp2_with fail
            go_roundw
            case rel =>
              refine ⟨j + 1, y ||| x.setWidth 64 <<< (8 * j), by go_num, val_u64 ?_, by omega, by omega, Lib.hid ?_, by first | rfl | trivial⟩
              · rw [u8_u64, wrapU64, shlU64, orU64]
              · have hd : j < (bs.drop p).length := by rw [List.length_drop, ← HN.out.1]; omega
                rw [leN_more _ _ hd, ← HY.out, HX.out, List.getElem_drop]
            case measure => simp [Go.RowKit.intOf]; omega
          · have hN2 : p + j = N := by omega
            have t2 : (p : Int) + (j : Int) = (N : Int) := by omega
            have HJ := Lib.hid hN2
            clear hN2 hn
            have HY2 := Lib.hid (show y = leN ((bs.drop p).take 8) from by rw [HY.out, List.take_of_length_le (by rw [List.length_drop, ← HN.out.1]; have := HJ.out; omega), List.take_of_length_le (by rw [List.length_drop, ← HN.out.1]; have := HJ.out; omega)])
            obtain ⟨A3, c3, e0, hAc⟩ := HO.out.1.form
            obtain ⟨M, hM⟩ : ∃ M, M = (wordsN bs k).length := ⟨_, rfl⟩
            rw [← hM] at e0
            have HM := Lib.hid (And.intro hM hAc)
            subst e0
            have hR : Rd u64v (wr.alloc (.cells #[.int .u64 (U64 y)] 57)) (wr.heap.size + 1) (some ⟨wr.heap.size, 0, none⟩) [y] := rd1_new rfl
            have HC := Lib.hid (show (wordsN bs k).length + [y].length ≤ 4294967296 ∧ w.heap.size ≤ (wr.alloc (.cells #[.int .u64 (U64 y)] 57)).heap.size from ⟨by have h := HP.out; rw [wordsN_len]; simp; omega, by have := HO.out.2.size; simp; omega⟩)
            have HR3 := Lib.hid hR
            clear hR hM hAc
            go_wp2_with (at_builtin; refine wp_app one64 u64v_one rfl (.tmp 38) (.tmp 40) rfl w.heap.size _ (wordsN bs k) rfl (HO.out.1.alloc _) _ 1 1 [y] rfl rfl (wr.heap.size + 1) HR3.out HC.out.1 (by decide) HC.out.2 ?_; intro v1 w1 hown1 hb1 _ _; have H1 := Lib.hid (And.intro hown1 hb1); clear hown1 hb1)
            go_roundw
            case rel => exact ⟨k + 1, p + 8, by go_num, by have := HP.out; omega, by omega, Lib.hid ⟨by rw [wordsN_snoc]; have h := H1.out.1; rw [HY2.out, HP.out.1] at h; exact h, (HO.out.2.alloc (by have := HO.out.2.size; omega) _).trans H1.out.2⟩⟩
            case measure => simp [Go.RowKit.intOf]; omega
        · obtain rfl : j = 8 := by omega
          have HY2 := Lib.hid (show y = leN ((bs.drop p).take 8) from HY.out)
          obtain ⟨A3, c3, e0, hAc⟩ := HO.out.1.form
          obtain ⟨M, hM⟩ : ∃ M, M = (wordsN bs k).length := ⟨_, rfl⟩
          rw [← hM] at e0
          have HM := Lib.hid (And.intro hM hAc)
          subst e0
          have hR : Rd u64v (wr.alloc (.cells #[.int .u64 (U64 y)] 57)) (wr.heap.size + 1) (some ⟨wr.heap.size, 0, none⟩) [y] := rd1_new rfl
          have HC := Lib.hid (show (wordsN bs k).length + [y].length ≤ 4294967296 ∧ w.heap.size ≤ (wr.alloc (.cells #[.int .u64 (U64 y)] 57)).heap.size from ⟨by have h := HP.out; rw [wordsN_len]; simp; omega, by have := HO.out.2.size; simp; omega⟩)
          have HR3 := Lib.hid hR
          clear hR hM hAc
          go_wp2_with (at_builtin; refine wp_app one64 u64v_one rfl (.tmp 38) (.tmp 40) rfl w.heap.size _ (wordsN bs k) rfl (HO.out.1.alloc _) _ 1 1 [y] rfl rfl (wr.heap.size + 1) HR3.out HC.out.1 (by decide) HC.out.2 ?_; intro v1 w1 hown1 hb1 _ _; have H1 := Lib.hid (And.intro hown1 hb1); clear hown1 hb1)
          go_roundw
          case rel => exact ⟨k + 1, p + 8, by go_num, by have := HP.out; omega, by omega, Lib.hid ⟨by rw [wordsN_snoc]; have h := H1.out.1; rw [HY2.out, HP.out.1] at h; exact h, (HO.out.2.alloc (by have := HO.out.2.size; omega) _).trans H1.out.2⟩⟩
          case measure => simp [Go.RowKit.intOf]; omega
    · have p1 : ¬ (p : Int) < (N : Int) := by omega
      have HK := Lib.hid (show k = (bs.length + 7) / 8 by rw [← HN.out.1]; omega)
      clear hp
      go_wp2_with fail
      go_ret
      have h := HO.out.1
      rw [HK.out] at h
      exact MkP.of h HO.out.2
/-- The word that leads to a node: 0, or its place and 1. -/
def pointW (pl : List Nat) (p : Int) : BitVec 64 := if p = 0 then 0#64 else BitVec.ofNat 64 (pl.getD (p.toNat - 1) 0 + 1)
theorem point_c (w : World) (A : Option Addr) (c : Nat) (pl : List Nat) (hr : Rd iN w w.heap.size A pl) (p : Int) (h0 : 0 ≤ p) (h1 : p ≤ (pl.length : Int)) (hl : pl.length ≤ 1000000) (hb : ∀ x ∈ pl, x ≤ 1000000) :
    Calls Try.prog 43 #[.slice A pl.length c, .int .i64 p] w (RetP (.int .u64 (U64 (pointW pl p))) w) := by
  obtain ⟨N, hN⟩ : ∃ N, N = pl.length := ⟨_, rfl⟩
  obtain ⟨k, rfl⟩ := Int.eq_ofNat_of_zero_le h0
  by_cases hk : k = 0
  · subst hk
    have e : U64 (pointW pl ((0 : Nat) : Int)) = 0 := rfl
    rw [e]
    clear hr h0 h1 hb hl
    rw [← hN]
    go_enter Try.func43, Try.ntmps43
    go_wp2_with fail
    go_ret
    exact ⟨rfl, Below.refl _ _⟩
  · obtain ⟨j, rfl⟩ : ∃ j, k = j + 1 := ⟨k - 1, by omega⟩
    have hj : j < pl.length := by omega
    obtain ⟨ad, rfl, _, hc⟩ := hr.at_ hj
    obtain ⟨x, hx⟩ : ∃ x, x = pl[j] := ⟨_, rfl⟩
    have hx9 : x ≤ 1000000 := by rw [hx]; exact hb _ (List.getElem_mem _)
    have e : U64 (pointW pl ((j + 1 : Nat) : Int)) = (x : Int) + 1 := by
      unfold pointW
      rw [if_neg (by omega), show ((j + 1 : Nat) : Int).toNat - 1 = j from by omega, List.getD_eq_getElem?_getD, List.getElem?_eq_getElem hj, Option.getD_some, ← hx]
      unfold U64
      rw [BitVec.toNat_ofNat, Nat.mod_eq_of_lt (by omega)]
      omega
    rw [e]
    rw [← hx] at hc
    unfold iN at hc
    have z1 : ¬ ((j + 1 : Nat) : Int) = 0 := by omega
    have z2 : ((j + 1 : Nat) : Int) - 1 = (j : Int) := by omega
    have z3 : (j : Int) < (N : Int) := by omega
    have z4 : (0 : Int) ≤ (j : Int) := by omega
    have z5 : (N : Int) ≤ 1000000 := by omega
    have z6 : (x : Int) ≤ 1000000 := by omega
    have z7 : (0 : Int) ≤ (x : Int) := by omega
    obtain ⟨q, hq⟩ : ∃ q : Int, q = ((j + 1 : Nat) : Int) := ⟨_, rfl⟩
    rw [← hq] at z1 z2 ⊢
    have z8 : (0 : Int) ≤ q := by omega
    have z9 : q ≤ 1000000 := by omega
    rw [← hN]
    clear hr h0 h1 hb hl hx hx9 e hj hN hq
    go_enter Try.func43, Try.ntmps43
    go_wp2_with fail
    go_ret
    exact ⟨by first | rfl | (congr 2; omega) | (simp; omega), Below.refl _ _⟩
end Go.Proofs.Ytaminpfgkegibaa
/- A graph in words: the reference's, as a list (pure). Conditions: a graph that Check lets. -/
namespace Go.Proofs.Ytaminpfgkegibaa
set_option linter.unusedVariables false
set_option linter.unusedSimpArgs false
open Go.RowKit
set_option maxHeartbeats 1000000
def szG (x : Nv) : Nat := 1 + x.ps.length + (x.bs.length + 7) / 8
/-- The places of nodes, one behind the other; where they end. -/
def placeL : List Nv → Nat → List Nat
  | [], _ => []
  | x :: r, a => a :: placeL r (a + szG x)
def endL : List Nv → Nat → Nat
  | [], a => a
  | x :: r, a => endL r (a + szG x)
theorem placeL_len : ∀ (l : List Nv) (a : Nat), (placeL l a).length = l.length
  | [], _ => rfl
  | x :: r, a => by unfold placeL; rw [List.length_cons, List.length_cons, placeL_len r]
theorem endL_snoc (x : Nv) : ∀ (l : List Nv) (a : Nat), endL (l ++ [x]) a = endL l a + szG x
  | [], _ => rfl
  | y :: r, a => by rw [List.cons_append]; unfold endL; exact endL_snoc x r _
theorem placeL_snoc (x : Nv) : ∀ (l : List Nv) (a : Nat), placeL (l ++ [x]) a = placeL l a ++ [endL l a]
  | [], _ => rfl
  | y :: r, a => by rw [List.cons_append]; unfold placeL endL; rw [placeL_snoc x r]; rfl
theorem endL_ge : ∀ (l : List Nv) (a : Nat), a ≤ endL l a
  | [], _ => Nat.le_refl _
  | x :: r, a => Nat.le_trans (Nat.le_add_right _ _) (endL_ge r _)
theorem endL_add : ∀ (l : List Nv) (a : Nat), endL l a = a + endL l 0
  | [], _ => rfl
  | x :: r, a => by unfold endL; rw [endL_add r (a + szG x), endL_add r (0 + szG x)]; omega
theorem endL_take_le : ∀ (l : List Nv) (k a : Nat), endL (l.take k) a ≤ endL l a
  | [], k, a => by simp
  | x :: r, 0, a => endL_ge _ _
  | x :: r, k + 1, a => by rw [List.take_succ_cons]; unfold endL; exact endL_take_le r k _
theorem placeL_lt : ∀ (l : List Nv) (a : Nat), ∀ y ∈ placeL l a, a ≤ y ∧ y < endL l a
  | [], _, y, h => by cases h
  | x :: r, a, y, h => by
    unfold placeL at h
    unfold endL
    have h1 := endL_ge r (a + szG x)
    have h2 : 1 ≤ szG x := by unfold szG; omega
    rcases List.mem_cons.1 h with rfl | h
    · omega
    · have := placeL_lt r _ y h; omega
theorem ckNode_ok {N : Nat} {x : Nv} (h : ckNode N x = 0) : (∀ p ∈ x.ps, okP N p = true) ∧ x.ps.length ≤ 64 ∧ x.bs.length ≤ 1024 := by
  unfold ckNode at h
  by_cases h1 : x.ps.all (okP N) = true
  · rw [if_pos h1] at h
    by_cases h2 : 64 < x.ps.length ∨ 1024 < x.bs.length
    · rw [if_pos h2] at h; cases h
    · exact ⟨fun p hp => List.all_eq_true.1 h1 p hp, by omega, by omega⟩
  · rw [if_neg h1] at h; cases h
theorem ckNodes_all {N : Nat} : ∀ {l : List Nv}, ckNodes N l = 0 → ∀ x ∈ l, ckNode N x = 0
  | [], _, x, hx => by cases hx
  | y :: l, h, x, hx => by
    unfold ckNodes at h
    by_cases h1 : ckNode N y = 0
    · rw [if_pos h1] at h
      rcases List.mem_cons.1 hx with rfl | hx
      · exact h1
      · exact ckNodes_all h x hx
    · rw [if_neg h1] at h; exact absurd h h1
theorem ckRoots_all {N : Nat} : ∀ {l : List Rv} {s : ByteArray}, ckRoots N s l = 0 → ∀ r ∈ l, goodS r.s = true ∧ okP N r.t = true
  | [], _, _, r, hr => by cases hr
  | y :: l, s, h, r, hr => by
    unfold ckRoots at h
    by_cases h1 : goodS y.s = true ∧ leS y.s s = false
    · rw [if_pos h1] at h
      by_cases h2 : okP N y.t = true
      · rw [if_pos h2] at h
        rcases List.mem_cons.1 hr with rfl | hr
        · exact ⟨h1.1, h2⟩
        · exact ckRoots_all h r hr
      · rw [if_neg h2] at h; cases h
    · rw [if_neg h1] at h; cases h
theorem ckG_ok {g : Gv} (h : ckG g = 0) : (∀ x ∈ g.n, (∀ p ∈ x.ps, okP g.n.length p = true) ∧ x.ps.length ≤ 64 ∧ x.bs.length ≤ 1024) ∧ g.r.length ≤ 64 ∧ ∀ r ∈ g.r, goodS r.s = true ∧ okP g.n.length r.t = true := by
  unfold ckG at h
  by_cases h1 : ckNodes g.n.length g.n = 0
  · rw [if_pos h1] at h
    by_cases h2 : 64 < g.r.length
    · rw [if_pos h2] at h; cases h
    · rw [if_neg h2] at h
      exact ⟨fun x hx => ckNode_ok (ckNodes_all h1 x hx), by omega, ckRoots_all h⟩
  · rw [if_neg h1] at h; exact absurd h h1
theorem goodS_size {s : ByteArray} (h : goodS s = true) : 1 ≤ s.size ∧ s.size ≤ 32 := by
  unfold goodS at h
  simp only [Bool.and_eq_true, decide_eq_true_eq] at h
  exact ⟨h.1, h.2.1⟩
theorem szN_szG {x : Nv} (h1 : x.ps.length ≤ 64) (h2 : x.bs.length ≤ 1024) : szN x = (szG x : Int) := by
  have h : rightH (x.ps.length : Int) (x.bs.length : Int) false 0 = true := by unfold rightH; simp; omega
  unfold szN sizeH szG
  rw [if_pos ⟨h, rfl⟩]
  omega
theorem wordsL_end : ∀ (l : List Nv), (∀ x ∈ l, x.ps.length ≤ 64 ∧ x.bs.length ≤ 1024) → wordsL l = (endL l 0 : Int)
  | [], _ => rfl
  | x :: r, h => by
    have h1 := h x (List.mem_cons_self ..)
    have ih := wordsL_end r (fun y hy => h y (List.mem_cons_of_mem _ hy))
    show szN x + wordsL r = _
    rw [szN_szG h1.1 h1.2, ih]
    show _ = ((endL r (0 + szG x) : Nat) : Int)
    rw [endL_add r (0 + szG x)]
    omega
/-- A name's bytes, filled up. -/
def nameW (s : ByteArray) : List (BitVec 8) := s.data.toList.map (·.toBitVec) ++ List.replicate (32 - s.size) 0#8
theorem nameW_len {s : ByteArray} (h : s.size ≤ 32) : (nameW s).length = 32 := by
  have e : s.data.toList.length = s.size := rfl
  unfold nameW
  rw [List.length_append, List.length_map, List.length_replicate, e]
  omega
theorem wordsW_len (bs : List (BitVec 8)) : (wordsW bs).length = (bs.length + 7) / 8 := wordsN_len bs _
def rootW (pl : List Nat) (r : Rv) : List (BitVec 64) := wordsW (nameW r.s) ++ [pointW pl r.t]
theorem rootW_len (pl : List Nat) {r : Rv} (h : r.s.size ≤ 32) : (rootW pl r).length = 5 := by
  unfold rootW
  rw [List.length_append, wordsW_len, nameW_len h]
  rfl
def headW (x : Nv) : BitVec 64 := packH x.ps.length x.bs.length false 0
def nodeW (pl : List Nat) (x : Nv) : List (BitVec 64) := headW x :: (x.ps.map (pointW pl) ++ wordsW x.bs)
theorem nodeW_len (pl : List Nat) (x : Nv) : (nodeW pl x).length = szG x := by
  unfold nodeW szG
  rw [List.length_cons, List.length_append, List.length_map, wordsW_len]
  omega
def frontW (R t : Nat) : List (BitVec 64) := [1296125772#64, BitVec.ofNat 64 (R + t * 65536)]
def encW (ns : List Nv) (rs : List Rv) : List (BitVec 64) :=
  frontW rs.length (endL ns (2 + 5 * rs.length)) ++ rs.flatMap (rootW (placeL ns (2 + 5 * rs.length))) ++ ns.flatMap (nodeW (placeL ns (2 + 5 * rs.length)))
theorem roots_len (pl : List Nat) : ∀ (rs : List Rv), (∀ r ∈ rs, r.s.size ≤ 32) → (rs.flatMap (rootW pl)).length = 5 * rs.length
  | [], _ => rfl
  | r :: rs, h => by
    rw [List.flatMap_cons, List.length_append, rootW_len pl (h r (List.mem_cons_self ..)), roots_len pl rs (fun y hy => h y (List.mem_cons_of_mem _ hy)), List.length_cons]
    omega
theorem nodes_len (pl : List Nat) : ∀ (ns : List Nv), (ns.flatMap (nodeW pl)).length = endL ns 0
  | [] => rfl
  | x :: ns => by
    rw [List.flatMap_cons, List.length_append, nodeW_len, nodes_len pl ns]
    show _ = endL ns (0 + szG x)
    rw [endL_add ns (0 + szG x)]
    omega
theorem encW_len (ns : List Nv) (rs : List Rv) (h : ∀ r ∈ rs, r.s.size ≤ 32) : (encW ns rs).length = endL ns (2 + 5 * rs.length) := by
  unfold encW
  rw [List.length_append, List.length_append, roots_len _ rs h, nodes_len, endL_add ns (2 + 5 * rs.length)]
  rfl
end Go.Proofs.Ytaminpfgkegibaa
/- A graph's words: the objects in them (pure). Conditions: a graph that Check lets. -/
namespace Go.Proofs.Ytaminpfgkegibaa
set_option linter.unusedVariables false
set_option linter.unusedSimpArgs false
open Go.RowKit
set_option maxHeartbeats 1000000
theorem leN_bit : ∀ (l : List (BitVec 8)) (i : Nat), i < 64 → (leN l).getLsbD i = (l.getD (i / 8) 0#8).getLsbD (i % 8)
  | [], i, _ => by unfold leN; simp
  | b :: r, i, h => by
    unfold leN
    rw [BitVec.getLsbD_or, BitVec.getLsbD_shiftLeft, BitVec.getLsbD_setWidth]
    by_cases h8 : i < 8
    · have e1 : i / 8 = 0 := by omega
      have e2 : i % 8 = i := by omega
      rw [e1, e2, List.getD_cons_zero]
      simp [h8, h]
    · obtain ⟨q, hq⟩ : ∃ q, i / 8 = q + 1 := ⟨i / 8 - 1, by omega⟩
      rw [hq, List.getD_cons_succ, leN_bit r (i - 8) (by omega), show (i - 8) / 8 = q from by omega, show (i - 8) % 8 = i % 8 from by omega]
      have e3 : b.getLsbD i = false := BitVec.getLsbD_of_ge _ _ (by omega)
      simp [h8, h, e3]
theorem byte_leN {ws : List (BitVec 64)} {q r : Nat} {l : List (BitVec 8)} (hr : r < 8) (h : ws.getD q 0#64 = leN l) : byteAt ws (8 * q + r) = l.getD r 0#8 := by
  apply BitVec.eq_of_getLsbD_eq
  intro i hi
  rw [byteAt_bit _ _ _ hi, show (8 * q + r) / 8 = q from by omega, show (8 * q + r) % 8 = r from by omega, h, leN_bit _ _ (by omega), show (8 * r + i) / 8 = r from by omega, show (8 * r + i) % 8 = i from by omega]
theorem wordsN_get (bs : List (BitVec 8)) {k i : Nat} (h : i < k) : (wordsN bs k).getD i 0#64 = leN ((bs.drop (8 * i)).take 8) := by
  unfold wordsN
  rw [List.getD_eq_getElem?_getD, List.getElem?_map, List.getElem?_range h]
  rfl
theorem take_getD (l : List (BitVec 8)) {n r : Nat} (h : r < n) : (l.take n).getD r 0#8 = l.getD r 0#8 := by
  rw [List.getD_eq_getElem?_getD, List.getElem?_take, if_pos h, List.getD_eq_getElem?_getD]
theorem drop_getD (l : List (BitVec 8)) (n r : Nat) : (l.drop n).getD r 0#8 = l.getD (n + r) 0#8 := by
  rw [List.getD_eq_getElem?_getD, List.getElem?_drop, List.getD_eq_getElem?_getD]
/-- The bytes that words hold. -/
theorem byte_words {ws : List (BitVec 64)} {a : Nat} {bs : List (BitVec 8)} (h : ∀ i, i < (bs.length + 7) / 8 → ws.getD (a + i) 0#64 = (wordsW bs).getD i 0#64) (j : Nat) (hj : j < 8 * ((bs.length + 7) / 8)) : byteAt ws (8 * a + j) = bs.getD j 0#8 := by
  have h1 : j / 8 < (bs.length + 7) / 8 := by omega
  have h2 := h (j / 8) h1
  unfold wordsW at h2
  rw [wordsN_get bs h1] at h2
  have h3 := byte_leN (ws := ws) (q := a + j / 8) (r := j % 8) (by omega) h2
  rw [show 8 * (a + j / 8) + j % 8 = 8 * a + j from by omega, take_getD _ (by omega), drop_getD, show 8 * (j / 8) + j % 8 = j from by omega] at h3
  exact h3
theorem app_getD {α : Type} (a b : List α) (d : α) {i k : Nat} (h : k = a.length) : (a ++ b).getD (k + i) d = b.getD i d := by
  subst h
  rw [List.getD_eq_getElem?_getD, List.getElem?_append_right (by omega), List.getD_eq_getElem?_getD, show a.length + i - a.length = i from by omega]
theorem app_getL {α : Type} (a b : List α) (d : α) {i : Nat} (h : i < a.length) : (a ++ b).getD i d = a.getD i d := by
  rw [List.getD_eq_getElem?_getD, List.getElem?_append_left h, List.getD_eq_getElem?_getD]
theorem map_getD' {α β : Type} (f : α → β) (l : List α) (d : β) {i : Nat} (h : i < l.length) : (l.map f).getD i d = f l[i] := by
  rw [List.getD_eq_getElem?_getD, List.getElem?_map, List.getElem?_eq_getElem h]
  rfl
/-- Nodes in words, from a place on: each stands where it is said to. -/
theorem at_node (pl : List Nat) : ∀ (l : List Nv) (pre : List (BitVec 64)) (a : Nat), pre.length = a → ∀ y ∈ placeL l a, ∃ x ∈ l, ∀ i, i < szG x → (pre ++ l.flatMap (nodeW pl)).getD (y + i) 0#64 = (nodeW pl x).getD i 0#64
  | [], _, _, _, y, h => by cases h
  | x :: r, pre, a, hp, y, h => by
    rw [List.flatMap_cons, ← List.append_assoc]
    unfold placeL at h
    rcases List.mem_cons.1 h with rfl | h
    · refine ⟨x, List.mem_cons_self .., fun i hi => ?_⟩
      rw [List.append_assoc, app_getD _ _ _ hp.symm, app_getL _ _ _ (by rw [nodeW_len]; exact hi)]
    · obtain ⟨z, hz, h2⟩ := at_node pl r (pre ++ nodeW pl x) (a + szG x) (by rw [List.length_append, nodeW_len, hp]) y h
      exact ⟨z, List.mem_cons_of_mem _ hz, h2⟩
theorem headW_ok {x : Nv} (h1 : x.ps.length ≤ 64) (h2 : x.bs.length ≤ 1024) : (∀ room, szG x ≤ room → goodX (headW x) room = true) ∧ szX (headW x) = szG x ∧ P0 (headW x) = x.ps.length ∧ B0 (headW x) = x.bs.length := by
  have hr : rightH (x.ps.length : Int) (x.bs.length : Int) false 0 = true := by unfold rightH; simp; omega
  have hs : sizeH (x.ps.length : Int) (x.bs.length : Int) false 0 = (szG x : Int) := by
    unfold sizeH szG
    rw [if_pos ⟨hr, rfl⟩]
    omega
  obtain ⟨u1, u2, _, _⟩ := un_pack _ _ _ _ hr
  obtain ⟨g1, g2⟩ := pack_run hr hs
  refine ⟨g1, g2, ?_, ?_⟩
  · unfold P0 headW; rw [u1]; rfl
  · unfold B0 headW; rw [u2]; rfl
theorem found_enc (pl : List Nat) : ∀ (l : List Nv) (pre : List (BitVec 64)) (a n t : Nat), (∀ x ∈ l, x.ps.length ≤ 64 ∧ x.bs.length ≤ 1024) → pre.length = a → t = endL l a → t < a + n → foundN (pre ++ l.flatMap (nodeW pl)) t n a = (placeL l a, none)
  | [], pre, a, 0, t, _, _, ht, hn => by
    have : t = a := ht
    omega
  | [], pre, a, n + 1, t, _, _, ht, hn => by
    have : t = a := ht
    unfold foundN
    rw [if_neg (by omega)]
    rfl
  | x :: r, pre, a, 0, t, _, _, ht, hn => by
    have := endL_ge (x :: r) a
    omega
  | x :: r, pre, a, n + 1, t, hx, hp, ht, hn => by
    obtain ⟨x1, x2⟩ := hx x (List.mem_cons_self ..)
    obtain ⟨g1, g2, _, _⟩ := headW_ok x1 x2
    have hge : a + szG x ≤ t := by rw [ht]; exact endL_ge r _
    have hs : 1 ≤ szG x := by unfold szG; omega
    have hd : (pre ++ (x :: r).flatMap (nodeW pl)).getD a 0#64 = headW x := by
      have h := app_getD pre ((x :: r).flatMap (nodeW pl)) 0#64 (i := 0) hp.symm
      rw [Nat.add_zero] at h
      rw [h]
      rfl
    have ih := found_enc pl r (pre ++ nodeW pl x) (a + szG x) n t (fun y hy => hx y (List.mem_cons_of_mem _ hy)) (by rw [List.length_append, nodeW_len, hp]) ht (by omega)
    have e : pre ++ (x :: r).flatMap (nodeW pl) = pre ++ nodeW pl x ++ r.flatMap (nodeW pl) := by rw [List.flatMap_cons, List.append_assoc]
    unfold foundN
    rw [if_pos (by omega), hd, if_pos (g1 _ (by omega)), g2, e, ih]
    rfl
theorem pointW_in {pl : List Nat} {p : Int} (h : okP pl.length p = true) (hb : ∀ y ∈ pl, y < 8192) : (pointW pl p).toNat = 0 ∨ (1 ≤ (pointW pl p).toNat ∧ (pointW pl p).toNat - 1 ∈ pl) := by
  unfold pointW
  by_cases h0 : p = 0
  · rw [if_pos h0]; exact .inl rfl
  · rw [if_neg h0]
    have hh : 1 ≤ p ∧ p ≤ (pl.length : Int) := by
      unfold okP hasG at h
      simpa [h0] using h
    have hl : p.toNat - 1 < pl.length := by omega
    have hm : pl.getD (p.toNat - 1) 0 ∈ pl := by
      rw [List.getD_eq_getElem?_getD, List.getElem?_eq_getElem hl]
      exact List.getElem_mem hl
    have := hb _ hm
    have e : (BitVec.ofNat 64 (pl.getD (p.toNat - 1) 0 + 1)).toNat = pl.getD (p.toNat - 1) 0 + 1 := by
      rw [BitVec.toNat_ofNat]
      exact Nat.mod_eq_of_lt (by omega)
    rw [e]
    exact .inr ⟨by omega, by rw [Nat.add_sub_cancel]; exact hm⟩
theorem well_enc {pl : List Nat} {ws : List (BitVec 64)} {x : Nv} {y : Nat} (h1 : x.ps.length ≤ 64) (h2 : x.bs.length ≤ 1024) (hp : ∀ p ∈ x.ps, okP pl.length p = true) (hb : ∀ y ∈ pl, y < 8192) (hw : ∀ i, i < szG x → ws.getD (y + i) 0#64 = (nodeW pl x).getD i 0#64) : wellN ws pl y = true := by
  obtain ⟨g1, g2, g3, g4⟩ := headW_ok h1 h2
  have hd : ws.getD y 0#64 = headW x := (hw 0 (by unfold szG; omega)).trans rfl
  unfold wellN
  rw [Bool.and_eq_true, List.all_eq_true]
  refine ⟨fun k hk => ?_, ?_⟩
  · have hk := List.mem_range.1 hk
    rw [hd, g3] at hk
    have e : ws.getD (y + 1 + k) 0#64 = pointW pl x.ps[k] := by
      rw [Nat.add_assoc, hw (1 + k) (by unfold szG; omega), Nat.add_comm 1 k]
      unfold nodeW
      rw [List.getD_cons_succ, app_getL _ _ _ (by rw [List.length_map]; exact hk), map_getD' _ _ _ hk]
    unfold ptrN
    rw [e]
    exact decide_eq_true (pointW_in (hp _ (List.getElem_mem hk)) hb)
  · unfold padN padB
    rw [hd, g2, g3, g4, List.all_eq_true]
    intro c hc
    unfold bytesM at hc
    obtain ⟨k, hk, rfl⟩ := List.mem_map.1 hc
    have hk := List.mem_range.1 hk
    have hq := byte_words (ws := ws) (a := y + 1 + x.ps.length) (bs := x.bs) (fun i hi => by
      rw [Nat.add_assoc y 1, Nat.add_assoc, hw _ (by unfold szG; omega)]
      unfold nodeW
      rw [show 1 + x.ps.length + i = (x.ps.length + i) + 1 from by omega, List.getD_cons_succ, app_getD _ _ _ (List.length_map ..).symm]) (x.bs.length + k) (by unfold szG at hk; omega)
    rw [Nat.add_assoc, hq, List.getD_eq_getElem?_getD, List.getElem?_eq_none (by omega)]
    rfl
theorem at_root (pl : List Nat) : ∀ (rs : List Rv) (pre post : List (BitVec 64)), (∀ r ∈ rs, r.s.size ≤ 32) → ∀ i (hi : i < rs.length) j, j < 5 → (pre ++ rs.flatMap (rootW pl) ++ post).getD (pre.length + 5 * i + j) 0#64 = (rootW pl rs[i]).getD j 0#64
  | [], _, _, _, i, hi, _, _ => absurd hi (Nat.not_lt_zero _)
  | r :: rs, pre, post, h, 0, hi, j, hj => by
    have hl := rootW_len pl (h r (List.mem_cons_self ..))
    rw [List.flatMap_cons, List.append_assoc, List.append_assoc, show pre.length + 5 * 0 + j = pre.length + j from by omega, app_getD _ _ _ rfl, app_getL _ _ _ (by omega)]
    rfl
  | r :: rs, pre, post, h, i + 1, hi, j, hj => by
    have hl := rootW_len pl (h r (List.mem_cons_self ..))
    have ih := at_root pl rs (pre ++ rootW pl r) post (fun y hy => h y (List.mem_cons_of_mem _ hy)) i (by rw [List.length_cons] at hi; omega) j hj
    rw [List.length_append, hl] at ih
    rw [List.flatMap_cons, ← List.append_assoc pre, show pre.length + 5 * (i + 1) + j = pre.length + 5 + 5 * i + j from by omega, ih]
    rfl
/-- What an image of a graph has: its front, its Roots, its objects. -/
theorem enc_found {ns : List Nv} {rs : List Rv} (hx : ∀ x ∈ ns, (∀ p ∈ x.ps, okP ns.length p = true) ∧ x.ps.length ≤ 64 ∧ x.bs.length ≤ 1024) (hr : ∀ r ∈ rs, goodS r.s = true ∧ okP ns.length r.t = true) (ht : endL ns (2 + 5 * rs.length) ≤ 8192) :
    foundN (encW ns rs) (encW ns rs).length ((encW ns rs).length + 1) (2 + 5 * rs.length) = (placeL ns (2 + 5 * rs.length), none) ∧
    allE (encW ns rs) (placeL ns (2 + 5 * rs.length)) (placeL ns (2 + 5 * rs.length)) = [] := by
  have h32 : ∀ r ∈ rs, r.s.size ≤ 32 := fun r hh => (goodS_size (hr r hh).1).2
  have hlen := encW_len ns rs h32
  have hpre : (frontW rs.length (endL ns (2 + 5 * rs.length)) ++ rs.flatMap (rootW (placeL ns (2 + 5 * rs.length)))).length = 2 + 5 * rs.length := by
    rw [List.length_append, roots_len _ rs h32]
    rfl
  refine ⟨?_, ?_⟩
  · unfold encW at hlen ⊢
    exact found_enc _ ns _ _ _ _ (fun x h => (hx x h).2) hpre hlen (by omega)
  · rw [allE_nil, List.all_eq_true]
    intro y hy
    obtain ⟨x, hm, hw⟩ := at_node (placeL ns (2 + 5 * rs.length)) ns _ _ hpre y hy
    obtain ⟨x1, x2, x3⟩ := hx x hm
    exact well_enc x2 x3 (fun p hp => by rw [placeL_len]; exact x1 p hp) (fun z hz => by have := placeL_lt ns _ z hz; omega) hw
theorem bytesM_at (ws : List (BitVec 64)) (a n j : Nat) (h : j < (bytesM ws a n).length) : (bytesM ws a n)[j] = byteAt ws (a + j) := by simp [bytesM]
theorem enc_root {ns : List Nv} {rs : List Rv} (hr : ∀ r ∈ rs, goodS r.s = true ∧ okP ns.length r.t = true) (ht : endL ns (2 + 5 * rs.length) ≤ 8192) (i : Nat) (hi : i < rs.length) :
    bytesM (encW ns rs) (8 * (2 + 5 * i)) 32 = nameW rs[i].s ∧ (((encW ns rs).getD (2 + 5 * i + 4) 0#64).toNat = 0 ∨ (1 ≤ ((encW ns rs).getD (2 + 5 * i + 4) 0#64).toNat ∧ ((encW ns rs).getD (2 + 5 * i + 4) 0#64).toNat - 1 ∈ placeL ns (2 + 5 * rs.length))) := by
  have h32 : ∀ r ∈ rs, r.s.size ≤ 32 := fun r hh => (goodS_size (hr r hh).1).2
  have hm := List.getElem_mem hi
  have hl := nameW_len (h32 _ hm)
  have hww : (wordsW (nameW rs[i].s)).length = 4 := by rw [wordsW_len, hl]
  have hat : ∀ j, j < 5 → (encW ns rs).getD (2 + 5 * i + j) 0#64 = (rootW (placeL ns (2 + 5 * rs.length)) rs[i]).getD j 0#64 := fun j hj => at_root _ rs (frontW rs.length (endL ns (2 + 5 * rs.length))) _ h32 i hi j hj
  constructor
  · apply List.ext_getElem
    · rw [hl]; unfold bytesM; simp
    · intro j h1 h2
      have hj : j < 32 := by rw [hl] at h2; exact h2
      rw [bytesM_at, byte_words (ws := encW ns rs) (a := 2 + 5 * i) (bs := nameW rs[i].s) (fun k hk => by
        rw [hl] at hk
        rw [hat k (by omega)]
        unfold rootW
        rw [app_getL _ _ _ (by omega)]) j (by rw [hl]; omega), List.getD_eq_getElem?_getD, List.getElem?_eq_getElem h2]
      rfl
  · have e : (encW ns rs).getD (2 + 5 * i + 4) 0#64 = pointW (placeL ns (2 + 5 * rs.length)) rs[i].t := by
      rw [hat 4 (by omega)]
      unfold rootW
      have h := app_getD (wordsW (nameW rs[i].s)) [pointW (placeL ns (2 + 5 * rs.length)) rs[i].t] 0#64 (i := 0) hww.symm
      exact h
    rw [e]
    exact pointW_in (by rw [placeL_len]; exact (hr _ hm).2) (fun z hz => by have := placeL_lt ns _ z hz; omega)
end Go.Proofs.Ytaminpfgkegibaa
/- check.Image and check.Right at words that say their own length. Conditions: the first two words. -/
namespace Go.Proofs.Ytaminpfgkegibaa
set_option linter.unusedVariables false
set_option linter.unusedSimpArgs false
open Go.RowKit Go.Maps
set_option maxHeartbeats 4000000
set_option maxRecDepth 100000
theorem sizedR_c (w : World) (q n c R : Nat) (x : BitVec 64) (h2 : 2 ≤ n) (hn : n ≤ 8192) (hR : R ≤ 64) (hb : 2 + 5 * R ≤ n) (hq : q < w.heap.size) (g0 : w.cell? ⟨q, 1, none⟩ = some (.int .u64 (U64 x))) (hx : U64 (fieldB x 48 16) = 0) (ht : U64 (fieldB x 16 32) = (n : Int)) (h0 : U64 (fieldB x 0 16) = (R : Int)) : Calls Try.prog 20 #[.slice (some ⟨q, 0, none⟩) n c] w (RetP (.tuple #[.int .i64 (R : Int), .bool true]) w) := by
  have nI : (n : Int) ≤ 8192 := by omega
  have n1 : ¬ (n : Int) < 2 := by omega
  have n2 : ¬ (n : Int) ≤ 1 := by omega
  have n3 : ¬ (8192 : Int) < (n : Int) := by omega
  have n4 : (0 : Int) ≤ (n : Int) := by omega
  have r1 : ¬ (64 : Int) < (R : Int) := by omega
  have r2 : (R : Int) ≤ 64 := by omega
  have r3 : (0 : Int) ≤ (R : Int) := by omega
  have HB := Lib.hid (ckbaseR_c R (by omega))
  obtain ⟨bb, hbb⟩ : ∃ bb, bb = 2 + 5 * R := ⟨_, rfl⟩
  rw [← hbb] at HB
  have b1 : ¬ (n : Int) < (bb : Int) := by omega
  have b2 : (bb : Int) ≤ 8192 := by omega
  clear hbb hb hn h2 hR
  go_enter Try.func20, Try.ntmps20
  go_wp2_with fail
  refine sz3g _ _ _ q n c x (by omega) hq g0 rfl ?_ ?_
  · rfl
  intro vals w1 hG h4 h5 h6
  unfold IsV at h4 h5 h6
  rw [hx] at h6
  rw [ht] at h5
  rw [h0] at h4
  simp only [putD, Act.put, List.setIfInBounds_toArray, List.set_cons_zero, List.set_cons_succ, h4, h5, h6]
  have H1 := Lib.hid hG
  clear hG h4 h5 h6 g0 hq hx ht h0
  go_wp2_with fail
  refine Calls.mono (HB.out w1) ?_
  rintro r w2 ⟨rfl, b2⟩
  have H2 := Lib.hid (H1.out.trans (b2.mono H1.out.size))
  clear b2
  go_wp2_with fail
  go_ret2
  exact ⟨rfl, H2.out⟩
/-- What is wrong of words that say their own length. -/
def insF (ws : List (BitVec 64)) (R : Nat) : List (Nat × ByteArray) := badF (foundN ws ws.length (ws.length + 1) (2 + 5 * R)).2 ++ allE ws (foundN ws ws.length (ws.length + 1) (2 + 5 * R)).1 (foundN ws ws.length (ws.length + 1) (2 + 5 * R)).1 ++ rootF ws (foundN ws ws.length (ws.length + 1) (2 + 5 * R)).1 R 0 ⟨#[]⟩
theorem imageR_c (w : World) (q c R : Nat) (x : BitVec 64) (ws : List (BitVec 64)) (hr : Rd u64v w w.heap.size (some ⟨q, 0, none⟩) ws) (h2 : 2 ≤ ws.length) (hn : ws.length ≤ 8192) (hR : R ≤ 64) (hb : 2 + 5 * R ≤ ws.length) (h0 : ws.getD 0 0#64 = 1296125772#64) (h1 : ws.getD 1 0#64 = x) (hx : U64 (fieldB x 48 16) = 0) (ht : U64 (fieldB x 16 32) = (ws.length : Int)) (hR0 : U64 (fieldB x 0 16) = (R : Int)) (hq : ∀ y, (foundN ws ws.length (ws.length + 1) (2 + 5 * R)).2 = some y → okU (ws.getD y 0#64) = false) (hl : (insF ws R).length ≤ 5000) :
    Calls Try.prog 8 #[.slice (some ⟨q, 0, none⟩) ws.length c] w (FiP (insF ws R) w) := by
  obtain ⟨ad, had, hql, g0⟩ := hr 0 (by omega)
  injection had with had
  subst had
  obtain ⟨ad, had, _, g1⟩ := hr 1 (by omega)
  injection had with had
  subst had
  rw [add_off] at g0 g1
  have e0 : ws[0] = 1296125772#64 := by rw [← h0, List.getD_eq_getElem?_getD, List.getElem?_eq_getElem (by omega)]; rfl
  have e1 : ws[1] = x := by rw [← h1, List.getD_eq_getElem?_getD, List.getElem?_eq_getElem (by omega)]; rfl
  rw [e0] at g0
  rw [e1] at g1
  replace g0 : w.cell? ⟨q, 0, none⟩ = some (.int .u64 1296125772) := g0
  replace g1 : w.cell? ⟨q, 1, none⟩ = some (.int .u64 (U64 x)) := g1
  have hql : q < w.heap.size := hql
  obtain ⟨F, hF⟩ : ∃ F, F = foundN ws ws.length (ws.length + 1) (2 + 5 * R) := ⟨_, rfl⟩
  have hins : insF ws R = badF F.2 ++ allE ws F.1 F.1 ++ rootF ws F.1 R 0 ⟨#[]⟩ := by unfold insF; rw [hF]
  rw [← hF] at hq
  obtain ⟨G, hG⟩ : ∃ G, G = insF ws R := ⟨_, rfl⟩
  rw [← hG] at hl hins ⊢
  obtain ⟨n, hnn⟩ : ∃ n, n = ws.length := ⟨_, rfl⟩
  have HSz := Lib.hid (fun W (h : Below w.heap.size w W) => sizedR_c W q n c R x (by omega) (by omega) hR (by omega) (Nat.lt_of_lt_of_le hql h.size) ((h.cell (p := ⟨q, 1, none⟩) hql).trans g1) hx (by rw [ht, hnn]) hR0)
  have HOf := Lib.hid (fun W (h : Below w.heap.size w W) => of_in W (some ⟨q, 0, none⟩) c ws ((hr.below h).more h.size) (by omega))
  have HB := Lib.hid (ckbaseR_c R (by omega))
  obtain ⟨bb, hbb⟩ : ∃ bb, bb = 2 + 5 * R := ⟨_, rfl⟩
  have HX := Lib.hid (And.intro hF (And.intro hq (And.intro hl (And.intro hn (And.intro hnn (And.intro hb (And.intro hins hbb)))))))
  rw [← hbb] at HB
  rw [← hnn] at HOf ⊢
  have n1 : ¬ (n : Int) = 0 := by omega
  have nI : (n : Int) ≤ 8192 := by omega
  have n2 : (1 : Int) ≤ (n : Int) := by omega
  clear hr hF hq hl hn hins hG g1 h0 h1 e0 e1 hx ht hR0 hnn hb hbb h2 hR
  go_enter Try.func8, Try.ntmps8
  go_wp2_with fail
  refine Calls.mono (HSz.out w (Below.refl _ _)) ?_
  rintro r w1 ⟨rfl, b1⟩
  have H1 := Lib.hid b1
  clear b1 g0 hql HSz
  go_wp2_with fail
  refine Calls.mono (HOf.out w1 H1.out) ?_
  rintro r w2 ⟨g, v, rfl, hm, b2⟩
  have H2 := Lib.hid (And.intro hm (And.intro (H1.out.trans (b2.mono H1.out.size)) b2.size))
  clear hm b2 HOf
  go_wp2_with fail
  refine Calls.mono (HB.out w2) ?_
  rintro r w3 ⟨rfl, b3⟩
  have HB3 := Lib.hid b3
  clear b3
  go_wp2_with fail
  have b3 := HB3.out
  obtain ⟨s, hs⟩ : ∃ s, s = w3.heap.size := ⟨_, rfl⟩
  obtain ⟨w4, hw4⟩ : ∃ w4, w4 = w3.alloc (.cells #[.pointer (some ⟨g, 0, none⟩), .int .i64 (bb : Int), .int .i64 (n : Int), .int .i64 (n : Int)] 67) := ⟨_, rfl⟩
  have hbk : Bk w4 s 67 #[.pointer (some ⟨g, 0, none⟩), .int .i64 (bb : Int), .int .i64 (n : Int), .int .i64 (n : Int)] := by rw [hw4, hs]; exact Bk.new w3 _ _
  have b34 : Below w3.heap.size w3 w4 := by rw [hw4]; exact Gw.alloc w3 _
  have hmm := H2.out.1.below b3
  have hbn : bb ≤ n := by have h1 := HX.out.2.2.2.2.2.1; have h2 := HX.out.2.2.2.2.1; have h3 := HX.out.2.2.2.2.2.2.2; omega
  have hnl : n = ws.length := HX.out.2.2.2.2.1
  have hsp : SpAt w4 w1.heap.size s g v ws bb n n := by
    have hlt := hmm.blk.lt
    exact ⟨hmm.below b34, hbk, by omega, fun h => by have := (hmm.row.lt _ h).2; omega, by have := H2.out.2.2; have := b3.size; omega, hbn, Nat.le_refl _, by omega⟩
  have b04 : Below w.heap.size w w4 := (H2.out.2.1.trans (b3.mono H2.out.2.1.size)).trans (b34.mono (by have := H2.out.2.1.size; have := b3.size; omega))
  have hfo : foundN ws n (n + 1) bb = F := by rw [HX.out.1, hnl, HX.out.2.2.2.2.2.2.2]
  have HLk := Lib.hid (look_c w4 hsp HX.out.2.2.2.1 F hfo HX.out.2.1)
  have H4 := Lib.hid (And.intro hsp (And.intro b04 (And.intro hfo hnl)))
  rw [← hw4, ← hs]
  clear b3 H2 H1 hw4 hbk b34 hmm hsp b04 hs hfo hnl hbn
  refine Calls.mono HLk.out ?_
  rintro r w5 ⟨Xb, mb, rv, lv, rfl, h5, b5⟩
  have hpg : ∀ a ∈ F.1, bb ≤ a ∧ a < n ∧ goodX (ws.getD a 0#64) (n - a) = true := fun a ha => found_good ws n (n + 1) bb a (by rw [H4.out.2.2.1]; exact ha)
  have hpl : F.1.length ≤ 8192 := by
    have h2 := found_len ws n (n + 1) bb
    rw [H4.out.2.2.1] at h2
    have := HX.out.2.2.2.1
    have := H4.out.2.2.2
    omega
  have hGl : (badF F.2 ++ allE ws F.1 F.1).length ≤ 5000 := by
    have h1 := HX.out.2.2.1
    rw [HX.out.2.2.2.2.2.2.1, List.length_append] at h1
    omega
  have HO := Lib.hid (lkobj_c w5 (wB := w4) (Bs := w1.heap.size) (s := s) (g := g) (v := v) (b := bb) (t := n) (e := n) ⟨rfl, H4.out.1⟩ b5 h5 hGl HX.out.2.2.2.1 (by rw [H4.out.2.2.2]; exact Nat.le_refl _) hpg hpl)
  have HP := Lib.hid (show ∀ a ∈ F.1, a < 8192 ∧ 1 ≤ szX (ws.getD a 0#64) from fun a ha => by
    obtain ⟨_, h2, h3⟩ := hpg a ha
    obtain ⟨_, _, _, h4, _, _⟩ := head_of h3
    have := HX.out.2.2.2.1
    have := H4.out.2.2.2
    exact ⟨by omega, by omega⟩)
  clear h5 b5 hpg hpl HLk hGl
  go_wp2_with fail
  refine Calls.mono HO.out ?_
  rintro r w6 ⟨rfl, lv2, h6, _, _, b6⟩
  have H6 := Lib.hid (And.intro h6 b6)
  clear h6 b6 HO
  have HR := Lib.hid (ckrootsG_c w6 R (wB := w4) (Bs := w1.heap.size) (s := s) (g := g) (v := v) (b := bb) (t := n) (e := n) ⟨rfl, H4.out.1⟩ H6.out.2 H6.out.1 (by rw [← HX.out.2.2.2.2.2.2.1]; have := HX.out.2.2.1; omega) HX.out.2.2.2.1 HP.out (by have := HX.out.2.2.2.2.2.1; omega))
  go_wp2_with fail
  refine Calls.mono HR.out ?_
  rintro r w7 ⟨rfl, lv3, h7, _, _, b47⟩
  rw [← HX.out.2.2.2.2.2.2.1] at h7
  obtain ⟨c0, c1, c2, c3⟩ := h7.four
  have hXl := h7.blk.lt
  obtain ⟨A, cc, e0, _⟩ := h7.fr.slice_
  obtain ⟨N, hN⟩ : ∃ N, N = G.length := ⟨_, rfl⟩
  rw [← hN] at e0
  subst e0
  have H7 := Lib.hid (And.intro h7.fr (And.intro (H4.out.2.1.trans (b47.mono H4.out.2.1.size)) (And.intro hN (show 0 + G.length ≤ 100000 by have := HX.out.2.2.1; omega))))
  clear h7 b47 hN HR H6 HP H4
  go_wp2_with (at_builtin; refine wp_appF rfl (.tmp 59) (.tmp 63) rfl rfl (FR.nil _ w.heap.size) A N cc _ rfl H7.out.2.2.1 H7.out.1.rdf H7.out.2.2.2 H7.out.2.1.size ?_; intro v8 w8 ho8 hb8 hg8 hj8; have H8 := Lib.hid (And.intro ho8 hb8); clear ho8 hb8 hg8 hj8)
  go_ret
  exact ⟨v8, rfl, H8.out.1, H7.out.2.1.trans H8.out.2⟩
theorem rightR_c (w : World) (q n c : Nat) (HI : Calls Try.prog 8 #[.slice (some ⟨q, 0, none⟩) n c] w (FiP [] w)) : Calls Try.prog 12 #[.slice (some ⟨q, 0, none⟩) n c] w (RetP (.bool true) w) := by
  have HI := Lib.hid HI
  go_enter Try.func12, Try.ntmps12
  go_wp2_with fail
  refine Calls.mono HI.out ?_
  rintro r w1 ⟨lv, rfl, h1, b1⟩
  obtain ⟨A, cc, e0, _⟩ := h1.slice_
  replace e0 : lv = .slice A 0 cc := e0
  subst e0
  have H1 := Lib.hid b1
  clear h1 b1
  go_wp2_with fail
  go_ret
  exact ⟨rfl, H1.out⟩
end Go.Proofs.Ytaminpfgkegibaa
/- 'append(row, make([]T, k)...)' on a row of the call's own: k zeros behind it. Conditions: lengths. -/
namespace Go.Proofs.Ytaminpfgkegibaa
set_option linter.unusedVariables false
set_option linter.unusedSimpArgs false
open Go.RowKit
theorem zeroCells_list (z : Value) (k : Nat) : (Builtin.zeroCells #[z] k).toList = List.replicate k z := by
  apply List.ext_getElem
  · simp [Builtin.zeroCells]
  · intro i h1 h2
    simp [Builtin.zeroCells, Nat.mod_one]
theorem zeroCells_arr (z : Value) (k : Nat) : Builtin.zeroCells #[z] k = (List.replicate k z).toArray := by
  rw [← zeroCells_list z k]
theorem infoB : (Try.prog.info? 5).map (fun i => (i.zero, i.size, i.bytes)) = some (some (.int .u8 0), 1, 1) := by kernel_rfl
end Go.Proofs.Ytaminpfgkegibaa
/- 'append([]byte(s), make([]byte, k)...)': on a row that a conversion has made. Conditions: lengths. -/
namespace Go.Proofs.Ytaminpfgkegibaa
set_option linter.unusedVariables false
set_option linter.unusedSimpArgs false
open Go.RowKit
set_option maxHeartbeats 1000000
/-- Stores into a row that bears a conversion's mark behind its last cell. -/
theorem run_storeM (P : Program) (g : Nat) (t : TypeId) (N : Nat) : ∀ (vs : List Value) (i : Nat) (o : Nat) (cur : Array Value) (w : World), w.heap[g]? = some (.cells cur t (N, N + 1)) → cur.size = N → o + i + vs.length ≤ N → (∀ v ∈ vs, v.oneCell' = true) →
    (storeCells ⟨g, o, none⟩ vs i).run P w = .ok () (w.setRow g (cur.toList.take (o + i) ++ vs ++ cur.toList.drop (o + i + vs.length)).toArray)
  | [], i, o, cur, w, hg, hN, _, _ => by
    simp only [storeCells, List.append_nil, List.length_nil, Nat.add_zero, List.take_append_drop, Array.toArray_toList]
    rw [setRow_self w g cur t (N, N + 1) hg]
    rfl
  | v :: rest, i, o, cur, w, hg, hN, hl, h1 => by
    have hi : o + i < cur.size := by simp at hl; omega
    have hadd : (⟨g, o, none⟩ : Addr).add i = ⟨g, o + i, none⟩ := by unfold Addr.add; split <;> simp_all
    have hcell : w.cell? ⟨g, o + i, none⟩ = some cur[o + i] := by simp [World.cell?, hg, hi]
    have hfro : w.frozen? ⟨g, o + i, none⟩ = false := by simp [World.frozen?, hg]; omega
    have hst : (store ((⟨g, o, none⟩ : Addr).add i) v).run P w = .ok () (w.setRow g (cur.setIfInBounds (o + i) v)) := by
      rw [hadd, run_store P w _ v _ (h1 v (by simp)), hcell]
      simp [hfro, setCell_eq_setRow w g (o + i) cur t (N, N + 1) v hg]
    have ih := run_storeM P g t N rest (i + 1) o (cur.setIfInBounds (o + i) v) (w.setRow g (cur.setIfInBounds (o + i) v)) (setRow_heap w g cur _ t _ hg) (by simpa using hN) (by simp at hl ⊢; omega) (fun x hx => h1 x (by simp [hx]))
    simp only [storeCells, Sem.run_bind, hst, Result.andThen_ok, ih, setRow_setRow]
    congr 3
    have e := list_seg_step cur.toList (o + i) v rest (by simp at hl ⊢; omega)
    simpa [Array.toList_setIfInBounds, Nat.add_assoc] using e
/-- A row with zeros behind it. -/
def ZeroP (w : World) (base : Nat) (n : Nat) (cs : List Value) (v : Value) (w' : World) : Prop :=
  ∃ q c, v = .slice (some ⟨q, 0, none⟩) n c ∧ base ≤ q ∧ q < w'.heap.size ∧ (∀ (j : Nat) (u : Value), cs[j]? = some u → w'.cell? ⟨q, j, none⟩ = some u) ∧ Below base w w'
theorem run_appM {P : Program} (w : World) (base : Nat) (t tn ty e : TypeId) (i : TypeInfo) (z : Value) (kq kn : IntKind) (ht : P.underlying t = some (.slice e)) (htn : P.underlying tn = some (.int kn)) (hi : P.info? e = some i) (hz : i.zero = some z) (hs1 : i.size = 1) (hb1 : i.bytes = 1) (hzc : z.cells = #[z]) (ho : z.oneCell' = true)
    (g n cap : Nat) (cur : Array Value) (hg : w.heap[g]? = some (.cells cur e (cur.size, cur.size + 1))) (hnc : n ≤ cap) (hcs : cap = cur.size) (xs : List Value) (hxl : xs.length = n) (htake : cur.toList.take n = xs) (k : Nat) (hk : 0 < k) (hb : n + k ≤ 1000000000) (hbase : base ≤ g) :
    ∃ v' w', (Builtin.append_ #[t, tn] ty #[.slice (some ⟨g, 0, none⟩) n cap, .int kq k]).run P w = .ok v' w' ∧ ZeroP w base (n + k) (xs ++ List.replicate k z) v' w' := by
  have hlt : g < w.heap.size := (Array.getElem?_eq_some_iff.1 hg).1
  have holds : ∀ j u, xs[j]? = some u → w.cell? ((⟨g, 0, none⟩ : Addr).add j) = some u := fun j u hu => by
    have hj : j < n := by have := (List.getElem?_eq_some_iff.1 hu).1; omega
    have ea : (⟨g, 0, none⟩ : Addr).add j = ⟨g, j, none⟩ := by unfold Addr.add; split <;> simp_all
    rw [← htake, List.getElem?_take_of_lt hj] at hu
    rw [ea]
    simp [World.cell?, hg]
    simpa using hu
  have hk0 : k ≠ 0 := by omega
  have hw : IntKind.i64.wrap (k : Int) = k := by rw [IntKind.wrap_i64]; omega
  have hneg : ¬ ((k : Int) < 0) := by omega
  by_cases hroom : n + k ≤ cap
  · have hfit : n * 1 + 0 + (List.replicate k z).length ≤ cur.size := by rw [List.length_replicate]; omega
    have hst := run_storeM P g e cur.size (List.replicate k z) 0 (n * 1) cur w hg rfl hfit (fun u hu => by rw [(List.mem_replicate.1 hu).2]; exact ho)
    simp only [Nat.add_zero, Nat.mul_one] at hst
    have h63' : ¬ (9223372036854775807 < ((n : Int) + (k : Int))) := by omega
    have h48i : ¬ (281474976710656 < (k : Int)) := by omega
    refine ⟨.slice (some ⟨g, 0, none⟩) (n + k) cap, w.setRow g (cur.toList.take n ++ List.replicate k z ++ cur.toList.drop (n + (List.replicate k z).length)).toArray, ?_, g, cap, rfl, hbase, by simpa using hlt, ?_, below_of_grown (row := some g) ⟨rfl, rfl, rfl, by simp, fun j _ hj => setRow_other w g j _ (fun e => hj (by simp [e]))⟩ (by omega) (fun j e => by injection e with e; omega)⟩
    · simp [Builtin.append_, run_underlying ht, run_underlying htn, sizeOf, typeInfo, zeroValue, hi, hz, hs1, hb1, asInt, asIntOf, hw, hk0, hneg, hroom, h63', h48i, Question.forced, hzc, zeroCells_list, zeroCells_arr, Addr.add_lit, hst]
    · intro j u hu
      rw [cell_setRow_same w g j _ _ e _ hg, htake]
      have hj := (List.getElem?_eq_some_iff.1 hu).1
      rw [List.getElem?_toArray, List.getElem?_append_left hj]
      exact hu
  · have hf : (Builtin.firstCells i.size n (.slice (some ⟨g, 0, none⟩) n cap)).run P w.drew = .ok xs.toArray w.drew :=
      run_firstCells_some (P := P) w.drew i.size n ⟨g, 0, none⟩ n cap xs (by rw [hs1]; omega) holds
    have hr := Lib.run_append_grow_zeros (P := P) w t tn ty e i z kq kn ht htn hi hz (some ⟨g, 0, none⟩) n cap xs hf k hk (by omega) (by omega) (by omega) (by rw [hb1]; omega) (growslice_fits (by omega) (by rw [hb1]; omega))
    rw [hzc, zeroCells_arr] at hr
    refine ⟨_, _, hr, w.heap.size, _, rfl, by omega, ?_, ?_, ?_⟩
    · simp
    · intro j u hu
      have hj := (List.getElem?_eq_some_iff.1 hu).1
      have hh := heap_alloc_new w.drew (.cells (xs.toArray ++ (List.replicate k z).toArray ++ Builtin.zeroCells #[z] (grownCap w (n + k) cap e - (n + k))) e)
      rw [cell_of_row _ w.heap.size j _ e _ hh]
      rw [← Array.getElem?_toList, Array.toList_append, Array.toList_append]
      rw [List.getElem?_append_left (by simpa using hj)]
      simpa using hu
    · exact ((Gw.drew w).trans ((Gw.alloc w.drew _).mono (Gw.drew w).size)).mono (by omega)
end Go.Proofs.Ytaminpfgkegibaa
/- loamref17.Encode: the region that makes a name's bytes. Conditions: the name's length. -/
namespace Go.Proofs.Ytaminpfgkegibaa
set_option linter.unusedVariables false
set_option linter.unusedSimpArgs false
open Go.RowKit
set_option maxHeartbeats 4000000
set_option maxRecDepth 100000
/-- A row that a conversion of a string has made. -/
def CvV (s : ByteArray) (B : Nat) (v : Value) (w : World) : Prop :=
  ∃ g cur, v = .slice (some ⟨g, 0, none⟩) s.size cur.size ∧ B ≤ g ∧ w.heap[g]? = some (.cells cur 5 (cur.size, cur.size + 1)) ∧ s.size ≤ cur.size ∧ cur.toList.take s.size = s.data.toList.map (fun b => Value.int .u8 b.toNat)
theorem CvV.mono {s : ByteArray} {B : Nat} {v : Value} {a b : World} (h : CvV s B v a) (hg : Below a.heap.size a b) : CvV s B v b := by
  obtain ⟨g, cur, e, hB, hh, h2⟩ := h
  exact ⟨g, cur, e, hB, (hg.block g (Array.getElem?_eq_some_iff.1 hh).1).trans hh, h2⟩
theorem cv_new (s : ByteArray) (w : World) (B : Nat) (hB : B ≤ w.heap.size) (c : Nat) (hc : s.size ≤ c) :
    CvV s B (.slice (some ⟨w.heap.size, 0, none⟩) s.size c) (w.drew.alloc (.cells (bytesRow s c) 5 ((bytesRow s c).size, (bytesRow s c).size + 1))) := by
  have hsz : (bytesRow s c).size = c := by
    have e : s.data.size = s.size := rfl
    unfold bytesRow
    simp [e]
    omega
  refine ⟨w.heap.size, bytesRow s c, by rw [hsz], hB, heap_alloc_new w.drew _, by rw [hsz]; exact hc, ?_⟩
  have e : s.data.toList.length = s.size := rfl
  unfold bytesRow
  rw [Array.toList_append, List.take_append_of_le_length (by simp), Array.toList_map, ← List.map_take, List.take_of_length_le (by rw [e]; exact Nat.le_refl _)]
theorem grownCap_ge0 (s : ByteArray) (w : World) : s.size ≤ grownCap w s.size 0 5 := grownCap_ge w s.size 0 5
theorem en17 (Q : Exit → Act → World → Prop) (a0 : Act) (w : World) (G k M c2 : Nat) (ad : Addr) (s : ByteArray) (hGl : G < w.heap.size) (g1 : w.cell? ⟨G, 1, none⟩ = some (.slice (some ad) M c2)) (hl : (ad.add (k * 2)).block < w.heap.size) (cs : w.cell? (ad.add (k * 2)) = some (.string s)) (hs : s.size ≤ 32) (p0 : (0 : Int) ≤ (k : Int)) (p1 : (k : Int) < (M : Int)) (p2 : (M : Int) ≤ 100000) (hsz : a0.tmps.size = 145) (sl1 : a0.tmps.getD 1 undef = .pointer (some ⟨G, 0, none⟩)) (sl9 : a0.tmps.getD 9 undef = .int .i64 (k : Int))
    (fin : ∀ (vals : Nat → Value) (w1 : World), Below w.heap.size w w1 → (CvV s w.heap.size) (vals 6) w1 → (IsV (.int .i64 (32 - (s.size : Int)))) (vals 14) w1 → wpList Try.prog #[{ dst := some 79, op := Go.Op.call { callee := Go.Callee.builtin Go.Builtin.append, args := #[Go.Operand.tmp 70, Go.Operand.tmp 78], argTypes := #[95, 3] }, type := 95, pos := "", after := #[], guard := none }] (SpineQ (putD vals [64, 65, 66, 67, 68, 69, 70, 71, 72, 73, 74, 75, 76, 77, 78] 0 a0).defers (fun _ => True) (fun a w => wpList Try.prog #[{ dst := some 10, op := Go.Op.assign (Go.Operand.tmp 79), type := 95, pos := "", after := #[], guard := none }] Q [{ dst := some 10, op := Go.Op.assign (Go.Operand.tmp 79), type := 95, pos := "", after := #[], guard := none }] a w)) [{ dst := some 79, op := Go.Op.call { callee := Go.Callee.builtin Go.Builtin.append, args := #[Go.Operand.tmp 70, Go.Operand.tmp 78], argTypes := #[95, 3] }, type := 95, pos := "", after := #[], guard := none }] (putD vals [64, 65, 66, 67, 68, 69, 70, 71, 72, 73, 74, 75, 76, 77, 78] 0 a0) w1) :
    (Code.region 17 (regIn Try.f18 17) true).wp Try.prog Q a0 w := by
  refine region_by_tail2 (m := 15) (G := fun w w1 => Below w.heap.size w w1) [IsV (.pointer (some ⟨G, 1, none⟩)),
    IsV (.slice (some ad) M c2),
    IsV (.int .i64 (k : Int)),
    IsV (.pointer (some (ad.add (k * 2)))),
    IsV (.pointer (some (ad.add (k * 2)))),
    IsV (.string s),
    CvV s w.heap.size,
    IsV (.pointer (some ⟨G, 1, none⟩)),
    IsV (.slice (some ad) M c2),
    IsV (.int .i64 (k : Int)),
    IsV (.pointer (some (ad.add (k * 2)))),
    IsV (.pointer (some (ad.add (k * 2)))),
    IsV (.string s),
    IsV (.int .i64 (s.size : Int)),
    IsV (.int .i64 (32 - (s.size : Int)))]
    [64, 65, 66, 67, 68, 69, 70, 71, 72, 73, 74, 75, 76, 77, 78] (by kernel_rfl) (Gw.drew _) Gw.trans (by rw [hsz]; kernel_rfl) (by kernel_rfl) ?_ ?_ ?_
  · intro f hf
    simp only [List.mem_cons, List.not_mem_nil, or_false] at hf
    rcases hf with rfl | rfl | rfl | rfl | rfl | rfl | rfl | rfl | rfl | rfl | rfl | rfl | rfl | rfl | rfl <;> intro v a b h g <;> first | exact IsV.mono h | exact CvV.mono h g
  · refine ⟨?_, ?_, ?_, ?_, ?_, ?_, ?_, ?_, ?_, ?_, ?_, ?_, ?_, ?_, ?_, trivial⟩
    · refine owes_v (Go.Op.fieldAddr 52 (Go.Operand.tmp 1) 1) 0 [] (by kernel_rfl) (by kernel_rfl) (by kernel_rfl) rfl fun vals w1 ρ hG hF hρ hcst hfun => ?_
      have e1 : ρ (.tmp 1) = .pointer (some ⟨G, 0, none⟩) := ((hρ 1).trans (slotO [] (by kernel_rfl))).trans sl1
      clear hρ hF hcst hfun sl1 sl9 fin
      exact opv_val (by go_simp <;> rfl) ⟨gw_self _, rfl⟩
    · refine owes_v (Go.Op.load 50 (Go.Operand.tmp 64)) 50 [0] (by kernel_rfl) (by kernel_rfl) (by kernel_rfl) rfl fun vals w1 ρ hG hF hρ hcst hfun => ?_
      have e64 : ρ (.tmp 64) = .pointer (some ⟨G, 1, none⟩) := ((hρ 64).trans (slotJ [0] (by rw [hsz]; decide) (by kernel_rfl))).trans (hF 0 (by decide))
      have kk := (hG.cell (p := ⟨G, 1, none⟩) hGl).trans g1
      clear hρ hF hcst hfun sl1 sl9 fin
      exact opv_val (by go_simp <;> rfl) ⟨gw_self _, rfl⟩
    · exact owes_mv 9 (by kernel_rfl) (by kernel_rfl) (by kernel_rfl) sl9 (fun _ => rfl)
    · refine owes_v (Go.Op.indexAddr 50 (Go.Operand.tmp 65) (Go.Operand.tmp 66)) 0 [1, 2] (by kernel_rfl) (by kernel_rfl) (by kernel_rfl) rfl fun vals w1 ρ hG hF hρ hcst hfun => ?_
      have e65 : ρ (.tmp 65) = .slice (some ad) M c2 := ((hρ 65).trans (slotJ [1, 2] (by rw [hsz]; decide) (by kernel_rfl))).trans (hF 1 (by decide))
      have e66 : ρ (.tmp 66) = .int .i64 (k : Int) := ((hρ 66).trans (slotJ [1, 2] (by rw [hsz]; decide) (by kernel_rfl))).trans (hF 2 (by decide))
      clear hρ hF hcst hfun sl1 sl9 fin
      exact opv_val (by go_simp <;> rfl) ⟨gw_self _, rfl⟩
    · refine owes_v (Go.Op.fieldAddr 103 (Go.Operand.tmp 67) 0) 0 [3] (by kernel_rfl) (by kernel_rfl) (by kernel_rfl) rfl fun vals w1 ρ hG hF hρ hcst hfun => ?_
      have e67 : ρ (.tmp 67) = .pointer (some (ad.add (k * 2))) := ((hρ 67).trans (slotJ [3] (by rw [hsz]; decide) (by kernel_rfl))).trans (hF 3 (by decide))
      clear hρ hF hcst hfun sl1 sl9 fin
      exact opv_val (by go_simp <;> rfl) ⟨gw_self _, rfl⟩
    · refine owes_v (Go.Op.load 9 (Go.Operand.tmp 68)) 9 [4] (by kernel_rfl) (by kernel_rfl) (by kernel_rfl) rfl fun vals w1 ρ hG hF hρ hcst hfun => ?_
      have e68 : ρ (.tmp 68) = .pointer (some (ad.add (k * 2))) := ((hρ 68).trans (slotJ [4] (by rw [hsz]; decide) (by kernel_rfl))).trans (hF 4 (by decide))
      have kk := (hG.cell (p := ad.add (k * 2)) hl).trans cs
      clear hρ hF hcst hfun sl1 sl9 fin
      exact opv_val (by go_simp <;> rfl) ⟨gw_self _, rfl⟩
    · refine owes_v (Go.Op.convert 9 95 (Go.Operand.tmp 69)) 95 [5] (by kernel_rfl) (by kernel_rfl) (by kernel_rfl) rfl fun vals w1 ρ hG hF hρ hcst hfun => ?_
      have e69 : ρ (.tmp 69) = .string s := ((hρ 69).trans (slotJ [5] (by rw [hsz]; decide) (by kernel_rfl))).trans (hF 5 (by decide))
      clear hρ hF hcst hfun sl1 sl9 fin
      exact opv_val (by go_simp; simp only [run_bytes_of_string _ _ _ _ s Try.underlying9 Try.underlying95 Try.underlying5]; rfl) ⟨(Gw.drew _).trans ((Gw.alloc _ _).mono (Gw.drew _).size), cv_new s _ _ hG.size _ (grownCap_ge0 s _)⟩
    · refine owes_v (Go.Op.fieldAddr 52 (Go.Operand.tmp 1) 1) 0 [] (by kernel_rfl) (by kernel_rfl) (by kernel_rfl) rfl fun vals w1 ρ hG hF hρ hcst hfun => ?_
      have e1 : ρ (.tmp 1) = .pointer (some ⟨G, 0, none⟩) := ((hρ 1).trans (slotO [] (by kernel_rfl))).trans sl1
      clear hρ hF hcst hfun sl1 sl9 fin
      exact opv_val (by go_simp <;> rfl) ⟨gw_self _, rfl⟩
    · refine owes_v (Go.Op.load 50 (Go.Operand.tmp 71)) 50 [7] (by kernel_rfl) (by kernel_rfl) (by kernel_rfl) rfl fun vals w1 ρ hG hF hρ hcst hfun => ?_
      have e71 : ρ (.tmp 71) = .pointer (some ⟨G, 1, none⟩) := ((hρ 71).trans (slotJ [7] (by rw [hsz]; decide) (by kernel_rfl))).trans (hF 7 (by decide))
      have kk := (hG.cell (p := ⟨G, 1, none⟩) hGl).trans g1
      clear hρ hF hcst hfun sl1 sl9 fin
      exact opv_val (by go_simp <;> rfl) ⟨gw_self _, rfl⟩
    · exact owes_mv 9 (by kernel_rfl) (by kernel_rfl) (by kernel_rfl) sl9 (fun _ => rfl)
    · refine owes_v (Go.Op.indexAddr 50 (Go.Operand.tmp 72) (Go.Operand.tmp 73)) 0 [8, 9] (by kernel_rfl) (by kernel_rfl) (by kernel_rfl) rfl fun vals w1 ρ hG hF hρ hcst hfun => ?_
      have e72 : ρ (.tmp 72) = .slice (some ad) M c2 := ((hρ 72).trans (slotJ [8, 9] (by rw [hsz]; decide) (by kernel_rfl))).trans (hF 8 (by decide))
      have e73 : ρ (.tmp 73) = .int .i64 (k : Int) := ((hρ 73).trans (slotJ [8, 9] (by rw [hsz]; decide) (by kernel_rfl))).trans (hF 9 (by decide))
      clear hρ hF hcst hfun sl1 sl9 fin
      exact opv_val (by go_simp <;> rfl) ⟨gw_self _, rfl⟩
    · refine owes_v (Go.Op.fieldAddr 103 (Go.Operand.tmp 74) 0) 0 [10] (by kernel_rfl) (by kernel_rfl) (by kernel_rfl) rfl fun vals w1 ρ hG hF hρ hcst hfun => ?_
      have e74 : ρ (.tmp 74) = .pointer (some (ad.add (k * 2))) := ((hρ 74).trans (slotJ [10] (by rw [hsz]; decide) (by kernel_rfl))).trans (hF 10 (by decide))
      clear hρ hF hcst hfun sl1 sl9 fin
      exact opv_val (by go_simp <;> rfl) ⟨gw_self _, rfl⟩
    · refine owes_v (Go.Op.load 9 (Go.Operand.tmp 75)) 9 [11] (by kernel_rfl) (by kernel_rfl) (by kernel_rfl) rfl fun vals w1 ρ hG hF hρ hcst hfun => ?_
      have e75 : ρ (.tmp 75) = .pointer (some (ad.add (k * 2))) := ((hρ 75).trans (slotJ [11] (by rw [hsz]; decide) (by kernel_rfl))).trans (hF 11 (by decide))
      have kk := (hG.cell (p := ad.add (k * 2)) hl).trans cs
      clear hρ hF hcst hfun sl1 sl9 fin
      exact opv_val (by go_simp <;> rfl) ⟨gw_self _, rfl⟩
    · refine owes_v (Go.Op.call { callee := Go.Callee.builtin Go.Builtin.len, args := #[Go.Operand.tmp 76], argTypes := #[9] }) 3 [12] (by kernel_rfl) (by kernel_rfl) (by kernel_rfl) rfl fun vals w1 ρ hG hF hρ hcst hfun => ?_
      have e76 : ρ (.tmp 76) = .string s := ((hρ 76).trans (slotJ [12] (by rw [hsz]; decide) (by kernel_rfl))).trans (hF 12 (by decide))
      clear hρ hF hcst hfun sl1 sl9 fin
      exact opv_val (by go_simp <;> rfl) ⟨gw_self _, rfl⟩
    · refine owes_v (Go.Op.binOp Go.BinOp.sub 3 (Go.Operand.const (Go.Value.int Go.IntKind.i64 32)) (Go.Operand.tmp 77) 3) 3 [13] (by kernel_rfl) (by kernel_rfl) (by kernel_rfl) rfl fun vals w1 ρ hG hF hρ hcst hfun => ?_
      have e77 : ρ (.tmp 77) = .int .i64 (s.size : Int) := ((hρ 77).trans (slotJ [13] (by rw [hsz]; decide) (by kernel_rfl))).trans (hF 13 (by decide))
      have kw0 : IntKind.i64.wrap ((32 - (s.size : Int))) = (32 - (s.size : Int)) := wrapIn (by omega) (by omega)
      clear hρ hF hfun sl1 sl9 fin
      exact opv_val (by go_simp <;> rfl) ⟨gw_self _, rfl⟩
  · intro vals w1 hG hF
    exact next_spine2 (by kernel_rfl) (by kernel_rfl) (by kernel_rfl) (by kernel_rfl) (by kernel_rfl) (by kernel_rfl) (fin vals w1 hG (hF 6 (by decide +kernel)) (hF 14 (by decide +kernel)))
end Go.Proofs.Ytaminpfgkegibaa
