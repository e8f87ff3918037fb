/- The law MemBytes of layer 13 returns true for every argument. No conditions. -/
import Derived.Test.YtobcpcobgdmleaaMmL
import Derived.Test.YtobcpcobgdmleaaStr
import Derived.Test.YtobcpcobgdmleaaFrame
namespace Go.Proofs.Ytobcpcobgdmleaa
set_option linter.unusedVariables false
set_option linter.unusedSimpArgs false
open Go.RowKit
def setL (xs : List (BitVec 8)) (a : Nat) (bs : List (BitVec 8)) : Nat → List (BitVec 8)
  | 0 => xs
  | k + 1 => (setL xs a bs k).set (a + k) (bs.getD k 0#8)
theorem setL_len (xs : List (BitVec 8)) (a : Nat) (bs : List (BitVec 8)) (k : Nat) : (setL xs a bs k).length = xs.length := by
  induction k with
  | zero => rfl
  | succ k ih => show (List.set _ _ _).length = _; rw [List.length_set, ih]
theorem setL_get (xs : List (BitVec 8)) (a : Nat) (bs : List (BitVec 8)) (j : Nat) (hj : j < xs.length) : ∀ k, (setL xs a bs k).getD j 0#8 = if a ≤ j ∧ j < a + k then bs.getD (j - a) 0#8 else xs.getD j 0#8
  | 0 => by
    rw [if_neg (by omega)]; rfl
  | k + 1 => by
    show ((setL xs a bs k).set (a + k) (bs.getD k 0#8)).getD j 0#8 = _
    rw [List.getD_eq_getElem?_getD, List.getElem?_set]
    by_cases e : a + k = j
    · subst e
      rw [if_pos rfl, if_pos (by rw [setL_len]; exact hj), if_pos (by omega)]
      show bs.getD k 0#8 = _
      congr 1; omega
    · rw [if_neg e, ← List.getD_eq_getElem?_getD, setL_get xs a bs j hj k]
      by_cases c : a ≤ j ∧ j < a + k
      · rw [if_pos c, if_pos (by omega)]
      · rw [if_neg c, if_neg (by omega)]
theorem bytesM_len (ws : List (BitVec 64)) (a n : Nat) : (bytesM ws a n).length = n := by simp [bytesM]
theorem bytesM_get (ws : List (BitVec 64)) (a n j : Nat) (h : j < (bytesM ws a n).length) : (bytesM ws a n)[j] = byteAt ws (a + j) := by simp [bytesM]
theorem lowN_get (v : BitVec 64) (n j : Nat) (h : j < (lowN v n).length) : (lowN v n)[j] = (v >>> (8 * j)).setWidth 8 := by simp [lowN]
/-- The bytes of the words are the bytes of the row. -/
theorem bytes_row (ws : List (BitVec 64)) (xs : List (BitVec 8)) (a : Nat) (bs : List (BitVec 8)) (hx : xs.length = 8 * ws.length) (h : a + bs.length ≤ xs.length) :
    bytesM (putK (putK ws 0 xs xs.length) a bs bs.length) 0 xs.length = setL xs a bs bs.length := by
  apply List.ext_getElem
  · rw [setL_len, bytesM_len]
  · intro j h1 h2
    have hj : j < xs.length := by rw [setL_len] at h2; exact h2
    have e2 : (setL xs a bs bs.length)[j] = (setL xs a bs bs.length).getD j 0#8 := by
      rw [List.getD_eq_getElem?_getD, List.getElem?_eq_getElem h2]; rfl
    rw [bytesM_get, Nat.zero_add, e2, byteAt_putK _ _ _ _ _ (by rw [putK_len]; omega), setL_get _ _ _ _ hj]
    split
    · rfl
    · rw [byteAt_putK _ _ _ _ _ (by omega), if_pos (by omega), Nat.sub_zero]
theorem low_bytes (ws : List (BitVec 64)) (h : 0 < ws.length) (n : Nat) (hn : 8 ≤ n) : lowN ws[0] 8 = (bytesM ws 0 n).take 8 := by
  apply List.ext_getElem
  · rw [lowN_len, List.length_take, bytesM_len]; omega
  · intro j h1 h2
    have h3 := h1
    rw [lowN_len] at h3
    rw [List.getElem_take, lowN_get, bytesM_get, Nat.zero_add]
    unfold byteAt
    rw [show j / 8 = 0 from by omega, show j % 8 = j from by omega, List.getD_eq_getElem?_getD, List.getElem?_eq_getElem h]
    rfl
theorem conv_slv {xs : List (BitVec 8)} {v : Value} {w : World} (h : SlV b8 xs v w) : (convert 30 9 v).run Try.prog w = .ok (.string (strB xs)) w := by
  obtain ⟨A, c, rfl, _, hr⟩ := h
  exact str_conv xs A c _ w hr
theorem of_mkp {P : Program} {g : FuncId} {args : Array Value} {xs : List (BitVec 8)} {w : World} (h : Calls P g args w (MkP b8 5 xs w)) : Calls P g args w fun e w2 => ∃ u, e = .returned u ∧ Below w.heap.size w w2 ∧ SlV b8 xs u w2 :=
  h.mono fun e w2 h => by
    obtain ⟨A, c, rfl, hc, hr, hb⟩ := h
    exact ⟨_, rfl, hb, A, c, rfl, hc, hr.rd⟩
theorem beqS (s : ByteArray) : (s.toList == s.toList) = true := beq_self_eq_true _
attribute [local go_sem] beqS
set_option maxHeartbeats 400000
set_option maxRecDepth 100000
theorem mb_reg (Q : Exit → Act → World → Prop) (a0 : Act) (w : World) (A1 : Option Addr) (q c1 : Nat) (xs : List (BitVec 8)) (y : BitVec 64) (hn : xs.length = 400) (h1 : Rd b8 w w.heap.size A1 xs) (h2 : Rd b8 w w.heap.size (some ⟨q, 0, none⟩) xs) (h3 : lowN y 8 = xs.take 8) (hsz : a0.tmps.size = 100) (sl9 : a0.tmps.getD 9 undef = .slice (some ⟨q, 0, none⟩) 400 400) (sl12 : a0.tmps.getD 12 undef = .slice A1 400 c1) (sl13 : a0.tmps.getD 13 undef = .int .i64 0) (sl14 : a0.tmps.getD 14 undef = .int .u64 (U64 y)) (sl15 : a0.tmps.getD 15 undef = .int .i64 0)
    (fin : ∀ (vals : Nat → Value) (w1 : World), Below w.heap.size w w1 → (IsV (.bool true)) (vals 20) w1 → Q .normal (putD vals [80, 81, 82, 83, 84, 85, 86, 87, 88, 89, 90, 91, 92, 93, 94, 95, 96, 97, 98, 99, 6] 0 a0) w1) :
    (Code.region 19 (regIn Try.f4 19) true).wp Try.prog Q a0 w := by
  refine region_by (G := fun w w1 => Below w.heap.size w w1) [IsV (.int .i64 0),
    IsV (.int .i64 0),
    IsV (.int .i64 0),
    IsV (.bool true),
    IsV (.bool true),
    IsV (.slice A1 400 c1),
    IsV (.string (strB xs)),
    IsV (.slice (some ⟨q, 0, none⟩) 400 400),
    IsV (.string (strB xs)),
    IsV (.bool true),
    IsV (.bool true),
    IsV (.bool true),
    IsV (.int .u64 (U64 y)),
    SlV b8 (xs.take 8),
    IsV (.string (strB (xs.take 8))),
    IsV (.slice (some ⟨q, 0, none⟩) 400 400),
    IsV (.slice (some ⟨q, 0, none⟩) 8 400),
    IsV (.string (strB (xs.take 8))),
    IsV (.bool true),
    IsV (.bool true),
    IsV (.bool true)]
    [80, 81, 82, 83, 84, 85, 86, 87, 88, 89, 90, 91, 92, 93, 94, 95, 96, 97, 98, 99, 6] (by kernel_rfl) (Gw.drew _) Gw.trans (by rw [hsz]; kernel_rfl) (by kernel_rfl) ?_ ?_ ?_
  · intro f hf
    simp only [List.mem_cons, List.not_mem_nil, or_false] at hf
    rcases hf with rfl | rfl | rfl | rfl | rfl | rfl | rfl | rfl | rfl | rfl | rfl | rfl | rfl | rfl | rfl | rfl | rfl | rfl | rfl | rfl | rfl <;> intro v a b h g <;> first | exact IsV.mono h | exact SlV.mono h g
  · refine ⟨?_, ?_, ?_, ?_, ?_, ?_, ?_, ?_, ?_, ?_, ?_, ?_, ?_, ?_, ?_, ?_, ?_, ?_, ?_, ?_, ?_, trivial⟩
    · exact owes_mv 13 (by kernel_rfl) (by kernel_rfl) (by kernel_rfl) sl13 (fun _ => rfl)
    · exact owes_mv 15 (by kernel_rfl) (by kernel_rfl) (by kernel_rfl) sl15 (fun _ => rfl)
    · refine owes_v (Go.Op.binOp Go.BinOp.add 3 (Go.Operand.tmp 80) (Go.Operand.tmp 81) 3) 3 [0, 1] (by kernel_rfl) (by kernel_rfl) (by kernel_rfl) rfl fun vals w1 ρ hG hF hρ hcst hfun => ?_
      have e80 : ρ (.tmp 80) = .int .i64 0 := ((hρ 80).trans (slotJ [0, 1] (by rw [hsz]; decide) (by kernel_rfl))).trans (hF 0 (by decide))
      have e81 : ρ (.tmp 81) = .int .i64 0 := ((hρ 81).trans (slotJ [0, 1] (by rw [hsz]; decide) (by kernel_rfl))).trans (hF 1 (by decide))
      clear hρ hF hcst hfun sl9 sl12 sl13 sl14 sl15 fin
      exact opv_val (by go_simp <;> rfl) ⟨gw_self _, rfl⟩
    · refine owes_v (Go.Op.binOp Go.BinOp.eql 3 (Go.Operand.tmp 82) (Go.Operand.const (Go.Value.int Go.IntKind.i64 0)) 3) 4 [2] (by kernel_rfl) (by kernel_rfl) (by kernel_rfl) rfl fun vals w1 ρ hG hF hρ hcst hfun => ?_
      have e82 : ρ (.tmp 82) = .int .i64 0 := ((hρ 82).trans (slotJ [2] (by rw [hsz]; decide) (by kernel_rfl))).trans (hF 2 (by decide))
      clear hρ hF hfun sl9 sl12 sl13 sl14 sl15 fin
      exact opv_val (by go_simp <;> rfl) ⟨gw_self _, rfl⟩
    · exact owes_mvj 3 83 (by kernel_rfl) (by kernel_rfl) (by kernel_rfl) (by kernel_rfl) (by rw [hsz]; decide) (fun v w h => h)
    · refine owes_vt 4 true (Go.Op.move (Go.Operand.tmp 12)) 30 [] (by kernel_rfl) (by kernel_rfl) (by kernel_rfl) (fun _ _ h => h) (by rw [hsz]; kernel_rfl) (by kernel_rfl) rfl fun vals w1 ρ hG hF hρ hcst hfun => ?_
      have e12 : ρ (.tmp 12) = .slice A1 400 c1 := ((hρ 12).trans (slotO [] (by kernel_rfl))).trans sl12
      clear hρ hF hcst hfun sl9 sl12 sl13 sl14 sl15 fin
      exact opv_val (by go_simp <;> rfl) ⟨gw_self _, rfl⟩
    · refine owes_vt 4 true (Go.Op.convert 30 9 (Go.Operand.tmp 85)) 9 [5] (by kernel_rfl) (by kernel_rfl) (by kernel_rfl) (fun _ _ h => h) (by rw [hsz]; kernel_rfl) (by kernel_rfl) rfl fun vals w1 ρ hG hF hρ hcst hfun => ?_
      have e85 : ρ (.tmp 85) = .slice A1 400 c1 := ((hρ 85).trans (slotJ [5] (by rw [hsz]; decide) (by kernel_rfl))).trans (hF 5 (by decide))
      have k := str_conv xs A1 c1 _ w1 (h1.below hG)
      rw [hn] at k
      clear hρ hF hcst hfun sl9 sl12 sl13 sl14 sl15 fin
      exact opv_val (by go_simp <;> rfl) ⟨gw_self _, rfl⟩
    · refine owes_vt 4 true (Go.Op.move (Go.Operand.tmp 9)) 30 [] (by kernel_rfl) (by kernel_rfl) (by kernel_rfl) (fun _ _ h => h) (by rw [hsz]; kernel_rfl) (by kernel_rfl) rfl fun vals w1 ρ hG hF hρ hcst hfun => ?_
      have e9 : ρ (.tmp 9) = .slice (some ⟨q, 0, none⟩) 400 400 := ((hρ 9).trans (slotO [] (by kernel_rfl))).trans sl9
      clear hρ hF hcst hfun sl9 sl12 sl13 sl14 sl15 fin
      exact opv_val (by go_simp <;> rfl) ⟨gw_self _, rfl⟩
    · refine owes_vt 4 true (Go.Op.convert 30 9 (Go.Operand.tmp 87)) 9 [7] (by kernel_rfl) (by kernel_rfl) (by kernel_rfl) (fun _ _ h => h) (by rw [hsz]; kernel_rfl) (by kernel_rfl) rfl fun vals w1 ρ hG hF hρ hcst hfun => ?_
      have e87 : ρ (.tmp 87) = .slice (some ⟨q, 0, none⟩) 400 400 := ((hρ 87).trans (slotJ [7] (by rw [hsz]; decide) (by kernel_rfl))).trans (hF 7 (by decide))
      have k := str_conv xs (some ⟨q, 0, none⟩) 400 _ w1 (h2.below hG)
      rw [hn] at k
      clear hρ hF hcst hfun sl9 sl12 sl13 sl14 sl15 fin
      exact opv_val (by go_simp <;> rfl) ⟨gw_self _, rfl⟩
    · refine owes_vt 4 true (Go.Op.binOp Go.BinOp.eql 9 (Go.Operand.tmp 86) (Go.Operand.tmp 88) 9) 4 [6, 8] (by kernel_rfl) (by kernel_rfl) (by kernel_rfl) (fun _ _ h => h) (by rw [hsz]; kernel_rfl) (by kernel_rfl) rfl fun vals w1 ρ hG hF hρ hcst hfun => ?_
      have e86 : ρ (.tmp 86) = .string (strB xs) := ((hρ 86).trans (slotJ [6, 8] (by rw [hsz]; decide) (by kernel_rfl))).trans (hF 6 (by decide))
      have e88 : ρ (.tmp 88) = .string (strB xs) := ((hρ 88).trans (slotJ [6, 8] (by rw [hsz]; decide) (by kernel_rfl))).trans (hF 8 (by decide))
      clear hρ hF hcst hfun sl9 sl12 sl13 sl14 sl15 fin
      exact opv_val (by go_simp <;> rfl) ⟨gw_self _, rfl⟩
    · refine owes_v (Go.Op.pick (Go.Operand.tmp 84) (Go.Operand.tmp 89) (Go.Operand.const (Go.Value.bool false))) 4 [4, 9] (by kernel_rfl) (by kernel_rfl) (by kernel_rfl) rfl fun vals w1 ρ hG hF hρ hcst hfun => ?_
      have e84 : ρ (.tmp 84) = .bool true := ((hρ 84).trans (slotJ [4, 9] (by rw [hsz]; decide) (by kernel_rfl))).trans (hF 4 (by decide))
      have e89 : ρ (.tmp 89) = .bool true := ((hρ 89).trans (slotJ [4, 9] (by rw [hsz]; decide) (by kernel_rfl))).trans (hF 9 (by decide))
      clear hρ hF hfun sl9 sl12 sl13 sl14 sl15 fin
      exact opv_val (by go_simp <;> rfl) ⟨gw_self _, rfl⟩
    · exact owes_mvj 10 90 (by kernel_rfl) (by kernel_rfl) (by kernel_rfl) (by kernel_rfl) (by rw [hsz]; decide) (fun v w h => h)
    · refine owes_vt 11 true (Go.Op.move (Go.Operand.tmp 14)) 29 [] (by kernel_rfl) (by kernel_rfl) (by kernel_rfl) (fun _ _ h => h) (by rw [hsz]; kernel_rfl) (by kernel_rfl) rfl fun vals w1 ρ hG hF hρ hcst hfun => ?_
      have e14 : ρ (.tmp 14) = .int .u64 (U64 y) := ((hρ 14).trans (slotO [] (by kernel_rfl))).trans sl14
      clear hρ hF hcst hfun sl9 sl12 sl13 sl14 sl15 fin
      exact opv_val (by go_simp <;> rfl) ⟨gw_self _, rfl⟩
    · refine owes_vt 11 true (Go.Op.call { callee := Go.Callee.value (Go.Operand.func 22), args := #[Go.Operand.tmp 92, Go.Operand.const (Go.Value.int Go.IntKind.i64 8)], argTypes := #[29, 3] }) 30 [12] (by kernel_rfl) (by kernel_rfl) (by kernel_rfl) (fun _ _ h => h) (by rw [hsz]; kernel_rfl) (by kernel_rfl) rfl fun vals w1 ρ hG hF hρ hcst hfun => ?_
      have e92 : ρ (.tmp 92) = .int .u64 (U64 y) := ((hρ 92).trans (slotJ [12] (by rw [hsz]; decide) (by kernel_rfl))).trans (hF 12 (by decide))
      have kl := low_c y 8 (by decide) w1
      rw [h3] at kl
      clear hρ hF sl9 sl12 sl13 sl14 sl15 fin
      exact opv_enter (by go_simp <;> rfl) (of_mkp kl)
    · refine owes_vt 11 true (Go.Op.convert 30 9 (Go.Operand.tmp 93)) 9 [13] (by kernel_rfl) (by kernel_rfl) (by kernel_rfl) (fun _ _ h => h) (by rw [hsz]; kernel_rfl) (by kernel_rfl) rfl fun vals w1 ρ hG hF hρ hcst hfun => ?_
      have f93 : (SlV b8 (xs.take 8)) (vals 13) w1 := hF 13 (by decide)
      have e93 : ρ (.tmp 93) = vals 13 := (hρ 93).trans (slotJ [13] (by rw [hsz]; decide) (by kernel_rfl))
      have k := conv_slv f93
      clear hρ hF hcst hfun sl9 sl12 sl13 sl14 sl15 fin
      exact opv_val (by go_simp <;> rfl) ⟨gw_self _, rfl⟩
    · refine owes_vt 11 true (Go.Op.move (Go.Operand.tmp 9)) 30 [] (by kernel_rfl) (by kernel_rfl) (by kernel_rfl) (fun _ _ h => h) (by rw [hsz]; kernel_rfl) (by kernel_rfl) rfl fun vals w1 ρ hG hF hρ hcst hfun => ?_
      have e9 : ρ (.tmp 9) = .slice (some ⟨q, 0, none⟩) 400 400 := ((hρ 9).trans (slotO [] (by kernel_rfl))).trans sl9
      clear hρ hF hcst hfun sl9 sl12 sl13 sl14 sl15 fin
      exact opv_val (by go_simp <;> rfl) ⟨gw_self _, rfl⟩
    · refine owes_vt 11 true (Go.Op.slice 30 (Go.Operand.tmp 95) none (some (Go.Operand.const (Go.Value.int Go.IntKind.i64 8))) none) 30 [15] (by kernel_rfl) (by kernel_rfl) (by kernel_rfl) (fun _ _ h => h) (by rw [hsz]; kernel_rfl) (by kernel_rfl) rfl fun vals w1 ρ hG hF hρ hcst hfun => ?_
      have e95 : ρ (.tmp 95) = .slice (some ⟨q, 0, none⟩) 400 400 := ((hρ 95).trans (slotJ [15] (by rw [hsz]; decide) (by kernel_rfl))).trans (hF 15 (by decide))
      clear hρ hF hfun sl9 sl12 sl13 sl14 sl15 fin
      exact opv_val (by go_simp <;> rfl) ⟨gw_self _, rfl⟩
    · refine owes_vt 11 true (Go.Op.convert 30 9 (Go.Operand.tmp 96)) 9 [16] (by kernel_rfl) (by kernel_rfl) (by kernel_rfl) (fun _ _ h => h) (by rw [hsz]; kernel_rfl) (by kernel_rfl) rfl fun vals w1 ρ hG hF hρ hcst hfun => ?_
      have e96 : ρ (.tmp 96) = .slice (some ⟨q, 0, none⟩) 8 400 := ((hρ 96).trans (slotJ [16] (by rw [hsz]; decide) (by kernel_rfl))).trans (hF 16 (by decide))
      have k := str_conv (xs.take 8) (some ⟨q, 0, none⟩) 400 _ w1 ((h2.below hG).take 8)
      rw [show (xs.take 8).length = 8 from by rw [List.length_take]; omega] at k
      clear hρ hF hcst hfun sl9 sl12 sl13 sl14 sl15 fin
      exact opv_val (by go_simp <;> rfl) ⟨gw_self _, rfl⟩
    · refine owes_vt 11 true (Go.Op.binOp Go.BinOp.eql 9 (Go.Operand.tmp 94) (Go.Operand.tmp 97) 9) 4 [14, 17] (by kernel_rfl) (by kernel_rfl) (by kernel_rfl) (fun _ _ h => h) (by rw [hsz]; kernel_rfl) (by kernel_rfl) rfl fun vals w1 ρ hG hF hρ hcst hfun => ?_
      have e94 : ρ (.tmp 94) = .string (strB (xs.take 8)) := ((hρ 94).trans (slotJ [14, 17] (by rw [hsz]; decide) (by kernel_rfl))).trans (hF 14 (by decide))
      have e97 : ρ (.tmp 97) = .string (strB (xs.take 8)) := ((hρ 97).trans (slotJ [14, 17] (by rw [hsz]; decide) (by kernel_rfl))).trans (hF 17 (by decide))
      clear hρ hF hcst hfun sl9 sl12 sl13 sl14 sl15 fin
      exact opv_val (by go_simp <;> rfl) ⟨gw_self _, rfl⟩
    · refine owes_v (Go.Op.pick (Go.Operand.tmp 91) (Go.Operand.tmp 98) (Go.Operand.const (Go.Value.bool false))) 4 [11, 18] (by kernel_rfl) (by kernel_rfl) (by kernel_rfl) rfl fun vals w1 ρ hG hF hρ hcst hfun => ?_
      have e91 : ρ (.tmp 91) = .bool true := ((hρ 91).trans (slotJ [11, 18] (by rw [hsz]; decide) (by kernel_rfl))).trans (hF 11 (by decide))
      have e98 : ρ (.tmp 98) = .bool true := ((hρ 98).trans (slotJ [11, 18] (by rw [hsz]; decide) (by kernel_rfl))).trans (hF 18 (by decide))
      clear hρ hF hfun sl9 sl12 sl13 sl14 sl15 fin
      exact opv_val (by go_simp <;> rfl) ⟨gw_self _, rfl⟩
    · exact owes_mvj 19 99 (by kernel_rfl) (by kernel_rfl) (by kernel_rfl) (by kernel_rfl) (by rw [hsz]; decide) (fun v w h => h)
  · intro vals w1 hG hF
    exact fin vals w1 hG (hF 20 (by decide +kernel))
theorem mem_far (w : World) (A : Option Addr) (n0 c : Nat) (a x : Int) (h : a < 0 ∨ (¬ a < 0 ∧ 200 < a) ∨ (¬ a < 0 ∧ ¬ 200 < a ∧ 100 < n0)) : Calls Try.prog 4 #[.int .i64 a, .slice A n0 c, .int .u8 x] w (TruP (.bool true) w) := by
  rcases h with h | ⟨h, h1⟩ | ⟨h, h1, h2⟩
  all_goals
    go_enter Try.func4, Try.ntmps4
    go_wp2_with fail
    refine Calls.mono (known13_c _) ?_
    rintro e w1 ⟨rfl, b1⟩
    go_wp2_with fail
    go_ret
    exact ⟨rfl, b1⟩
theorem membytes_in (w : World) (A : Option Addr) (bs : List (BitVec 8)) (c : Nat) (hr : Rd b8 w w.heap.size A bs) (hl : bs.length ≤ 100) (a : Nat) (ha : a ≤ 200) (x : BitVec 8) : Calls Try.prog 4 #[.int .i64 a, .slice A bs.length c, .int .u8 (U8 x)] w (TruP (.bool true) w) := by
  obtain ⟨ws, hws⟩ : ∃ ws, ws = List.replicate 50 0#64 := ⟨_, rfl⟩
  obtain ⟨xs, hxs⟩ : ∃ xs, xs = List.replicate 400 x := ⟨_, rfl⟩
  have hwl : ws.length = 50 := by rw [hws, List.length_replicate]
  have hxl : xs.length = 400 := by rw [hxs, List.length_replicate]
  have hxg : ∀ k (h : k < xs.length), xs[k] = x := by subst hxs; intro k h; exact List.getElem_replicate ..
  obtain ⟨n, hn⟩ : ∃ n, n = bs.length := ⟨_, rfl⟩
  obtain ⟨ws1, hw1⟩ : ∃ v, v = putK ws 0 xs xs.length := ⟨_, rfl⟩
  obtain ⟨ws2, hw2⟩ : ∃ v, v = putK ws1 a bs bs.length := ⟨_, rfl⟩
  obtain ⟨O, hO⟩ : ∃ v, v = setL xs a bs bs.length := ⟨_, rfl⟩
  have hl1 : ws1.length = 50 := by rw [hw1, putK_len, hwl]
  have hl2 : ws2.length = 50 := by rw [hw2, putK_len, hl1]
  have hol : O.length = 400 := by rw [hO, setL_len, hxl]
  have hby : bytesM ws2 0 400 = O := by
    have := bytes_row ws xs a bs (by rw [hxl, hwl]) (by rw [hxl]; omega)
    rw [hxl] at this
    rw [hw2, hw1, hO, hxl]
    exact this
  have hz : 0 < ws2.length := by omega
  have hlow := low_bytes ws2 hz 400 (by decide)
  rw [hby] at hlow
  have HNw := Lib.hid (fun W => show Calls Try.prog 20 #[.int .i64 50] W fun e w' => ∃ g v, e = .returned (.tuple #[.pointer (some ⟨g, 0, none⟩), .int .i64 0]) ∧ MemAt w' W.heap.size g v ws ∧ Below W.heap.size W w' from by rw [hws]; exact new_in W 50 (by decide))
  have HS1 := Lib.hid (fun W B g v q h (hr : Rd b8 W W.heap.size (some ⟨q, 0, none⟩) xs) (hq : some q ≠ v.ownBlock) => show Calls Try.prog 11 #[.pointer (some ⟨g, 0, none⟩), .int .i64 0, .slice (some ⟨q, 0, none⟩) 400 400] W fun e w' => e = .returned (.int .i64 0) ∧ MemAt w' B g v ws1 ∧ W.grownBy w' v.ownBlock from by
    have k := setBytes_in W B g v ws 0 (some ⟨q, 0, none⟩) 400 xs (by omega) (by omega) h hr (fun _ x e => by injection e with e; subst e; exact hq)
    rw [hxl] at k
    rw [hw1, hxl]
    exact k)
  have HS2 := Lib.hid (fun W B g v h (hr : Rd b8 W W.heap.size A bs) (hq : 0 < bs.length → ∀ x, A = some x → some x.block ≠ v.ownBlock) => show Calls Try.prog 11 #[.pointer (some ⟨g, 0, none⟩), .int .i64 a, .slice A n c] W fun e w' => e = .returned (.int .i64 0) ∧ MemAt w' B g v ws2 ∧ W.grownBy w' v.ownBlock from by
    have k := setBytes_in W B g v ws1 a A c bs (by omega) (by omega) h hr hq
    rw [hw2, hn]
    exact k)
  have HBy := Lib.hid (fun W B g v (h : MemAt W B g v ws2) => show Calls Try.prog 15 #[.pointer (some ⟨g, 0, none⟩), .int .i64 0, .int .i64 400] W fun e w' => ∃ A c, e = .returned (.tuple #[.slice A 400 c, .int .i64 0]) ∧ Rd b8 w' w'.heap.size A O ∧ Below W.heap.size W w' from by
    refine (bytes_in W B g v ws2 0 400 (by omega) (by omega) h).mono ?_
    rintro e w' ⟨A', c', rfl, hc, ho, hb⟩
    rw [hby] at ho ⊢
    rw [hol]
    exact ⟨A', c', rfl, ho.rd, hb⟩)
  obtain ⟨y, hy⟩ : ∃ y, y = ws2[0] := ⟨_, rfl⟩
  rw [← hy] at hlow
  have HGe := Lib.hid (fun W B g v (h : MemAt W B g v ws2) => show Calls Try.prog 21 #[.pointer (some ⟨g, 0, none⟩), .int .i64 0] W fun e w' => e = .returned (.tuple #[.int .u64 (U64 y), .int .i64 0]) ∧ w' = W from by
    rw [hy]
    exact get_in W B g v ws2 0 hz (by omega) h)
  have HXL := Lib.hid hxl
  have HXG := Lib.hid hxg
  have HOL := Lib.hid hol
  have HOO := Lib.hid hO
  have HLOW := Lib.hid hlow
  have HR := Lib.hid hr
  have HN := Lib.hid hn
  rw [← hn] at hl ⊢
  have u1 : ¬ (a : Int) < 0 := by omega
  have u2 : ¬ 200 < a := by omega
  have u3 : ¬ 100 < n := by omega
  have u4 : (a : Int) ≤ 200 := by omega
  have u5 : (n : Int) ≤ 100 := by omega
  clear hws hxs hwl hxl hxg hn hw1 hw2 hO hl1 hl2 hol hby hz hlow hy hr ha hl
  go_enter Try.func4, Try.ntmps4
  go_wp2_with fail
  refine Calls.mono (known13_c _) ?_
  rintro e w1 ⟨rfl, b1⟩
  have HB1 := Lib.hid b1
  clear b1
  go_wp2_with fail
  refine Calls.mono (HNw.out w1) ?_
  rintro e w2 ⟨g, v, rfl, h2, b2⟩
  have HB2 := Lib.hid (HB1.out.trans (b2.mono HB1.out.size))
  have HM2 := Lib.hid h2
  clear h2 b2 HNw
  go_wp2_with (at_make; refine wp_make (f := b8) one8 rfl _ _ rfl 0#8 rfl w2.heap.size 400 _ _ _ _ rfl rfl rfl rfl (by omega) (by decide) (Nat.le_refl _) ?_; rintro q w3 hq ho3 hb3 _)
  rw [← hq]
  clear hq
  go_loopw [10] (fun i wr => ∃ k : Nat, k ≤ 400 ∧ i = .int .i64 k ∧ Ow b8 5 wr w2.heap.size (.slice (some ⟨q, 0, none⟩) 400 400) (partB xs k) ∧ Below w2.heap.size w2 wr) (fun i _ => 400 - (intOf i).toNat)
  case atStart => exact ⟨0, by omega, rfl, by have := HXL.out; simpa [partB, this] using ho3, hb3⟩
  case round =>
    obtain ⟨k, hkl, rfl, how, hB⟩ := hrel
    by_cases hlt : k < 400
    · have p1 : (0 : Int) ≤ (k : Int) := by omega
      have p2 : (k : Int) < 400 := by omega
      have hxk : k < xs.length := by rw [HXL.out]; exact hlt
      have hpl := partB_len xs k (by omega)
      have hf := how.free k
      have hge := how.ge
      have hcell := how.cell (j := k) (by rw [hpl]; exact hxk)
      have hset := how.set (j := k) (by rw [hpl]; exact hxk) xs[k]
      rw [partB_set xs k hxk, HXG.out k hxk] at hset
      obtain ⟨z, hz⟩ : ∃ z, z = (partB xs k)[k]'(by rw [hpl]; exact hxk) := ⟨_, rfl⟩
      rw [← hz] at hcell
      unfold b8 at hcell hset
      have hB' : ∀ m u, Below w2.heap.size w2 ((wr.drewN m).setCell ⟨q, k, none⟩ u) := fun m u => (bdN hB m).setCell (p := ⟨q, k, none⟩) hge.1 _
      have HS := Lib.hid hset
      have HB' := Lib.hid hB'
      clear hset hB' hz how hge hpl hxk
      go_wp2_with fail
      go_roundw
      case rel => exact ⟨k + 1, by omega, by go_num, HS.out, HB'.out 0 _⟩
      case measure => (first | (simp [intOf]; done) | (simp [intOf]; omega))
    · have hkk : k = 400 := by omega
      subst hkk
      have hw : partB xs 400 = xs := by unfold partB; rw [HXL.out]; simp; rw [← HXL.out]; simp
      rw [hw] at how
      have hqg := how.ge
      have HO4 := Lib.hid how
      have HB4 := Lib.hid hB
      have HM4 := Lib.hid (HM2.out.below hB)
      have HBw := Lib.hid (HB2.out.trans (hB.mono HB2.out.size))
      have hvq : v.ownBlock ≠ some q := fun e => by have := (HM2.out.row.lt q e).2; omega
      have hrd : Rd b8 wr wr.heap.size (some ⟨q, 0, none⟩) xs := by
        have h := how
        rw [← HXL.out] at h
        exact h.rd
      have HRD := Lib.hid hrd
      have hgq : some g ≠ some q := fun e => by injection e with e; have := HM2.out.blk.lt; omega
      have HV := Lib.hid (And.intro hvq (And.intro hgq hqg))
      clear how hB hw hkl hlt hvq hgq hqg hrd
      go_wp2_with fail
      refine Calls.mono (HS1.out wr _ g v q HM4.out HRD.out HV.out.1.symm) ?_
      rintro e w5 ⟨rfl, h5, g5⟩
      have HO5 := Lib.hid (HO4.out.kept g5 (.inr HV.out.1.symm))
      have HB5 := Lib.hid (HBw.out.trans ((HM4.out.own g5).mono HB1.out.size))
      have HM5 := Lib.hid h5
      clear h5 g5 HS1 HM4 HBw HO4 HRD
      go_wp2_with fail
      have hA : 0 < bs.length → ∀ x, A = some x → some x.block ≠ v.ownBlock := fun h0 x0 e e2 => by
        obtain ⟨ad, e3, hb, _⟩ := HR.out 0 h0
        rw [e] at e3
        injection e3 with e3
        have h1 := (HM5.out.row.lt x0.block e2.symm).1
        have h2 := HB1.out.size
        rw [← e3] at hb
        omega
      refine Calls.mono (HS2.out w5 _ g v HM5.out ((HR.out.below HB5.out).more HB5.out.size) hA) ?_
      rintro e w6 ⟨rfl, h6, g6⟩
      have HO6 := Lib.hid (HO5.out.kept g6 (.inr HV.out.1.symm))
      have HB6 := Lib.hid (HB5.out.trans ((HM5.out.own g6).mono HB1.out.size))
      have HM6 := Lib.hid h6
      clear hA h6 g6 HS2 HM5 HB5 HO5
      go_wp2_with fail
      go_loopw [11] (fun i W => ∃ k : Nat, k ≤ n ∧ i = .int .i64 k ∧ Ow b8 5 W w2.heap.size (.slice (some ⟨q, 0, none⟩) 400 400) (setL xs a bs k) ∧ w6.grownBy W (some q)) (fun i _ => n - (intOf i).toNat)
      case atStart => exact ⟨0, by omega, rfl, HO6.out, grown_refl _ _⟩
      case round =>
        obtain ⟨k, hkl, rfl, how, hg⟩ := hrel
        have hBk := HB6.out.trans (grown_below (B := w.heap.size) hg (by have := HV.out.2.2.1; have := HB2.out.size; omega) HB6.out.size)
        by_cases hlt : k < n
        · have hn0 := HN.out
          have p1 : (0 : Int) ≤ (k : Int) := by omega
          have p2 : (k : Int) < (n : Int) := by omega
          obtain ⟨ad, rfl, hadb, hcl⟩ := (HR.out.below hBk) k (by omega)
          obtain ⟨z, hz⟩ : ∃ z, z = bs[k]'(by omega) := ⟨_, rfl⟩
          rw [← hz] at hcl
          unfold b8 at hcl
          obtain ⟨s, hs⟩ : ∃ s, s = a + k := ⟨_, rfl⟩
          have d0 : (a : Int) + (k : Int) = (s : Int) := by omega
          have d1 : (0 : Int) ≤ (s : Int) := by omega
          have d2 : (s : Int) < 400 := by omega
          have hsl : s < (setL xs a bs k).length := by rw [setL_len, HXL.out]; omega
          have hf := how.free s
          have hcell := how.cell hsl
          have hset := how.set hsl z
          have hnext : (setL xs a bs k).set s z = setL xs a bs (k + 1) := by
            show _ = (setL xs a bs k).set (a + k) (bs.getD k 0#8)
            rw [hs, hz, List.getD_eq_getElem?_getD, List.getElem?_eq_getElem (by omega)]
            rfl
          rw [hnext] at hset
          obtain ⟨z2, hz2⟩ : ∃ z2, z2 = (setL xs a bs k)[s] := ⟨_, rfl⟩
          rw [← hz2] at hcell
          unfold b8 at hcell hset
          have HS := Lib.hid (And.intro hset (hg.trans (grown_set wr ⟨q, s, none⟩ (.int .u8 (U8 z)))))
          clear hset hnext hz hz2 hs hsl how hg hBk hadb hn0
          go_wp2_with fail
          go_roundw
          case rel => exact ⟨k + 1, by omega, by go_num, HS.out.1, HS.out.2⟩
          case measure => (first | (simp [intOf]; done) | (simp [intOf]; omega))
        · have hkk : k = n := by omega
          subst hkk
          have hN0 := HN.out
          have hOO := HOO.out
          rw [← hN0] at hOO
          rw [← hOO] at how
          have hM := HM6.out.grown hg HV.out.2.1 (.inr HV.out.1)
          have hrd : Rd b8 wr wr.heap.size (some ⟨q, 0, none⟩) O := by
            have h := how
            rw [← HOL.out] at h
            exact h.rd
          have HMW := Lib.hid hM
          have HRD := Lib.hid hrd
          have HBW := Lib.hid hBk
          clear how hg hBk hM hrd hOO hN0 hlt hkl
          go_wp2_with fail
          refine Calls.mono (HBy.out wr _ g v HMW.out) ?_
          rintro e w7 ⟨A7, c7, rfl, hr7, hb7⟩
          have HR7 := Lib.hid hr7
          have HB7 := Lib.hid (HBW.out.trans (hb7.mono HBW.out.size))
          have HRD7 := Lib.hid ((HRD.out.below hb7).more hb7.size)
          have HM7 := Lib.hid (HMW.out.below hb7)
          clear hr7 hb7 HRD HMW HBW HBy
          go_wp2_with fail
          refine Calls.mono (HGe.out w7 _ g v HM7.out) ?_
          rintro e w8 ⟨rfl, rfl⟩
          go_wp2_with fail
          refine mb_reg _ _ _ A7 q c7 O y HOL.out HR7.out HRD7.out HLOW.out rfl rfl rfl rfl rfl rfl ?_
          intro vals w9 hG h6
          unfold IsV at h6
          simp only [putD, Act.put, List.setIfInBounds_toArray, List.set_cons_zero, List.set_cons_succ, h6]
          have HB9 := Lib.hid (HB7.out.trans (hG.mono HB7.out.size))
          clear h6 hG
          go_wp2_with fail
          go_ret
          exact ⟨rfl, HB9.out⟩
theorem membytes_walk (w : World) (a : Int) (wa : (Lit.int .i64 a).wf = true) (A : Option Addr) (bs : List (BitVec 8)) (c : Nat) (_g : bs.length ≤ c) (_m : c ≤ maxLen) (hr : Rd b8 w w.heap.size A bs) (x : Int) (wx : (Lit.int .u8 x).wf = true) : Calls Try.prog 4 #[.int .i64 a, .slice A bs.length c, .int .u8 x] w (TruP (.bool true) w) := by
  by_cases h : a < 0 ∨ (¬ a < 0 ∧ 200 < a) ∨ (¬ a < 0 ∧ ¬ 200 < a ∧ 100 < bs.length)
  · exact mem_far w A bs.length c a x h
  · obtain ⟨k, rfl⟩ : ∃ k : Nat, a = (k : Int) := ⟨a.toNat, by omega⟩
    rw [wfu8 wx]
    exact membytes_in w A bs c hr (by omega) k (by omega) _
end Go.Proofs.Ytobcpcobgdmleaa
namespace Go.Proofs.Ytobcpcobgdmleaa.memBytes
open Go.ChangeShapes Go.WideShapes Go.ChangeAt Go.RowKit
open Go.ChangeMaps (open_string shut_string)
set_option linter.unusedVariables false
set_option maxRecDepth 100000 in
theorem lifted (os : Os) (started : os.Started) (H : Type) (enc : TypeId × Value → H) :
    ReturnsInHanded {} Try.checked os 4 .any (Rows.memBytesSpec.pre6 enc Try.prog Try.f4 Rows.memBytesRow.domain false) (Rows.memBytesSpec.post enc Try.prog Try.f4 false true false false) := by
  refine returnsInHanded_of_change (C := Try.checked) own started (by kernel_rfl) Try.func4
    (ChangeSpec.witness6 (enc := enc) (C := Try.checked) false ⟨#[], #[.int .i64 0, .slice none 0 0, .int .u8 0], []⟩ 8 (by kernel_rfl) (by kernel_rfl) (by kernel_rfl) (by kernel_rfl)) ?_
  intro W base args ds gs before hval0 hW hcnd _
  have hval : ∀ (j : Nat) t v, Try.f4.params[j]? = some t → args[j]? = some v → Value.okWide Try.prog W .any base t v := hval0
  have hW' := hW
  obtain ⟨p, q, hA0, hV, rfl, hfz, hnd⟩ := hW
  have hA : DataW.TrodAll enc Try.prog W 0 (fun _ => true) true Try.f4.params.toList args.toList ds p := hA0
  rw [Try.params4] at hA hval
  obtain ⟨v0, vs0, d0, ds0, p0, q0, hargs, rfl, rfl, h0, r0⟩ := trodAll_cons hA
  obtain ⟨v1, vs1, d1, ds1, p1, q1, rfl, rfl, rfl, h1, r1⟩ := trodAll_cons r0
  obtain ⟨v2, vs2, d2, ds2, p2, q2, rfl, rfl, rfl, h2, r2⟩ := trodAll_cons r1
  obtain ⟨rfl, rfl, rfl⟩ := trodAll_nil r2
  obtain rfl : args = #[v0, v1, v2] := by cases args; simp_all
  obtain ⟨rfl, rfl⟩ := trodVars_none hV
  have k0 := h0
  have lt0 : ∀ x ∈ p0, x.block < W.heap.size := by obtain ⟨m, hm⟩ := k0; exact DataW.trod_lt m _ _ _ hm
  obtain ⟨a0, e0v, _, _, w0⟩ := open_int Try.underlying3 (hval 0 3 v0 rfl rfl) h0; subst e0v
  have k1 := h1
  have lt1 : ∀ x ∈ p1, x.block < W.heap.size := by obtain ⟨m, hm⟩ := k1; exact DataW.trod_lt m _ _ _ hm
  obtain ⟨A1, a1, c1, e1v, g1, m1, w1⟩ := open_bytes Try.underlying30 Try.underlying5 (by kernel_rfl) (hval 1 30 v1 rfl rfl) h1; subst e1v
  have k2 := h2
  have lt2 : ∀ x ∈ p2, x.block < W.heap.size := by obtain ⟨m, hm⟩ := k2; exact DataW.trod_lt m _ _ _ hm
  obtain ⟨a2, e2v, _, _, w2⟩ := open_int Try.underlying5 (hval 2 5 v2 rfl rfl) h2; subst e2v
  clear hA0 hval0
  refine (membytes_walk W a0 w0 A1 a1 c1 g1 m1 w1 a2 w2).mono fun e W' ⟨he, bel⟩ => ?_
  subst he
  exact ⟨_, rfl, _, _, _, [], _, [], hW', trodAll_mk1 (shut_bool Try.underlying4 _), (trodAll_cons_mk (Below.trod laidOut (by kernel_rfl) (of_decide_eq_true (by kernel_rfl)) k0 bel lt0) (trodAll_cons_mk (Below.trod laidOut (by kernel_rfl) (of_decide_eq_true (by kernel_rfl)) k1 bel lt1) (trodAll_cons_mk (Below.trod laidOut (by kernel_rfl) (of_decide_eq_true (by kernel_rfl)) k2 bel lt2) trodAll_mk0))), rfl, bel.frame _, fun h => by cases h⟩
theorem over : Rows.memBytesRow.holds Try.pinned (OpenSpec.ofChange Rows.memBytesSpec) :=
  OpenClaim.holds_of_wide 4 Try.f4 rfl rfl rfl rfl rfl rfl rfl ⟨rfl, rfl, rfl, rfl, rfl⟩ rfl rfl rfl rfl rfl (by kernel_rfl) Try.func4 (by kernel_rfl)
    (of_decide_eq_true (by kernel_rfl)) (by unfold Func.isWrapper; first | (rw [if_pos (by decide +kernel)]; kernel_rfl) | (rw [if_neg (by decide +kernel)]; exact ⟨rfl, rfl⟩))
    (fun os started H enc _ => lifted os started H enc)
theorem proved : Rows.MemBytesSaid := over
end Go.Proofs.Ytobcpcobgdmleaa.memBytes
