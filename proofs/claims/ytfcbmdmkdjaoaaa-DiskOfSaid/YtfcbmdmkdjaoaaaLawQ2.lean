/- The law DiskOf of layer 3 returns true for every argument. No conditions. -/
import Derived.Test.YtfcbmdmkdjaoaaaDkO
import Derived.Test.YtfcbmdmkdjaoaaaFrame
import Derived.Laws.Concat
namespace Go.Proofs.Ytfcbmdmkdjaoaaa
set_option linter.unusedVariables false
set_option linter.unusedSimpArgs false
open Go.RowKit Go.Maps
theorem strB_app (x y : List (BitVec 8)) : strB x ++ strB y = strB (x ++ y) := by
  unfold strB strL
  apply ByteArray.ext
  simp
theorem strB_size (x : List (BitVec 8)) : (strB x).size = x.length := by
  unfold strB strL
  simp [ByteArray.size]
theorem sl_of {f : FuncId} {args : Array Value} {w : World} {xs : List (BitVec 8)} (h : Calls Try.prog f args w (NewP b8 5 xs w)) : Calls Try.prog f args w fun e w2 => ∃ v, e = .returned v ∧ Below w.heap.size w w2 ∧ SlV b8 xs v w2 :=
  h.mono fun e w2 h => by
    obtain ⟨A, c, rfl, hc, ho, hb⟩ := h
    exact ⟨_, rfl, hb, A, c, rfl, hc, ho.rd⟩
theorem iv_of {f : FuncId} {args : Array Value} {w : World} {u : Value} (h : Calls Try.prog f args w fun e w' => e = .returned u ∧ w' = w) : Calls Try.prog f args w fun e w2 => ∃ v, e = .returned v ∧ Below w.heap.size w w2 ∧ IsV u v w2 :=
  h.mono fun e w2 h => ⟨u, h.1, by rw [h.2]; exact Below.refl _ _, rfl⟩
set_option maxHeartbeats 400000
set_option maxRecDepth 100000
theorem of_reg (Q : Exit → Act → World → Prop) (a0 : Act) (w : World) (B g secs S n c : Nat) (A : Option Addr) (bs : List (BitVec 8)) (str : ByteArray) (hs : Hid (str = strB bs)) (hn : Hid (n = bs.length)) (hr : Rd b8 w w.heap.size A bs) (hd : DiskX B (fun _ => False) w g (dk0 secs S bs)) (hq : (n : Int).tdiv (S : Int) = (secs : Int)) (s0 : ((S : Int) == 0) = false) (s1 : ¬ S = 0) (q1 : (secs : Int) ≤ 16384) (q2 : (0 : Int) ≤ (secs : Int)) (hsz : a0.tmps.size = 109) (sl0 : a0.tmps.getD 0 undef = .slice A n c) (sl1 : a0.tmps.getD 1 undef = .int .i64 S) (sl5 : a0.tmps.getD 5 undef = .pointer (some ⟨g, 0, none⟩)) (sl8 : a0.tmps.getD 8 undef = .string str) (sl9 : a0.tmps.getD 9 undef = .int .i64 secs) (sl10 : a0.tmps.getD 10 undef = .int .i64 S)
    (fin : ∀ (vals : Nat → Value) (w1 : World), Below w.heap.size w w1 → (IsV (.bool true)) (vals 30) w1 → Q .normal (putD vals [79, 80, 81, 82, 83, 84, 85, 86, 87, 88, 89, 90, 91, 92, 93, 94, 95, 96, 97, 98, 99, 100, 101, 102, 103, 104, 105, 106, 107, 108, 4] 0 a0) w1) :
    (Code.region 20 (regIn Try.f4 20) true).wp Try.prog Q a0 w := by
  refine region_by (G := fun w w1 => Below w.heap.size w w1) [IsV (.int .i64 secs),
    IsV (.slice A n c),
    IsV (.int .i64 n),
    IsV (.int .i64 S),
    IsV (.int .i64 secs),
    IsV (.bool true),
    IsV (.bool true),
    IsV (.int .i64 S),
    IsV (.int .i64 S),
    IsV (.bool true),
    IsV (.bool true),
    IsV (.bool true),
    IsV (.string str),
    IsV (.slice A n c),
    IsV (.string str),
    IsV (.bool true),
    IsV (.bool true),
    IsV (.bool true),
    IsV (.pointer (some ⟨g, 0, none⟩)),
    SlV b8 bs,
    IsV (.string str),
    IsV (.slice A n c),
    IsV (.string str),
    IsV (.bool true),
    IsV (.bool true),
    IsV (.bool true),
    IsV (.pointer (some ⟨g, 0, none⟩)),
    IsV (.int .i64 0),
    IsV (.bool true),
    IsV (.bool true),
    IsV (.bool true)]
    [79, 80, 81, 82, 83, 84, 85, 86, 87, 88, 89, 90, 91, 92, 93, 94, 95, 96, 97, 98, 99, 100, 101, 102, 103, 104, 105, 106, 107, 108, 4] (by kernel_rfl) (Gw.drew _) Gw.trans (by rw [hsz]; kernel_rfl) (by kernel_rfl) ?_ ?_ ?_
  · intro f hf
    simp only [List.mem_cons, List.not_mem_nil, or_false] at hf
    rcases hf with rfl | rfl | rfl | rfl | rfl | rfl | rfl | rfl | rfl | rfl | rfl | rfl | rfl | rfl | rfl | rfl | rfl | rfl | rfl | rfl | rfl | rfl | rfl | rfl | rfl | rfl | rfl | rfl | rfl | rfl | rfl <;> intro v a b h g <;> first | exact IsV.mono h | exact SlV.mono h g
  · refine ⟨?_, ?_, ?_, ?_, ?_, ?_, ?_, ?_, ?_, ?_, ?_, ?_, ?_, ?_, ?_, ?_, ?_, ?_, ?_, ?_, ?_, ?_, ?_, ?_, ?_, ?_, ?_, ?_, ?_, ?_, ?_, trivial⟩
    · exact owes_mv 9 (by kernel_rfl) (by kernel_rfl) (by kernel_rfl) sl9 (fun _ => rfl)
    · exact owes_mv 0 (by kernel_rfl) (by kernel_rfl) (by kernel_rfl) sl0 (fun _ => rfl)
    · refine owes_v (Go.Op.call { callee := Go.Callee.builtin Go.Builtin.len, args := #[Go.Operand.tmp 80], argTypes := #[34] }) 3 [1] (by kernel_rfl) (by kernel_rfl) (by kernel_rfl) rfl fun vals w1 ρ hG hF hρ hcst hfun => ?_
      have e80 : ρ (.tmp 80) = .slice A n c := ((hρ 80).trans (slotJ [1] (by rw [hsz]; decide) (by kernel_rfl))).trans (hF 1 (by decide))
      clear hρ hF hcst hfun sl0 sl1 sl5 sl8 sl9 sl10 fin
      exact opv_val (by go_simp <;> rfl) ⟨gw_self _, rfl⟩
    · exact owes_mv 1 (by kernel_rfl) (by kernel_rfl) (by kernel_rfl) sl1 (fun _ => rfl)
    · refine owes_v (Go.Op.binOp Go.BinOp.quo 3 (Go.Operand.tmp 81) (Go.Operand.tmp 82) 3) 3 [2, 3] (by kernel_rfl) (by kernel_rfl) (by kernel_rfl) rfl fun vals w1 ρ hG hF hρ hcst hfun => ?_
      have e81 : ρ (.tmp 81) = .int .i64 n := ((hρ 81).trans (slotJ [2, 3] (by rw [hsz]; decide) (by kernel_rfl))).trans (hF 2 (by decide))
      have e82 : ρ (.tmp 82) = .int .i64 S := ((hρ 82).trans (slotJ [2, 3] (by rw [hsz]; decide) (by kernel_rfl))).trans (hF 3 (by decide))
      have kw0 : IntKind.i64.wrap ((secs : Int)) = (secs : Int) := wrapIn (by omega) (by omega)
      clear hρ hF hcst hfun sl0 sl1 sl5 sl8 sl9 sl10 fin
      exact opv_val (by go_simp <;> rfl) ⟨gw_self _, rfl⟩
    · refine owes_v (Go.Op.binOp Go.BinOp.eql 3 (Go.Operand.tmp 79) (Go.Operand.tmp 83) 3) 4 [0, 4] (by kernel_rfl) (by kernel_rfl) (by kernel_rfl) rfl fun vals w1 ρ hG hF hρ hcst hfun => ?_
      have e79 : ρ (.tmp 79) = .int .i64 secs := ((hρ 79).trans (slotJ [0, 4] (by rw [hsz]; decide) (by kernel_rfl))).trans (hF 0 (by decide))
      have e83 : ρ (.tmp 83) = .int .i64 secs := ((hρ 83).trans (slotJ [0, 4] (by rw [hsz]; decide) (by kernel_rfl))).trans (hF 4 (by decide))
      clear hρ hF hcst hfun sl0 sl1 sl5 sl8 sl9 sl10 fin
      exact opv_val (by go_simp <;> rfl) ⟨gw_self _, rfl⟩
    · exact owes_mvj 5 84 (by kernel_rfl) (by kernel_rfl) (by kernel_rfl) (by kernel_rfl) (by rw [hsz]; decide) (fun v w h => h)
    · refine owes_vt 6 true (Go.Op.move (Go.Operand.tmp 10)) 3 [] (by kernel_rfl) (by kernel_rfl) (by kernel_rfl) (fun _ _ h => h) (by rw [hsz]; kernel_rfl) (by kernel_rfl) rfl fun vals w1 ρ hG hF hρ hcst hfun => ?_
      have e10 : ρ (.tmp 10) = .int .i64 S := ((hρ 10).trans (slotO [] (by kernel_rfl))).trans sl10
      clear hρ hF hcst hfun sl0 sl1 sl5 sl8 sl9 sl10 fin
      exact opv_val (by go_simp <;> rfl) ⟨gw_self _, rfl⟩
    · refine owes_vt 6 true (Go.Op.move (Go.Operand.tmp 1)) 3 [] (by kernel_rfl) (by kernel_rfl) (by kernel_rfl) (fun _ _ h => h) (by rw [hsz]; kernel_rfl) (by kernel_rfl) rfl fun vals w1 ρ hG hF hρ hcst hfun => ?_
      have e1 : ρ (.tmp 1) = .int .i64 S := ((hρ 1).trans (slotO [] (by kernel_rfl))).trans sl1
      clear hρ hF hcst hfun sl0 sl1 sl5 sl8 sl9 sl10 fin
      exact opv_val (by go_simp <;> rfl) ⟨gw_self _, rfl⟩
    · refine owes_vt 6 true (Go.Op.binOp Go.BinOp.eql 3 (Go.Operand.tmp 86) (Go.Operand.tmp 87) 3) 4 [7, 8] (by kernel_rfl) (by kernel_rfl) (by kernel_rfl) (fun _ _ h => h) (by rw [hsz]; kernel_rfl) (by kernel_rfl) rfl fun vals w1 ρ hG hF hρ hcst hfun => ?_
      have e86 : ρ (.tmp 86) = .int .i64 S := ((hρ 86).trans (slotJ [7, 8] (by rw [hsz]; decide) (by kernel_rfl))).trans (hF 7 (by decide))
      have e87 : ρ (.tmp 87) = .int .i64 S := ((hρ 87).trans (slotJ [7, 8] (by rw [hsz]; decide) (by kernel_rfl))).trans (hF 8 (by decide))
      clear hρ hF hcst hfun sl0 sl1 sl5 sl8 sl9 sl10 fin
      exact opv_val (by go_simp <;> rfl) ⟨gw_self _, rfl⟩
    · refine owes_v (Go.Op.pick (Go.Operand.tmp 85) (Go.Operand.tmp 88) (Go.Operand.const (Go.Value.bool false))) 4 [6, 9] (by kernel_rfl) (by kernel_rfl) (by kernel_rfl) rfl fun vals w1 ρ hG hF hρ hcst hfun => ?_
      have e85 : ρ (.tmp 85) = .bool true := ((hρ 85).trans (slotJ [6, 9] (by rw [hsz]; decide) (by kernel_rfl))).trans (hF 6 (by decide))
      have e88 : ρ (.tmp 88) = .bool true := ((hρ 88).trans (slotJ [6, 9] (by rw [hsz]; decide) (by kernel_rfl))).trans (hF 9 (by decide))
      clear hρ hF hfun sl0 sl1 sl5 sl8 sl9 sl10 fin
      exact opv_val (by go_simp <;> rfl) ⟨gw_self _, rfl⟩
    · exact owes_mvj 10 89 (by kernel_rfl) (by kernel_rfl) (by kernel_rfl) (by kernel_rfl) (by rw [hsz]; decide) (fun v w h => h)
    · refine owes_vt 11 true (Go.Op.move (Go.Operand.tmp 8)) 9 [] (by kernel_rfl) (by kernel_rfl) (by kernel_rfl) (fun _ _ h => h) (by rw [hsz]; kernel_rfl) (by kernel_rfl) rfl fun vals w1 ρ hG hF hρ hcst hfun => ?_
      have e8 : ρ (.tmp 8) = .string str := ((hρ 8).trans (slotO [] (by kernel_rfl))).trans sl8
      clear hρ hF hcst hfun sl0 sl1 sl5 sl8 sl9 sl10 fin
      exact opv_val (by go_simp <;> rfl) ⟨gw_self _, rfl⟩
    · refine owes_vt 11 true (Go.Op.move (Go.Operand.tmp 0)) 34 [] (by kernel_rfl) (by kernel_rfl) (by kernel_rfl) (fun _ _ h => h) (by rw [hsz]; kernel_rfl) (by kernel_rfl) rfl fun vals w1 ρ hG hF hρ hcst hfun => ?_
      have e0 : ρ (.tmp 0) = .slice A n c := ((hρ 0).trans (slotO [] (by kernel_rfl))).trans sl0
      clear hρ hF hcst hfun sl0 sl1 sl5 sl8 sl9 sl10 fin
      exact opv_val (by go_simp <;> rfl) ⟨gw_self _, rfl⟩
    · refine owes_vt 11 true (Go.Op.convert 34 9 (Go.Operand.tmp 92)) 9 [13] (by kernel_rfl) (by kernel_rfl) (by kernel_rfl) (fun _ _ h => h) (by rw [hsz]; kernel_rfl) (by kernel_rfl) rfl fun vals w1 ρ hG hF hρ hcst hfun => ?_
      have e92 : ρ (.tmp 92) = .slice A n c := ((hρ 92).trans (slotJ [13] (by rw [hsz]; decide) (by kernel_rfl))).trans (hF 13 (by decide))
      have k := str_conv bs A c _ w1 (hr.below hG)
      rw [← hn.out, ← hs.out] at k
      clear hρ hF hcst hfun sl0 sl1 sl5 sl8 sl9 sl10 fin
      exact opv_val (by go_simp <;> rfl) ⟨gw_self _, rfl⟩
    · refine owes_vt 11 true (Go.Op.binOp Go.BinOp.eql 9 (Go.Operand.tmp 91) (Go.Operand.tmp 93) 9) 4 [12, 14] (by kernel_rfl) (by kernel_rfl) (by kernel_rfl) (fun _ _ h => h) (by rw [hsz]; kernel_rfl) (by kernel_rfl) rfl fun vals w1 ρ hG hF hρ hcst hfun => ?_
      have e91 : ρ (.tmp 91) = .string str := ((hρ 91).trans (slotJ [12, 14] (by rw [hsz]; decide) (by kernel_rfl))).trans (hF 12 (by decide))
      have e93 : ρ (.tmp 93) = .string str := ((hρ 93).trans (slotJ [12, 14] (by rw [hsz]; decide) (by kernel_rfl))).trans (hF 14 (by decide))
      clear hρ hF hcst hfun sl0 sl1 sl5 sl8 sl9 sl10 fin
      exact opv_val (by go_simp <;> rfl) ⟨gw_self _, rfl⟩
    · refine owes_v (Go.Op.pick (Go.Operand.tmp 90) (Go.Operand.tmp 94) (Go.Operand.const (Go.Value.bool false))) 4 [11, 15] (by kernel_rfl) (by kernel_rfl) (by kernel_rfl) rfl fun vals w1 ρ hG hF hρ hcst hfun => ?_
      have e90 : ρ (.tmp 90) = .bool true := ((hρ 90).trans (slotJ [11, 15] (by rw [hsz]; decide) (by kernel_rfl))).trans (hF 11 (by decide))
      have e94 : ρ (.tmp 94) = .bool true := ((hρ 94).trans (slotJ [11, 15] (by rw [hsz]; decide) (by kernel_rfl))).trans (hF 15 (by decide))
      clear hρ hF hfun sl0 sl1 sl5 sl8 sl9 sl10 fin
      exact opv_val (by go_simp <;> rfl) ⟨gw_self _, rfl⟩
    · exact owes_mvj 16 95 (by kernel_rfl) (by kernel_rfl) (by kernel_rfl) (by kernel_rfl) (by rw [hsz]; decide) (fun v w h => h)
    · refine owes_vt 17 true (Go.Op.move (Go.Operand.tmp 5)) 24 [] (by kernel_rfl) (by kernel_rfl) (by kernel_rfl) (fun _ _ h => h) (by rw [hsz]; kernel_rfl) (by kernel_rfl) rfl fun vals w1 ρ hG hF hρ hcst hfun => ?_
      have e5 : ρ (.tmp 5) = .pointer (some ⟨g, 0, none⟩) := ((hρ 5).trans (slotO [] (by kernel_rfl))).trans sl5
      clear hρ hF hcst hfun sl0 sl1 sl5 sl8 sl9 sl10 fin
      exact opv_val (by go_simp <;> rfl) ⟨gw_self _, rfl⟩
    · refine owes_vt 17 true (Go.Op.call { callee := Go.Callee.value (Go.Operand.func 24), args := #[Go.Operand.tmp 97], argTypes := #[24] }) 34 [18] (by kernel_rfl) (by kernel_rfl) (by kernel_rfl) (fun _ _ h => h) (by rw [hsz]; kernel_rfl) (by kernel_rfl) rfl fun vals w1 ρ hG hF hρ hcst hfun => ?_
      have e97 : ρ (.tmp 97) = .pointer (some ⟨g, 0, none⟩) := ((hρ 97).trans (slotJ [18] (by rw [hsz]; decide) (by kernel_rfl))).trans (hF 18 (by decide))
      clear hρ hF hcst sl0 sl1 sl5 sl8 sl9 sl10 fin
      exact opv_enter (by go_simp <;> rfl) (sl_of (xbytes_c (hd.below hG)))
    · refine owes_vt 17 true (Go.Op.convert 34 9 (Go.Operand.tmp 98)) 9 [19] (by kernel_rfl) (by kernel_rfl) (by kernel_rfl) (fun _ _ h => h) (by rw [hsz]; kernel_rfl) (by kernel_rfl) rfl fun vals w1 ρ hG hF hρ hcst hfun => ?_
      have f98 : (SlV b8 bs) (vals 19) w1 := hF 19 (by decide)
      have e98 : ρ (.tmp 98) = vals 19 := (hρ 98).trans (slotJ [19] (by rw [hsz]; decide) (by kernel_rfl))
      obtain ⟨A', c', hv, _, hr'⟩ := f98
      have k := str_conv _ A' c' _ w1 hr'
      rw [← hs.out] at k
      rw [hv] at e98
      clear hv
      clear hρ hF hcst hfun sl0 sl1 sl5 sl8 sl9 sl10 fin
      exact opv_val (by go_simp <;> rfl) ⟨gw_self _, rfl⟩
    · refine owes_vt 17 true (Go.Op.move (Go.Operand.tmp 0)) 34 [] (by kernel_rfl) (by kernel_rfl) (by kernel_rfl) (fun _ _ h => h) (by rw [hsz]; kernel_rfl) (by kernel_rfl) rfl fun vals w1 ρ hG hF hρ hcst hfun => ?_
      have e0 : ρ (.tmp 0) = .slice A n c := ((hρ 0).trans (slotO [] (by kernel_rfl))).trans sl0
      clear hρ hF hcst hfun sl0 sl1 sl5 sl8 sl9 sl10 fin
      exact opv_val (by go_simp <;> rfl) ⟨gw_self _, rfl⟩
    · refine owes_vt 17 true (Go.Op.convert 34 9 (Go.Operand.tmp 100)) 9 [21] (by kernel_rfl) (by kernel_rfl) (by kernel_rfl) (fun _ _ h => h) (by rw [hsz]; kernel_rfl) (by kernel_rfl) rfl fun vals w1 ρ hG hF hρ hcst hfun => ?_
      have e100 : ρ (.tmp 100) = .slice A n c := ((hρ 100).trans (slotJ [21] (by rw [hsz]; decide) (by kernel_rfl))).trans (hF 21 (by decide))
      have k := str_conv bs A c _ w1 (hr.below hG)
      rw [← hn.out, ← hs.out] at k
      clear hρ hF hcst hfun sl0 sl1 sl5 sl8 sl9 sl10 fin
      exact opv_val (by go_simp <;> rfl) ⟨gw_self _, rfl⟩
    · refine owes_vt 17 true (Go.Op.binOp Go.BinOp.eql 9 (Go.Operand.tmp 99) (Go.Operand.tmp 101) 9) 4 [20, 22] (by kernel_rfl) (by kernel_rfl) (by kernel_rfl) (fun _ _ h => h) (by rw [hsz]; kernel_rfl) (by kernel_rfl) rfl fun vals w1 ρ hG hF hρ hcst hfun => ?_
      have e99 : ρ (.tmp 99) = .string str := ((hρ 99).trans (slotJ [20, 22] (by rw [hsz]; decide) (by kernel_rfl))).trans (hF 20 (by decide))
      have e101 : ρ (.tmp 101) = .string str := ((hρ 101).trans (slotJ [20, 22] (by rw [hsz]; decide) (by kernel_rfl))).trans (hF 22 (by decide))
      clear hρ hF hcst hfun sl0 sl1 sl5 sl8 sl9 sl10 fin
      exact opv_val (by go_simp <;> rfl) ⟨gw_self _, rfl⟩
    · refine owes_v (Go.Op.pick (Go.Operand.tmp 96) (Go.Operand.tmp 102) (Go.Operand.const (Go.Value.bool false))) 4 [17, 23] (by kernel_rfl) (by kernel_rfl) (by kernel_rfl) rfl fun vals w1 ρ hG hF hρ hcst hfun => ?_
      have e96 : ρ (.tmp 96) = .bool true := ((hρ 96).trans (slotJ [17, 23] (by rw [hsz]; decide) (by kernel_rfl))).trans (hF 17 (by decide))
      have e102 : ρ (.tmp 102) = .bool true := ((hρ 102).trans (slotJ [17, 23] (by rw [hsz]; decide) (by kernel_rfl))).trans (hF 23 (by decide))
      clear hρ hF hfun sl0 sl1 sl5 sl8 sl9 sl10 fin
      exact opv_val (by go_simp <;> rfl) ⟨gw_self _, rfl⟩
    · exact owes_mvj 24 103 (by kernel_rfl) (by kernel_rfl) (by kernel_rfl) (by kernel_rfl) (by rw [hsz]; decide) (fun v w h => h)
    · refine owes_vt 25 true (Go.Op.move (Go.Operand.tmp 5)) 24 [] (by kernel_rfl) (by kernel_rfl) (by kernel_rfl) (fun _ _ h => h) (by rw [hsz]; kernel_rfl) (by kernel_rfl) rfl fun vals w1 ρ hG hF hρ hcst hfun => ?_
      have e5 : ρ (.tmp 5) = .pointer (some ⟨g, 0, none⟩) := ((hρ 5).trans (slotO [] (by kernel_rfl))).trans sl5
      clear hρ hF hcst hfun sl0 sl1 sl5 sl8 sl9 sl10 fin
      exact opv_val (by go_simp <;> rfl) ⟨gw_self _, rfl⟩
    · refine owes_vt 25 true (Go.Op.call { callee := Go.Callee.value (Go.Operand.func 21), args := #[Go.Operand.tmp 105], argTypes := #[24] }) 3 [26] (by kernel_rfl) (by kernel_rfl) (by kernel_rfl) (fun _ _ h => h) (by rw [hsz]; kernel_rfl) (by kernel_rfl) rfl fun vals w1 ρ hG hF hρ hcst hfun => ?_
      have e105 : ρ (.tmp 105) = .pointer (some ⟨g, 0, none⟩) := ((hρ 105).trans (slotJ [26] (by rw [hsz]; decide) (by kernel_rfl))).trans (hF 26 (by decide))
      clear hρ hF hcst sl0 sl1 sl5 sl8 sl9 sl10 fin
      exact opv_enter (by go_simp <;> rfl) (iv_of (xpending_c (hd.below hG)))
    · refine owes_vt 25 true (Go.Op.binOp Go.BinOp.eql 3 (Go.Operand.tmp 106) (Go.Operand.const (Go.Value.int Go.IntKind.i64 0)) 3) 4 [27] (by kernel_rfl) (by kernel_rfl) (by kernel_rfl) (fun _ _ h => h) (by rw [hsz]; kernel_rfl) (by kernel_rfl) rfl fun vals w1 ρ hG hF hρ hcst hfun => ?_
      have e106 : ρ (.tmp 106) = .int .i64 0 := ((hρ 106).trans (slotJ [27] (by rw [hsz]; decide) (by kernel_rfl))).trans (hF 27 (by decide))
      clear hρ hF hfun sl0 sl1 sl5 sl8 sl9 sl10 fin
      exact opv_val (by go_simp <;> rfl) ⟨gw_self _, rfl⟩
    · refine owes_v (Go.Op.pick (Go.Operand.tmp 104) (Go.Operand.tmp 107) (Go.Operand.const (Go.Value.bool false))) 4 [25, 28] (by kernel_rfl) (by kernel_rfl) (by kernel_rfl) rfl fun vals w1 ρ hG hF hρ hcst hfun => ?_
      have e104 : ρ (.tmp 104) = .bool true := ((hρ 104).trans (slotJ [25, 28] (by rw [hsz]; decide) (by kernel_rfl))).trans (hF 25 (by decide))
      have e107 : ρ (.tmp 107) = .bool true := ((hρ 107).trans (slotJ [25, 28] (by rw [hsz]; decide) (by kernel_rfl))).trans (hF 28 (by decide))
      clear hρ hF hfun sl0 sl1 sl5 sl8 sl9 sl10 fin
      exact opv_val (by go_simp <;> rfl) ⟨gw_self _, rfl⟩
    · exact owes_mvj 29 108 (by kernel_rfl) (by kernel_rfl) (by kernel_rfl) (by kernel_rfl) (by rw [hsz]; decide) (fun v w h => h)
  · intro vals w1 hG hF
    exact fin vals w1 hG (hF 30 (by decide +kernel))
theorem of_bad_w (w : World) (A : Option Addr) (n c : Nat) (s : Int) (hn : n ≤ 4000) (h1 : -9223372036854775808 ≤ s) (h2 : s ≤ 9223372036854775807) (h : okO n s = false) : Calls Try.prog 4 #[.slice A n c, .int .i64 s] w (TruP (.bool true) w) := by
  have HOf := Lib.hid (fun w => dof_bad w A n c s (by unfold maxLen; omega) h1 h2 h)
  have t0 : decide ((4000 : Int) < (n : Int)) = false := by simp; omega
  have t0' : (n : Int) ≤ 4000 := by omega
  by_cases c1 : 64 ≤ s
  · by_cases c2 : s ≤ 1024
    · by_cases c3 : 0 < n
      · have hb : 0 ≤ (n : Int) % s ∧ (n : Int) % s < s := ⟨Int.emod_nonneg _ (by omega), Int.emod_lt_of_pos _ (by omega)⟩
        have hne : ¬ (n : Int) % s = 0 := by
          intro e
          have hd : (n : Int) / s * s = n := Int.ediv_mul_cancel (Int.dvd_of_emod_eq_zero e)
          have hq1 : 1 ≤ (n : Int) / s := by
            apply Classical.byContradiction
            intro hc
            have h0 : 0 ≤ (n : Int) / s := Int.ediv_nonneg (by omega) (by omega)
            have : (n : Int) / s = 0 := by omega
            rw [this] at hd; omega
          have hq2 : (n : Int) / s ≤ (n : Int) := Int.ediv_le_self _ (by omega)
          have : okO n s = true := by
            unfold okO okS
            simp only [Bool.and_eq_true, decide_eq_true_eq]
            exact ⟨by omega, e, hq1, by omega, c1, c2⟩
          rw [this] at h; cases h
        have hm : (n : Int).tmod s = (n : Int) % s := Int.tmod_eq_emod_of_nonneg (by omega)
        obtain ⟨q, hq⟩ : ∃ q, (n : Int) % s = q := ⟨_, rfl⟩
        rw [hq] at hm hne hb
        obtain ⟨b1, b2⟩ := hb
        have t3 : decide ((0 : Int) < (n : Int)) = true := by simp; omega
        have t4 : (q == 0) = false := by simpa using hne
        have s0 : (s == 0) = false := by simp; omega
        have s1 : ¬ s = 0 := by omega
        clear h hne
        go_enter Try.func4, Try.ntmps4
        go_wp2_with fail
        refine Calls.mono (known3_c w) ?_
        rintro e w1 ⟨rfl, d1⟩
        have HB1 := Lib.hid d1
        clear d1
        go_wp2_with fail
        refine Calls.mono (HOf.out _) ?_
        rintro e w2 ⟨rfl, rfl⟩
        go_wp2_with fail
        go_ret
        exact ⟨rfl, HB1.out⟩
      · have t3 : decide ((0 : Int) < (n : Int)) = false := by simp; omega
        obtain rfl : n = 0 := by omega
        clear h
        go_enter Try.func4, Try.ntmps4
        go_wp2_with fail
        refine Calls.mono (known3_c w) ?_
        rintro e w1 ⟨rfl, d1⟩
        have HB1 := Lib.hid d1
        clear d1
        go_wp2_with fail
        refine Calls.mono (HOf.out _) ?_
        rintro e w2 ⟨rfl, rfl⟩
        go_wp2_with fail
        go_ret
        exact ⟨rfl, HB1.out⟩
    · have t1 : decide (64 ≤ s) = true := by simp; omega
      have t2 : decide (s ≤ 1024) = false := by simp; omega
      clear h c1 c2
      go_enter Try.func4, Try.ntmps4
      go_wp2_with fail
      refine Calls.mono (known3_c w) ?_
      rintro e w1 ⟨rfl, d1⟩
      have HB1 := Lib.hid d1
      clear d1
      go_wp2_with fail
      refine Calls.mono (HOf.out _) ?_
      rintro e w2 ⟨rfl, rfl⟩
      go_wp2_with fail
      go_ret
      exact ⟨rfl, HB1.out⟩
  · have t1 : decide (64 ≤ s) = false := by simp; omega
    clear h c1
    go_enter Try.func4, Try.ntmps4
    go_wp2_with fail
    refine Calls.mono (known3_c w) ?_
    rintro e w1 ⟨rfl, d1⟩
    have HB1 := Lib.hid d1
    clear d1
    go_wp2_with fail
    refine Calls.mono (HOf.out _) ?_
    rintro e w2 ⟨rfl, rfl⟩
    go_wp2_with fail
    go_ret
    exact ⟨rfl, HB1.out⟩
theorem of_long_w (w : World) (A : Option Addr) (n c : Nat) (s : Int) (hn : 4000 < n) (hm : n ≤ maxLen) : Calls Try.prog 4 #[.slice A n c, .int .i64 s] w (TruP (.bool true) w) := by
  have t0 : decide ((4000 : Int) < (n : Int)) = true := by simp; omega
  clear hn hm
  go_enter Try.func4, Try.ntmps4
  go_wp2_with fail
  refine Calls.mono (known3_c w) ?_
  rintro e w1 ⟨rfl, d1⟩
  have HB1 := Lib.hid d1
  clear d1
  go_wp2_with fail
  go_ret
  exact ⟨rfl, HB1.out⟩
theorem of_cur {secs S k : Nat} {bs : List (BitVec 8)} : curL (dk0 secs S bs) k = (bs.drop (k * S)).take S := by
  unfold curL
  rw [if_pos (show newF (dk0 secs S bs).pend (k : Int) = 0 from rfl)]
  rfl
theorem of_ok_w (w : World) (A : Option Addr) (bs : List (BitVec 8)) (c secs S : Nat) (hn : bs.length ≤ 4000) (hr : Rd b8 w w.heap.size A bs) (h1 : 64 ≤ S ∧ S ≤ 1024) (h2 : 1 ≤ secs ∧ secs ≤ 16384) (h3 : bs.length = secs * S) : Calls Try.prog 4 #[.slice A bs.length c, .int .i64 S] w (TruP (.bool true) w) := by
  have HR := Lib.hid hr
  have HOf := Lib.hid (fun w' (hb : Below w.heap.size w w') => dof_ok w' A bs c secs S ((hr.below hb).more hb.size) h1 h2 h3)
  obtain ⟨n, hnn⟩ : ∃ n, n = bs.length := ⟨_, rfl⟩
  rw [← hnn] at hn h3 HOf ⊢
  have t0 : decide ((4000 : Int) < (n : Int)) = false := by simp; omega
  have q0 : (n : Int) ≤ 4000 := by omega
  have hpos : 0 < n := by rw [h3]; exact Nat.mul_pos (by omega) (by omega)
  have t1 : decide ((64 : Int) ≤ (S : Int)) = true := by simp; omega
  have t2 : decide ((S : Int) ≤ 1024) = true := by simp; omega
  have t3 : decide ((0 : Int) < (n : Int)) = true := by simp; omega
  have q1 : (S : Int) ≤ 1024 := by omega
  have q2 : (64 : Int) ≤ (S : Int) := by omega
  have hn2 : (n : Int) = (secs : Int) * (S : Int) := by rw [h3]; simp
  have hm : (n : Int).tmod (S : Int) = 0 := by rw [hn2, Int.mul_tmod_left]
  have hm2 : (n : Int) % (S : Int) = 0 := by rw [hn2, Int.mul_emod_left]
  have hd : (n : Int).tdiv (S : Int) = (secs : Int) := by rw [hn2, Int.mul_tdiv_cancel _ (by omega)]
  have s0 : ((S : Int) == 0) = false := by simp; omega
  have s1 : ¬ S = 0 := by omega
  have q3 : (secs : Int) ≤ 16384 := by omega
  have HX := Lib.hid (And.intro hnn (And.intro h1 (And.intro h2 h3)))
  have HD := Lib.hid (And.intro hd (And.intro s0 s1))
  clear hn hr h1 h2 h3 hnn hn2 hd
  go_enter Try.func4, Try.ntmps4
  go_wp2_with fail
  refine Calls.mono (known3_c w) ?_
  rintro e w1 ⟨rfl, d1⟩
  have HB1 := Lib.hid d1
  clear d1
  go_wp2_with fail
  refine Calls.mono (HOf.out w1 HB1.out) ?_
  rintro e w2 ⟨g, rfl, h2, d2⟩
  have H2 := Lib.hid h2
  have HB2 := Lib.hid d2
  clear h2 d2 HOf
  go_wp2_with fail
  refine Calls.mono (xshape_c H2.out) ?_
  rintro e w3 ⟨rfl, d3⟩
  have HB3 := Lib.hid (HB2.out.trans (d3.mono HB2.out.size))
  have H3 := Lib.hid (H2.out.below d3)
  rw [show (dk0 secs S bs).secs = secs from rfl, show (dk0 secs S bs).size = S from rfl]
  clear d3
  go_wp2_with fail
  go_loopw [8, 11] (fun o i wr => ∃ k : Nat, k ≤ secs ∧ i = .int .i64 k ∧ o = .string (strB (bs.take (k * S))) ∧ Hid (Below w3.heap.size w3 wr)) (fun _ i _ => secs - (intOf i).toNat)
  case atStart => exact ⟨0, by omega, rfl, by rw [Nat.zero_mul]; rfl, Lib.hid (Below.refl _ _)⟩
  case round =>
    obtain ⟨k, hk, rfl, rfl, hB⟩ := hrel
    by_cases hlt : k < secs
    · have p1 : (0 : Int) ≤ (k : Int) := by omega
      have p2 : (k : Int) < (secs : Int) := by omega
      have HD4 := Lib.hid (H3.out.below hB.out)
      have hrd := xread_ok HD4.out k rfl hlt
      rw [of_cur] at hrd
      have hlen : ((bs.drop (k * S)).take S).length = S := by
        have h1 : (k + 1) * S ≤ secs * S := Nat.mul_le_mul_right _ hlt
        rw [Nat.succ_mul] at h1
        have := HX.out.1
        have := HX.out.2.2.2
        rw [List.length_take, List.length_drop]; omega
      have hap : bs.take (k * S) ++ (bs.drop (k * S)).take S = bs.take ((k + 1) * S) := by rw [Nat.succ_mul, List.take_add]
      obtain ⟨xs, hxs⟩ : ∃ xs, xs = (bs.drop (k * S)).take S := ⟨_, rfl⟩
      rw [← hxs] at hrd hlen hap
      unfold NewQ at hrd
      rw [hlen] at hrd
      have hst : strB (bs.take (k * S)) ++ strB xs = strB (bs.take ((k + 1) * S)) := by rw [strB_app, hap]
      obtain ⟨s1', hs1⟩ : ∃ s, s = strB (bs.take (k * S)) := ⟨_, rfl⟩
      obtain ⟨s2', hs2⟩ : ∃ s, s = strB xs := ⟨_, rfl⟩
      rw [← hs1, ← hs2] at hst
      rw [← hs1]
      have hcat : ∀ W, (Op.stringOp .add s1' s2').run Try.prog W = .ok (.string (s1' ++ s2')) W := fun W => run_string_add_sum (P := Try.prog) (w := W) s1' s2' (by
        rw [hs1, hs2, strB_size, strB_size, List.length_take]
        have := HX.out.1
        omega)
      have HRD := Lib.hid hrd
      have HLN := Lib.hid (And.intro hlen hs2)
      have HST := Lib.hid hst
      clear hrd hlen hap hxs hst hs1 hs2
      go_wp2_with fail
      refine Calls.mono HRD.out ?_
      rintro e w4 ⟨A4, c4, rfl, hc4, ho4, hb4⟩
      have hcv := str_conv xs A4 c4 _ w4 ho4.rd2
      rw [HLN.out.1, ← HLN.out.2] at hcv
      have HB4 := Lib.hid (hB.out.trans (hb4.mono hB.out.size))
      clear hc4 ho4 hb4
      go_wp2_with fail
      go_roundw
      case rel => exact ⟨k + 1, by omega, by go_num, by rw [← HST.out], HB4⟩
      case measure => (first | (simp [intOf]; done) | (simp [intOf]; omega))
    · obtain rfl : k = secs := by omega
      have hst : bs.take (k * S) = bs := List.take_of_length_le (by have := HX.out.1; have := HX.out.2.2.2; omega)
      rw [hst]
      obtain ⟨str, hs⟩ : ∃ s, s = strB bs := ⟨_, rfl⟩
      rw [← hs]
      have hbw := HB1.out.trans ((HB3.out.trans (hB.out.mono HB3.out.size)).mono HB1.out.size)
      have HReg := Lib.hid (fun Q a0 => of_reg Q a0 wr w1.heap.size g k S n c A bs str (Lib.hid hs) (Lib.hid HX.out.1) ((HR.out.below hbw).more hbw.size) (H3.out.below hB.out) HD.out.1 HD.out.2.1 HD.out.2.2 q3 (by omega))
      have HBW := Lib.hid hbw
      clear hst hs hbw hlt
      go_wp2_with fail
      refine HReg.out _ _ rfl rfl rfl rfl rfl rfl rfl ?_
      intro vals w5 hG h4
      unfold IsV at h4
      simp only [putD, Act.put, List.setIfInBounds_toArray, List.set_cons_zero, List.set_cons_succ, h4]
      have HB5 := Lib.hid (HBW.out.trans (hG.mono HBW.out.size))
      clear h4 hG
      go_wp2_with fail
      go_ret
      exact ⟨rfl, HB5.out⟩
theorem of_walk (w : World) (A : Option Addr) (bs : List (BitVec 8)) (c : Nat) (hc : bs.length ≤ c) (hm : c ≤ maxLen) (hr : Rd b8 w w.heap.size A bs) (s : Int) (ws : (Lit.int .i64 s).wf = true) : Calls Try.prog 4 #[.slice A bs.length c, .int .i64 s] w (TruP (.bool true) w) := by
  obtain ⟨h1, h2⟩ := wf64 ws
  by_cases hl : 4000 < bs.length
  · exact of_long_w w A _ c s hl (Nat.le_trans hc hm)
  · cases h : okO bs.length s with
    | false => exact of_bad_w w A _ c s (by omega) h1 h2 h
    | true =>
      unfold okO okS at h
      simp only [Bool.and_eq_true, decide_eq_true_eq] at h
      obtain ⟨e1, e2, e3, e4, e5, e6⟩ := h
      obtain ⟨S, rfl⟩ : ∃ S : Nat, s = (S : Int) := ⟨s.toNat, by omega⟩
      have e7 : (bs.length : Int) / (S : Int) = ((bs.length / S : Nat) : Int) := by simp
      rw [e7] at e3 e4
      have e8 : bs.length % S = 0 := by have : ((bs.length % S : Nat) : Int) = 0 := by rw [← e2]; simp
                                        omega
      exact of_ok_w w A bs c (bs.length / S) S (by omega) hr ⟨by omega, by omega⟩ ⟨by omega, by omega⟩ (Nat.div_mul_cancel (Nat.dvd_of_mod_eq_zero e8)).symm
end Go.Proofs.Ytfcbmdmkdjaoaaa
namespace Go.Proofs.Ytfcbmdmkdjaoaaa.diskOf
open Go.ChangeShapes Go.WideShapes Go.ChangeAt Go.RowKit
open Go.ChangeMaps (open_string shut_string)
set_option linter.unusedVariables false
set_option maxRecDepth 100000 in
theorem lifted (os : Os) (started : os.Started) (H : Type) (enc : TypeId × Value → H) :
    ReturnsInHanded {} Try.checked os 4 .any (Rows.diskOfSpec.pre6 enc Try.prog Try.f4 Rows.diskOfRow.domain false) (Rows.diskOfSpec.post enc Try.prog Try.f4 false true false false) := by
  refine returnsInHanded_of_change (C := Try.checked) own started (by kernel_rfl) Try.func4
    (ChangeSpec.witness6 (enc := enc) (C := Try.checked) false ⟨#[], #[.slice none 0 0, .int .i64 0], []⟩ 8 (by kernel_rfl) (by kernel_rfl) (by kernel_rfl) (by kernel_rfl)) ?_
  intro W base args ds gs before hval0 hW hcnd _
  have hval : ∀ (j : Nat) t v, Try.f4.params[j]? = some t → args[j]? = some v → Value.okWide Try.prog W .any base t v := hval0
  have hW' := hW
  obtain ⟨p, q, hA0, hV, rfl, hfz, hnd⟩ := hW
  have hA : DataW.TrodAll enc Try.prog W 0 (fun _ => true) true Try.f4.params.toList args.toList ds p := hA0
  rw [Try.params4] at hA hval
  obtain ⟨v0, vs0, d0, ds0, p0, q0, hargs, rfl, rfl, h0, r0⟩ := trodAll_cons hA
  obtain ⟨v1, vs1, d1, ds1, p1, q1, rfl, rfl, rfl, h1, r1⟩ := trodAll_cons r0
  obtain ⟨rfl, rfl, rfl⟩ := trodAll_nil r1
  obtain rfl : args = #[v0, v1] := by cases args; simp_all
  obtain ⟨rfl, rfl⟩ := trodVars_none hV
  have k0 := h0
  have lt0 : ∀ x ∈ p0, x.block < W.heap.size := by obtain ⟨m, hm⟩ := k0; exact DataW.trod_lt m _ _ _ hm
  obtain ⟨A0, a0, c0, e0v, g0, m0, w0⟩ := open_bytes Try.underlying34 Try.underlying5 (by kernel_rfl) (hval 0 34 v0 rfl rfl) h0; subst e0v
  have k1 := h1
  have lt1 : ∀ x ∈ p1, x.block < W.heap.size := by obtain ⟨m, hm⟩ := k1; exact DataW.trod_lt m _ _ _ hm
  obtain ⟨a1, e1v, _, _, w1⟩ := open_int Try.underlying3 (hval 1 3 v1 rfl rfl) h1; subst e1v
  clear hA0 hval0
  refine (of_walk W A0 a0 c0 g0 m0 w0 a1 w1).mono fun e W' ⟨he, bel⟩ => ?_
  subst he
  exact ⟨_, rfl, _, _, _, [], _, [], hW', trodAll_mk1 (shut_bool Try.underlying4 _), (trodAll_cons_mk (Below.trod laidOut (by kernel_rfl) (of_decide_eq_true (by kernel_rfl)) k0 bel lt0) (trodAll_cons_mk (Below.trod laidOut (by kernel_rfl) (of_decide_eq_true (by kernel_rfl)) k1 bel lt1) trodAll_mk0)), rfl, bel.frame _, fun h => by cases h⟩
theorem over : Rows.diskOfRow.holds Try.pinned (OpenSpec.ofChange Rows.diskOfSpec) :=
  OpenClaim.holds_of_wide 4 Try.f4 rfl rfl rfl rfl rfl rfl rfl ⟨rfl, rfl, rfl, rfl, rfl⟩ rfl rfl rfl rfl rfl (by kernel_rfl) Try.func4 (by kernel_rfl)
    (of_decide_eq_true (by kernel_rfl)) (by unfold Func.isWrapper; first | (rw [if_pos (by decide +kernel)]; kernel_rfl) | (rw [if_neg (by decide +kernel)]; exact ⟨rfl, rfl⟩))
    (fun os started H enc _ => lifted os started H enc)
theorem proved : Rows.DiskOfSaid := over
end Go.Proofs.Ytfcbmdmkdjaoaaa.diskOf
