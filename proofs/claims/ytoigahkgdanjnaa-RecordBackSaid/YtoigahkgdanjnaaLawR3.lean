/- The law RecordBack of layer 8 returns true for every argument. No conditions. -/
import Derived.Test.YtoigahkgdanjnaaRecG
import Derived.Test.YtoigahkgdanjnaaRecJ
import Derived.Test.YtoigahkgdanjnaaRecK
import Derived.Test.YtoigahkgdanjnaaOpenX
namespace Go.Proofs.Ytoigahkgdanjnaa
set_option linter.unusedVariables false
set_option linter.unusedSimpArgs false
open Go.RowKit
set_option maxHeartbeats 400000
set_option maxRecDepth 100000
theorem of_r8 {P : Program} {f : FuncId} {args : Array Value} {v : Value} {w : World} (h : Calls P f args w (RetP v w)) : Calls P f args w fun e w2 => ∃ u, e = .returned u ∧ Below w.heap.size w w2 ∧ IsV v u w2 :=
  h.mono fun _ _ h => ⟨_, h.1, h.2, rfl⟩
theorem same_n (k : Int) (tx : BitVec 64) (sp no : Int) (A A2 : Option Addr) (d : List (BitVec 8)) (n c c2 : Nat) (w : World) (hn : n = d.length) (h1 : Rd b8 w w.heap.size A d) (h2 : Rd b8 w w.heap.size A2 d) : Calls Try.prog 12 #[recV k tx sp no A n c, recV k tx sp no A2 n c2] w (RetP (.bool true) w) := by
  subst hn
  exact same_c k tx sp no A A2 d c c2 w h1 h2
theorem rsame_n (k : Int) (tx : BitVec 64) (sp no : Int) (A A2 : Option Addr) (d : List (BitVec 8)) (n c c2 : Nat) (w : World) (hn : n = d.length) (h1 : Rd b8 w w.heap.size A d) (h2 : Rd b8 w w.heap.size A2 d) : Calls Try.prog 13 #[recV k tx sp no A n c, recV k tx sp no A2 n c2] w (RetP (.bool true) w) := by
  subst hn
  exact rsame_c k tx sp no A A2 d c c2 w h1 h2
theorem rb_reg (Q : Exit → Act → World → Prop) (a0 : Act) (w : World) (g1 g7 EL c3 n c c7 : Nat) (k sp no : Int) (tx : BitVec 64) (A A3 A7 : Option Addr) (d : List (BitVec 8)) (hn : Hid (n = d.length)) (hk1 : Bk w g1 27 #[.int .i64 k, .int .u64 (U64 tx), .int .i64 sp, .int .i64 no, .slice A n c]) (hk7 : Bk w g7 27 #[.int .i64 k, .int .u64 (U64 tx), .int .i64 sp, .int .i64 no, .slice A7 n c7]) (hr : Rd b8 w w.heap.size A d) (hr7 : Rd b8 w w.heap.size A7 d) (hsz : a0.tmps.size = 65) (sl1 : a0.tmps.getD 1 undef = .pointer (some ⟨g1, 0, none⟩)) (sl3 : a0.tmps.getD 3 undef = .slice A3 EL c3) (sl7 : a0.tmps.getD 7 undef = .pointer (some ⟨g7, 0, none⟩)) (sl8 : a0.tmps.getD 8 undef = .int .i64 (EL : Int)) (sl9 : a0.tmps.getD 9 undef = .int .i64 0)
    (fin : ∀ (vals : Nat → Value) (w1 : World), Below w.heap.size w w1 → (IsV (.bool true)) (vals 20) w1 → Q .normal (putD vals [45, 46, 47, 48, 49, 50, 51, 52, 53, 54, 55, 56, 57, 58, 59, 60, 61, 62, 63, 64, 2] 0 a0) w1) :
    (Code.region 12 (regIn Try.f3 12) true).wp Try.prog Q a0 w := by
  refine region_by (G := fun w w1 => Below w.heap.size w w1) [IsV (.int .i64 0),
    IsV (.bool true),
    IsV (.bool true),
    IsV (.int .i64 (EL : Int)),
    IsV (.slice A3 EL c3),
    IsV (.int .i64 (EL : Int)),
    IsV (.bool true),
    IsV (.bool true),
    IsV (.bool true),
    IsV (recV k tx sp no A7 n c7),
    IsV (recV k tx sp no A n c),
    IsV (.bool true),
    IsV (.bool true),
    IsV (.bool true),
    IsV (recV k tx sp no A7 n c7),
    IsV (recV k tx sp no A7 n c7),
    IsV (recV k tx sp no A n c),
    IsV (recV k tx sp no A n c),
    IsV (.bool true),
    IsV (.bool true),
    IsV (.bool true)]
    [45, 46, 47, 48, 49, 50, 51, 52, 53, 54, 55, 56, 57, 58, 59, 60, 61, 62, 63, 64, 2] (by kernel_rfl) (Gw.drew _) Gw.trans (by rw [hsz]; kernel_rfl) (by kernel_rfl) ?_ ?_ ?_
  · intro f hf
    simp only [List.mem_cons, List.not_mem_nil, or_false] at hf
    rcases hf with rfl | rfl | rfl | rfl | rfl | rfl | rfl | rfl | rfl | rfl | rfl | rfl | rfl | rfl | rfl | rfl | rfl | rfl | rfl | rfl | rfl <;> intro v a b h g <;> first | exact IsV.mono h
  · refine ⟨?_, ?_, ?_, ?_, ?_, ?_, ?_, ?_, ?_, ?_, ?_, ?_, ?_, ?_, ?_, ?_, ?_, ?_, ?_, ?_, ?_, trivial⟩
    · exact owes_mv 9 (by kernel_rfl) (by kernel_rfl) (by kernel_rfl) sl9 (fun _ => rfl)
    · refine owes_v (Go.Op.binOp Go.BinOp.eql 3 (Go.Operand.tmp 45) (Go.Operand.const (Go.Value.int Go.IntKind.i64 0)) 3) 4 [0] (by kernel_rfl) (by kernel_rfl) (by kernel_rfl) rfl fun vals w1 ρ hG hF hρ hcst hfun => ?_
      have e45 : ρ (.tmp 45) = .int .i64 0 := ((hρ 45).trans (slotJ [0] (by rw [hsz]; decide) (by kernel_rfl))).trans (hF 0 (by decide))
      clear hρ hF hfun sl1 sl3 sl7 sl8 sl9 fin
      exact opv_val (by go_simp <;> rfl) ⟨gw_self _, rfl⟩
    · exact owes_mvj 1 46 (by kernel_rfl) (by kernel_rfl) (by kernel_rfl) (by kernel_rfl) (by rw [hsz]; decide) (fun v w h => h)
    · refine owes_vt 2 true (Go.Op.move (Go.Operand.tmp 8)) 3 [] (by kernel_rfl) (by kernel_rfl) (by kernel_rfl) (fun _ _ h => h) (by rw [hsz]; kernel_rfl) (by kernel_rfl) rfl fun vals w1 ρ hG hF hρ hcst hfun => ?_
      have e8 : ρ (.tmp 8) = .int .i64 (EL : Int) := ((hρ 8).trans (slotO [] (by kernel_rfl))).trans sl8
      clear hρ hF hcst hfun sl1 sl3 sl7 sl8 sl9 fin
      exact opv_val (by go_simp <;> rfl) ⟨gw_self _, rfl⟩
    · refine owes_vt 2 true (Go.Op.move (Go.Operand.tmp 3)) 25 [] (by kernel_rfl) (by kernel_rfl) (by kernel_rfl) (fun _ _ h => h) (by rw [hsz]; kernel_rfl) (by kernel_rfl) rfl fun vals w1 ρ hG hF hρ hcst hfun => ?_
      have e3 : ρ (.tmp 3) = .slice A3 EL c3 := ((hρ 3).trans (slotO [] (by kernel_rfl))).trans sl3
      clear hρ hF hcst hfun sl1 sl3 sl7 sl8 sl9 fin
      exact opv_val (by go_simp <;> rfl) ⟨gw_self _, rfl⟩
    · refine owes_vt 2 true (Go.Op.call { callee := Go.Callee.builtin Go.Builtin.len, args := #[Go.Operand.tmp 49], argTypes := #[25] }) 3 [4] (by kernel_rfl) (by kernel_rfl) (by kernel_rfl) (fun _ _ h => h) (by rw [hsz]; kernel_rfl) (by kernel_rfl) rfl fun vals w1 ρ hG hF hρ hcst hfun => ?_
      have e49 : ρ (.tmp 49) = .slice A3 EL c3 := ((hρ 49).trans (slotJ [4] (by rw [hsz]; decide) (by kernel_rfl))).trans (hF 4 (by decide))
      clear hρ hF hcst hfun sl1 sl3 sl7 sl8 sl9 fin
      exact opv_val (by go_simp <;> rfl) ⟨gw_self _, rfl⟩
    · refine owes_vt 2 true (Go.Op.binOp Go.BinOp.eql 3 (Go.Operand.tmp 48) (Go.Operand.tmp 50) 3) 4 [3, 5] (by kernel_rfl) (by kernel_rfl) (by kernel_rfl) (fun _ _ h => h) (by rw [hsz]; kernel_rfl) (by kernel_rfl) rfl fun vals w1 ρ hG hF hρ hcst hfun => ?_
      have e48 : ρ (.tmp 48) = .int .i64 (EL : Int) := ((hρ 48).trans (slotJ [3, 5] (by rw [hsz]; decide) (by kernel_rfl))).trans (hF 3 (by decide))
      have e50 : ρ (.tmp 50) = .int .i64 (EL : Int) := ((hρ 50).trans (slotJ [3, 5] (by rw [hsz]; decide) (by kernel_rfl))).trans (hF 5 (by decide))
      clear hρ hF hcst hfun sl1 sl3 sl7 sl8 sl9 fin
      exact opv_val (by go_simp <;> rfl) ⟨gw_self _, rfl⟩
    · refine owes_v (Go.Op.pick (Go.Operand.tmp 47) (Go.Operand.tmp 51) (Go.Operand.const (Go.Value.bool false))) 4 [2, 6] (by kernel_rfl) (by kernel_rfl) (by kernel_rfl) rfl fun vals w1 ρ hG hF hρ hcst hfun => ?_
      have e47 : ρ (.tmp 47) = .bool true := ((hρ 47).trans (slotJ [2, 6] (by rw [hsz]; decide) (by kernel_rfl))).trans (hF 2 (by decide))
      have e51 : ρ (.tmp 51) = .bool true := ((hρ 51).trans (slotJ [2, 6] (by rw [hsz]; decide) (by kernel_rfl))).trans (hF 6 (by decide))
      clear hρ hF hfun sl1 sl3 sl7 sl8 sl9 fin
      exact opv_val (by go_simp <;> rfl) ⟨gw_self _, rfl⟩
    · exact owes_mvj 7 52 (by kernel_rfl) (by kernel_rfl) (by kernel_rfl) (by kernel_rfl) (by rw [hsz]; decide) (fun v w h => h)
    · refine owes_vt 8 true (Go.Op.load 27 (Go.Operand.tmp 7)) 27 [] (by kernel_rfl) (by kernel_rfl) (by kernel_rfl) (fun _ _ h => h) (by rw [hsz]; kernel_rfl) (by kernel_rfl) rfl fun vals w1 ρ hG hF hρ hcst hfun => ?_
      have e7 : ρ (.tmp 7) = .pointer (some ⟨g7, 0, none⟩) := ((hρ 7).trans (slotO [] (by kernel_rfl))).trans sl7
      obtain ⟨k0, k1, k2, k3, k4⟩ := (hk7.below hG hk7.lt).five
      clear hρ hF hcst hfun sl1 sl3 sl7 sl8 sl9 fin
      exact opv_val (by go_simp <;> rfl) ⟨gw_self _, rfl⟩
    · refine owes_vt 8 true (Go.Op.load 27 (Go.Operand.tmp 1)) 27 [] (by kernel_rfl) (by kernel_rfl) (by kernel_rfl) (fun _ _ h => h) (by rw [hsz]; kernel_rfl) (by kernel_rfl) rfl fun vals w1 ρ hG hF hρ hcst hfun => ?_
      have e1 : ρ (.tmp 1) = .pointer (some ⟨g1, 0, none⟩) := ((hρ 1).trans (slotO [] (by kernel_rfl))).trans sl1
      obtain ⟨k0, k1, k2, k3, k4⟩ := (hk1.below hG hk1.lt).five
      clear hρ hF hcst hfun sl1 sl3 sl7 sl8 sl9 fin
      exact opv_val (by go_simp <;> rfl) ⟨gw_self _, rfl⟩
    · refine owes_vt 8 true (Go.Op.call { callee := Go.Callee.value (Go.Operand.func 12), args := #[Go.Operand.tmp 54, Go.Operand.tmp 55], argTypes := #[27, 27] }) 4 [9, 10] (by kernel_rfl) (by kernel_rfl) (by kernel_rfl) (fun _ _ h => h) (by rw [hsz]; kernel_rfl) (by kernel_rfl) rfl fun vals w1 ρ hG hF hρ hcst hfun => ?_
      have e54 : ρ (.tmp 54) = recV k tx sp no A7 n c7 := ((hρ 54).trans (slotJ [9, 10] (by rw [hsz]; decide) (by kernel_rfl))).trans (hF 9 (by decide))
      have e55 : ρ (.tmp 55) = recV k tx sp no A n c := ((hρ 55).trans (slotJ [9, 10] (by rw [hsz]; decide) (by kernel_rfl))).trans (hF 10 (by decide))
      clear hρ hF hcst sl1 sl3 sl7 sl8 sl9 fin
      exact opv_enter (by go_simp <;> rfl) (of_r8 (same_n k tx sp no A7 A d n c7 c w1 hn.out ((hr7.below hG).more hG.size) ((hr.below hG).more hG.size)))
    · refine owes_v (Go.Op.pick (Go.Operand.tmp 53) (Go.Operand.tmp 56) (Go.Operand.const (Go.Value.bool false))) 4 [8, 11] (by kernel_rfl) (by kernel_rfl) (by kernel_rfl) rfl fun vals w1 ρ hG hF hρ hcst hfun => ?_
      have e53 : ρ (.tmp 53) = .bool true := ((hρ 53).trans (slotJ [8, 11] (by rw [hsz]; decide) (by kernel_rfl))).trans (hF 8 (by decide))
      have e56 : ρ (.tmp 56) = .bool true := ((hρ 56).trans (slotJ [8, 11] (by rw [hsz]; decide) (by kernel_rfl))).trans (hF 11 (by decide))
      clear hρ hF hfun sl1 sl3 sl7 sl8 sl9 fin
      exact opv_val (by go_simp <;> rfl) ⟨gw_self _, rfl⟩
    · exact owes_mvj 12 57 (by kernel_rfl) (by kernel_rfl) (by kernel_rfl) (by kernel_rfl) (by rw [hsz]; decide) (fun v w h => h)
    · refine owes_vt 13 true (Go.Op.load 27 (Go.Operand.tmp 7)) 27 [] (by kernel_rfl) (by kernel_rfl) (by kernel_rfl) (fun _ _ h => h) (by rw [hsz]; kernel_rfl) (by kernel_rfl) rfl fun vals w1 ρ hG hF hρ hcst hfun => ?_
      have e7 : ρ (.tmp 7) = .pointer (some ⟨g7, 0, none⟩) := ((hρ 7).trans (slotO [] (by kernel_rfl))).trans sl7
      obtain ⟨k0, k1, k2, k3, k4⟩ := (hk7.below hG hk7.lt).five
      clear hρ hF hcst hfun sl1 sl3 sl7 sl8 sl9 fin
      exact opv_val (by go_simp <;> rfl) ⟨gw_self _, rfl⟩
    · refine owes_vt 13 true (Go.Op.call { callee := Go.Callee.value (Go.Operand.func 10), args := #[Go.Operand.tmp 59], argTypes := #[27] }) 36 [14] (by kernel_rfl) (by kernel_rfl) (by kernel_rfl) (fun _ _ h => h) (by rw [hsz]; kernel_rfl) (by kernel_rfl) rfl fun vals w1 ρ hG hF hρ hcst hfun => ?_
      have e59 : ρ (.tmp 59) = recV k tx sp no A7 n c7 := ((hρ 59).trans (slotJ [14] (by rw [hsz]; decide) (by kernel_rfl))).trans (hF 14 (by decide))
      clear hρ hF hcst sl1 sl3 sl7 sl8 sl9 fin
      exact opv_enter (by go_simp <;> rfl) (of_r8 (of8_c k tx sp no A7 n c7 w1))
    · refine owes_vt 13 true (Go.Op.load 27 (Go.Operand.tmp 1)) 27 [] (by kernel_rfl) (by kernel_rfl) (by kernel_rfl) (fun _ _ h => h) (by rw [hsz]; kernel_rfl) (by kernel_rfl) rfl fun vals w1 ρ hG hF hρ hcst hfun => ?_
      have e1 : ρ (.tmp 1) = .pointer (some ⟨g1, 0, none⟩) := ((hρ 1).trans (slotO [] (by kernel_rfl))).trans sl1
      obtain ⟨k0, k1, k2, k3, k4⟩ := (hk1.below hG hk1.lt).five
      clear hρ hF hcst hfun sl1 sl3 sl7 sl8 sl9 fin
      exact opv_val (by go_simp <;> rfl) ⟨gw_self _, rfl⟩
    · refine owes_vt 13 true (Go.Op.call { callee := Go.Callee.value (Go.Operand.func 10), args := #[Go.Operand.tmp 61], argTypes := #[27] }) 36 [16] (by kernel_rfl) (by kernel_rfl) (by kernel_rfl) (fun _ _ h => h) (by rw [hsz]; kernel_rfl) (by kernel_rfl) rfl fun vals w1 ρ hG hF hρ hcst hfun => ?_
      have e61 : ρ (.tmp 61) = recV k tx sp no A n c := ((hρ 61).trans (slotJ [16] (by rw [hsz]; decide) (by kernel_rfl))).trans (hF 16 (by decide))
      clear hρ hF hcst sl1 sl3 sl7 sl8 sl9 fin
      exact opv_enter (by go_simp <;> rfl) (of_r8 (of8_c k tx sp no A n c w1))
    · refine owes_vt 13 true (Go.Op.call { callee := Go.Callee.value (Go.Operand.func 13), args := #[Go.Operand.tmp 60, Go.Operand.tmp 62], argTypes := #[36, 36] }) 4 [15, 17] (by kernel_rfl) (by kernel_rfl) (by kernel_rfl) (fun _ _ h => h) (by rw [hsz]; kernel_rfl) (by kernel_rfl) rfl fun vals w1 ρ hG hF hρ hcst hfun => ?_
      have e60 : ρ (.tmp 60) = recV k tx sp no A7 n c7 := ((hρ 60).trans (slotJ [15, 17] (by rw [hsz]; decide) (by kernel_rfl))).trans (hF 15 (by decide))
      have e62 : ρ (.tmp 62) = recV k tx sp no A n c := ((hρ 62).trans (slotJ [15, 17] (by rw [hsz]; decide) (by kernel_rfl))).trans (hF 17 (by decide))
      clear hρ hF hcst sl1 sl3 sl7 sl8 sl9 fin
      exact opv_enter (by go_simp <;> rfl) (of_r8 (rsame_n k tx sp no A7 A d n c7 c w1 hn.out ((hr7.below hG).more hG.size) ((hr.below hG).more hG.size)))
    · refine owes_v (Go.Op.pick (Go.Operand.tmp 58) (Go.Operand.tmp 63) (Go.Operand.const (Go.Value.bool false))) 4 [13, 18] (by kernel_rfl) (by kernel_rfl) (by kernel_rfl) rfl fun vals w1 ρ hG hF hρ hcst hfun => ?_
      have e58 : ρ (.tmp 58) = .bool true := ((hρ 58).trans (slotJ [13, 18] (by rw [hsz]; decide) (by kernel_rfl))).trans (hF 13 (by decide))
      have e63 : ρ (.tmp 63) = .bool true := ((hρ 63).trans (slotJ [13, 18] (by rw [hsz]; decide) (by kernel_rfl))).trans (hF 18 (by decide))
      clear hρ hF hfun sl1 sl3 sl7 sl8 sl9 fin
      exact opv_val (by go_simp <;> rfl) ⟨gw_self _, rfl⟩
    · exact owes_mvj 19 64 (by kernel_rfl) (by kernel_rfl) (by kernel_rfl) (by kernel_rfl) (by rw [hsz]; decide) (fun v w h => h)
  · intro vals w1 hG hF
    exact fin vals w1 hG (hF 20 (by decide +kernel))
theorem back_far (w : World) (k : Int) (tx : BitVec 64) (sp no : Int) (A : Option Addr) (n c : Nat) (h : 5000 < n) : Calls Try.prog 3 #[recV k tx sp no A n c] w (TruP (.bool true) w) := by
  have HK := Lib.hid (Bk.new w 27 #[.int .i64 k, .int .u64 (U64 tx), .int .i64 sp, .int .i64 no, .slice A n c])
  have hb := Lib.hid (Gw.alloc w (.cells #[.int .i64 k, .int .u64 (U64 tx), .int .i64 sp, .int .i64 no, .slice A n c] 27))
  unfold recV
  have h' : 5000 < (n : Int) := by omega
  clear h
  go_enter Try.func3, Try.ntmps3
  go_wp2_with fail
  refine Calls.mono (known8_c _) ?_
  rintro e w1 ⟨rfl, b1⟩
  have HB1 := Lib.hid (hb.out.trans (b1.mono hb.out.size))
  obtain ⟨c0, c1, c2', c3, c4⟩ := (HK.out.below b1 HK.out.lt).five
  clear b1
  go_wp2_with fail
  go_ret
  exact ⟨rfl, HB1.out⟩
theorem back_no (w : World) (k : Int) (tx : BitVec 64) (sp no : Int) (A : Option Addr) (n c : Nat) (h : ¬ 5000 < n) (er : Int) (her : er ≠ 0) (hE : ∀ W, Calls Try.prog 8 #[recV k tx sp no A n c] W (RetP (.tuple #[.slice none 0 0, .int .i64 er]) W)) (hF : ∀ W, Calls Try.prog 9 #[recV k tx sp no A n c] W (RetP (.tuple #[.slice none 0 0, .int .i64 er]) W)) : Calls Try.prog 3 #[recV k tx sp no A n c] w (TruP (.bool true) w) := by
  have HK := Lib.hid (Bk.new w 27 #[.int .i64 k, .int .u64 (U64 tx), .int .i64 sp, .int .i64 no, .slice A n c])
  have hb := Lib.hid (Gw.alloc w (.cells #[.int .i64 k, .int .u64 (U64 tx), .int .i64 sp, .int .i64 no, .slice A n c] 27))
  have HE := Lib.hid hE
  have HF := Lib.hid hF
  have HO := Lib.hid (fun W => of8_c k tx sp no A n c W)
  have h' : ¬ 5000 < (n : Int) := by omega
  have t1 : (er != 0) = true := by simp [her]
  have sc : ∀ W : World, (convert 25 9 (.slice none 0 0)).run Try.prog W = .ok (.string (strB [])) W := fun W => str_conv [] none 0 0 W Rd.nil
  unfold recV at HE HF HO ⊢
  clear h hE hF her
  go_enter Try.func3, Try.ntmps3
  go_wp2_with fail
  refine Calls.mono (known8_c _) ?_
  rintro e w1 ⟨rfl, b1⟩
  have HB1 := Lib.hid (hb.out.trans (b1.mono hb.out.size))
  have HK1 := Lib.hid (HK.out.below b1 HK.out.lt)
  obtain ⟨c0, c1, c2', c3, c4⟩ := HK1.out.five
  clear b1
  go_wp2_with fail
  refine Calls.mono (HE.out _) ?_
  rintro e w2 ⟨rfl, b2⟩
  have HB2 := Lib.hid (HB1.out.trans (b2.mono HB1.out.size))
  have HK2 := Lib.hid (HK1.out.below b2 HK1.out.lt)
  clear c0 c1 c2' c3 c4 b2
  obtain ⟨c0, c1, c2', c3, c4⟩ := HK2.out.five
  go_wp2_with fail
  refine Calls.mono (HO.out _) ?_
  rintro e w3 ⟨rfl, b3⟩
  have HB3 := Lib.hid (HB2.out.trans (b3.mono HB2.out.size))
  clear b3 c0 c1 c2' c3 c4
  go_wp2_with fail
  refine Calls.mono (HF.out _) ?_
  rintro e w4 ⟨rfl, b4⟩
  have HB4 := Lib.hid (HB3.out.trans (b4.mono HB3.out.size))
  clear b4
  go_wp2_with fail
  go_ret
  exact ⟨rfl, HB4.out⟩
theorem back_ok (w : World) (k : Nat) (tx : BitVec 64) (sp no : Nat) (A : Option Addr) (d : List (BitVec 8)) (c : Nat) (hb : ¬ badR k sp no) (hd : d.length ≤ 4096) (hr : Rd b8 w w.heap.size A d) : Calls Try.prog 3 #[recV k tx sp no A d.length c] w (TruP (.bool true) w) := by
  obtain ⟨n, hn⟩ : ∃ n, n = d.length := ⟨_, rfl⟩
  have HK := Lib.hid (Bk.new w 27 #[.int .i64 k, .int .u64 (U64 tx), .int .i64 sp, .int .i64 no, .slice A n c])
  have HB := Lib.hid (Gw.alloc w (.cells #[.int .i64 k, .int .u64 (U64 tx), .int .i64 sp, .int .i64 no, .slice A n c] 27))
  have HE := Lib.hid (fun W (q : Rd b8 W W.heap.size A d) => encode_ok k tx sp no A d c W hb hd q)
  have HF := Lib.hid (fun W (q : Rd b8 W W.heap.size A d) => rencode_ok k tx sp no A d c W hb hd q)
  have HO := Lib.hid (fun W => of8_c (k : Int) tx sp no A n c W)
  have HDO := Lib.hid (fun W (A' : Option Addr) (c' : Nat) (q1 : (encRL k tx sp no d ++ []).length ≤ c') (q2 : Rd b8 W W.heap.size A' (encRL k tx sp no d ++ [])) => decode_ok k tx sp no A' d [] c' W hb hd (by decide) q1 q2)
  have HEL := Lib.hid (encRL_len k tx sp no d)
  rw [← hn] at HE HF ⊢
  have HN := Lib.hid hn
  have HR := Lib.hid hr
  have q1 : ¬ 5000 < (n : Int) := by omega
  unfold recV at HE HF HO ⊢
  clear hb hn hd hr
  go_enter Try.func3, Try.ntmps3
  go_wp2_with fail
  refine Calls.mono (known8_c _) ?_
  rintro e w1 ⟨rfl, b1⟩
  have HB1 := Lib.hid (HB.out.trans (b1.mono HB.out.size))
  have HK1 := Lib.hid (HK.out.below b1 HK.out.lt)
  obtain ⟨c0, c1, c2', c3, c4⟩ := HK1.out.five
  clear b1 HB HK
  go_wp2_with fail
  refine Calls.mono (HE.out _ ((HR.out.below HB1.out).more HB1.out.size)) ?_
  rintro e w2 ⟨A3, k3, rfl, hk3, hr3, b2, ha3⟩
  have HB2 := Lib.hid (HB1.out.trans (b2.mono HB1.out.size))
  have HK2 := Lib.hid (HK1.out.below b2 HK1.out.lt)
  have HR3 := Lib.hid hr3
  have H3 := Lib.hid hk3
  obtain ⟨EL, hEL⟩ : ∃ EL, EL = (encRL k tx sp no d).length := ⟨_, rfl⟩
  have HELL := Lib.hid hEL
  rw [← hEL]
  clear hEL b2 hr3 ha3 hk3 HB1 HK1 HE c0 c1 c2' c3 c4
  obtain ⟨c0, c1, c2', c3, c4⟩ := HK2.out.five
  go_wp2_with fail
  refine Calls.mono (HO.out _) ?_
  rintro e w3 ⟨rfl, b3⟩
  have HB3 := Lib.hid (HB2.out.trans (b3.mono HB2.out.size))
  have HK3 := Lib.hid (HK2.out.below b3 HK2.out.lt)
  have HR3' := Lib.hid ((HR3.out.below b3).more b3.size)
  clear b3 HB2 HK2 HR3 c0 c1 c2' c3 c4
  go_wp2_with fail
  refine Calls.mono (HF.out _ ((HR.out.below HB3.out).more HB3.out.size)) ?_
  rintro e w4 ⟨A5, k5, rfl, hk5, hr5, b4, ha5⟩
  have HB4 := Lib.hid (HB3.out.trans (b4.mono HB3.out.size))
  have HK4 := Lib.hid (HK3.out.below b4 HK3.out.lt)
  have HR4 := Lib.hid ((HR3'.out.below b4).more b4.size)
  have s1 := str_conv (encRL k tx sp no d) A3 k3 _ w4 HR4.out
  have s2 := str_conv (encRL k tx sp no d) A5 k5 _ w4 hr5
  rw [← HELL.out] at s1 s2 ⊢
  clear b4 HB3 HK3 HR3' hk5 hr5 ha5
  have HD := Lib.hid (HDO.out w4 A3 k3 (by rw [List.append_nil]; exact H3.out) (by rw [List.append_nil]; exact HR4.out))
  rw [List.append_nil, ← HELL.out] at HD
  go_wp2_with fail
  clear s1 s2
  refine Calls.mono HD.out ?_
  rintro e w7 ⟨A7, k7, rfl, hr7, b7, ha7⟩
  rw [← HELL.out, ← HN.out]
  unfold recV
  obtain ⟨W8, hW8⟩ : ∃ W, W = w7.alloc (.cells #[.int .i64 (k : Int), .int .u64 (U64 tx), .int .i64 (sp : Int), .int .i64 (no : Int), .slice A7 n k7] 27) := ⟨_, rfl⟩
  have HB8 : Hid (Below w.heap.size w W8) := Lib.hid (by rw [hW8]; exact (HB4.out.trans (b7.mono HB4.out.size)).trans ((Gw.alloc w7 _).mono (HB4.out.trans (b7.mono HB4.out.size)).size))
  have HK8 : Hid (Bk W8 w.heap.size 27 #[.int .i64 (k : Int), .int .u64 (U64 tx), .int .i64 (sp : Int), .int .i64 (no : Int), .slice A n c]) := Lib.hid (by rw [hW8]; exact (HK4.out.below b7 HK4.out.lt).alloc _)
  have HJ8 : Hid (Bk W8 w7.heap.size 27 #[.int .i64 (k : Int), .int .u64 (U64 tx), .int .i64 (sp : Int), .int .i64 (no : Int), .slice A7 n k7]) := Lib.hid (by rw [hW8]; exact Bk.new w7 _ _)
  have HR8 : Hid (Rd b8 W8 W8.heap.size A7 d) := Lib.hid (by rw [hW8]; exact (hr7.alloc (Nat.le_refl _) _).more (by simp))
  clear hr7 b7 ha7 HB4 HK4 HR4 HD HO HF HDO
  subst hW8
  go_wp2_with fail
  refine rb_reg _ _ _ w.heap.size w7.heap.size EL k3 n c k7 k sp no tx A A3 A7 d HN HK8.out HJ8.out ((HR.out.below HB8.out).more HB8.out.size) HR8.out rfl rfl rfl rfl rfl rfl ?_
  intro vals w9 hG h2
  unfold IsV at h2
  simp only [putD, Act.put, List.setIfInBounds_toArray, List.set_cons_zero, List.set_cons_succ, h2]
  have HB9 := Lib.hid (HB8.out.trans (hG.mono HB8.out.size))
  clear h2 hG
  go_wp2_with fail
  go_ret
  exact ⟨rfl, HB9.out⟩
theorem back_walk (w : World) (x : Rc) (hx : RcOk w w.heap.size x) : Calls Try.prog 3 #[x.v] w (TruP (.bool true) w) := by
  obtain ⟨k, tx, sp, no, A, d, c⟩ := x
  have hr := hx.rd
  change Calls Try.prog 3 #[recV k tx sp no A d.length c] w (TruP (.bool true) w)
  change Rd b8 w w.heap.size A d at hr
  clear hx
  by_cases h : 5000 < d.length
  · exact back_far w k tx sp no A d.length c h
  · by_cases hb : badR k sp no
    · exact back_no w k tx sp no A d.length c h 1 (by decide) (fun W => encode_no k tx sp no A d.length c W 1 (by decide) (fun W => check_bad k tx sp no A d.length c W hb)) (fun W => rencode_bad k tx sp no A d.length c W hb)
    · by_cases hl : 4096 < d.length
      · exact back_no w k tx sp no A d.length c h 3 (by decide) (fun W => encode_no k tx sp no A d.length c W 3 (by decide) (fun W => check_long k tx sp no A d.length c W hb hl)) (fun W => rencode_long k tx sp no A d.length c W hb hl)
      · obtain ⟨k', rfl⟩ : ∃ s : Nat, k = (s : Int) := ⟨k.toNat, by unfold badR at hb; omega⟩
        obtain ⟨sp', rfl⟩ : ∃ s : Nat, sp = (s : Int) := ⟨sp.toNat, by unfold badR at hb; omega⟩
        obtain ⟨no', rfl⟩ : ∃ s : Nat, no = (s : Int) := ⟨no.toNat, by unfold badR at hb; omega⟩
        exact back_ok w k' tx sp' no' A d c hb (by omega) hr
end Go.Proofs.Ytoigahkgdanjnaa
namespace Go.Proofs.Ytoigahkgdanjnaa.recordBack
open Go.ChangeShapes Go.WideShapes Go.ChangeAt Go.RowKit
open Go.ChangeMaps (open_string shut_string)
set_option linter.unusedVariables false
set_option maxRecDepth 100000 in
theorem lifted (os : Os) (started : os.Started) (H : Type) (enc : TypeId × Value → H) :
    ReturnsInHanded {} Try.checked os 3 .any (Rows.recordBackSpec.pre6 enc Try.prog Try.f3 Rows.recordBackRow.domain false) (Rows.recordBackSpec.post enc Try.prog Try.f3 false true false false) := by
  refine returnsInHanded_of_change (C := Try.checked) own started (by kernel_rfl) Try.func3
    (ChangeSpec.witness6 (enc := enc) (C := Try.checked) false ⟨#[], #[.agg #[.int .i64 0, .int .u64 0, .int .i64 0, .int .i64 0, .slice none 0 0]], []⟩ 8 (by kernel_rfl) (by kernel_rfl) (by kernel_rfl) (by kernel_rfl)) ?_
  intro W base args ds gs before hval0 hW hcnd _
  have hval : ∀ (j : Nat) t v, Try.f3.params[j]? = some t → args[j]? = some v → Value.okWide Try.prog W .any base t v := hval0
  have hW' := hW
  obtain ⟨p, q, hA0, hV, rfl, hfz, hnd⟩ := hW
  have hA : DataW.TrodAll enc Try.prog W 0 (fun _ => true) true Try.f3.params.toList args.toList ds p := hA0
  rw [Try.params3] at hA hval
  obtain ⟨v0, vs0, d0, ds0, p0, q0, hargs, rfl, rfl, h0, r0⟩ := trodAll_cons hA
  obtain ⟨rfl, rfl, rfl⟩ := trodAll_nil r0
  obtain rfl : args = #[v0] := by cases args; simp_all
  obtain ⟨rfl, rfl⟩ := trodVars_none hV
  have k0 := h0
  have lt0 : ∀ x ∈ p0, x.block < W.heap.size := by obtain ⟨m, hm⟩ := k0; exact DataW.trod_lt m _ _ _ hm
  obtain ⟨a0, e0v, w0⟩ := open_str_Record (hval 0 27 v0 rfl rfl) h0; subst e0v
  clear hA0 hval0
  refine (back_walk W a0 w0).mono fun e W' ⟨he, bel⟩ => ?_
  subst he
  exact ⟨_, rfl, _, _, _, [], _, [], hW', trodAll_mk1 (shut_bool Try.underlying4 _), (trodAll_cons_mk (Below.trod laidOut (by kernel_rfl) (of_decide_eq_true (by kernel_rfl)) k0 bel lt0) trodAll_mk0), rfl, bel.frame _, fun h => by cases h⟩
theorem over : Rows.recordBackRow.holds Try.pinned (OpenSpec.ofChange Rows.recordBackSpec) :=
  OpenClaim.holds_of_wide 3 Try.f3 rfl rfl rfl rfl rfl rfl rfl ⟨rfl, rfl, rfl, rfl, rfl⟩ rfl rfl rfl rfl rfl (by kernel_rfl) Try.func3 (by kernel_rfl)
    (of_decide_eq_true (by kernel_rfl)) (by unfold Func.isWrapper; first | (rw [if_pos (by decide +kernel)]; kernel_rfl) | (rw [if_neg (by decide +kernel)]; exact ⟨rfl, rfl⟩))
    (fun os started H enc _ => lifted os started H enc)
theorem proved : Rows.RecordBackSaid := over
end Go.Proofs.Ytoigahkgdanjnaa.recordBack
