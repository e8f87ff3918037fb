/- The law NameTexts of layer 19 returns true for every argument. No conditions. -/
import Derived.Test.YtdfhdgdhhgabbaaNmL
import Derived.Test.YtdfhdgdhhgabbaaNmM
import Derived.Test.YtdfhdgdhhgabbaaFrame
namespace Go.Proofs.Ytdfhdgdhhgabbaa
set_option linter.unusedVariables false
set_option linter.unusedSimpArgs false
open Go.RowKit Go.Maps
set_option maxHeartbeats 2000000
set_option maxRecDepth 100000
theorem texts_far (w : World) (s : ByteArray) (h : 100 < s.size) : Calls Try.prog 3 #[.string s] w (TruP (.bool true) w) := by
  have q1 : decide ((100 : Int) < (s.size : Int)) = true := by simp; omega
  go_enter Try.func3, Try.ntmps3
  go_wp2_with fail
  refine Calls.mono (known19_c _) ?_
  rintro e w1 ⟨rfl, b1⟩
  go_wp2_with fail
  go_ret
  exact ⟨rfl, b1⟩
theorem texts_bad (w : World) (bs : Nm) (h : ¬ goodN bs) (hl : bs.length ≤ 100) : Calls Try.prog 3 #[.string (strB bs)] w (TruP (.bool true) w) := by
  obtain ⟨s, hs⟩ : ∃ s, s = strB bs := ⟨_, rfl⟩
  obtain ⟨za, hza⟩ : ∃ za, za = nC zN := ⟨_, rfl⟩
  have hzero := zeroN
  rw [← hza] at hzero
  have heq := eqN zN zN zN_w zN_w
  rw [show decide (zN = zN) = true from by simp, ← hza] at heq
  have HF := Lib.hid (fun W => by have := fix_bad bs W h; rw [nV, ← hza, ← hs] at this; exact this)
  have HG := Lib.hid (fun W => by have := rgood_c bs W (by omega); rw [← hs, decide_eq_false h] at this; exact this)
  have HZS := Lib.hid (show za.size = 32 from by rw [hza]; exact nC_size zN_w)
  have HZO := Lib.hid (show za.all (·.oneCell') = true from by rw [hza]; exact nC_one zN)
  have q1 : decide ((100 : Int) < (s.size : Int)) = false := by rw [hs, strB_size]; simp; omega
  rw [← hs]
  clear hza hs h hl
  go_enter Try.func3, Try.ntmps3
  go_wp2_with fail
  refine Calls.mono (known19_c _) ?_
  rintro e w1 ⟨rfl, b1⟩
  have HB1 := Lib.hid b1
  clear b1
  go_wp2_with fail
  refine Calls.mono (HF.out _) ?_
  rintro e w2 ⟨rfl, b2⟩
  have HB2 := Lib.hid (HB1.out.trans (b2.mono HB1.out.size))
  have HN2 := Lib.hid (Bk.new w2 24 za)
  have HW2 := Lib.hid (Gw.alloc w2 (.cells za 24))
  clear b2
  go_wp2_with (refine wp_storeN rfl _ _ rfl w2.heap.size za rfl rfl 24 za HN2.out HZS.out HZS.out HZO.out ?_; intro w3 k3 b3 o3; have HK3 := Lib.hid k3; have HB3 := Lib.hid ((HB2.out.trans (HW2.out.mono HB2.out.size)).trans (b3 w.heap.size HB2.out.size)); clear k3 b3 o3)
  refine Calls.mono (HG.out _) ?_
  rintro e w4 ⟨rfl, rfl⟩
  go_wp2_with (refine wp_loadG rfl _ rfl w2.heap.size rfl 24 za HK3.out HZS.out ?_)
  go_ret
  exact ⟨rfl, HB3.out⟩
theorem tx_lt (Q : Exit → Act → World → Prop) (a0 : Act) (w : World) (s : ByteArray) (G k : Nat) (arr : Array Value) (HK : Hid (Bk w G 24 arr)) (hks : k < s.size) (h32 : k < 32) (HC : Hid (arr[k]? = some (.int .u8 (s[k].toNat : Int)))) (hsz : a0.tmps.size = 63) (sl0 : a0.tmps.getD 0 undef = .string s) (sl3 : a0.tmps.getD 3 undef = .pointer (some ⟨G, 0, none⟩)) (sl5 : a0.tmps.getD 5 undef = .int .i64 k)
    (fin : ∀ (vals : Nat → Value) (w1 : World), Below w.heap.size w w1 → (IsV (.bool false)) (vals 24) w1 → Q .normal (putD vals [30, 31, 32, 33, 34, 35, 36, 37, 38, 39, 40, 41, 42, 43, 44, 45, 46, 47, 48, 49, 50, 51, 52, 53, 54] 0 a0) w1) :
    (Code.region 11 (regIn Try.f3 11) true).wp Try.prog Q a0 w := by
  refine region_by (G := fun w w1 => Below w.heap.size w w1) [IsV (.int .i64 k),
    IsV (.string s),
    IsV (.int .i64 s.size),
    IsV (.bool true),
    IsV (.bool true),
    IsV (.int .i64 k),
    IsV (.pointer (some ⟨G, k, none⟩)),
    IsV (.int .u8 (s[k].toNat : Int)),
    IsV (.string s),
    IsV (.int .i64 k),
    IsV (.int .u8 (s[k].toNat : Int)),
    IsV (.bool false),
    IsV (.bool false),
    IsV (.bool false),
    IsV (.int .i64 k),
    IsV (.string s),
    IsV (.int .i64 s.size),
    IsV (.bool false),
    IsV (.bool false),
    IsV undef,
    IsV undef,
    IsV undef,
    IsV undef,
    IsV (.bool false),
    IsV (.bool false)]
    [30, 31, 32, 33, 34, 35, 36, 37, 38, 39, 40, 41, 42, 43, 44, 45, 46, 47, 48, 49, 50, 51, 52, 53, 54] (by kernel_rfl) (Gw.drew _) Gw.trans (by rw [hsz]; kernel_rfl) (by kernel_rfl) ?_ ?_ ?_
  · intro f hf
    simp only [List.mem_cons, List.not_mem_nil, or_false] at hf
    rcases hf with rfl | rfl | rfl | rfl | rfl | rfl | rfl | rfl | rfl | rfl | rfl | rfl | rfl | rfl | rfl | rfl | rfl | rfl | rfl | rfl | rfl | rfl | rfl | rfl | rfl <;> intro v a b h g <;> first | exact IsV.mono h
  · refine ⟨?_, ?_, ?_, ?_, ?_, ?_, ?_, ?_, ?_, ?_, ?_, ?_, ?_, ?_, ?_, ?_, ?_, ?_, ?_, ?_, ?_, ?_, ?_, ?_, ?_, trivial⟩
    · exact owes_mv 5 (by kernel_rfl) (by kernel_rfl) (by kernel_rfl) sl5 (fun _ => rfl)
    · exact owes_mv 0 (by kernel_rfl) (by kernel_rfl) (by kernel_rfl) sl0 (fun _ => rfl)
    · refine owes_v (Go.Op.call { callee := Go.Callee.builtin Go.Builtin.len, args := #[Go.Operand.tmp 31], argTypes := #[9] }) 3 [1] (by kernel_rfl) (by kernel_rfl) (by kernel_rfl) rfl fun vals w1 ρ hG hF hρ hcst hfun => ?_
      have e31 : ρ (.tmp 31) = .string s := ((hρ 31).trans (slotJ [1] (by rw [hsz]; decide) (by kernel_rfl))).trans (hF 1 (by decide))
      clear hρ hF hcst hfun sl0 sl3 sl5 fin
      exact opv_val (by go_simp <;> rfl) ⟨gw_self _, rfl⟩
    · refine owes_v (Go.Op.binOp Go.BinOp.lss 3 (Go.Operand.tmp 30) (Go.Operand.tmp 32) 3) 4 [0, 2] (by kernel_rfl) (by kernel_rfl) (by kernel_rfl) rfl fun vals w1 ρ hG hF hρ hcst hfun => ?_
      have e30 : ρ (.tmp 30) = .int .i64 k := ((hρ 30).trans (slotJ [0, 2] (by rw [hsz]; decide) (by kernel_rfl))).trans (hF 0 (by decide))
      have e32 : ρ (.tmp 32) = .int .i64 s.size := ((hρ 32).trans (slotJ [0, 2] (by rw [hsz]; decide) (by kernel_rfl))).trans (hF 2 (by decide))
      have q : decide ((k : Int) < (s.size : Int)) = true := by simp; omega
      clear hρ hF hcst hfun sl0 sl3 sl5 fin
      exact opv_val (by go_simp <;> rfl) ⟨gw_self _, rfl⟩
    · exact owes_mvj 3 33 (by kernel_rfl) (by kernel_rfl) (by kernel_rfl) (by kernel_rfl) (by rw [hsz]; decide) (fun v w h => h)
    · refine owes_vt 4 true (Go.Op.move (Go.Operand.tmp 5)) 3 [] (by kernel_rfl) (by kernel_rfl) (by kernel_rfl) (fun _ _ h => h) (by rw [hsz]; kernel_rfl) (by kernel_rfl) rfl fun vals w1 ρ hG hF hρ hcst hfun => ?_
      have e5 : ρ (.tmp 5) = .int .i64 k := ((hρ 5).trans (slotO [] (by kernel_rfl))).trans sl5
      clear hρ hF hcst hfun sl0 sl3 sl5 fin
      exact opv_val (by go_simp <;> rfl) ⟨gw_self _, rfl⟩
    · refine owes_vt 4 true (Go.Op.indexAddr 24 (Go.Operand.tmp 3) (Go.Operand.tmp 35)) 0 [5] (by kernel_rfl) (by kernel_rfl) (by kernel_rfl) (fun _ _ h => h) (by rw [hsz]; kernel_rfl) (by kernel_rfl) rfl fun vals w1 ρ hG hF hρ hcst hfun => ?_
      have e3 : ρ (.tmp 3) = .pointer (some ⟨G, 0, none⟩) := ((hρ 3).trans (slotO [5] (by kernel_rfl))).trans sl3
      have e35 : ρ (.tmp 35) = .int .i64 k := ((hρ 35).trans (slotJ [5] (by rw [hsz]; decide) (by kernel_rfl))).trans (hF 5 (by decide))
      have q : (k : Int) < 32 := by omega
      have q2 : (0 : Int) ≤ (k : Int) := by omega
      clear hρ hF hcst hfun sl0 sl3 sl5 fin
      exact opv_val (by go_simp <;> rfl) ⟨gw_self _, rfl⟩
    · refine owes_vt 4 true (Go.Op.load 5 (Go.Operand.tmp 36)) 5 [6] (by kernel_rfl) (by kernel_rfl) (by kernel_rfl) (fun _ _ h => h) (by rw [hsz]; kernel_rfl) (by kernel_rfl) rfl fun vals w1 ρ hG hF hρ hcst hfun => ?_
      have e36 : ρ (.tmp 36) = .pointer (some ⟨G, k, none⟩) := ((hρ 36).trans (slotJ [6] (by rw [hsz]; decide) (by kernel_rfl))).trans (hF 6 (by decide))
      have q := ((HK.out.below hG HK.out.lt).cell k).trans HC.out
      clear hρ hF hcst hfun sl0 sl3 sl5 fin
      exact opv_val (by go_simp <;> rfl) ⟨gw_self _, rfl⟩
    · refine owes_vt 4 true (Go.Op.move (Go.Operand.tmp 0)) 9 [] (by kernel_rfl) (by kernel_rfl) (by kernel_rfl) (fun _ _ h => h) (by rw [hsz]; kernel_rfl) (by kernel_rfl) rfl fun vals w1 ρ hG hF hρ hcst hfun => ?_
      have e0 : ρ (.tmp 0) = .string s := ((hρ 0).trans (slotO [] (by kernel_rfl))).trans sl0
      clear hρ hF hcst hfun sl0 sl3 sl5 fin
      exact opv_val (by go_simp <;> rfl) ⟨gw_self _, rfl⟩
    · refine owes_vt 4 true (Go.Op.move (Go.Operand.tmp 5)) 3 [] (by kernel_rfl) (by kernel_rfl) (by kernel_rfl) (fun _ _ h => h) (by rw [hsz]; kernel_rfl) (by kernel_rfl) rfl fun vals w1 ρ hG hF hρ hcst hfun => ?_
      have e5 : ρ (.tmp 5) = .int .i64 k := ((hρ 5).trans (slotO [] (by kernel_rfl))).trans sl5
      clear hρ hF hcst hfun sl0 sl3 sl5 fin
      exact opv_val (by go_simp <;> rfl) ⟨gw_self _, rfl⟩
    · refine owes_vt 4 true (Go.Op.index 9 (Go.Operand.tmp 38) (Go.Operand.tmp 39)) 5 [8, 9] (by kernel_rfl) (by kernel_rfl) (by kernel_rfl) (fun _ _ h => h) (by rw [hsz]; kernel_rfl) (by kernel_rfl) rfl fun vals w1 ρ hG hF hρ hcst hfun => ?_
      have e38 : ρ (.tmp 38) = .string s := ((hρ 38).trans (slotJ [8, 9] (by rw [hsz]; decide) (by kernel_rfl))).trans (hF 8 (by decide))
      have e39 : ρ (.tmp 39) = .int .i64 k := ((hρ 39).trans (slotJ [8, 9] (by rw [hsz]; decide) (by kernel_rfl))).trans (hF 9 (by decide))
      have q : (k : Int) < (s.size : Int) := by omega
      have q2 : (0 : Int) ≤ (k : Int) := by omega
      clear hρ hF hcst hfun sl0 sl3 sl5 fin
      exact opv_val (by go_simp <;> rfl) ⟨gw_self _, rfl⟩
    · refine owes_vt 4 true (Go.Op.binOp Go.BinOp.neq 5 (Go.Operand.tmp 37) (Go.Operand.tmp 40) 5) 4 [7, 10] (by kernel_rfl) (by kernel_rfl) (by kernel_rfl) (fun _ _ h => h) (by rw [hsz]; kernel_rfl) (by kernel_rfl) rfl fun vals w1 ρ hG hF hρ hcst hfun => ?_
      have e37 : ρ (.tmp 37) = .int .u8 (s[k].toNat : Int) := ((hρ 37).trans (slotJ [7, 10] (by rw [hsz]; decide) (by kernel_rfl))).trans (hF 7 (by decide))
      have e40 : ρ (.tmp 40) = .int .u8 (s[k].toNat : Int) := ((hρ 40).trans (slotJ [7, 10] (by rw [hsz]; decide) (by kernel_rfl))).trans (hF 10 (by decide))
      clear hρ hF hcst hfun sl0 sl3 sl5 fin
      exact opv_val (by go_simp <;> rfl) ⟨gw_self _, rfl⟩
    · refine owes_v (Go.Op.pick (Go.Operand.tmp 34) (Go.Operand.tmp 41) (Go.Operand.const (Go.Value.bool false))) 4 [4, 11] (by kernel_rfl) (by kernel_rfl) (by kernel_rfl) rfl fun vals w1 ρ hG hF hρ hcst hfun => ?_
      have e34 : ρ (.tmp 34) = .bool true := ((hρ 34).trans (slotJ [4, 11] (by rw [hsz]; decide) (by kernel_rfl))).trans (hF 4 (by decide))
      have e41 : ρ (.tmp 41) = .bool false := ((hρ 41).trans (slotJ [4, 11] (by rw [hsz]; decide) (by kernel_rfl))).trans (hF 11 (by decide))
      clear hρ hF hfun sl0 sl3 sl5 fin
      exact opv_val (by go_simp <;> rfl) ⟨gw_self _, rfl⟩
    · exact owes_mvj 12 42 (by kernel_rfl) (by kernel_rfl) (by kernel_rfl) (by kernel_rfl) (by rw [hsz]; decide) (fun v w h => h)
    · refine owes_vt 13 false (Go.Op.move (Go.Operand.tmp 5)) 3 [] (by kernel_rfl) (by kernel_rfl) (by kernel_rfl) (fun _ _ h => h) (by rw [hsz]; kernel_rfl) (by kernel_rfl) rfl fun vals w1 ρ hG hF hρ hcst hfun => ?_
      have e5 : ρ (.tmp 5) = .int .i64 k := ((hρ 5).trans (slotO [] (by kernel_rfl))).trans sl5
      clear hρ hF hcst hfun sl0 sl3 sl5 fin
      exact opv_val (by go_simp <;> rfl) ⟨gw_self _, rfl⟩
    · refine owes_vt 13 false (Go.Op.move (Go.Operand.tmp 0)) 9 [] (by kernel_rfl) (by kernel_rfl) (by kernel_rfl) (fun _ _ h => h) (by rw [hsz]; kernel_rfl) (by kernel_rfl) rfl fun vals w1 ρ hG hF hρ hcst hfun => ?_
      have e0 : ρ (.tmp 0) = .string s := ((hρ 0).trans (slotO [] (by kernel_rfl))).trans sl0
      clear hρ hF hcst hfun sl0 sl3 sl5 fin
      exact opv_val (by go_simp <;> rfl) ⟨gw_self _, rfl⟩
    · refine owes_vt 13 false (Go.Op.call { callee := Go.Callee.builtin Go.Builtin.len, args := #[Go.Operand.tmp 45], argTypes := #[9] }) 3 [15] (by kernel_rfl) (by kernel_rfl) (by kernel_rfl) (fun _ _ h => h) (by rw [hsz]; kernel_rfl) (by kernel_rfl) rfl fun vals w1 ρ hG hF hρ hcst hfun => ?_
      have e45 : ρ (.tmp 45) = .string s := ((hρ 45).trans (slotJ [15] (by rw [hsz]; decide) (by kernel_rfl))).trans (hF 15 (by decide))
      clear hρ hF hcst hfun sl0 sl3 sl5 fin
      exact opv_val (by go_simp <;> rfl) ⟨gw_self _, rfl⟩
    · refine owes_vt 13 false (Go.Op.binOp Go.BinOp.geq 3 (Go.Operand.tmp 44) (Go.Operand.tmp 46) 3) 4 [14, 16] (by kernel_rfl) (by kernel_rfl) (by kernel_rfl) (fun _ _ h => h) (by rw [hsz]; kernel_rfl) (by kernel_rfl) rfl fun vals w1 ρ hG hF hρ hcst hfun => ?_
      have e44 : ρ (.tmp 44) = .int .i64 k := ((hρ 44).trans (slotJ [14, 16] (by rw [hsz]; decide) (by kernel_rfl))).trans (hF 14 (by decide))
      have e46 : ρ (.tmp 46) = .int .i64 s.size := ((hρ 46).trans (slotJ [14, 16] (by rw [hsz]; decide) (by kernel_rfl))).trans (hF 16 (by decide))
      have q : decide ((s.size : Int) ≤ (k : Int)) = false := by simp; omega
      clear hρ hF hcst hfun sl0 sl3 sl5 fin
      exact opv_val (by go_simp <;> rfl) ⟨gw_self _, rfl⟩
    · refine owes_vt 13 false (Go.Op.move (Go.Operand.tmp 47)) 4 [17] (by kernel_rfl) (by kernel_rfl) (by kernel_rfl) (fun _ _ h => h) (by rw [hsz]; kernel_rfl) (by kernel_rfl) rfl fun vals w1 ρ hG hF hρ hcst hfun => ?_
      have e47 : ρ (.tmp 47) = .bool false := ((hρ 47).trans (slotJ [17] (by rw [hsz]; decide) (by kernel_rfl))).trans (hF 17 (by decide))
      clear hρ hF hcst hfun sl0 sl3 sl5 fin
      exact opv_val (by go_simp <;> rfl) ⟨gw_self _, rfl⟩
    · exact owes_no 18 false true (by decide) (by kernel_rfl) (by kernel_rfl) (fun _ _ h => h) (by rw [hsz]; kernel_rfl) (fun _ => rfl)
    · exact owes_no 18 false true (by decide) (by kernel_rfl) (by kernel_rfl) (fun _ _ h => h) (by rw [hsz]; kernel_rfl) (fun _ => rfl)
    · exact owes_no 18 false true (by decide) (by kernel_rfl) (by kernel_rfl) (fun _ _ h => h) (by rw [hsz]; kernel_rfl) (fun _ => rfl)
    · exact owes_no 18 false true (by decide) (by kernel_rfl) (by kernel_rfl) (fun _ _ h => h) (by rw [hsz]; kernel_rfl) (fun _ => rfl)
    · refine owes_vt 13 false (Go.Op.pick (Go.Operand.tmp 48) (Go.Operand.tmp 52) (Go.Operand.const (Go.Value.bool false))) 4 [18, 22] (by kernel_rfl) (by kernel_rfl) (by kernel_rfl) (fun _ _ h => h) (by rw [hsz]; kernel_rfl) (by kernel_rfl) rfl fun vals w1 ρ hG hF hρ hcst hfun => ?_
      have e48 : ρ (.tmp 48) = .bool false := ((hρ 48).trans (slotJ [18, 22] (by rw [hsz]; decide) (by kernel_rfl))).trans (hF 18 (by decide))
      have e52 : ρ (.tmp 52) = undef := ((hρ 52).trans (slotJ [18, 22] (by rw [hsz]; decide) (by kernel_rfl))).trans (hF 22 (by decide))
      clear hρ hF hfun sl0 sl3 sl5 fin
      exact opv_val (by go_simp <;> rfl) ⟨gw_self _, rfl⟩
    · refine owes_v (Go.Op.pick (Go.Operand.tmp 43) (Go.Operand.const (Go.Value.bool true)) (Go.Operand.tmp 53)) 4 [13, 23] (by kernel_rfl) (by kernel_rfl) (by kernel_rfl) rfl fun vals w1 ρ hG hF hρ hcst hfun => ?_
      have e43 : ρ (.tmp 43) = .bool false := ((hρ 43).trans (slotJ [13, 23] (by rw [hsz]; decide) (by kernel_rfl))).trans (hF 13 (by decide))
      have e53 : ρ (.tmp 53) = .bool false := ((hρ 53).trans (slotJ [13, 23] (by rw [hsz]; decide) (by kernel_rfl))).trans (hF 23 (by decide))
      clear hρ hF hfun sl0 sl3 sl5 fin
      exact opv_val (by go_simp <;> rfl) ⟨gw_self _, rfl⟩
  · intro vals w1 hG hF
    exact fin vals w1 hG (hF 24 (by decide +kernel))
theorem tx_ge (Q : Exit → Act → World → Prop) (a0 : Act) (w : World) (s : ByteArray) (G k : Nat) (arr : Array Value) (HK : Hid (Bk w G 24 arr)) (hks : s.size ≤ k) (h32 : k < 32) (HC : Hid (arr[k]? = some (.int .u8 0))) (hsz : a0.tmps.size = 63) (sl0 : a0.tmps.getD 0 undef = .string s) (sl3 : a0.tmps.getD 3 undef = .pointer (some ⟨G, 0, none⟩)) (sl5 : a0.tmps.getD 5 undef = .int .i64 k)
    (fin : ∀ (vals : Nat → Value) (w1 : World), Below w.heap.size w w1 → (IsV (.bool false)) (vals 24) w1 → Q .normal (putD vals [30, 31, 32, 33, 34, 35, 36, 37, 38, 39, 40, 41, 42, 43, 44, 45, 46, 47, 48, 49, 50, 51, 52, 53, 54] 0 a0) w1) :
    (Code.region 11 (regIn Try.f3 11) true).wp Try.prog Q a0 w := by
  refine region_by (G := fun w w1 => Below w.heap.size w w1) [IsV (.int .i64 k),
    IsV (.string s),
    IsV (.int .i64 s.size),
    IsV (.bool false),
    IsV (.bool false),
    IsV undef,
    IsV undef,
    IsV undef,
    IsV undef,
    IsV undef,
    IsV undef,
    IsV undef,
    IsV (.bool false),
    IsV (.bool false),
    IsV (.int .i64 k),
    IsV (.string s),
    IsV (.int .i64 s.size),
    IsV (.bool true),
    IsV (.bool true),
    IsV (.int .i64 k),
    IsV (.pointer (some ⟨G, k, none⟩)),
    IsV (.int .u8 0),
    IsV (.bool false),
    IsV (.bool false),
    IsV (.bool false)]
    [30, 31, 32, 33, 34, 35, 36, 37, 38, 39, 40, 41, 42, 43, 44, 45, 46, 47, 48, 49, 50, 51, 52, 53, 54] (by kernel_rfl) (Gw.drew _) Gw.trans (by rw [hsz]; kernel_rfl) (by kernel_rfl) ?_ ?_ ?_
  · intro f hf
    simp only [List.mem_cons, List.not_mem_nil, or_false] at hf
    rcases hf with rfl | rfl | rfl | rfl | rfl | rfl | rfl | rfl | rfl | rfl | rfl | rfl | rfl | rfl | rfl | rfl | rfl | rfl | rfl | rfl | rfl | rfl | rfl | rfl | rfl <;> intro v a b h g <;> first | exact IsV.mono h
  · refine ⟨?_, ?_, ?_, ?_, ?_, ?_, ?_, ?_, ?_, ?_, ?_, ?_, ?_, ?_, ?_, ?_, ?_, ?_, ?_, ?_, ?_, ?_, ?_, ?_, ?_, trivial⟩
    · exact owes_mv 5 (by kernel_rfl) (by kernel_rfl) (by kernel_rfl) sl5 (fun _ => rfl)
    · exact owes_mv 0 (by kernel_rfl) (by kernel_rfl) (by kernel_rfl) sl0 (fun _ => rfl)
    · refine owes_v (Go.Op.call { callee := Go.Callee.builtin Go.Builtin.len, args := #[Go.Operand.tmp 31], argTypes := #[9] }) 3 [1] (by kernel_rfl) (by kernel_rfl) (by kernel_rfl) rfl fun vals w1 ρ hG hF hρ hcst hfun => ?_
      have e31 : ρ (.tmp 31) = .string s := ((hρ 31).trans (slotJ [1] (by rw [hsz]; decide) (by kernel_rfl))).trans (hF 1 (by decide))
      clear hρ hF hcst hfun sl0 sl3 sl5 fin
      exact opv_val (by go_simp <;> rfl) ⟨gw_self _, rfl⟩
    · refine owes_v (Go.Op.binOp Go.BinOp.lss 3 (Go.Operand.tmp 30) (Go.Operand.tmp 32) 3) 4 [0, 2] (by kernel_rfl) (by kernel_rfl) (by kernel_rfl) rfl fun vals w1 ρ hG hF hρ hcst hfun => ?_
      have e30 : ρ (.tmp 30) = .int .i64 k := ((hρ 30).trans (slotJ [0, 2] (by rw [hsz]; decide) (by kernel_rfl))).trans (hF 0 (by decide))
      have e32 : ρ (.tmp 32) = .int .i64 s.size := ((hρ 32).trans (slotJ [0, 2] (by rw [hsz]; decide) (by kernel_rfl))).trans (hF 2 (by decide))
      have q : decide ((k : Int) < (s.size : Int)) = false := by simp; omega
      clear hρ hF hcst hfun sl0 sl3 sl5 fin
      exact opv_val (by go_simp <;> rfl) ⟨gw_self _, rfl⟩
    · exact owes_mvj 3 33 (by kernel_rfl) (by kernel_rfl) (by kernel_rfl) (by kernel_rfl) (by rw [hsz]; decide) (fun v w h => h)
    · exact owes_no 4 false true (by decide) (by kernel_rfl) (by kernel_rfl) (fun _ _ h => h) (by rw [hsz]; kernel_rfl) (fun _ => rfl)
    · exact owes_no 4 false true (by decide) (by kernel_rfl) (by kernel_rfl) (fun _ _ h => h) (by rw [hsz]; kernel_rfl) (fun _ => rfl)
    · exact owes_no 4 false true (by decide) (by kernel_rfl) (by kernel_rfl) (fun _ _ h => h) (by rw [hsz]; kernel_rfl) (fun _ => rfl)
    · exact owes_no 4 false true (by decide) (by kernel_rfl) (by kernel_rfl) (fun _ _ h => h) (by rw [hsz]; kernel_rfl) (fun _ => rfl)
    · exact owes_no 4 false true (by decide) (by kernel_rfl) (by kernel_rfl) (fun _ _ h => h) (by rw [hsz]; kernel_rfl) (fun _ => rfl)
    · exact owes_no 4 false true (by decide) (by kernel_rfl) (by kernel_rfl) (fun _ _ h => h) (by rw [hsz]; kernel_rfl) (fun _ => rfl)
    · exact owes_no 4 false true (by decide) (by kernel_rfl) (by kernel_rfl) (fun _ _ h => h) (by rw [hsz]; kernel_rfl) (fun _ => rfl)
    · refine owes_v (Go.Op.pick (Go.Operand.tmp 34) (Go.Operand.tmp 41) (Go.Operand.const (Go.Value.bool false))) 4 [4, 11] (by kernel_rfl) (by kernel_rfl) (by kernel_rfl) rfl fun vals w1 ρ hG hF hρ hcst hfun => ?_
      have e34 : ρ (.tmp 34) = .bool false := ((hρ 34).trans (slotJ [4, 11] (by rw [hsz]; decide) (by kernel_rfl))).trans (hF 4 (by decide))
      have e41 : ρ (.tmp 41) = undef := ((hρ 41).trans (slotJ [4, 11] (by rw [hsz]; decide) (by kernel_rfl))).trans (hF 11 (by decide))
      clear hρ hF hfun sl0 sl3 sl5 fin
      exact opv_val (by go_simp <;> rfl) ⟨gw_self _, rfl⟩
    · exact owes_mvj 12 42 (by kernel_rfl) (by kernel_rfl) (by kernel_rfl) (by kernel_rfl) (by rw [hsz]; decide) (fun v w h => h)
    · refine owes_vt 13 false (Go.Op.move (Go.Operand.tmp 5)) 3 [] (by kernel_rfl) (by kernel_rfl) (by kernel_rfl) (fun _ _ h => h) (by rw [hsz]; kernel_rfl) (by kernel_rfl) rfl fun vals w1 ρ hG hF hρ hcst hfun => ?_
      have e5 : ρ (.tmp 5) = .int .i64 k := ((hρ 5).trans (slotO [] (by kernel_rfl))).trans sl5
      clear hρ hF hcst hfun sl0 sl3 sl5 fin
      exact opv_val (by go_simp <;> rfl) ⟨gw_self _, rfl⟩
    · refine owes_vt 13 false (Go.Op.move (Go.Operand.tmp 0)) 9 [] (by kernel_rfl) (by kernel_rfl) (by kernel_rfl) (fun _ _ h => h) (by rw [hsz]; kernel_rfl) (by kernel_rfl) rfl fun vals w1 ρ hG hF hρ hcst hfun => ?_
      have e0 : ρ (.tmp 0) = .string s := ((hρ 0).trans (slotO [] (by kernel_rfl))).trans sl0
      clear hρ hF hcst hfun sl0 sl3 sl5 fin
      exact opv_val (by go_simp <;> rfl) ⟨gw_self _, rfl⟩
    · refine owes_vt 13 false (Go.Op.call { callee := Go.Callee.builtin Go.Builtin.len, args := #[Go.Operand.tmp 45], argTypes := #[9] }) 3 [15] (by kernel_rfl) (by kernel_rfl) (by kernel_rfl) (fun _ _ h => h) (by rw [hsz]; kernel_rfl) (by kernel_rfl) rfl fun vals w1 ρ hG hF hρ hcst hfun => ?_
      have e45 : ρ (.tmp 45) = .string s := ((hρ 45).trans (slotJ [15] (by rw [hsz]; decide) (by kernel_rfl))).trans (hF 15 (by decide))
      clear hρ hF hcst hfun sl0 sl3 sl5 fin
      exact opv_val (by go_simp <;> rfl) ⟨gw_self _, rfl⟩
    · refine owes_vt 13 false (Go.Op.binOp Go.BinOp.geq 3 (Go.Operand.tmp 44) (Go.Operand.tmp 46) 3) 4 [14, 16] (by kernel_rfl) (by kernel_rfl) (by kernel_rfl) (fun _ _ h => h) (by rw [hsz]; kernel_rfl) (by kernel_rfl) rfl fun vals w1 ρ hG hF hρ hcst hfun => ?_
      have e44 : ρ (.tmp 44) = .int .i64 k := ((hρ 44).trans (slotJ [14, 16] (by rw [hsz]; decide) (by kernel_rfl))).trans (hF 14 (by decide))
      have e46 : ρ (.tmp 46) = .int .i64 s.size := ((hρ 46).trans (slotJ [14, 16] (by rw [hsz]; decide) (by kernel_rfl))).trans (hF 16 (by decide))
      have q : decide ((s.size : Int) ≤ (k : Int)) = true := by simp; omega
      clear hρ hF hcst hfun sl0 sl3 sl5 fin
      exact opv_val (by go_simp <;> rfl) ⟨gw_self _, rfl⟩
    · refine owes_vt 13 false (Go.Op.move (Go.Operand.tmp 47)) 4 [17] (by kernel_rfl) (by kernel_rfl) (by kernel_rfl) (fun _ _ h => h) (by rw [hsz]; kernel_rfl) (by kernel_rfl) rfl fun vals w1 ρ hG hF hρ hcst hfun => ?_
      have e47 : ρ (.tmp 47) = .bool true := ((hρ 47).trans (slotJ [17] (by rw [hsz]; decide) (by kernel_rfl))).trans (hF 17 (by decide))
      clear hρ hF hcst hfun sl0 sl3 sl5 fin
      exact opv_val (by go_simp <;> rfl) ⟨gw_self _, rfl⟩
    · refine owes_vt 18 true (Go.Op.move (Go.Operand.tmp 5)) 3 [] (by kernel_rfl) (by kernel_rfl) (by kernel_rfl) (fun _ _ h => h) (by rw [hsz]; kernel_rfl) (by kernel_rfl) rfl fun vals w1 ρ hG hF hρ hcst hfun => ?_
      have e5 : ρ (.tmp 5) = .int .i64 k := ((hρ 5).trans (slotO [] (by kernel_rfl))).trans sl5
      clear hρ hF hcst hfun sl0 sl3 sl5 fin
      exact opv_val (by go_simp <;> rfl) ⟨gw_self _, rfl⟩
    · refine owes_vt 18 true (Go.Op.indexAddr 24 (Go.Operand.tmp 3) (Go.Operand.tmp 49)) 0 [19] (by kernel_rfl) (by kernel_rfl) (by kernel_rfl) (fun _ _ h => h) (by rw [hsz]; kernel_rfl) (by kernel_rfl) rfl fun vals w1 ρ hG hF hρ hcst hfun => ?_
      have e3 : ρ (.tmp 3) = .pointer (some ⟨G, 0, none⟩) := ((hρ 3).trans (slotO [19] (by kernel_rfl))).trans sl3
      have e49 : ρ (.tmp 49) = .int .i64 k := ((hρ 49).trans (slotJ [19] (by rw [hsz]; decide) (by kernel_rfl))).trans (hF 19 (by decide))
      have q : (k : Int) < 32 := by omega
      have q2 : (0 : Int) ≤ (k : Int) := by omega
      clear hρ hF hcst hfun sl0 sl3 sl5 fin
      exact opv_val (by go_simp <;> rfl) ⟨gw_self _, rfl⟩
    · refine owes_vt 18 true (Go.Op.load 5 (Go.Operand.tmp 50)) 5 [20] (by kernel_rfl) (by kernel_rfl) (by kernel_rfl) (fun _ _ h => h) (by rw [hsz]; kernel_rfl) (by kernel_rfl) rfl fun vals w1 ρ hG hF hρ hcst hfun => ?_
      have e50 : ρ (.tmp 50) = .pointer (some ⟨G, k, none⟩) := ((hρ 50).trans (slotJ [20] (by rw [hsz]; decide) (by kernel_rfl))).trans (hF 20 (by decide))
      have q := ((HK.out.below hG HK.out.lt).cell k).trans HC.out
      clear hρ hF hcst hfun sl0 sl3 sl5 fin
      exact opv_val (by go_simp <;> rfl) ⟨gw_self _, rfl⟩
    · refine owes_vt 18 true (Go.Op.binOp Go.BinOp.neq 5 (Go.Operand.tmp 51) (Go.Operand.const (Go.Value.int Go.IntKind.u8 0)) 5) 4 [21] (by kernel_rfl) (by kernel_rfl) (by kernel_rfl) (fun _ _ h => h) (by rw [hsz]; kernel_rfl) (by kernel_rfl) rfl fun vals w1 ρ hG hF hρ hcst hfun => ?_
      have e51 : ρ (.tmp 51) = .int .u8 0 := ((hρ 51).trans (slotJ [21] (by rw [hsz]; decide) (by kernel_rfl))).trans (hF 21 (by decide))
      clear hρ hF hfun sl0 sl3 sl5 fin
      exact opv_val (by go_simp <;> rfl) ⟨gw_self _, rfl⟩
    · refine owes_vt 13 false (Go.Op.pick (Go.Operand.tmp 48) (Go.Operand.tmp 52) (Go.Operand.const (Go.Value.bool false))) 4 [18, 22] (by kernel_rfl) (by kernel_rfl) (by kernel_rfl) (fun _ _ h => h) (by rw [hsz]; kernel_rfl) (by kernel_rfl) rfl fun vals w1 ρ hG hF hρ hcst hfun => ?_
      have e48 : ρ (.tmp 48) = .bool true := ((hρ 48).trans (slotJ [18, 22] (by rw [hsz]; decide) (by kernel_rfl))).trans (hF 18 (by decide))
      have e52 : ρ (.tmp 52) = .bool false := ((hρ 52).trans (slotJ [18, 22] (by rw [hsz]; decide) (by kernel_rfl))).trans (hF 22 (by decide))
      clear hρ hF hfun sl0 sl3 sl5 fin
      exact opv_val (by go_simp <;> rfl) ⟨gw_self _, rfl⟩
    · refine owes_v (Go.Op.pick (Go.Operand.tmp 43) (Go.Operand.const (Go.Value.bool true)) (Go.Operand.tmp 53)) 4 [13, 23] (by kernel_rfl) (by kernel_rfl) (by kernel_rfl) rfl fun vals w1 ρ hG hF hρ hcst hfun => ?_
      have e43 : ρ (.tmp 43) = .bool false := ((hρ 43).trans (slotJ [13, 23] (by rw [hsz]; decide) (by kernel_rfl))).trans (hF 13 (by decide))
      have e53 : ρ (.tmp 53) = .bool false := ((hρ 53).trans (slotJ [13, 23] (by rw [hsz]; decide) (by kernel_rfl))).trans (hF 23 (by decide))
      clear hρ hF hfun sl0 sl3 sl5 fin
      exact opv_val (by go_simp <;> rfl) ⟨gw_self _, rfl⟩
  · intro vals w1 hG hF
    exact fin vals w1 hG (hF 24 (by decide +kernel))
theorem texts_good (w : World) (bs : Nm) (h : goodN bs) : Calls Try.prog 3 #[.string (strB bs)] w (TruP (.bool true) w) := by
  have hk : nW (padN bs) := padN_w h.2.1
  obtain ⟨s, hs⟩ : ∃ s, s = strB bs := ⟨_, rfl⟩
  obtain ⟨za, hza⟩ : ∃ za, za = nC zN := ⟨_, rfl⟩
  obtain ⟨arr, harr⟩ : ∃ arr, arr = nC (padN bs) := ⟨_, rfl⟩
  have hzero := zeroN
  rw [← hza] at hzero
  have HF := Lib.hid (fun W => by have := fix_ok bs W h; rw [nV, ← harr, ← hs] at this; exact this)
  have HG := Lib.hid (fun W => by have := rgood_c bs W (by have := h.2.1; omega); rw [← hs, decide_eq_true h] at this; exact this)
  have HST := Lib.hid (fun W => by have := string_c W (padN bs) hk; rw [good_cut h, nV, ← harr, ← hs] at this; exact this)
  have HAS := Lib.hid (show arr.size = 32 from by rw [harr]; exact nC_size hk)
  have HAO := Lib.hid (show arr.all (·.oneCell') = true from by rw [harr]; exact nC_one _)
  have HZS := Lib.hid (show za.size = 32 from by rw [hza]; exact nC_size zN_w)
  have hsz : s.size = bs.length := by rw [hs, strB_size]
  have hl32 : s.size ≤ 32 := by rw [hsz]; exact h.2.1
  have q1 : decide ((100 : Int) < (s.size : Int)) = false := by simp; omega
  have hget : ∀ k (hk : k < s.size), (s[k].toNat : Int) = U8 (bs.getD k 0#8) := by subst hs; exact strB_get bs
  have hc : ∀ k (hk : k < s.size), arr[k]? = some (.int .u8 (s[k].toNat : Int)) := fun k hk => by
    rw [hget k hk, harr]
    have hk' : k < bs.length := by omega
    unfold nC padN
    simp [List.getElem?_append_left, hk', b8, List.getElem?_eq_getElem hk']
  have hd : ∀ k, s.size ≤ k → k < 32 → arr[k]? = some (.int .u8 0) := fun k h1 h2 => by
    rw [harr]
    unfold nC padN
    have e : bs.length ≤ k := by omega
    rw [List.getElem?_toArray, List.getElem?_map, List.getElem?_append_right e, List.getElem?_replicate, if_pos (by omega)]
    rfl
  have HC := Lib.hid hc
  have HD := Lib.hid hd
  rw [← hs]
  clear hza hs h harr hk hget hc hd hsz
  go_enter Try.func3, Try.ntmps3
  go_wp2_with fail
  refine Calls.mono (known19_c _) ?_
  rintro e w1 ⟨rfl, b1⟩
  have HB1 := Lib.hid b1
  clear b1
  go_wp2_with fail
  refine Calls.mono (HF.out _) ?_
  rintro e w2 ⟨rfl, b2⟩
  have HB2 := Lib.hid (HB1.out.trans (b2.mono HB1.out.size))
  have HN2 := Lib.hid (Bk.new w2 24 za)
  have HW2 := Lib.hid (Gw.alloc w2 (.cells za 24))
  clear b2
  go_wp2_with (refine wp_storeN rfl _ _ rfl w2.heap.size arr rfl rfl 24 za HN2.out HAS.out HZS.out HAO.out ?_; intro w3 k3 b3 o3; have HK3 := Lib.hid k3; have HB3 := Lib.hid ((HB2.out.trans (HW2.out.mono HB2.out.size)).trans (b3 w.heap.size HB2.out.size)); clear k3 b3 o3)
  refine Calls.mono (HG.out _) ?_
  rintro e w4 ⟨rfl, rfl⟩
  obtain ⟨G, hG⟩ : ∃ G, G = w2.heap.size := ⟨_, rfl⟩
  rw [← hG] at HK3 ⊢
  clear hG HN2 HW2 HB2 HB1
  go_wp2_with fail
  go_loopw [5] (fun i wr => ∃ k : Nat, k ≤ 32 ∧ i = .int .i64 k ∧ Bk wr G 24 arr ∧ Below w.heap.size w wr) (fun i _ => 32 - (Go.RowKit.intOf i).toNat)
  case atStart => exact ⟨0, by omega, rfl, HK3.out, HB3.out⟩
  case round =>
    obtain ⟨k, hk, rfl, hb, hB⟩ := hrel
    have HB := Lib.hid (And.intro hb hB)
    clear hb hB
    by_cases hlt : k < 32
    · have p1 : (0 : Int) ≤ (k : Int) := by omega
      have p2 : (k : Int) < 32 := by omega
      by_cases hks : k < s.size
      · have hc := HC.out k hks
        go_wp2_with fail
        refine tx_lt _ _ _ s G k arr (Lib.hid HB.out.1) hks hlt (Lib.hid hc) ?_ ?_ ?_ ?_ ?_
        iterate 4 (· rfl)
        intro vals w4 hG h54
        unfold IsV at h54
        simp only [putD, Act.put, List.setIfInBounds_toArray, List.set_cons_zero, List.set_cons_succ, h54]
        have HB4 := Lib.hid (And.intro (HB.out.1.below hG HB.out.1.lt) (HB.out.2.trans (hG.mono HB.out.2.size)))
        clear h54 hG HB
        go_wp2_with fail
        go_roundw
        case rel => exact ⟨k + 1, by omega, by go_num, HB4.out.1, HB4.out.2⟩
        case measure => (first | (simp [Go.RowKit.intOf]; done) | (simp [Go.RowKit.intOf]; omega))
      · have hc := HD.out k (by omega) hlt
        go_wp2_with fail
        refine tx_ge _ _ _ s G k arr (Lib.hid HB.out.1) (by omega) hlt (Lib.hid hc) ?_ ?_ ?_ ?_ ?_
        iterate 4 (· rfl)
        intro vals w4 hG h54
        unfold IsV at h54
        simp only [putD, Act.put, List.setIfInBounds_toArray, List.set_cons_zero, List.set_cons_succ, h54]
        have HB4 := Lib.hid (And.intro (HB.out.1.below hG HB.out.1.lt) (HB.out.2.trans (hG.mono HB.out.2.size)))
        clear h54 hG HB
        go_wp2_with fail
        go_roundw
        case rel => exact ⟨k + 1, by omega, by go_num, HB4.out.1, HB4.out.2⟩
        case measure => (first | (simp [Go.RowKit.intOf]; done) | (simp [Go.RowKit.intOf]; omega))
    · obtain rfl : k = 32 := by omega
      clear hlt
      go_wp2_with (refine wp_loadG rfl _ rfl G rfl 24 arr HB.out.1 HAS.out ?_)
      refine Calls.mono (HST.out _) ?_
      rintro e w5 ⟨rfl, b5⟩
      have HB5 := Lib.hid (HB.out.2.trans (b5.mono HB.out.2.size))
      clear b5
      go_wp2_with fail
      go_ret
      exact ⟨rfl, HB5.out⟩
theorem texts_walk (w : World) (s : ByteArray) (_h : s.size ≤ maxLen) : Calls Try.prog 3 #[.string s] w (TruP (.bool true) w) := by
  by_cases h : 100 < s.size
  · exact texts_far w s h
  · obtain ⟨bs, rfl⟩ := strB_of s
    rw [strB_size] at h
    by_cases hg : goodN bs
    · exact texts_good w bs hg
    · exact texts_bad w bs hg (by omega)
end Go.Proofs.Ytdfhdgdhhgabbaa
namespace Go.Proofs.Ytdfhdgdhhgabbaa.nameTexts
open Go.ChangeShapes Go.WideShapes Go.ChangeAt Go.RowKit
open Go.ChangeMaps (open_string shut_string)
set_option linter.unusedVariables false
set_option maxRecDepth 100000 in
theorem lifted (os : Os) (started : os.Started) (H : Type) (enc : TypeId × Value → H) :
    ReturnsInHanded {} Try.checked os 3 .any (Rows.nameTextsSpec.pre6 enc Try.prog Try.f3 Rows.nameTextsRow.domain false) (Rows.nameTextsSpec.post enc Try.prog Try.f3 false true false false) := by
  refine returnsInHanded_of_change (C := Try.checked) own started (by kernel_rfl) Try.func3
    (ChangeSpec.witness6 (enc := enc) (C := Try.checked) false ⟨#[], #[.string ⟨#[]⟩], []⟩ 8 (by kernel_rfl) (by kernel_rfl) (by kernel_rfl) (by kernel_rfl)) ?_
  intro W base args ds gs before hval0 hW hcnd _
  have hval : ∀ (j : Nat) t v, Try.f3.params[j]? = some t → args[j]? = some v → Value.okWide Try.prog W .any base t v := hval0
  have hW' := hW
  obtain ⟨p, q, hA0, hV, rfl, hfz, hnd⟩ := hW
  have hA : DataW.TrodAll enc Try.prog W 0 (fun _ => true) true Try.f3.params.toList args.toList ds p := hA0
  rw [Try.params3] at hA hval
  obtain ⟨v0, vs0, d0, ds0, p0, q0, hargs, rfl, rfl, h0, r0⟩ := trodAll_cons hA
  obtain ⟨rfl, rfl, rfl⟩ := trodAll_nil r0
  obtain rfl : args = #[v0] := by cases args; simp_all
  obtain ⟨rfl, rfl⟩ := trodVars_none hV
  have k0 := h0
  have lt0 : ∀ x ∈ p0, x.block < W.heap.size := by obtain ⟨m, hm⟩ := k0; exact DataW.trod_lt m _ _ _ hm
  obtain ⟨a0, e0v, _, _, w0⟩ := open_string Try.underlying9 (hval 0 9 v0 rfl rfl) h0; subst e0v
  clear hA0 hval0
  refine (texts_walk W a0 w0).mono fun e W' ⟨he, bel⟩ => ?_
  subst he
  exact ⟨_, rfl, _, _, _, [], _, [], hW', trodAll_mk1 (shut_bool Try.underlying4 _), (trodAll_cons_mk (Below.trod laidOut (by kernel_rfl) (of_decide_eq_true (by kernel_rfl)) k0 bel lt0) trodAll_mk0), rfl, bel.frame _, fun h => by cases h⟩
theorem over : Rows.nameTextsRow.holds Try.pinned (OpenSpec.ofChange Rows.nameTextsSpec) :=
  OpenClaim.holds_of_wide 3 Try.f3 rfl rfl rfl rfl rfl rfl rfl ⟨rfl, rfl, rfl, rfl, rfl⟩ rfl rfl rfl rfl rfl (by kernel_rfl) Try.func3 (by kernel_rfl)
    (of_decide_eq_true (by kernel_rfl)) (by unfold Func.isWrapper; first | (rw [if_pos (by decide +kernel)]; kernel_rfl) | (rw [if_neg (by decide +kernel)]; exact ⟨rfl, rfl⟩))
    (fun os started H enc _ => lifted os started H enc)
theorem proved : Rows.NameTextsSaid := over
end Go.Proofs.Ytdfhdgdhhgabbaa.nameTexts
