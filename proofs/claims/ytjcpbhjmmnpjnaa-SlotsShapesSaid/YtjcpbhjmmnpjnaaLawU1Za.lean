/- The law SlotsShapes of layer 7 returns true for every argument. No conditions. -/
import Derived.Test.YtjcpbhjmmnpjnaaZa10
namespace Go.Proofs.Ytjcpbhjmmnpjnaa
set_option linter.unusedVariables false
set_option linter.unusedSimpArgs false
open Go.RowKit Go.Maps
set_option maxRecDepth 100000
set_option maxHeartbeats 4000000
theorem shapes_nil (w : World) (s l n s2 l2 n2 : Int) (h : frB s l n = false) : Calls Try.prog 6 #[gV s l n, gV s2 l2 n2] w (TruP (.bool true) w) := by
  have HFR := Lib.hid (fun W => fresh_no s l n W h)
  unfold gV at HFR ⊢
  obtain ⟨W1, hW1⟩ : ∃ W, W = (w.alloc (.cells #[.int .i64 s, .int .i64 l, .int .i64 n] 30)).alloc (.cells #[.int .i64 s2, .int .i64 l2, .int .i64 n2] 30) := ⟨_, rfl⟩
  have HK1 := Lib.hid (show Bk W1 w.heap.size 30 #[.int .i64 s, .int .i64 l, .int .i64 n] ∧ Below w.heap.size w W1 from by rw [hW1]; exact ⟨(Bk.new w _ _).alloc _, ((Below.refl _ _).alloc (Nat.le_refl _) _).alloc (by simp) _⟩)
  have HW1 := Lib.hid hW1
  clear h hW1
  go_enter Try.func6, Try.ntmps6
  go_wp2_with fail
  rw [← HW1.out]
  refine Calls.mono (known7_c _) ?_
  rintro e w1 ⟨rfl, b1⟩
  obtain ⟨c0, c1, c2⟩ := (HK1.out.1.below b1 HK1.out.1.lt).three
  have HB1 := Lib.hid (HK1.out.2.trans (b1.mono HK1.out.2.size))
  clear b1
  go_wp2_with fail
  refine Calls.mono (HFR.out _) ?_
  rintro e w2 ⟨rfl, b2⟩
  have HB2 := Lib.hid (HB1.out.trans (b2.mono HB1.out.size))
  clear b2
  go_wp2_with fail
  go_ret
  exact ⟨rfl, HB2.out⟩
theorem of_fresh {W : World} {B : Nat} {X : Nat → Prop} {g : Nat} {d : DK} (h : DiskX B X W g d) : DiskX B X W g d := h
def shp (z s : Nat) (a b : Int) : Bool := decide ((s : Int) = (z : Int) ∧ b ≤ a)
theorem sh_yes (Q : Exit → Act → World → Prop) (a0 : Act) (w : World) (g2 g3 : Nat) (s l n s2 l2 n2 : Nat) (h : OkG s l n) (h2 : OkG s2 l2 n2) (he : Hid (s2 = s)) (ff : Bool) (hff : decide (totG s2 l2 n2 ≤ totG s l n) = ff) (hk : Bk w g2 30 #[.int .i64 s, .int .i64 l, .int .i64 n]) (hk2 : Bk w g3 30 #[.int .i64 s2, .int .i64 l2, .int .i64 n2]) (hsz : a0.tmps.size = 51) (sl2 : a0.tmps.getD 2 undef = .pointer (some ⟨g2, 0, none⟩)) (sl3 : a0.tmps.getD 3 undef = .pointer (some ⟨g3, 0, none⟩))
    (fin : ∀ (vals : Nat → Value) (w1 : World), Below w.heap.size w w1 → (IsV (.bool ff)) (vals 12) w1 → Q .normal (putD vals [23, 24, 25, 26, 27, 28, 29, 30, 31, 32, 33, 34, 7] 0 a0) w1) :
    (Code.region 7 (regIn Try.f6 7) true).wp Try.prog Q a0 w := by
  refine region_by (G := fun w w1 => Below w.heap.size w w1) [IsV (.pointer (some ⟨g3, 0, none⟩)),
    IsV (.int .i64 s2),
    IsV (.pointer (some ⟨g2, 0, none⟩)),
    IsV (.int .i64 s),
    IsV (.bool true),
    IsV (.bool true),
    IsV (.agg #[.int .i64 s2, .int .i64 l2, .int .i64 n2]),
    IsV (.int .i64 (totG s2 l2 n2)),
    IsV (.agg #[.int .i64 s, .int .i64 l, .int .i64 n]),
    IsV (.int .i64 (totG s l n)),
    IsV (.bool ff),
    IsV (.bool ff),
    IsV (.bool ff)]
    [23, 24, 25, 26, 27, 28, 29, 30, 31, 32, 33, 34, 7] (by kernel_rfl) (Gw.drew _) Gw.trans (by rw [hsz]; kernel_rfl) (by kernel_rfl) ?_ ?_ ?_
  · intro f hf
    simp only [List.mem_cons, List.not_mem_nil, or_false] at hf
    rcases hf with rfl | rfl | rfl | rfl | rfl | rfl | rfl | rfl | rfl | rfl | rfl | rfl | rfl <;> intro v a b h g <;> first | exact IsV.mono h
  · refine ⟨?_, ?_, ?_, ?_, ?_, ?_, ?_, ?_, ?_, ?_, ?_, ?_, ?_, trivial⟩
    · refine owes_v (Go.Op.fieldAddr 30 (Go.Operand.tmp 3) 0) 0 [] (by kernel_rfl) (by kernel_rfl) (by kernel_rfl) rfl fun vals w1 ρ hG hF hρ hcst hfun => ?_
      have e3 : ρ (.tmp 3) = .pointer (some ⟨g3, 0, none⟩) := ((hρ 3).trans (slotO [] (by kernel_rfl))).trans sl3
      clear hρ hF hcst hfun sl2 sl3 fin
      exact opv_val (by go_simp <;> rfl) ⟨gw_self _, rfl⟩
    · refine owes_v (Go.Op.load 3 (Go.Operand.tmp 23)) 3 [0] (by kernel_rfl) (by kernel_rfl) (by kernel_rfl) rfl fun vals w1 ρ hG hF hρ hcst hfun => ?_
      have e23 : ρ (.tmp 23) = .pointer (some ⟨g3, 0, none⟩) := ((hρ 23).trans (slotJ [0] (by rw [hsz]; decide) (by kernel_rfl))).trans (hF 0 (by decide))
      obtain ⟨k0, k1, k2⟩ := (hk2.below hG hk2.lt).three
      clear hρ hF hcst hfun sl2 sl3 fin
      exact opv_val (by go_simp <;> rfl) ⟨gw_self _, rfl⟩
    · refine owes_v (Go.Op.fieldAddr 30 (Go.Operand.tmp 2) 0) 0 [] (by kernel_rfl) (by kernel_rfl) (by kernel_rfl) rfl fun vals w1 ρ hG hF hρ hcst hfun => ?_
      have e2 : ρ (.tmp 2) = .pointer (some ⟨g2, 0, none⟩) := ((hρ 2).trans (slotO [] (by kernel_rfl))).trans sl2
      clear hρ hF hcst hfun sl2 sl3 fin
      exact opv_val (by go_simp <;> rfl) ⟨gw_self _, rfl⟩
    · refine owes_v (Go.Op.load 3 (Go.Operand.tmp 25)) 3 [2] (by kernel_rfl) (by kernel_rfl) (by kernel_rfl) rfl fun vals w1 ρ hG hF hρ hcst hfun => ?_
      have e25 : ρ (.tmp 25) = .pointer (some ⟨g2, 0, none⟩) := ((hρ 25).trans (slotJ [2] (by rw [hsz]; decide) (by kernel_rfl))).trans (hF 2 (by decide))
      obtain ⟨k0, k1, k2⟩ := (hk.below hG hk.lt).three
      clear hρ hF hcst hfun sl2 sl3 fin
      exact opv_val (by go_simp <;> rfl) ⟨gw_self _, rfl⟩
    · refine owes_v (Go.Op.binOp Go.BinOp.eql 3 (Go.Operand.tmp 24) (Go.Operand.tmp 26) 3) 4 [1, 3] (by kernel_rfl) (by kernel_rfl) (by kernel_rfl) rfl fun vals w1 ρ hG hF hρ hcst hfun => ?_
      have e24 : ρ (.tmp 24) = .int .i64 s2 := ((hρ 24).trans (slotJ [1, 3] (by rw [hsz]; decide) (by kernel_rfl))).trans (hF 1 (by decide))
      have e26 : ρ (.tmp 26) = .int .i64 s := ((hρ 26).trans (slotJ [1, 3] (by rw [hsz]; decide) (by kernel_rfl))).trans (hF 3 (by decide))
      have q : ((s2 : Int) == (s : Int)) = true := by rw [he.out]; simp
      clear hρ hF hcst hfun sl2 sl3 fin
      exact opv_val (by go_simp <;> rfl) ⟨gw_self _, rfl⟩
    · exact owes_mvj 4 27 (by kernel_rfl) (by kernel_rfl) (by kernel_rfl) (by kernel_rfl) (by rw [hsz]; decide) (fun v w h => h)
    · refine owes_vt 5 true (Go.Op.load 30 (Go.Operand.tmp 3)) 30 [] (by kernel_rfl) (by kernel_rfl) (by kernel_rfl) (fun _ _ h => h) (by rw [hsz]; kernel_rfl) (by kernel_rfl) rfl fun vals w1 ρ hG hF hρ hcst hfun => ?_
      have e3 : ρ (.tmp 3) = .pointer (some ⟨g3, 0, none⟩) := ((hρ 3).trans (slotO [] (by kernel_rfl))).trans sl3
      obtain ⟨k0, k1, k2⟩ := (hk2.below hG hk2.lt).three
      clear hρ hF hcst hfun sl2 sl3 fin
      exact opv_val (by go_simp <;> rfl) ⟨gw_self _, rfl⟩
    · refine owes_vt 5 true (Go.Op.call { callee := Go.Callee.value (Go.Operand.func 20), args := #[Go.Operand.tmp 29], argTypes := #[30] }) 3 [6] (by kernel_rfl) (by kernel_rfl) (by kernel_rfl) (fun _ _ h => h) (by rw [hsz]; kernel_rfl) (by kernel_rfl) rfl fun vals w1 ρ hG hF hρ hcst hfun => ?_
      have e29 : ρ (.tmp 29) = .agg #[.int .i64 s2, .int .i64 l2, .int .i64 n2] := ((hρ 29).trans (slotJ [6] (by rw [hsz]; decide) (by kernel_rfl))).trans (hF 6 (by decide))
      clear hρ hF hcst sl2 sl3 fin
      exact opv_enter (by go_simp <;> rfl) (of_ret7 (sectors_c s2 l2 n2 w1 h2))
    · refine owes_vt 5 true (Go.Op.load 30 (Go.Operand.tmp 2)) 30 [] (by kernel_rfl) (by kernel_rfl) (by kernel_rfl) (fun _ _ h => h) (by rw [hsz]; kernel_rfl) (by kernel_rfl) rfl fun vals w1 ρ hG hF hρ hcst hfun => ?_
      have e2 : ρ (.tmp 2) = .pointer (some ⟨g2, 0, none⟩) := ((hρ 2).trans (slotO [] (by kernel_rfl))).trans sl2
      obtain ⟨k0, k1, k2⟩ := (hk.below hG hk.lt).three
      clear hρ hF hcst hfun sl2 sl3 fin
      exact opv_val (by go_simp <;> rfl) ⟨gw_self _, rfl⟩
    · refine owes_vt 5 true (Go.Op.call { callee := Go.Callee.value (Go.Operand.func 20), args := #[Go.Operand.tmp 31], argTypes := #[30] }) 3 [8] (by kernel_rfl) (by kernel_rfl) (by kernel_rfl) (fun _ _ h => h) (by rw [hsz]; kernel_rfl) (by kernel_rfl) rfl fun vals w1 ρ hG hF hρ hcst hfun => ?_
      have e31 : ρ (.tmp 31) = .agg #[.int .i64 s, .int .i64 l, .int .i64 n] := ((hρ 31).trans (slotJ [8] (by rw [hsz]; decide) (by kernel_rfl))).trans (hF 8 (by decide))
      clear hρ hF hcst sl2 sl3 fin
      exact opv_enter (by go_simp <;> rfl) (of_ret7 (sectors_c s l n w1 h))
    · refine owes_vt 5 true (Go.Op.binOp Go.BinOp.leq 3 (Go.Operand.tmp 30) (Go.Operand.tmp 32) 3) 4 [7, 9] (by kernel_rfl) (by kernel_rfl) (by kernel_rfl) (fun _ _ h => h) (by rw [hsz]; kernel_rfl) (by kernel_rfl) rfl fun vals w1 ρ hG hF hρ hcst hfun => ?_
      have e30 : ρ (.tmp 30) = .int .i64 (totG s2 l2 n2) := ((hρ 30).trans (slotJ [7, 9] (by rw [hsz]; decide) (by kernel_rfl))).trans (hF 7 (by decide))
      have e32 : ρ (.tmp 32) = .int .i64 (totG s l n) := ((hρ 32).trans (slotJ [7, 9] (by rw [hsz]; decide) (by kernel_rfl))).trans (hF 9 (by decide))
      have q := hff
      clear hρ hF hcst hfun sl2 sl3 fin
      exact opv_val (by go_simp <;> rfl) ⟨gw_self _, rfl⟩
    · refine owes_v (Go.Op.pick (Go.Operand.tmp 28) (Go.Operand.tmp 33) (Go.Operand.const (Go.Value.bool false))) 4 [5, 10] (by kernel_rfl) (by kernel_rfl) (by kernel_rfl) rfl fun vals w1 ρ hG hF hρ hcst hfun => ?_
      have e28 : ρ (.tmp 28) = .bool true := ((hρ 28).trans (slotJ [5, 10] (by rw [hsz]; decide) (by kernel_rfl))).trans (hF 5 (by decide))
      have e33 : ρ (.tmp 33) = .bool ff := ((hρ 33).trans (slotJ [5, 10] (by rw [hsz]; decide) (by kernel_rfl))).trans (hF 10 (by decide))
      clear hρ hF hfun sl2 sl3 fin
      exact opv_val (by go_simp <;> rfl) ⟨gw_self _, rfl⟩
    · exact owes_mvj 11 34 (by kernel_rfl) (by kernel_rfl) (by kernel_rfl) (by kernel_rfl) (by rw [hsz]; decide) (fun v w h => h)
  · intro vals w1 hG hF
    exact fin vals w1 hG (hF 12 (by decide +kernel))
theorem sh_no (Q : Exit → Act → World → Prop) (a0 : Act) (w : World) (g2 g3 : Nat) (s l n s2 l2 n2 : Nat) (he : s2 ≠ s) (hk : Bk w g2 30 #[.int .i64 s, .int .i64 l, .int .i64 n]) (hk2 : Bk w g3 30 #[.int .i64 s2, .int .i64 l2, .int .i64 n2]) (hsz : a0.tmps.size = 51) (sl2 : a0.tmps.getD 2 undef = .pointer (some ⟨g2, 0, none⟩)) (sl3 : a0.tmps.getD 3 undef = .pointer (some ⟨g3, 0, none⟩))
    (fin : ∀ (vals : Nat → Value) (w1 : World), Below w.heap.size w w1 → (IsV (.bool false)) (vals 12) w1 → Q .normal (putD vals [23, 24, 25, 26, 27, 28, 29, 30, 31, 32, 33, 34, 7] 0 a0) w1) :
    (Code.region 7 (regIn Try.f6 7) true).wp Try.prog Q a0 w := by
  refine region_by (G := fun w w1 => Below w.heap.size w w1) [IsV (.pointer (some ⟨g3, 0, none⟩)),
    IsV (.int .i64 s2),
    IsV (.pointer (some ⟨g2, 0, none⟩)),
    IsV (.int .i64 s),
    IsV (.bool false),
    IsV (.bool false),
    IsV undef,
    IsV undef,
    IsV undef,
    IsV undef,
    IsV undef,
    IsV (.bool false),
    IsV (.bool false)]
    [23, 24, 25, 26, 27, 28, 29, 30, 31, 32, 33, 34, 7] (by kernel_rfl) (Gw.drew _) Gw.trans (by rw [hsz]; kernel_rfl) (by kernel_rfl) ?_ ?_ ?_
  · intro f hf
    simp only [List.mem_cons, List.not_mem_nil, or_false] at hf
    rcases hf with rfl | rfl | rfl | rfl | rfl | rfl | rfl | rfl | rfl | rfl | rfl | rfl | rfl <;> intro v a b h g <;> first | exact IsV.mono h
  · refine ⟨?_, ?_, ?_, ?_, ?_, ?_, ?_, ?_, ?_, ?_, ?_, ?_, ?_, trivial⟩
    · refine owes_v (Go.Op.fieldAddr 30 (Go.Operand.tmp 3) 0) 0 [] (by kernel_rfl) (by kernel_rfl) (by kernel_rfl) rfl fun vals w1 ρ hG hF hρ hcst hfun => ?_
      have e3 : ρ (.tmp 3) = .pointer (some ⟨g3, 0, none⟩) := ((hρ 3).trans (slotO [] (by kernel_rfl))).trans sl3
      clear hρ hF hcst hfun sl2 sl3 fin
      exact opv_val (by go_simp <;> rfl) ⟨gw_self _, rfl⟩
    · refine owes_v (Go.Op.load 3 (Go.Operand.tmp 23)) 3 [0] (by kernel_rfl) (by kernel_rfl) (by kernel_rfl) rfl fun vals w1 ρ hG hF hρ hcst hfun => ?_
      have e23 : ρ (.tmp 23) = .pointer (some ⟨g3, 0, none⟩) := ((hρ 23).trans (slotJ [0] (by rw [hsz]; decide) (by kernel_rfl))).trans (hF 0 (by decide))
      obtain ⟨k0, k1, k2⟩ := (hk2.below hG hk2.lt).three
      clear hρ hF hcst hfun sl2 sl3 fin
      exact opv_val (by go_simp <;> rfl) ⟨gw_self _, rfl⟩
    · refine owes_v (Go.Op.fieldAddr 30 (Go.Operand.tmp 2) 0) 0 [] (by kernel_rfl) (by kernel_rfl) (by kernel_rfl) rfl fun vals w1 ρ hG hF hρ hcst hfun => ?_
      have e2 : ρ (.tmp 2) = .pointer (some ⟨g2, 0, none⟩) := ((hρ 2).trans (slotO [] (by kernel_rfl))).trans sl2
      clear hρ hF hcst hfun sl2 sl3 fin
      exact opv_val (by go_simp <;> rfl) ⟨gw_self _, rfl⟩
    · refine owes_v (Go.Op.load 3 (Go.Operand.tmp 25)) 3 [2] (by kernel_rfl) (by kernel_rfl) (by kernel_rfl) rfl fun vals w1 ρ hG hF hρ hcst hfun => ?_
      have e25 : ρ (.tmp 25) = .pointer (some ⟨g2, 0, none⟩) := ((hρ 25).trans (slotJ [2] (by rw [hsz]; decide) (by kernel_rfl))).trans (hF 2 (by decide))
      obtain ⟨k0, k1, k2⟩ := (hk.below hG hk.lt).three
      clear hρ hF hcst hfun sl2 sl3 fin
      exact opv_val (by go_simp <;> rfl) ⟨gw_self _, rfl⟩
    · refine owes_v (Go.Op.binOp Go.BinOp.eql 3 (Go.Operand.tmp 24) (Go.Operand.tmp 26) 3) 4 [1, 3] (by kernel_rfl) (by kernel_rfl) (by kernel_rfl) rfl fun vals w1 ρ hG hF hρ hcst hfun => ?_
      have e24 : ρ (.tmp 24) = .int .i64 s2 := ((hρ 24).trans (slotJ [1, 3] (by rw [hsz]; decide) (by kernel_rfl))).trans (hF 1 (by decide))
      have e26 : ρ (.tmp 26) = .int .i64 s := ((hρ 26).trans (slotJ [1, 3] (by rw [hsz]; decide) (by kernel_rfl))).trans (hF 3 (by decide))
      have q : ((s2 : Int) == (s : Int)) = false := by simp; omega
      clear hρ hF hcst hfun sl2 sl3 fin
      exact opv_val (by go_simp <;> rfl) ⟨gw_self _, rfl⟩
    · exact owes_mvj 4 27 (by kernel_rfl) (by kernel_rfl) (by kernel_rfl) (by kernel_rfl) (by rw [hsz]; decide) (fun v w h => h)
    · exact owes_no 5 false true (by decide) (by kernel_rfl) (by kernel_rfl) (fun _ _ h => h) (by rw [hsz]; kernel_rfl) (fun _ => rfl)
    · exact owes_no 5 false true (by decide) (by kernel_rfl) (by kernel_rfl) (fun _ _ h => h) (by rw [hsz]; kernel_rfl) (fun _ => rfl)
    · exact owes_no 5 false true (by decide) (by kernel_rfl) (by kernel_rfl) (fun _ _ h => h) (by rw [hsz]; kernel_rfl) (fun _ => rfl)
    · exact owes_no 5 false true (by decide) (by kernel_rfl) (by kernel_rfl) (fun _ _ h => h) (by rw [hsz]; kernel_rfl) (fun _ => rfl)
    · exact owes_no 5 false true (by decide) (by kernel_rfl) (by kernel_rfl) (fun _ _ h => h) (by rw [hsz]; kernel_rfl) (fun _ => rfl)
    · refine owes_v (Go.Op.pick (Go.Operand.tmp 28) (Go.Operand.tmp 33) (Go.Operand.const (Go.Value.bool false))) 4 [5, 10] (by kernel_rfl) (by kernel_rfl) (by kernel_rfl) rfl fun vals w1 ρ hG hF hρ hcst hfun => ?_
      have e28 : ρ (.tmp 28) = .bool false := ((hρ 28).trans (slotJ [5, 10] (by rw [hsz]; decide) (by kernel_rfl))).trans (hF 5 (by decide))
      have e33 : ρ (.tmp 33) = undef := ((hρ 33).trans (slotJ [5, 10] (by rw [hsz]; decide) (by kernel_rfl))).trans (hF 10 (by decide))
      clear hρ hF hfun sl2 sl3 fin
      exact opv_val (by go_simp <;> rfl) ⟨gw_self _, rfl⟩
    · exact owes_mvj 11 34 (by kernel_rfl) (by kernel_rfl) (by kernel_rfl) (by kernel_rfl) (by rw [hsz]; decide) (fun v w h => h)
  · intro vals w1 hG hF
    exact fin vals w1 hG (hF 12 (by decide +kernel))
theorem shapes_nil2 (w : World) (s l n : Nat) (s2 l2 n2 : Int) (h : OkG s l n) (hn : n ≤ 600) (hs : s ≤ 256) (o2 : frB s2 l2 n2 = false) : Calls Try.prog 6 #[gV s l n, gV s2 l2 n2] w (TruP (.bool true) w) := by
  have HFR := Lib.hid (fun W => fresh_ok s l n W h hn hs)
  unfold gV at HFR ⊢
  obtain ⟨W1, hW1⟩ : ∃ W, W = (w.alloc (.cells #[.int .i64 s, .int .i64 l, .int .i64 n] 30)).alloc (.cells #[.int .i64 s2, .int .i64 l2, .int .i64 n2] 30) := ⟨_, rfl⟩
  have HK1 := Lib.hid (show Bk W1 w.heap.size 30 #[.int .i64 s, .int .i64 l, .int .i64 n] ∧ Bk W1 (w.heap.size + 1) 30 #[.int .i64 s2, .int .i64 l2, .int .i64 n2] ∧ Below w.heap.size w W1 from by
    rw [hW1]
    refine ⟨(Bk.new w _ _).alloc _, ?_, ((Below.refl _ _).alloc (Nat.le_refl _) _).alloc (by simp) _⟩
    have := Bk.new (w.alloc (.cells #[.int .i64 s, .int .i64 l, .int .i64 n] 30)) 30 #[.int .i64 s2, .int .i64 l2, .int .i64 n2]
    simpa using this)
  have HW1 := Lib.hid hW1
  have HOK := Lib.hid h
  have HO2 := Lib.hid o2
  have H1 := Lib.hid hn
  have H2 := Lib.hid hs
  clear h hW1 o2 hn hs
  go_enter Try.func6, Try.ntmps6
  go_wp2_with fail
  rw [← HW1.out]
  refine Calls.mono (known7_c _) ?_
  rintro e w1 ⟨rfl, b1⟩
  have HK2 := Lib.hid (HK1.out.1.below b1 HK1.out.1.lt)
  have HK3 := Lib.hid (HK1.out.2.1.below b1 HK1.out.2.1.lt)
  obtain ⟨c0, c1, c2⟩ := HK2.out.three
  have HB1 := Lib.hid (HK1.out.2.2.trans (b1.mono HK1.out.2.2.size))
  clear b1 HK1 HW1
  go_wp2_with fail
  refine Calls.mono (HFR.out _) ?_
  rintro e w2 ⟨g, rfl, d2, b2⟩
  have HD2 := Lib.hid d2
  have HK22 := Lib.hid (HK2.out.below b2 HK2.out.lt)
  have HK32 := Lib.hid (HK3.out.below b2 HK3.out.lt)
  have HB2 := Lib.hid (HB1.out.trans (b2.mono HB1.out.size))
  have HLT := Lib.hid (And.intro HK2.out.lt HK3.out.lt)
  clear b2 d2 c0 c1 c2 HK2 HK3 HFR
  obtain ⟨c0, c1, c2⟩ := HK32.out.three
  go_wp2_with fail
  have hf := fresh_no s2 l2 n2 w2 HO2.out
  unfold gV at hf
  refine Calls.mono hf ?_
  clear hf
  rintro e w3 ⟨rfl, b3⟩
  have HB3 := Lib.hid (HB2.out.trans (b3.mono HB2.out.size))
  clear b3
  go_wp2_with fail
  go_ret
  exact ⟨rfl, HB3.out⟩
theorem shapes_two (w : World) (s l n s2 l2 n2 : Nat) (h : OkG s l n) (hn : n ≤ 600) (hs : s ≤ 256) (o2 : OkG s2 l2 n2 ∧ n2 ≤ 600 ∧ s2 ≤ 256) : Calls Try.prog 6 #[gV s l n, gV s2 l2 n2] w (TruP (.bool true) w) := by
  have HFR := Lib.hid (fun W => fresh_ok s l n W h hn hs)
  unfold gV at HFR ⊢
  obtain ⟨W1, hW1⟩ : ∃ W, W = (w.alloc (.cells #[.int .i64 s, .int .i64 l, .int .i64 n] 30)).alloc (.cells #[.int .i64 s2, .int .i64 l2, .int .i64 n2] 30) := ⟨_, rfl⟩
  have HK1 := Lib.hid (show Bk W1 w.heap.size 30 #[.int .i64 s, .int .i64 l, .int .i64 n] ∧ Bk W1 (w.heap.size + 1) 30 #[.int .i64 s2, .int .i64 l2, .int .i64 n2] ∧ Below w.heap.size w W1 from by
    rw [hW1]
    refine ⟨(Bk.new w _ _).alloc _, ?_, ((Below.refl _ _).alloc (Nat.le_refl _) _).alloc (by simp) _⟩
    have := Bk.new (w.alloc (.cells #[.int .i64 s, .int .i64 l, .int .i64 n] 30)) 30 #[.int .i64 s2, .int .i64 l2, .int .i64 n2]
    simpa using this)
  have HW1 := Lib.hid hW1
  have HOK := Lib.hid h
  have HO2 := Lib.hid o2
  have H1 := Lib.hid hn
  have H2 := Lib.hid hs
  clear h hW1 o2 hn hs
  go_enter Try.func6, Try.ntmps6
  go_wp2_with fail
  rw [← HW1.out]
  refine Calls.mono (known7_c _) ?_
  rintro e w1 ⟨rfl, b1⟩
  have HK2 := Lib.hid (HK1.out.1.below b1 HK1.out.1.lt)
  have HK3 := Lib.hid (HK1.out.2.1.below b1 HK1.out.2.1.lt)
  obtain ⟨c0, c1, c2⟩ := HK2.out.three
  have HB1 := Lib.hid (HK1.out.2.2.trans (b1.mono HK1.out.2.2.size))
  clear b1 HK1 HW1
  go_wp2_with fail
  refine Calls.mono (HFR.out _) ?_
  rintro e w2 ⟨g, rfl, d2, b2⟩
  have HD2 := Lib.hid d2
  have HK22 := Lib.hid (HK2.out.below b2 HK2.out.lt)
  have HK32 := Lib.hid (HK3.out.below b2 HK3.out.lt)
  have HB2 := Lib.hid (HB1.out.trans (b2.mono HB1.out.size))
  have HLT := Lib.hid (And.intro HK2.out.lt HK3.out.lt)
  clear b2 d2 c0 c1 c2 HK2 HK3 HFR
  obtain ⟨c0, c1, c2⟩ := HK32.out.three
  go_wp2_with fail
  obtain ⟨hok2, hn2, hs2⟩ := HO2.out
  have hf := fresh_ok s2 l2 n2 w2 hok2 hn2 hs2
  unfold gV at hf
  refine Calls.mono hf ?_
  clear hf
  rintro e w3 ⟨gx, rfl, _, b3⟩
  have HD3 := Lib.hid (HD2.out.below b3)
  have HK23 := Lib.hid (HK22.out.below b3 HK22.out.lt)
  have HK33 := Lib.hid (HK32.out.below b3 HK32.out.lt)
  have HB3 := Lib.hid (HB2.out.trans (b3.mono HB2.out.size))
  have HG2 := Lib.hid hok2
  have HSZ := Lib.hid (show w1.heap.size ≤ w3.heap.size from Nat.le_trans (show w1.heap.size ≤ w2.heap.size from by
    obtain ⟨x, h1, h2⟩ := HD2.out
    have := h1.klt
    have := (h2 x.kb (.inl (.inr (.inl rfl)))).1
    omega) b3.size)
  clear b3 HD2 HK22 HK32 HB2 hok2 hn2 hs2 HO2 c0 c1 c2
  obtain ⟨c0, c1, c2⟩ := HK33.out.three
  obtain ⟨b, hb⟩ : ∃ b : Sb, b = ⟨0#64, s2, l2, n2, 0, 0, 0#64⟩ := ⟨_, rfl⟩
  have hg : b.good := by rw [hb]; exact ⟨okG_in HG2.out, by show (0 : Nat) ≤ 1; decide, Nat.zero_le _⟩
  have hcells : b.cells = #[.int .u64 0, .int .i64 s2, .int .i64 l2, .int .i64 n2, .int .i64 0, .int .i64 0, .int .u64 0] := by rw [hb]; kernel_rfl
  obtain ⟨t1, t2, t3⟩ := tot_hi HOK.out
  have hsecs : ((fr0 s l n).secs : Int) = totG s l n := t1
  have hfit : b.fit (fr0 s l n) ↔ (s2 = s ∧ totG s2 l2 n2 ≤ totG s l n) := by
    unfold Sb.fit
    rw [hsecs, hb]
    show ((s2 : Int) = (s : Int) ∧ totG s2 l2 n2 ≤ _) ↔ _
    omega
  by_cases hff : s2 = s ∧ totG s2 l2 n2 ≤ totG s l n
  · have HWR := Lib.hid (swrite_ok HD3.out (fun k e => e.elim) HSZ.out b hg (hfit.2 hff) rfl (by show ¬ (0 : Nat) = 1; decide) (by show 0 < 1000000; decide))
    rw [hcells] at HWR
    have HFF := Lib.hid hff
    clear hb hg hcells hfit hff t1 t2 t3 hsecs
    go_wp2_with fail
    refine Calls.mono HWR.out ?_
    rintro e w4 ⟨rfl, _, k4⟩
    have b4 := k4.below (B := w1.heap.size) HSZ.out (fun k e => e.1)
    have HK24 := Lib.hid (HK23.out.below b4 HLT.out.1)
    have HK34 := Lib.hid (HK33.out.below b4 HLT.out.2)
    have HB4 := Lib.hid (HB3.out.trans (b4.mono HB1.out.size))
    clear k4 b4 c0 c1 c2 HWR
    go_wp2_with fail
    refine sh_yes _ _ _ w.heap.size (w.heap.size + 1) s l n s2 l2 n2 HOK.out HG2.out (Lib.hid HFF.out.1) true (decide_eq_true HFF.out.2) HK24.out HK34.out ?_ ?_ ?_ ?_
    iterate 3 (· rfl)
    intro vals w5 hG h7
    unfold IsV at h7
    simp only [putD, Act.put, List.setIfInBounds_toArray, List.set_cons_zero, List.set_cons_succ, h7]
    have HB5 := Lib.hid (HB4.out.trans (hG.mono HB4.out.size))
    clear h7 hG
    go_wp2_with fail
    go_ret
    exact ⟨rfl, HB5.out⟩
  · have HWR := Lib.hid (swrite_out HD3.out b hg (fun e => hff (hfit.1 e)))
    rw [hcells] at HWR
    have HFF := Lib.hid hff
    have HWS := Lib.hid (show ∀ W, Below w3.heap.size w3 W → Calls Try.prog 21 #[.pointer (some ⟨g, 0, none⟩)] W fun e w' => e = .returned (.int .i64 0) ∧ w' = W from fun W hb => xwrites_c (HD3.out.below hb))
    clear hb hg hcells hfit hff t1 t2 t3 hsecs
    go_wp2_with fail
    refine Calls.mono HWR.out ?_
    rintro e w4 ⟨rfl, b4⟩
    have HK24 := Lib.hid (HK23.out.below b4 HK23.out.lt)
    have HK34 := Lib.hid (HK33.out.below b4 HK33.out.lt)
    have HB4 := Lib.hid (HB3.out.trans (b4.mono HB3.out.size))
    have HB34 := Lib.hid b4
    clear b4 c0 c1 c2 HWR
    go_wp2_with fail
    by_cases he : s2 = s
    · refine sh_yes _ _ _ w.heap.size (w.heap.size + 1) s l n s2 l2 n2 HOK.out HG2.out (Lib.hid he) false (decide_eq_false (fun e => HFF.out ⟨he, e⟩)) HK24.out HK34.out ?_ ?_ ?_ ?_
      iterate 3 (· rfl)
      intro vals w5 hG h7
      unfold IsV at h7
      simp only [putD, Act.put, List.setIfInBounds_toArray, List.set_cons_zero, List.set_cons_succ, h7]
      have HB5 := Lib.hid (HB4.out.trans (hG.mono HB4.out.size))
      have HW5 := Lib.hid (HWS.out w5 (HB34.out.trans (hG.mono HB34.out.size)))
      clear h7 hG he
      go_wp2_with fail
      refine Calls.mono HW5.out ?_
      rintro e w' ⟨rfl, rfl⟩
      go_wp2_with fail
      go_ret
      exact ⟨rfl, HB5.out⟩
    · refine sh_no _ _ _ w.heap.size (w.heap.size + 1) s l n s2 l2 n2 he HK24.out HK34.out ?_ ?_ ?_ ?_
      iterate 3 (· rfl)
      intro vals w5 hG h7
      unfold IsV at h7
      simp only [putD, Act.put, List.setIfInBounds_toArray, List.set_cons_zero, List.set_cons_succ, h7]
      have HB5 := Lib.hid (HB4.out.trans (hG.mono HB4.out.size))
      have HW5 := Lib.hid (HWS.out w5 (HB34.out.trans (hG.mono HB34.out.size)))
      clear h7 hG he
      go_wp2_with fail
      refine Calls.mono HW5.out ?_
      rintro e w' ⟨rfl, rfl⟩
      go_wp2_with fail
      go_ret
      exact ⟨rfl, HB5.out⟩
theorem shapes_walk (w : World) (s : Int) (_ws : (Lit.int .i64 s).wf = true) (l : Int) (_wl : (Lit.int .i64 l).wf = true) (n : Int) (_wn : (Lit.int .i64 n).wf = true) (s2 : Int) (_ws2 : (Lit.int .i64 s2).wf = true) (l2 : Int) (_wl2 : (Lit.int .i64 l2).wf = true) (n2 : Int) (_wn2 : (Lit.int .i64 n2).wf = true) : Calls Try.prog 6 #[gV s l n, gV s2 l2 n2] w (TruP (.bool true) w) := by
  cases h : frB s l n with
  | false => exact shapes_nil w s l n s2 l2 n2 h
  | true =>
    obtain ⟨s', l', n', rfl, rfl, rfl, hok, hn, hs⟩ := fr_nat h
    cases h2 : frB s2 l2 n2 with
    | false => exact shapes_nil2 w s' l' n' s2 l2 n2 hok hn hs h2
    | true =>
      obtain ⟨s3, l3, n3, rfl, rfl, rfl, hok2, hn2, hs2⟩ := fr_nat h2
      exact shapes_two w s' l' n' s3 l3 n3 hok hn hs ⟨hok2, hn2, hs2⟩
end Go.Proofs.Ytjcpbhjmmnpjnaa
namespace Go.Proofs.Ytjcpbhjmmnpjnaa.slotsShapes
open Go.ChangeShapes Go.WideShapes Go.ChangeAt Go.RowKit
open Go.ChangeMaps (open_string shut_string)
set_option linter.unusedVariables false
set_option maxRecDepth 100000 in
theorem lifted (os : Os) (started : os.Started) (H : Type) (enc : TypeId × Value → H) :
    ReturnsInHanded {} Try.checked os 6 .any (Rows.slotsShapesSpec.pre6 enc Try.prog Try.f6 Rows.slotsShapesRow.domain false) (Rows.slotsShapesSpec.post enc Try.prog Try.f6 false true false false) := by
  refine returnsInHanded_of_change (C := Try.checked) own started (by kernel_rfl) Try.func6
    (ChangeSpec.witness6 (enc := enc) (C := Try.checked) false ⟨#[], #[.agg #[.int .i64 0, .int .i64 0, .int .i64 0], .agg #[.int .i64 0, .int .i64 0, .int .i64 0]], []⟩ 8 (by kernel_rfl) (by kernel_rfl) (by kernel_rfl) (by kernel_rfl)) ?_
  intro W base args ds gs before hval0 hW hcnd _
  have hval : ∀ (j : Nat) t v, Try.f6.params[j]? = some t → args[j]? = some v → Value.okWide Try.prog W .any base t v := hval0
  have hW' := hW
  obtain ⟨p, q, hA0, hV, rfl, hfz, hnd⟩ := hW
  have hA : DataW.TrodAll enc Try.prog W 0 (fun _ => true) true Try.f6.params.toList args.toList ds p := hA0
  rw [Try.params6] at hA hval
  obtain ⟨v0, vs0, d0, ds0, p0, q0, hargs, rfl, rfl, h0, r0⟩ := trodAll_cons hA
  obtain ⟨v1, vs1, d1, ds1, p1, q1, rfl, rfl, rfl, h1, r1⟩ := trodAll_cons r0
  obtain ⟨rfl, rfl, rfl⟩ := trodAll_nil r1
  obtain rfl : args = #[v0, v1] := by cases args; simp_all
  obtain ⟨rfl, rfl⟩ := trodVars_none hV
  have k0 := h0
  have lt0 : ∀ x ∈ p0, x.block < W.heap.size := by obtain ⟨m, hm⟩ := k0; exact DataW.trod_lt m _ _ _ hm
  obtain ⟨a0x, a0y, a0z, e0v, w0x, w0y, w0z⟩ := open_ints3 .i64 .i64 .i64 Try.underlying30 (by kernel_rfl) (by kernel_rfl) (by kernel_rfl) (by kernel_rfl) (by kernel_rfl) (hval 0 30 v0 rfl rfl) h0; subst e0v
  have k1 := h1
  have lt1 : ∀ x ∈ p1, x.block < W.heap.size := by obtain ⟨m, hm⟩ := k1; exact DataW.trod_lt m _ _ _ hm
  obtain ⟨a1x, a1y, a1z, e1v, w1x, w1y, w1z⟩ := open_ints3 .i64 .i64 .i64 Try.underlying30 (by kernel_rfl) (by kernel_rfl) (by kernel_rfl) (by kernel_rfl) (by kernel_rfl) (hval 1 30 v1 rfl rfl) h1; subst e1v
  clear hA0 hval0
  refine (shapes_walk W a0x w0x a0y w0y a0z w0z a1x w1x a1y w1y a1z w1z).mono fun e W' ⟨he, bel⟩ => ?_
  subst he
  exact ⟨_, rfl, _, _, _, [], _, [], hW', trodAll_mk1 (shut_bool Try.underlying4 _), (trodAll_cons_mk (Below.trod laidOut (by kernel_rfl) (of_decide_eq_true (by kernel_rfl)) k0 bel lt0) (trodAll_cons_mk (Below.trod laidOut (by kernel_rfl) (of_decide_eq_true (by kernel_rfl)) k1 bel lt1) trodAll_mk0)), rfl, bel.frame _, fun h => by cases h⟩
theorem over : Rows.slotsShapesRow.holds Try.pinned (OpenSpec.ofChange Rows.slotsShapesSpec) :=
  OpenClaim.holds_of_wide 6 Try.f6 rfl rfl rfl rfl rfl rfl rfl ⟨rfl, rfl, rfl, rfl, rfl⟩ rfl rfl rfl rfl rfl (by kernel_rfl) Try.func6 (by kernel_rfl)
    (of_decide_eq_true (by kernel_rfl)) (by unfold Func.isWrapper; first | (rw [if_pos (by decide +kernel)]; kernel_rfl) | (rw [if_neg (by decide +kernel)]; exact ⟨rfl, rfl⟩))
    (fun os started H enc _ => lifted os started H enc)
theorem proved : Rows.SlotsShapesSaid := over
end Go.Proofs.Ytjcpbhjmmnpjnaa.slotsShapes
