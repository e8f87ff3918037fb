/- What Low, Seal, Right of loamref2 answer. Conditions: at most 2^30 bytes. -/
import Derived.Test.YtgdgajieekkmdaaCrcE
import Derived.Test.YtgdgajieekkmdaaKnown2
namespace Go.Proofs.Ytgdgajieekkmdaa
open Go.RowKit
theorem ow_lit {α : Type} (f : α → Value) (E : TypeId) (w : World) (base : Nat) (xs : List α) (hb : base ≤ w.heap.size) (hl : xs.length ≤ maxLen) : Ow f E (w.alloc (.cells (xs.map f).toArray E)) base (.slice (some ⟨w.heap.size, 0, none⟩) xs.length xs.length) xs := by
  have h := World.ownsRow_lit (size := 1) (e := E) w (xs.map f).toArray xs.length hb hl (by simp)
  exact h
set_option maxRecDepth 100000
set_option maxHeartbeats 400000
attribute [local go_sem] m8_0 sh8 sh16 sh24 u32_u8
theorem rlow_c (s : BitVec 32) (w : World) : Calls Try.prog 57 #[.int .u32 (U32 s)] w (MkP b8 5 (tailL s) w) := by
  go_enter Try.func57, Try.ntmps57
  go_wp2
  go_ret
  exact MkP.of (ow_lit b8 5 w w.heap.size (tailL s) (Nat.le_refl _) (by simp [tailL, maxLen])) (Gw.alloc _ _)
theorem rseal_c (bs : List (BitVec 8)) (A : Option Addr) (c : Nat) (w : World) (hr : Rd b8 w w.heap.size A bs) (hl : bs.length ≤ 1073741824) :
    Calls Try.prog 20 #[.slice A bs.length c] w (MkP b8 5 (sealC bs) w) := by
  have ho0 := ow_empty b8 5 w w.heap.size (Nat.le_refl _)
  go_enter Try.func20, Try.ntmps20
  go_wp2_with (first
    | (at_builtin; refine wp_app one8 b8_one rfl (.tmp 3) (.tmp 4) rfl w.heap.size _ [] rfl ho0 A bs.length c bs rfl rfl w.heap.size (hr.alloc (Nat.le_refl _) _) (by simp; omega) (by decide) (by simp) ?_; intro v4 w4 ho4 hb4 hg4 _)
    | (go_at_call 18; refine (rsum_c bs A c w.heap.size _ ((hr.alloc (Nat.le_refl _) _).below hb4) (by omega)).mono ?_; rintro e w5 ⟨rfl, rfl⟩)
    | (go_at_call 57; refine (rlow_c _ _).mono ?_; rintro e w6 ⟨A6, c6, rfl, hc6, ho6, hb6⟩)
    | (at_builtin; refine wp_app one8 b8_one rfl (.tmp 5) (.tmp 8) rfl w.heap.size v4 ([] ++ bs) rfl (ho4.below hb6) A6 (tailL (addC 0 bs)).length c6 (tailL (addC 0 bs)) rfl rfl w6.heap.size ho6.rd (by simp [tailL]; omega) (by decide) (Nat.le_trans ((Gw.alloc w _).trans hb4).size hb6.size) ?_; intro v7 w7 ho7 hb7 _ _))
  go_ret
  exact MkP.of (by simpa [sealC] using ho7) ((((Gw.alloc w _).trans hb4).trans (hb6.mono ((Gw.alloc w _).trans hb4).size)).trans hb7)
def rightL (bs : List (BitVec 8)) : Bool := decide (4 ≤ bs.length) && tailL (addC 0#32 (bs.take (bs.length - 4))) == bs.drop (bs.length - 4)
theorem sum_r (xs : List (BitVec 8)) (A : Option Addr) (c n : Nat) (w : World) (hn : n = xs.length) (hr : Rd b8 w w.heap.size A xs) (hl : xs.length ≤ 2147483648) : Calls Try.prog 18 #[.slice A n c] w fun e w2 => ∃ v, e = .returned v ∧ Below w.heap.size w w2 ∧ IsV (.int .u32 (U32 (addC 0#32 xs))) v w2 := by
  subst hn
  exact (rsum_c xs A c _ w hr hl).mono fun e w2 h => ⟨_, h.1, by rw [h.2]; exact Below.refl _ _, rfl⟩
theorem low_r (s : BitVec 32) (w : World) : Calls Try.prog 57 #[.int .u32 (U32 s)] w fun e w2 => ∃ v, e = .returned v ∧ Below w.heap.size w w2 ∧ SlV b8 (tailL s) v w2 :=
  (rlow_c s w).mono fun e w2 h => by
    obtain ⟨A, c, rfl, hc, ho, hb⟩ := h
    exact ⟨_, rfl, hb, A, c, rfl, hc, ho.rd⟩
theorem strB_beq (x y : List (BitVec 8)) : ((strB x).toList == (strB y).toList) = (x == y) := by
  rw [Bool.eq_iff_iff, beq_iff_eq, beq_iff_eq]
  constructor
  · intro h
    apply strB_inj
    rw [ByteArray.toList_eq, ByteArray.toList_eq] at h
    have h2 := Array.ext' h
    exact congrArg ByteArray.mk h2
  · intro h; rw [h]
theorem rr_yes (Q : Exit → Act → World → Prop) (a0 : Act) (w : World) (bs : List (BitVec 8)) (A : Option Addr) (c m : Nat) (hr : Rd b8 w w.heap.size A bs) (hm1 : m + 4 ≤ bs.length) (hm2 : bs.length ≤ m + 4) (hl : bs.length ≤ 1073741824) (hc : bs.length ≤ c) (hs : a0.tmps.size = 22) (h0 : a0.tmps.getD 0 undef = .slice A bs.length c) (h3 : a0.tmps.getD 3 undef = .int .i64 (m : Int))
    (fin : ∀ (vals : Nat → Value) (w1 : World), Below w.heap.size w w1 → (IsV (.bool (tailL (addC 0#32 (bs.take m)) == bs.drop m))) (vals 15) w1 → Q .normal (putD vals [7, 8, 9, 10, 11, 12, 13, 14, 15, 16, 17, 18, 19, 20, 21, 2] 0 a0) w1) :
    (Code.region 2 (regIn Try.f22 2) true).wp Try.prog Q a0 w := by
  refine region_by (G := fun w w1 => Below w.heap.size w w1) [IsV (.int .i64 (m : Int)),
    IsV (.bool true),
    IsV (.bool true),
    IsV (.slice A bs.length c),
    IsV (.int .i64 (m : Int)),
    IsV (.slice A m c),
    IsV (.int .u32 (U32 (addC 0#32 (bs.take m)))),
    SlV b8 (tailL (addC 0#32 (bs.take m))),
    IsV (.string (strB (tailL (addC 0#32 (bs.take m))))),
    IsV (.slice A bs.length c),
    IsV (.int .i64 (m : Int)),
    IsV (.slice (cutA A c m) (bs.length - m) (c - m)),
    IsV (.string (strB (bs.drop m))),
    IsV (.bool (tailL (addC 0#32 (bs.take m)) == bs.drop m)),
    IsV (.bool (tailL (addC 0#32 (bs.take m)) == bs.drop m)),
    IsV (.bool (tailL (addC 0#32 (bs.take m)) == bs.drop m))]
    [7, 8, 9, 10, 11, 12, 13, 14, 15, 16, 17, 18, 19, 20, 21, 2] (by kernel_rfl) (Gw.drew _) Gw.trans (by rw [hs]; kernel_rfl) (by kernel_rfl) ?_ ?_ ?_
  · intro f hf
    simp only [List.mem_cons, List.not_mem_nil, or_false] at hf
    rcases hf with rfl | rfl | rfl | rfl | rfl | rfl | rfl | rfl | rfl | rfl | rfl | rfl | rfl | rfl | rfl | rfl <;> intro v a b h g <;> first | exact IsV.mono h | exact SlV.mono h g
  · refine ⟨?_, ?_, ?_, ?_, ?_, ?_, ?_, ?_, ?_, ?_, ?_, ?_, ?_, ?_, ?_, ?_, trivial⟩
    · exact owes_mv 3 (by kernel_rfl) (by kernel_rfl) (by kernel_rfl) h3 (fun _ => rfl)
    · refine owes_v (Go.Op.binOp Go.BinOp.geq 3 (Go.Operand.tmp 7) (Go.Operand.const (Go.Value.int Go.IntKind.i64 0)) 3) 4 [0] (by kernel_rfl) (by kernel_rfl) (by kernel_rfl) rfl fun vals w1 ρ hG hF hρ hcst hfun => ?_
      have e7 : ρ (.tmp 7) = .int .i64 (m : Int) := ((hρ 7).trans (slotJ [0] (by rw [hs]; decide) (by kernel_rfl))).trans (hF 0 (by decide))
      clear hρ hF hfun h0 h3 fin
      exact opv_val (by go_simp <;> rfl) ⟨gw_self _, rfl⟩
    · exact owes_mvj 1 8 (by kernel_rfl) (by kernel_rfl) (by kernel_rfl) (by kernel_rfl) (by rw [hs]; decide) (fun v w h => h)
    · refine owes_vt 2 true (Go.Op.move (Go.Operand.tmp 0)) 23 [] (by kernel_rfl) (by kernel_rfl) (by kernel_rfl) (fun _ _ h => h) (by rw [hs]; kernel_rfl) (by kernel_rfl) rfl fun vals w1 ρ hG hF hρ hcst hfun => ?_
      have e0 : ρ (.tmp 0) = .slice A bs.length c := ((hρ 0).trans (slotO [] (by kernel_rfl))).trans h0
      clear hρ hF hcst hfun h0 h3 fin
      exact opv_val (by go_simp <;> rfl) ⟨gw_self _, rfl⟩
    · refine owes_vt 2 true (Go.Op.move (Go.Operand.tmp 3)) 3 [] (by kernel_rfl) (by kernel_rfl) (by kernel_rfl) (fun _ _ h => h) (by rw [hs]; kernel_rfl) (by kernel_rfl) rfl fun vals w1 ρ hG hF hρ hcst hfun => ?_
      have e3 : ρ (.tmp 3) = .int .i64 (m : Int) := ((hρ 3).trans (slotO [] (by kernel_rfl))).trans h3
      clear hρ hF hcst hfun h0 h3 fin
      exact opv_val (by go_simp <;> rfl) ⟨gw_self _, rfl⟩
    · refine owes_vt 2 true (Go.Op.slice 23 (Go.Operand.tmp 10) none (some (Go.Operand.tmp 11)) none) 23 [3, 4] (by kernel_rfl) (by kernel_rfl) (by kernel_rfl) (fun _ _ h => h) (by rw [hs]; kernel_rfl) (by kernel_rfl) rfl fun vals w1 ρ hG hF hρ hcst hfun => ?_
      have e10 : ρ (.tmp 10) = .slice A bs.length c := ((hρ 10).trans (slotJ [3, 4] (by rw [hs]; decide) (by kernel_rfl))).trans (hF 3 (by decide))
      have e11 : ρ (.tmp 11) = .int .i64 (m : Int) := ((hρ 11).trans (slotJ [3, 4] (by rw [hs]; decide) (by kernel_rfl))).trans (hF 4 (by decide))
      have p1 : (0 : Int) ≤ (m : Int) := by omega
      have p2 : (m : Int) ≤ (c : Int) := by omega
      clear hρ hF hcst hfun h0 h3 fin
      exact opv_val (by go_simp <;> rfl) ⟨gw_self _, rfl⟩
    · refine owes_vt 2 true (Go.Op.call { callee := Go.Callee.value (Go.Operand.func 18), args := #[Go.Operand.tmp 12], argTypes := #[23] }) 25 [5] (by kernel_rfl) (by kernel_rfl) (by kernel_rfl) (fun _ _ h => h) (by rw [hs]; kernel_rfl) (by kernel_rfl) rfl fun vals w1 ρ hG hF hρ hcst hfun => ?_
      have e12 : ρ (.tmp 12) = .slice A m c := ((hρ 12).trans (slotJ [5] (by rw [hs]; decide) (by kernel_rfl))).trans (hF 5 (by decide))
      clear hρ hF hcst h0 h3 fin
      exact opv_enter (by go_simp <;> rfl) (sum_r (bs.take m) A c m w1 (by simp; omega) (((hr.below hG).more hG.size).take m) (by simp; omega))
    · refine owes_vt 2 true (Go.Op.call { callee := Go.Callee.value (Go.Operand.func 57), args := #[Go.Operand.tmp 13], argTypes := #[25] }) 23 [6] (by kernel_rfl) (by kernel_rfl) (by kernel_rfl) (fun _ _ h => h) (by rw [hs]; kernel_rfl) (by kernel_rfl) rfl fun vals w1 ρ hG hF hρ hcst hfun => ?_
      have e13 : ρ (.tmp 13) = .int .u32 (U32 (addC 0#32 (bs.take m))) := ((hρ 13).trans (slotJ [6] (by rw [hs]; decide) (by kernel_rfl))).trans (hF 6 (by decide))
      clear hρ hF hcst h0 h3 fin
      exact opv_enter (by go_simp <;> rfl) (low_r _ w1)
    · refine owes_vt 2 true (Go.Op.convert 23 9 (Go.Operand.tmp 14)) 9 [7] (by kernel_rfl) (by kernel_rfl) (by kernel_rfl) (fun _ _ h => h) (by rw [hs]; kernel_rfl) (by kernel_rfl) rfl fun vals w1 ρ hG hF hρ hcst hfun => ?_
      have f14 : (SlV b8 (tailL (addC 0#32 (bs.take m)))) (vals 7) w1 := hF 7 (by decide)
      have e14 : ρ (.tmp 14) = vals 7 := (hρ 14).trans (slotJ [7] (by rw [hs]; decide) (by kernel_rfl))
      obtain ⟨A', c', hv, _, hr'⟩ := f14
      have k := str_conv _ A' c' _ w1 hr'
      rw [hv] at e14
      clear hv
      clear hρ hF hcst hfun h0 h3 fin
      exact opv_val (by go_simp <;> rfl) ⟨gw_self _, rfl⟩
    · refine owes_vt 2 true (Go.Op.move (Go.Operand.tmp 0)) 23 [] (by kernel_rfl) (by kernel_rfl) (by kernel_rfl) (fun _ _ h => h) (by rw [hs]; kernel_rfl) (by kernel_rfl) rfl fun vals w1 ρ hG hF hρ hcst hfun => ?_
      have e0 : ρ (.tmp 0) = .slice A bs.length c := ((hρ 0).trans (slotO [] (by kernel_rfl))).trans h0
      clear hρ hF hcst hfun h0 h3 fin
      exact opv_val (by go_simp <;> rfl) ⟨gw_self _, rfl⟩
    · refine owes_vt 2 true (Go.Op.move (Go.Operand.tmp 3)) 3 [] (by kernel_rfl) (by kernel_rfl) (by kernel_rfl) (fun _ _ h => h) (by rw [hs]; kernel_rfl) (by kernel_rfl) rfl fun vals w1 ρ hG hF hρ hcst hfun => ?_
      have e3 : ρ (.tmp 3) = .int .i64 (m : Int) := ((hρ 3).trans (slotO [] (by kernel_rfl))).trans h3
      clear hρ hF hcst hfun h0 h3 fin
      exact opv_val (by go_simp <;> rfl) ⟨gw_self _, rfl⟩
    · refine owes_vt 2 true (Go.Op.slice 23 (Go.Operand.tmp 16) (some (Go.Operand.tmp 17)) none none) 23 [9, 10] (by kernel_rfl) (by kernel_rfl) (by kernel_rfl) (fun _ _ h => h) (by rw [hs]; kernel_rfl) (by kernel_rfl) rfl fun vals w1 ρ hG hF hρ hcst hfun => ?_
      have e16 : ρ (.tmp 16) = .slice A bs.length c := ((hρ 16).trans (slotJ [9, 10] (by rw [hs]; decide) (by kernel_rfl))).trans (hF 9 (by decide))
      have e17 : ρ (.tmp 17) = .int .i64 (m : Int) := ((hρ 17).trans (slotJ [9, 10] (by rw [hs]; decide) (by kernel_rfl))).trans (hF 10 (by decide))
      have p1 : (0 : Int) ≤ (m : Int) := by omega
      have p2 : (m : Int) ≤ (bs.length : Int) := by omega
      have p3 := sliced_cut A m bs.length c
      clear hρ hF hcst hfun h0 h3 fin
      exact opv_val (by go_simp <;> rfl) ⟨gw_self _, rfl⟩
    · refine owes_vt 2 true (Go.Op.convert 23 9 (Go.Operand.tmp 18)) 9 [11] (by kernel_rfl) (by kernel_rfl) (by kernel_rfl) (fun _ _ h => h) (by rw [hs]; kernel_rfl) (by kernel_rfl) rfl fun vals w1 ρ hG hF hρ hcst hfun => ?_
      have e18 : ρ (.tmp 18) = .slice (cutA A c m) (bs.length - m) (c - m) := ((hρ 18).trans (slotJ [11] (by rw [hs]; decide) (by kernel_rfl))).trans (hF 11 (by decide))
      have k := str_conv (bs.drop m) (cutA A c m) (c - m) _ w1 (((hr.below hG).more hG.size).cut hc)
      rw [List.length_drop] at k
      clear hρ hF hcst hfun h0 h3 fin
      exact opv_val (by go_simp <;> rfl) ⟨gw_self _, rfl⟩
    · refine owes_vt 2 true (Go.Op.binOp Go.BinOp.eql 9 (Go.Operand.tmp 15) (Go.Operand.tmp 19) 9) 4 [8, 12] (by kernel_rfl) (by kernel_rfl) (by kernel_rfl) (fun _ _ h => h) (by rw [hs]; kernel_rfl) (by kernel_rfl) rfl fun vals w1 ρ hG hF hρ hcst hfun => ?_
      have e15 : ρ (.tmp 15) = .string (strB (tailL (addC 0#32 (bs.take m)))) := ((hρ 15).trans (slotJ [8, 12] (by rw [hs]; decide) (by kernel_rfl))).trans (hF 8 (by decide))
      have e19 : ρ (.tmp 19) = .string (strB (bs.drop m)) := ((hρ 19).trans (slotJ [8, 12] (by rw [hs]; decide) (by kernel_rfl))).trans (hF 12 (by decide))
      have k := strB_beq (tailL (addC 0#32 (bs.take m))) (bs.drop m)
      clear hρ hF hcst hfun h0 h3 fin
      exact opv_val (by go_simp <;> rfl) ⟨gw_self _, rfl⟩
    · refine owes_v (Go.Op.pick (Go.Operand.tmp 9) (Go.Operand.tmp 20) (Go.Operand.const (Go.Value.bool false))) 4 [2, 13] (by kernel_rfl) (by kernel_rfl) (by kernel_rfl) rfl fun vals w1 ρ hG hF hρ hcst hfun => ?_
      have e9 : ρ (.tmp 9) = .bool true := ((hρ 9).trans (slotJ [2, 13] (by rw [hs]; decide) (by kernel_rfl))).trans (hF 2 (by decide))
      have e20 : ρ (.tmp 20) = .bool (tailL (addC 0#32 (bs.take m)) == bs.drop m) := ((hρ 20).trans (slotJ [2, 13] (by rw [hs]; decide) (by kernel_rfl))).trans (hF 13 (by decide))
      clear hρ hF hfun h0 h3 fin
      exact opv_val (by go_simp <;> rfl) ⟨gw_self _, rfl⟩
    · exact owes_mvj 14 21 (by kernel_rfl) (by kernel_rfl) (by kernel_rfl) (by kernel_rfl) (by rw [hs]; decide) (fun v w h => h)
  · intro vals w1 hG hF
    exact fin vals w1 hG (hF 15 (by decide +kernel))
theorem rr_no (Q : Exit → Act → World → Prop) (a0 : Act) (w : World) (bs : List (BitVec 8)) (A : Option Addr) (c : Nat) (n : Int) (hn : n < 0) (hs : a0.tmps.size = 22) (h3 : a0.tmps.getD 3 undef = .int .i64 n)
    (fin : ∀ (vals : Nat → Value) (w1 : World), Below w.heap.size w w1 → (IsV (Go.Value.bool false)) (vals 15) w1 → Q .normal (putD vals [7, 8, 9, 10, 11, 12, 13, 14, 15, 16, 17, 18, 19, 20, 21, 2] 0 a0) w1) :
    (Code.region 2 (regIn Try.f22 2) true).wp Try.prog Q a0 w := by
  refine region_by (G := fun w w1 => Below w.heap.size w w1) [IsV (.int .i64 n),
    IsV (.bool false),
    IsV (.bool false),
    IsV undef,
    IsV undef,
    IsV undef,
    IsV undef,
    IsV undef,
    IsV undef,
    IsV undef,
    IsV undef,
    IsV undef,
    IsV undef,
    IsV undef,
    IsV (Go.Value.bool false),
    IsV (Go.Value.bool false)]
    [7, 8, 9, 10, 11, 12, 13, 14, 15, 16, 17, 18, 19, 20, 21, 2] (by kernel_rfl) (Gw.drew _) Gw.trans (by rw [hs]; kernel_rfl) (by kernel_rfl) ?_ ?_ ?_
  · intro f hf
    simp only [List.mem_cons, List.not_mem_nil, or_false] at hf
    rcases hf with rfl | rfl | rfl | rfl | rfl | rfl | rfl | rfl | rfl | rfl | rfl | rfl | rfl | rfl | rfl | rfl <;> intro v a b h g <;> first | exact IsV.mono h
  · refine ⟨?_, ?_, ?_, ?_, ?_, ?_, ?_, ?_, ?_, ?_, ?_, ?_, ?_, ?_, ?_, ?_, trivial⟩
    · exact owes_mv 3 (by kernel_rfl) (by kernel_rfl) (by kernel_rfl) h3 (fun _ => rfl)
    · refine owes_v (Go.Op.binOp Go.BinOp.geq 3 (Go.Operand.tmp 7) (Go.Operand.const (Go.Value.int Go.IntKind.i64 0)) 3) 4 [0] (by kernel_rfl) (by kernel_rfl) (by kernel_rfl) rfl fun vals w1 ρ hG hF hρ hcst hfun => ?_
      have e7 : ρ (.tmp 7) = .int .i64 n := ((hρ 7).trans (slotJ [0] (by rw [hs]; decide) (by kernel_rfl))).trans (hF 0 (by decide))
      have p0 : decide (0 ≤ n) = false := by simp; omega
      clear hρ hF hfun h3 fin
      exact opv_val (by go_simp <;> rfl) ⟨gw_self _, rfl⟩
    · exact owes_mvj 1 8 (by kernel_rfl) (by kernel_rfl) (by kernel_rfl) (by kernel_rfl) (by rw [hs]; decide) (fun v w h => h)
    · exact owes_no 2 false true (by decide) (by kernel_rfl) (by kernel_rfl) (fun _ _ h => h) (by rw [hs]; kernel_rfl) (fun _ => rfl)
    · exact owes_no 2 false true (by decide) (by kernel_rfl) (by kernel_rfl) (fun _ _ h => h) (by rw [hs]; kernel_rfl) (fun _ => rfl)
    · exact owes_no 2 false true (by decide) (by kernel_rfl) (by kernel_rfl) (fun _ _ h => h) (by rw [hs]; kernel_rfl) (fun _ => rfl)
    · exact owes_no 2 false true (by decide) (by kernel_rfl) (by kernel_rfl) (fun _ _ h => h) (by rw [hs]; kernel_rfl) (fun _ => rfl)
    · exact owes_no 2 false true (by decide) (by kernel_rfl) (by kernel_rfl) (fun _ _ h => h) (by rw [hs]; kernel_rfl) (fun _ => rfl)
    · exact owes_no 2 false true (by decide) (by kernel_rfl) (by kernel_rfl) (fun _ _ h => h) (by rw [hs]; kernel_rfl) (fun _ => rfl)
    · exact owes_no 2 false true (by decide) (by kernel_rfl) (by kernel_rfl) (fun _ _ h => h) (by rw [hs]; kernel_rfl) (fun _ => rfl)
    · exact owes_no 2 false true (by decide) (by kernel_rfl) (by kernel_rfl) (fun _ _ h => h) (by rw [hs]; kernel_rfl) (fun _ => rfl)
    · exact owes_no 2 false true (by decide) (by kernel_rfl) (by kernel_rfl) (fun _ _ h => h) (by rw [hs]; kernel_rfl) (fun _ => rfl)
    · exact owes_no 2 false true (by decide) (by kernel_rfl) (by kernel_rfl) (fun _ _ h => h) (by rw [hs]; kernel_rfl) (fun _ => rfl)
    · exact owes_no 2 false true (by decide) (by kernel_rfl) (by kernel_rfl) (fun _ _ h => h) (by rw [hs]; kernel_rfl) (fun _ => rfl)
    · refine owes_v (Go.Op.pick (Go.Operand.tmp 9) (Go.Operand.tmp 20) (Go.Operand.const (Go.Value.bool false))) 4 [2, 13] (by kernel_rfl) (by kernel_rfl) (by kernel_rfl) rfl fun vals w1 ρ hG hF hρ hcst hfun => ?_
      have e9 : ρ (.tmp 9) = .bool false := ((hρ 9).trans (slotJ [2, 13] (by rw [hs]; decide) (by kernel_rfl))).trans (hF 2 (by decide))
      have f20 : (IsV undef) (vals 13) w1 := hF 13 (by decide)
      have e20 : ρ (.tmp 20) = vals 13 := (hρ 20).trans (slotJ [2, 13] (by rw [hs]; decide) (by kernel_rfl))
      clear hρ hF hfun h3 fin
      exact opv_val (by go_simp <;> rfl) ⟨gw_self _, rfl⟩
    · exact owes_mvj 14 21 (by kernel_rfl) (by kernel_rfl) (by kernel_rfl) (by kernel_rfl) (by rw [hs]; decide) (fun v w h => h)
  · intro vals w1 hG hF
    exact fin vals w1 hG (hF 15 (by decide +kernel))
theorem rightL_no (bs : List (BitVec 8)) (h : bs.length < 4) : rightL bs = false := by
  unfold rightL
  rw [Bool.and_eq_false_iff]; left
  rw [decide_eq_false_iff_not]; omega
theorem rightL_yes (bs : List (BitVec 8)) (h : 4 ≤ bs.length) : rightL bs = (tailL (addC 0#32 (bs.take (bs.length - 4))) == bs.drop (bs.length - 4)) := by
  unfold rightL
  have : decide (4 ≤ bs.length) = true := by rw [decide_eq_true_eq]; exact h
  rw [this, Bool.true_and]
theorem rright_c (bs : List (BitVec 8)) (A : Option Addr) (c : Nat) (w : World) (hr : Rd b8 w w.heap.size A bs) (hc : bs.length ≤ c) (hl : bs.length ≤ 1073741824) :
    Calls Try.prog 22 #[.slice A bs.length c] w (RetP (.bool (rightL bs)) w) := by
  rcases Nat.lt_or_ge bs.length 4 with h4 | h4
  · rw [rightL_no bs h4]
    go_enter Try.func22, Try.ntmps22
    go_wp2_with fail
    refine rr_no _ _ _ bs A c ((bs.length : Int) - 4) (by omega) rfl rfl ?_
    intro vals w1 hG h2
    change vals 15 = _ at h2
    simp only [putD, Act.put, List.setIfInBounds_toArray, List.set_cons_zero, List.set_cons_succ, h2]
    clear h2
    go_wp2_with fail
    go_ret
    exact ret_b rfl hG
  · rw [rightL_yes bs h4]
    obtain ⟨m, hm⟩ : ∃ m, m = bs.length - 4 := ⟨_, rfl⟩
    rw [← hm]
    have h3 : Value.int .i64 ((bs.length : Int) - 4) = .int .i64 (m : Int) := by congr 1; omega
    have H3 := Lib.hid h3
    have hm1 : m + 4 ≤ bs.length := by omega
    have hm2 : bs.length ≤ m + 4 := by omega
    clear hm h3
    go_enter Try.func22, Try.ntmps22
    go_wp2_with fail
    refine rr_yes _ _ _ bs A c m hr hm1 hm2 hl hc rfl rfl H3.out ?_
    intro vals w1 hG h2
    change vals 15 = _ at h2
    simp only [putD, Act.put, List.setIfInBounds_toArray, List.set_cons_zero, List.set_cons_succ, h2]
    clear h2
    go_wp2_with fail
    go_ret
    exact ret_b rfl hG
theorem right_l (bs : List (BitVec 8)) (A : Option Addr) (c : Nat) (w : World) (hr : Rd b8 w w.heap.size A bs) (hc : bs.length ≤ c) (hl : bs.length ≤ 1073741824) :
    Calls Try.prog 21 #[.slice A bs.length c] w (RetP (.bool (rightL bs)) w) := by
  rcases Nat.lt_or_ge bs.length 4 with h4 | h4
  · rw [rightL_no bs h4]
    exact right_short A bs.length c w (by omega)
  · obtain ⟨xs, y0, y1, y2, y3, rfl⟩ : ∃ xs y0 y1 y2 y3, bs = xs ++ [y0, y1, y2, y3] := by
      refine ⟨bs.take (bs.length - 4), bs[bs.length - 4], bs[bs.length - 3], bs[bs.length - 2], bs[bs.length - 1], ?_⟩
      apply List.ext_getElem
      · simp; omega
      · intro i h1 h2
        rw [List.getElem_append]
        split
        · rw [List.getElem_take]
        · rename_i h
          simp at h h2
          have : i = bs.length - 4 ∨ i = bs.length - 3 ∨ i = bs.length - 2 ∨ i = bs.length - 1 := by omega
          have e : (bs.take (bs.length - 4)).length = bs.length - 4 := by simp
          simp only [e]
          rcases this with e | e | e | e <;> subst e
          · simp
          · simp [show bs.length - 3 - (bs.length - 4) = 1 from by omega]
          · simp [show bs.length - 2 - (bs.length - 4) = 2 from by omega]
          · simp [show bs.length - 1 - (bs.length - 4) = 3 from by omega]
    have hL : (xs ++ [y0, y1, y2, y3]).length = xs.length + 4 := by simp
    rw [rightL_yes _ h4, hL]
    have h := right_c xs y0 y1 y2 y3 A c w hr (by rw [hL] at hc; exact hc) (by omega)
    have e : right4 xs y0 y1 y2 y3 = (tailL (addC 0#32 ((xs ++ [y0, y1, y2, y3]).take (xs.length + 4 - 4))) == (xs ++ [y0, y1, y2, y3]).drop (xs.length + 4 - 4)) := by
      rw [Nat.add_sub_cancel, List.take_left, List.drop_left]
      unfold right4 tailL
      rw [Bool.eq_iff_iff]
      simp
    rw [e] at h
    exact h
end Go.Proofs.Ytgdgajieekkmdaa
