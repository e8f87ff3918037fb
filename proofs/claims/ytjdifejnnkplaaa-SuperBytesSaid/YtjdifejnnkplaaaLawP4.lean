/- The law SuperBytes of layer 6 returns true for every argument. No conditions. -/
import Derived.Test.YtjdifejnnkplaaaSupO
import Derived.Test.YtjdifejnnkplaaaSupP
import Derived.Test.YtjdifejnnkplaaaSupL
import Derived.Test.YtjdifejnnkplaaaSupH
import Derived.Test.YtjdifejnnkplaaaGeomA
namespace Go.Proofs.Ytjdifejnnkplaaa
set_option linter.unusedVariables false
set_option linter.unusedSimpArgs false
open Go.RowKit
set_option maxRecDepth 100000
set_option maxHeartbeats 2000000
theorem leN_lt : ∀ l : List (BitVec 8), l.length ≤ 8 → (leN l).toNat < 2 ^ (8 * l.length)
  | [], _ => by decide
  | b :: r, h => by
    have ih := leN_lt r (by simp at h; omega)
    have hb := b.isLt
    simp only [leN, BitVec.toNat_or, BitVec.toNat_shiftLeft, BitVec.toNat_setWidth, List.length_cons]
    apply Nat.or_lt_two_pow
    · refine Nat.lt_of_le_of_lt (Nat.mod_le _ _) ?_
      rw [Nat.shiftLeft_eq, show 8 * (r.length + 1) = 8 * r.length + 8 by omega, Nat.pow_add]
      exact Nat.mul_lt_mul_of_pos_right ih (by decide)
    · refine Nat.lt_of_le_of_lt (Nat.mod_le _ _) (Nat.lt_of_lt_of_le hb ?_)
      exact Nat.pow_le_pow_right (by decide) (by omega)
theorem getB_lt (bs : List (BitVec 8)) (p : Int) : (getB bs p 4).toNat < 4294967296 := by
  unfold getB
  split
  · have h1 : (seg bs p 4).length ≤ 4 := by unfold seg; rw [List.length_take]; exact Nat.min_le_left _ _
    have h2 := leN_lt (seg bs p 4) (by omega)
    have h3 : 2 ^ (8 * (seg bs p 4).length) ≤ 2 ^ 32 := Nat.pow_le_pow_right (by decide) (by omega)
    have h4 : (2 : Nat) ^ 32 = 4294967296 := by decide
    omega
  · decide
theorem right_sealed (ys : List (BitVec 8)) : rightL (ys ++ tailL (addC 0 ys)) = true := by
  have ht : (tailL (addC 0 ys)).length = 4 := rfl
  rw [rightL_yes _ (by rw [List.length_append]; omega), List.length_append, ht, Nat.add_sub_cancel, List.take_left, List.drop_left]
  simp
theorem eqRB (a0 a6 : BitVec 64) (a1 a2 a3 a4 a5 : Int) (W : World) :
    (Op.equalIn 10000 37 (.agg #[.int .u64 (U64 a0), .int .i64 a1, .int .i64 a2, .int .i64 a3, .int .i64 a4, .int .i64 a5, .int .u64 (U64 a6)]) (.agg #[.int .u64 (U64 a0), .int .i64 a1, .int .i64 a2, .int .i64 a3, .int .i64 a4, .int .i64 a5, .int .u64 (U64 a6)])).run Try.prog W = .ok true W := by
  go_simp
theorem of_ret4 {P : Program} {f : FuncId} {args : Array Value} {v : Value} {w : World} (h : Calls P f args w (RetP v w)) : Calls P f args w fun e w2 => ∃ u, e = .returned u ∧ Below w.heap.size w w2 ∧ IsV v u w2 :=
  h.mono fun _ _ h => ⟨_, h.1, h.2, rfl⟩
theorem sby_reg (Q : Exit → Act → World → Prop) (a0 : Act) (w : World) (g q : Nat) (ep lg : BitVec 64) (er s l n sp wd : Int) (hk : Bk w g 26 #[.int .u64 (U64 ep), .int .i64 s, .int .i64 l, .int .i64 n, .int .i64 sp, .int .i64 wd, .int .u64 (U64 lg)]) (hq : Bk w q 37 #[.int .u64 (U64 ep), .int .i64 s, .int .i64 l, .int .i64 n, .int .i64 sp, .int .i64 wd, .int .u64 (U64 lg)]) (HO : Hid (∀ W, Calls Try.prog 11 #[.agg #[.int .u64 (U64 ep), .int .i64 s, .int .i64 l, .int .i64 n, .int .i64 sp, .int .i64 wd, .int .u64 (U64 lg)]] W (RetP (.agg #[.int .u64 (U64 ep), .int .i64 s, .int .i64 l, .int .i64 n, .int .i64 sp, .int .i64 wd, .int .u64 (U64 lg)]) W))) (HE : Hid (∀ W, (Op.equalIn 10000 37 (.agg #[.int .u64 (U64 ep), .int .i64 s, .int .i64 l, .int .i64 n, .int .i64 sp, .int .i64 wd, .int .u64 (U64 lg)]) (.agg #[.int .u64 (U64 ep), .int .i64 s, .int .i64 l, .int .i64 n, .int .i64 sp, .int .i64 wd, .int .u64 (U64 lg)])).run Try.prog W = .ok true W)) (hsz : a0.tmps.size = 31) (sl3 : a0.tmps.getD 3 undef = .pointer (some ⟨g, 0, none⟩)) (sl4 : a0.tmps.getD 4 undef = .int .i64 er) (sl5 : a0.tmps.getD 5 undef = .pointer (some ⟨q, 0, none⟩)) (sl6 : a0.tmps.getD 6 undef = .int .i64 er)
    (fin : ∀ (vals : Nat → Value) (w1 : World), Below w.heap.size w w1 → (IsV (.bool true)) (vals 9) w1 → Q .normal (putD vals [22, 23, 24, 25, 26, 27, 28, 29, 30, 2] 0 a0) w1) :
    (Code.region 7 (regIn Try.f4 7) true).wp Try.prog Q a0 w := by
  refine region_by (G := fun w w1 => Below w.heap.size w w1) [IsV (.int .i64 er),
    IsV (.int .i64 er),
    IsV (.bool true),
    IsV (.bool true),
    IsV (.agg #[.int .u64 (U64 ep), .int .i64 s, .int .i64 l, .int .i64 n, .int .i64 sp, .int .i64 wd, .int .u64 (U64 lg)]),
    IsV (.agg #[.int .u64 (U64 ep), .int .i64 s, .int .i64 l, .int .i64 n, .int .i64 sp, .int .i64 wd, .int .u64 (U64 lg)]),
    IsV (.agg #[.int .u64 (U64 ep), .int .i64 s, .int .i64 l, .int .i64 n, .int .i64 sp, .int .i64 wd, .int .u64 (U64 lg)]),
    IsV (.bool true),
    IsV (.bool true),
    IsV (.bool true)]
    [22, 23, 24, 25, 26, 27, 28, 29, 30, 2] (by kernel_rfl) (Gw.drew _) Gw.trans (by rw [hsz]; kernel_rfl) (by kernel_rfl) ?_ ?_ ?_
  · intro f hf
    simp only [List.mem_cons, List.not_mem_nil, or_false] at hf
    rcases hf with rfl | rfl | rfl | rfl | rfl | rfl | rfl | rfl | rfl | rfl <;> intro v a b h g <;> first | exact IsV.mono h
  · refine ⟨?_, ?_, ?_, ?_, ?_, ?_, ?_, ?_, ?_, ?_, trivial⟩
    · exact owes_mv 4 (by kernel_rfl) (by kernel_rfl) (by kernel_rfl) sl4 (fun _ => rfl)
    · exact owes_mv 6 (by kernel_rfl) (by kernel_rfl) (by kernel_rfl) sl6 (fun _ => rfl)
    · refine owes_v (Go.Op.binOp Go.BinOp.eql 3 (Go.Operand.tmp 22) (Go.Operand.tmp 23) 3) 4 [0, 1] (by kernel_rfl) (by kernel_rfl) (by kernel_rfl) rfl fun vals w1 ρ hG hF hρ hcst hfun => ?_
      have e22 : ρ (.tmp 22) = .int .i64 er := ((hρ 22).trans (slotJ [0, 1] (by rw [hsz]; decide) (by kernel_rfl))).trans (hF 0 (by decide))
      have e23 : ρ (.tmp 23) = .int .i64 er := ((hρ 23).trans (slotJ [0, 1] (by rw [hsz]; decide) (by kernel_rfl))).trans (hF 1 (by decide))
      clear hρ hF hcst hfun sl3 sl4 sl5 sl6 fin
      exact opv_val (by go_simp <;> rfl) ⟨gw_self _, rfl⟩
    · exact owes_mvj 2 24 (by kernel_rfl) (by kernel_rfl) (by kernel_rfl) (by kernel_rfl) (by rw [hsz]; decide) (fun v w h => h)
    · refine owes_vt 3 true (Go.Op.load 26 (Go.Operand.tmp 3)) 26 [] (by kernel_rfl) (by kernel_rfl) (by kernel_rfl) (fun _ _ h => h) (by rw [hsz]; kernel_rfl) (by kernel_rfl) rfl fun vals w1 ρ hG hF hρ hcst hfun => ?_
      have e3 : ρ (.tmp 3) = .pointer (some ⟨g, 0, none⟩) := ((hρ 3).trans (slotO [] (by kernel_rfl))).trans sl3
      obtain ⟨k0, k1, k2, k3, k4, k5, k6⟩ := (hk.below hG hk.lt).seven
      clear hρ hF hcst hfun sl3 sl4 sl5 sl6 fin
      exact opv_val (by go_simp <;> rfl) ⟨gw_self _, rfl⟩
    · refine owes_vt 3 true (Go.Op.call { callee := Go.Callee.value (Go.Operand.func 11), args := #[Go.Operand.tmp 26], argTypes := #[26] }) 37 [4] (by kernel_rfl) (by kernel_rfl) (by kernel_rfl) (fun _ _ h => h) (by rw [hsz]; kernel_rfl) (by kernel_rfl) rfl fun vals w1 ρ hG hF hρ hcst hfun => ?_
      have e26 : ρ (.tmp 26) = .agg #[.int .u64 (U64 ep), .int .i64 s, .int .i64 l, .int .i64 n, .int .i64 sp, .int .i64 wd, .int .u64 (U64 lg)] := ((hρ 26).trans (slotJ [4] (by rw [hsz]; decide) (by kernel_rfl))).trans (hF 4 (by decide))
      clear hρ hF hcst sl3 sl4 sl5 sl6 fin
      exact opv_enter (by go_simp <;> rfl) (of_ret4 (HO.out w1))
    · refine owes_vt 3 true (Go.Op.load 37 (Go.Operand.tmp 5)) 37 [] (by kernel_rfl) (by kernel_rfl) (by kernel_rfl) (fun _ _ h => h) (by rw [hsz]; kernel_rfl) (by kernel_rfl) rfl fun vals w1 ρ hG hF hρ hcst hfun => ?_
      have e5 : ρ (.tmp 5) = .pointer (some ⟨q, 0, none⟩) := ((hρ 5).trans (slotO [] (by kernel_rfl))).trans sl5
      obtain ⟨k0, k1, k2, k3, k4, k5, k6⟩ := (hq.below hG hq.lt).seven
      clear hρ hF hcst hfun sl3 sl4 sl5 sl6 fin
      exact opv_val (by go_simp <;> rfl) ⟨gw_self _, rfl⟩
    · refine owes_vt 3 true (Go.Op.binOp Go.BinOp.eql 37 (Go.Operand.tmp 27) (Go.Operand.tmp 28) 37) 4 [5, 6] (by kernel_rfl) (by kernel_rfl) (by kernel_rfl) (fun _ _ h => h) (by rw [hsz]; kernel_rfl) (by kernel_rfl) rfl fun vals w1 ρ hG hF hρ hcst hfun => ?_
      have e27 : ρ (.tmp 27) = .agg #[.int .u64 (U64 ep), .int .i64 s, .int .i64 l, .int .i64 n, .int .i64 sp, .int .i64 wd, .int .u64 (U64 lg)] := ((hρ 27).trans (slotJ [5, 6] (by rw [hsz]; decide) (by kernel_rfl))).trans (hF 5 (by decide))
      have e28 : ρ (.tmp 28) = .agg #[.int .u64 (U64 ep), .int .i64 s, .int .i64 l, .int .i64 n, .int .i64 sp, .int .i64 wd, .int .u64 (U64 lg)] := ((hρ 28).trans (slotJ [5, 6] (by rw [hsz]; decide) (by kernel_rfl))).trans (hF 6 (by decide))
      have k := HE.out
      clear hρ hF hcst hfun sl3 sl4 sl5 sl6 fin
      exact opv_val (by go_simp <;> rfl) ⟨gw_self _, rfl⟩
    · refine owes_v (Go.Op.pick (Go.Operand.tmp 25) (Go.Operand.tmp 29) (Go.Operand.const (Go.Value.bool false))) 4 [3, 7] (by kernel_rfl) (by kernel_rfl) (by kernel_rfl) rfl fun vals w1 ρ hG hF hρ hcst hfun => ?_
      have e25 : ρ (.tmp 25) = .bool true := ((hρ 25).trans (slotJ [3, 7] (by rw [hsz]; decide) (by kernel_rfl))).trans (hF 3 (by decide))
      have e29 : ρ (.tmp 29) = .bool true := ((hρ 29).trans (slotJ [3, 7] (by rw [hsz]; decide) (by kernel_rfl))).trans (hF 7 (by decide))
      clear hρ hF hfun sl3 sl4 sl5 sl6 fin
      exact opv_val (by go_simp <;> rfl) ⟨gw_self _, rfl⟩
    · exact owes_mvj 8 30 (by kernel_rfl) (by kernel_rfl) (by kernel_rfl) (by kernel_rfl) (by rw [hsz]; decide) (fun v w h => h)
  · intro vals w1 hG hF
    exact fin vals w1 hG (hF 9 (by decide +kernel))
theorem sby_far (w : World) (A : Option Addr) (N c : Nat) (h : 1100 < N) : Calls Try.prog 4 #[.slice A N c] w (TruP (.bool true) w) := by
  have q1 : decide ((1100 : Int) < (N : Int)) = true := by simp; omega
  go_enter Try.func4, Try.ntmps4
  go_wp2_with fail
  refine Calls.mono (known6_c _) ?_
  rintro e w1 ⟨rfl, b1⟩
  go_wp2_with fail
  go_ret
  exact ⟨rfl, b1⟩
theorem sby_walk (w : World) (E : List (BitVec 8)) (A : Option Addr) (N c : Nat) (hN : N ≤ 1100) (hr : Rd b8 w w.heap.size A E) (er : Int) (ep lg : BitVec 64) (s l n sp wd : Int)
    (h1 : ∀ W, Rd b8 W W.heap.size A E → Calls Try.prog 14 #[.slice A N c] W (RetP (.tuple #[blkV ep s l n sp wd lg, .int .i64 er]) W))
    (h2 : ∀ W, Rd b8 W W.heap.size A E → Calls Try.prog 15 #[.slice A N c] W (RetP (.tuple #[blkV ep s l n sp wd lg, .int .i64 er]) W)) :
    Calls Try.prog 4 #[.slice A N c] w (TruP (.bool true) w) := by
  have q1 : decide ((1100 : Int) < (N : Int)) = false := by simp; omega
  have HR := Lib.hid hr
  have H1 := Lib.hid h1
  have H2 := Lib.hid h2
  have HO := Lib.hid (fun W => of6_c ep lg s l n sp wd W)
  have HE := Lib.hid (eqRB ep lg s l n sp wd)
  clear h1 h2 hr hN
  unfold blkV at H1 H2 HO
  go_enter Try.func4, Try.ntmps4
  go_wp2_with fail
  refine Calls.mono (known6_c _) ?_
  rintro e w1 ⟨rfl, b1⟩
  have HR1 := Lib.hid ((HR.out.below b1).more b1.size)
  have HB1 := Lib.hid b1
  clear b1 HR
  go_wp2_with fail
  refine Calls.mono (H1.out _ HR1.out) ?_
  rintro e w2 ⟨rfl, b2⟩
  obtain ⟨G, hG⟩ : ∃ G, G = w2.heap.size := ⟨_, rfl⟩
  obtain ⟨W3, hW3⟩ : ∃ X, X = w2.alloc (.cells #[.int .u64 (U64 ep), .int .i64 s, .int .i64 l, .int .i64 n, .int .i64 sp, .int .i64 wd, .int .u64 (U64 lg)] 26) := ⟨_, rfl⟩
  have b3 : Below w1.heap.size w1 W3 := by rw [hW3]; exact b2.alloc b2.size _
  have HR3 := Lib.hid ((HR1.out.below b3).more b3.size)
  have HB3 := Lib.hid (HB1.out.trans (b3.mono HB1.out.size))
  have HK3 := Lib.hid (show Bk W3 G 26 #[.int .u64 (U64 ep), .int .i64 s, .int .i64 l, .int .i64 n, .int .i64 sp, .int .i64 wd, .int .u64 (U64 lg)] from by rw [hW3, hG]; exact Bk.new w2 _ _)
  clear b2 b3 HR1 HB1
  go_wp2_with fail
  rw [← hW3, ← hG]
  clear hW3 hG
  refine Calls.mono (H2.out _ HR3.out) ?_
  rintro e w4 ⟨rfl, b4⟩
  obtain ⟨Q, hQ⟩ : ∃ Q, Q = w4.heap.size := ⟨_, rfl⟩
  obtain ⟨W5, hW5⟩ : ∃ X, X = w4.alloc (.cells #[.int .u64 (U64 ep), .int .i64 s, .int .i64 l, .int .i64 n, .int .i64 sp, .int .i64 wd, .int .u64 (U64 lg)] 37) := ⟨_, rfl⟩
  have b5 : Below W3.heap.size W3 W5 := by rw [hW5]; exact b4.alloc b4.size _
  have HB5 := Lib.hid (HB3.out.trans (b5.mono HB3.out.size))
  have HK5 := Lib.hid (HK3.out.below b5 HK3.out.lt)
  have HQ5 := Lib.hid (show Bk W5 Q 37 #[.int .u64 (U64 ep), .int .i64 s, .int .i64 l, .int .i64 n, .int .i64 sp, .int .i64 wd, .int .u64 (U64 lg)] from by rw [hW5, hQ]; exact Bk.new w4 _ _)
  clear b4 b5 HR3 HB3 HK3
  go_wp2_with fail
  rw [← hW5, ← hQ]
  clear hW5 hQ
  refine sby_reg _ _ _ G Q ep lg er s l n sp wd HK5.out HQ5.out HO HE rfl rfl rfl rfl rfl ?_
  intro vals w6 hG h2
  unfold IsV at h2
  simp only [putD, Act.put, List.setIfInBounds_toArray, List.set_cons_zero, List.set_cons_succ, h2]
  have HB6 := Lib.hid (HB5.out.trans (hG.mono HB5.out.size))
  clear h2 hG
  go_wp2_with fail
  go_ret
  exact ⟨rfl, HB6.out⟩
theorem bytes_walk (w : World) (A : Option Addr) (E : List (BitVec 8)) (c : Nat) (hc : E.length ≤ c) (_m : c ≤ maxLen) (hr : Rd b8 w w.heap.size A E) : Calls Try.prog 4 #[.slice A E.length c] w (TruP (.bool true) w) := by
  by_cases hl : 1100 < E.length
  · exact sby_far w A E.length c hl
  · have u4 : ∀ p, U64 (getB E p 4) = ((getB E p 4).toNat : Int) := fun p => rfl
    obtain ⟨er, xs, e1, e2, e3⟩ := encD_both (getB E 8 8) (getB E 16 4).toNat (getB E 20 4).toNat (getB E 24 4).toNat (getB E 28 4).toNat (getB E 32 4).toNat (getB E 36 8)
    have hX := And.intro (Nat.le_of_lt (getB_lt E 16)) (And.intro (Nat.le_of_lt (getB_lt E 20)) (And.intro (Nat.le_of_lt (getB_lt E 24)) (And.intro (Nat.le_of_lt (getB_lt E 28)) (Nat.le_of_lt (getB_lt E 32)))))
    have hG := And.intro (Eq.refl (getB E 8 8)) (And.intro (u4 16) (And.intro (u4 20) (And.intro (u4 24) (And.intro (u4 28) (And.intro (u4 32) (Eq.refl (getB E 36 8)))))))
    obtain ⟨bb, hbb⟩ : ∃ bb, bb = decide (er = 0 ∧ xs = E) := ⟨_, rfl⟩
    have hw : (er = 1 ∧ bb = false) ∨ (er = 0 ∧ bb = decide (xs = E)) := by
      rcases e3 with ⟨h1, _⟩ | ⟨h1, _⟩
      · left; refine ⟨h1, ?_⟩; rw [hbb, h1]; simp
      · right; refine ⟨h1, ?_⟩; rw [hbb, h1]; simp
    have hyes : bb = true → rightL E = true ∧ 64 ≤ E.length := fun hb => by
      rw [hbb, decide_eq_true_eq] at hb
      obtain ⟨h0, rfl⟩ := hb
      rcases e3 with ⟨h1, _⟩ | ⟨_, h2, h3, _⟩
      · omega
      · refine ⟨?_, ?_⟩
        · rw [h2]; unfold encSB sealC; exact right_sealed _
        · rw [h2, encSB_len _ _ _ _ _ _ _ h3]; exact h3
    have d1 : ∀ W, Rd b8 W W.heap.size A E → Calls Try.prog 14 #[.slice A E.length c] W (RetP (decR bb (blkV (getB E 8 8) (getB E 16 4).toNat (getB E 20 4).toNat (getB E 24 4).toNat (getB E 28 4).toNat (getB E 32 4).toNat (getB E 36 8))) W) := fun W q => by
      by_cases hR : rightL E = true
      · exact dec6_any E A c W hc (by omega) q (fun W2 q2 => by have := right_l E A c W2 q2 hc (by omega); rwa [hR] at this) _ _ _ _ _ _ _ hG hX er xs e1 bb hw
      · have hb : bb = false := by
          cases bb with
          | false => rfl
          | true => exact absurd (hyes rfl).1 hR
        subst hb
        have hR' : rightL E = false := by simpa using hR
        exact dec6_wrong E A c W (fun W2 q2 => by have := right_l E A c W2 q2 hc (by omega); rwa [hR'] at this) q
    have d2 : ∀ W, Rd b8 W W.heap.size A E → Calls Try.prog 15 #[.slice A E.length c] W (RetP (decR bb (blkV (getB E 8 8) (getB E 16 4).toNat (getB E 20 4).toNat (getB E 24 4).toNat (getB E 28 4).toNat (getB E 32 4).toNat (getB E 36 8))) W) := fun W q => by
      by_cases h64 : 64 ≤ E.length
      · exact rdec6_long E A c W h64 (by omega) q _ _ _ _ _ _ _ hG hX er xs e2 bb hw
      · have hb : bb = false := by
          cases bb with
          | false => rfl
          | true => exact absurd (hyes rfl).2 h64
        subst hb
        exact rdec6_short E A c W (by omega)
    clear hyes hw hbb e1 e2 e3 hX hG u4
    cases bb
    · exact sby_walk w E A E.length c (by omega) hr 2 0#64 0#64 0 0 0 0 0 d1 d2
    · exact sby_walk w E A E.length c (by omega) hr 0 _ _ _ _ _ _ _ d1 d2
end Go.Proofs.Ytjdifejnnkplaaa
namespace Go.Proofs.Ytjdifejnnkplaaa.superBytes
open Go.ChangeShapes Go.WideShapes Go.ChangeAt Go.RowKit
open Go.ChangeMaps (open_string shut_string)
set_option linter.unusedVariables false
set_option maxRecDepth 100000 in
theorem lifted (os : Os) (started : os.Started) (H : Type) (enc : TypeId × Value → H) :
    ReturnsInHanded {} Try.checked os 4 .any (Rows.superBytesSpec.pre6 enc Try.prog Try.f4 Rows.superBytesRow.domain false) (Rows.superBytesSpec.post enc Try.prog Try.f4 false true false false) := by
  refine returnsInHanded_of_change (C := Try.checked) own started (by kernel_rfl) Try.func4
    (ChangeSpec.witness6 (enc := enc) (C := Try.checked) false ⟨#[], #[.slice none 0 0], []⟩ 8 (by kernel_rfl) (by kernel_rfl) (by kernel_rfl) (by kernel_rfl)) ?_
  intro W base args ds gs before hval0 hW hcnd _
  have hval : ∀ (j : Nat) t v, Try.f4.params[j]? = some t → args[j]? = some v → Value.okWide Try.prog W .any base t v := hval0
  have hW' := hW
  obtain ⟨p, q, hA0, hV, rfl, hfz, hnd⟩ := hW
  have hA : DataW.TrodAll enc Try.prog W 0 (fun _ => true) true Try.f4.params.toList args.toList ds p := hA0
  rw [Try.params4] at hA hval
  obtain ⟨v0, vs0, d0, ds0, p0, q0, hargs, rfl, rfl, h0, r0⟩ := trodAll_cons hA
  obtain ⟨rfl, rfl, rfl⟩ := trodAll_nil r0
  obtain rfl : args = #[v0] := by cases args; simp_all
  obtain ⟨rfl, rfl⟩ := trodVars_none hV
  have k0 := h0
  have lt0 : ∀ x ∈ p0, x.block < W.heap.size := by obtain ⟨m, hm⟩ := k0; exact DataW.trod_lt m _ _ _ hm
  obtain ⟨A0, a0, c0, e0v, g0, m0, w0⟩ := open_bytes Try.underlying29 Try.underlying5 (by kernel_rfl) (hval 0 29 v0 rfl rfl) h0; subst e0v
  clear hA0 hval0
  refine (bytes_walk W A0 a0 c0 g0 m0 w0).mono fun e W' ⟨he, bel⟩ => ?_
  subst he
  exact ⟨_, rfl, _, _, _, [], _, [], hW', trodAll_mk1 (shut_bool Try.underlying4 _), (trodAll_cons_mk (Below.trod laidOut (by kernel_rfl) (of_decide_eq_true (by kernel_rfl)) k0 bel lt0) trodAll_mk0), rfl, bel.frame _, fun h => by cases h⟩
theorem over : Rows.superBytesRow.holds Try.pinned (OpenSpec.ofChange Rows.superBytesSpec) :=
  OpenClaim.holds_of_wide 4 Try.f4 rfl rfl rfl rfl rfl rfl rfl ⟨rfl, rfl, rfl, rfl, rfl⟩ rfl rfl rfl rfl rfl (by kernel_rfl) Try.func4 (by kernel_rfl)
    (of_decide_eq_true (by kernel_rfl)) (by unfold Func.isWrapper; first | (rw [if_pos (by decide +kernel)]; kernel_rfl) | (rw [if_neg (by decide +kernel)]; exact ⟨rfl, rfl⟩))
    (fun os started H enc _ => lifted os started H enc)
theorem proved : Rows.SuperBytesSaid := over
end Go.Proofs.Ytjdifejnnkplaaa.superBytes
