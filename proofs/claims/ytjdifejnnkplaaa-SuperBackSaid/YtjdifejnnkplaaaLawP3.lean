/- The law SuperBack of layer 6 returns true for every argument. No conditions. -/
import Derived.Test.YtjdifejnnkplaaaSupK
import Derived.Test.YtjdifejnnkplaaaSupL
import Derived.Test.YtjdifejnnkplaaaLawP2
namespace Go.Proofs.Ytjdifejnnkplaaa
set_option linter.unusedVariables false
set_option linter.unusedSimpArgs false
open Go.RowKit
set_option maxRecDepth 100000
set_option maxHeartbeats 2000000
/-- What both Encodes answer: an error, and bytes. -/
def EncC (er : Int) (bs : List (BitVec 8)) (w : World) (e : Ending) (w' : World) : Prop := ∃ A c, e = .returned (.tuple #[.slice A bs.length c, .int .i64 er]) ∧ bs.length ≤ c ∧ Rd b8 w' w'.heap.size A bs ∧ Below w.heap.size w w'
theorem of_same6 {P : Program} {f : FuncId} {args : Array Value} {v : Value} {w : World} (h : Calls P f args w fun e w' => e = .returned v ∧ w' = w) : Calls P f args w fun e w2 => ∃ u, e = .returned u ∧ Below w.heap.size w w2 ∧ IsV v u w2 :=
  h.mono fun _ _ h => ⟨_, h.1, h.2 ▸ Below.refl _ _, rfl⟩
theorem sb10_reg (Q : Exit → Act → World → Prop) (a0 : Act) (w : World) (g q : Nat) (ep ep2 lg : BitVec 64) (s l n sp wd m : Int) (r : Bool) (hk : Bk w g 26 #[.int .u64 (U64 ep), .int .i64 s, .int .i64 l, .int .i64 n, .int .i64 sp, .int .i64 wd, .int .u64 (U64 lg)]) (hq : Bk w q 26 #[.int .u64 (U64 ep2), .int .i64 0, .int .i64 0, .int .i64 0, .int .i64 0, .int .i64 0, .int .u64 0]) (hr : decide (U64 ep2 < U64 ep) = r) (hm1 : 0 ≤ m) (hm2 : m ≤ 1) (hm : (U64 ep).tmod 2 = m) (HN : Hid (∀ W, Calls Try.prog 12 #[.agg #[.int .u64 (U64 ep), .int .i64 s, .int .i64 l, .int .i64 n, .int .i64 sp, .int .i64 wd, .int .u64 (U64 lg)], .agg #[.int .u64 (U64 ep2), .int .i64 0, .int .i64 0, .int .i64 0, .int .i64 0, .int .i64 0, .int .u64 0]] W (RetP (.bool r) W))) (HS : Hid (∀ W, Calls Try.prog 13 #[.int .u64 (U64 ep)] W fun e w' => e = .returned (.int .i64 m) ∧ w' = W)) (hu1 : 0 ≤ U64 ep) (hsz : a0.tmps.size = 73) (sl1 : a0.tmps.getD 1 undef = .int .u64 (U64 ep2)) (sl2 : a0.tmps.getD 2 undef = .pointer (some ⟨g, 0, none⟩)) (sl9 : a0.tmps.getD 9 undef = .pointer (some ⟨q, 0, none⟩))
    (fin : ∀ (vals : Nat → Value) (w1 : World), Below w.heap.size w w1 → (IsV (.bool false)) (vals 17) w1 → Q .normal (putD vals [41, 42, 43, 44, 45, 46, 47, 48, 49, 50, 51, 52, 53, 54, 55, 56, 57, 58] 0 a0) w1) :
    (Code.region 10 (regIn Try.f3 10) true).wp Try.prog Q a0 w := by
  refine region_by (G := fun w w1 => Below w.heap.size w w1) [IsV (.agg #[.int .u64 (U64 ep), .int .i64 s, .int .i64 l, .int .i64 n, .int .i64 sp, .int .i64 wd, .int .u64 (U64 lg)]),
    IsV (.agg #[.int .u64 (U64 ep2), .int .i64 0, .int .i64 0, .int .i64 0, .int .i64 0, .int .i64 0, .int .u64 0]),
    IsV (.bool r),
    IsV (.pointer (some ⟨g, 0, none⟩)),
    IsV (.int .u64 (U64 ep)),
    IsV (.int .u64 (U64 ep2)),
    IsV (.bool r),
    IsV (.bool false),
    IsV (.bool false),
    IsV (.pointer (some ⟨g, 0, none⟩)),
    IsV (.int .u64 (U64 ep)),
    IsV (.int .i64 m),
    IsV (.pointer (some ⟨g, 0, none⟩)),
    IsV (.int .u64 (U64 ep)),
    IsV (.int .u64 m),
    IsV (.int .i64 m),
    IsV (.bool false),
    IsV (.bool false)]
    [41, 42, 43, 44, 45, 46, 47, 48, 49, 50, 51, 52, 53, 54, 55, 56, 57, 58] (by kernel_rfl) (Gw.drew _) Gw.trans (by rw [hsz]; kernel_rfl) (by kernel_rfl) ?_ ?_ ?_
  · intro f hf
    simp only [List.mem_cons, List.not_mem_nil, or_false] at hf
    rcases hf with rfl | rfl | rfl | rfl | rfl | rfl | rfl | rfl | rfl | rfl | rfl | rfl | rfl | rfl | rfl | rfl | rfl | rfl <;> intro v a b h g <;> first | exact IsV.mono h
  · refine ⟨?_, ?_, ?_, ?_, ?_, ?_, ?_, ?_, ?_, ?_, ?_, ?_, ?_, ?_, ?_, ?_, ?_, ?_, trivial⟩
    · refine owes_v (Go.Op.load 26 (Go.Operand.tmp 2)) 26 [] (by kernel_rfl) (by kernel_rfl) (by kernel_rfl) rfl fun vals w1 ρ hG hF hρ hcst hfun => ?_
      have e2 : ρ (.tmp 2) = .pointer (some ⟨g, 0, none⟩) := ((hρ 2).trans (slotO [] (by kernel_rfl))).trans sl2
      obtain ⟨k0, k1, k2, k3, k4, k5, k6⟩ := (hk.below hG hk.lt).seven
      clear hρ hF hcst hfun sl1 sl2 sl9 fin
      exact opv_val (by go_simp <;> rfl) ⟨gw_self _, rfl⟩
    · refine owes_v (Go.Op.load 26 (Go.Operand.tmp 9)) 26 [] (by kernel_rfl) (by kernel_rfl) (by kernel_rfl) rfl fun vals w1 ρ hG hF hρ hcst hfun => ?_
      have e9 : ρ (.tmp 9) = .pointer (some ⟨q, 0, none⟩) := ((hρ 9).trans (slotO [] (by kernel_rfl))).trans sl9
      obtain ⟨k0, k1, k2, k3, k4, k5, k6⟩ := (hq.below hG hq.lt).seven
      clear hρ hF hcst hfun sl1 sl2 sl9 fin
      exact opv_val (by go_simp <;> rfl) ⟨gw_self _, rfl⟩
    · refine owes_v (Go.Op.call { callee := Go.Callee.value (Go.Operand.func 12), args := #[Go.Operand.tmp 41, Go.Operand.tmp 42], argTypes := #[26, 26] }) 4 [0, 1] (by kernel_rfl) (by kernel_rfl) (by kernel_rfl) rfl fun vals w1 ρ hG hF hρ hcst hfun => ?_
      have e41 : ρ (.tmp 41) = .agg #[.int .u64 (U64 ep), .int .i64 s, .int .i64 l, .int .i64 n, .int .i64 sp, .int .i64 wd, .int .u64 (U64 lg)] := ((hρ 41).trans (slotJ [0, 1] (by rw [hsz]; decide) (by kernel_rfl))).trans (hF 0 (by decide))
      have e42 : ρ (.tmp 42) = .agg #[.int .u64 (U64 ep2), .int .i64 0, .int .i64 0, .int .i64 0, .int .i64 0, .int .i64 0, .int .u64 0] := ((hρ 42).trans (slotJ [0, 1] (by rw [hsz]; decide) (by kernel_rfl))).trans (hF 1 (by decide))
      clear hρ hF hcst sl1 sl2 sl9 fin
      exact opv_enter (by go_simp <;> rfl) (of_ret (HN.out w1))
    · refine owes_v (Go.Op.fieldAddr 26 (Go.Operand.tmp 2) 0) 0 [] (by kernel_rfl) (by kernel_rfl) (by kernel_rfl) rfl fun vals w1 ρ hG hF hρ hcst hfun => ?_
      have e2 : ρ (.tmp 2) = .pointer (some ⟨g, 0, none⟩) := ((hρ 2).trans (slotO [] (by kernel_rfl))).trans sl2
      clear hρ hF hcst hfun sl1 sl2 sl9 fin
      exact opv_val (by go_simp <;> rfl) ⟨gw_self _, rfl⟩
    · refine owes_v (Go.Op.load 22 (Go.Operand.tmp 44)) 22 [3] (by kernel_rfl) (by kernel_rfl) (by kernel_rfl) rfl fun vals w1 ρ hG hF hρ hcst hfun => ?_
      have e44 : ρ (.tmp 44) = .pointer (some ⟨g, 0, none⟩) := ((hρ 44).trans (slotJ [3] (by rw [hsz]; decide) (by kernel_rfl))).trans (hF 3 (by decide))
      have k := (hk.below hG hk.lt).cell 0
      clear hρ hF hcst hfun sl1 sl2 sl9 fin
      exact opv_val (by go_simp <;> rfl) ⟨gw_self _, rfl⟩
    · exact owes_mv 1 (by kernel_rfl) (by kernel_rfl) (by kernel_rfl) sl1 (fun _ => rfl)
    · refine owes_v (Go.Op.binOp Go.BinOp.gtr 22 (Go.Operand.tmp 45) (Go.Operand.tmp 46) 22) 4 [4, 5] (by kernel_rfl) (by kernel_rfl) (by kernel_rfl) rfl fun vals w1 ρ hG hF hρ hcst hfun => ?_
      have e45 : ρ (.tmp 45) = .int .u64 (U64 ep) := ((hρ 45).trans (slotJ [4, 5] (by rw [hsz]; decide) (by kernel_rfl))).trans (hF 4 (by decide))
      have e46 : ρ (.tmp 46) = .int .u64 (U64 ep2) := ((hρ 46).trans (slotJ [4, 5] (by rw [hsz]; decide) (by kernel_rfl))).trans (hF 5 (by decide))
      clear hρ hF hcst hfun sl1 sl2 sl9 fin
      exact opv_val (by go_simp <;> rfl) ⟨gw_self _, rfl⟩
    · refine owes_v (Go.Op.binOp Go.BinOp.neq 4 (Go.Operand.tmp 43) (Go.Operand.tmp 47) 4) 4 [2, 6] (by kernel_rfl) (by kernel_rfl) (by kernel_rfl) rfl fun vals w1 ρ hG hF hρ hcst hfun => ?_
      have e43 : ρ (.tmp 43) = .bool r := ((hρ 43).trans (slotJ [2, 6] (by rw [hsz]; decide) (by kernel_rfl))).trans (hF 2 (by decide))
      have e47 : ρ (.tmp 47) = .bool r := ((hρ 47).trans (slotJ [2, 6] (by rw [hsz]; decide) (by kernel_rfl))).trans (hF 6 (by decide))
      clear hρ hF hcst hfun sl1 sl2 sl9 fin
      exact opv_val (by go_simp <;> rfl) ⟨gw_self _, rfl⟩
    · exact owes_mvj 7 48 (by kernel_rfl) (by kernel_rfl) (by kernel_rfl) (by kernel_rfl) (by rw [hsz]; decide) (fun v w h => h)
    · refine owes_vt 8 false (Go.Op.fieldAddr 26 (Go.Operand.tmp 2) 0) 0 [] (by kernel_rfl) (by kernel_rfl) (by kernel_rfl) (fun _ _ h => h) (by rw [hsz]; kernel_rfl) (by kernel_rfl) rfl fun vals w1 ρ hG hF hρ hcst hfun => ?_
      have e2 : ρ (.tmp 2) = .pointer (some ⟨g, 0, none⟩) := ((hρ 2).trans (slotO [] (by kernel_rfl))).trans sl2
      clear hρ hF hcst hfun sl1 sl2 sl9 fin
      exact opv_val (by go_simp <;> rfl) ⟨gw_self _, rfl⟩
    · refine owes_vt 8 false (Go.Op.load 22 (Go.Operand.tmp 50)) 22 [9] (by kernel_rfl) (by kernel_rfl) (by kernel_rfl) (fun _ _ h => h) (by rw [hsz]; kernel_rfl) (by kernel_rfl) rfl fun vals w1 ρ hG hF hρ hcst hfun => ?_
      have e50 : ρ (.tmp 50) = .pointer (some ⟨g, 0, none⟩) := ((hρ 50).trans (slotJ [9] (by rw [hsz]; decide) (by kernel_rfl))).trans (hF 9 (by decide))
      have k := (hk.below hG hk.lt).cell 0
      clear hρ hF hcst hfun sl1 sl2 sl9 fin
      exact opv_val (by go_simp <;> rfl) ⟨gw_self _, rfl⟩
    · refine owes_vt 8 false (Go.Op.call { callee := Go.Callee.value (Go.Operand.func 13), args := #[Go.Operand.tmp 51], argTypes := #[22] }) 3 [10] (by kernel_rfl) (by kernel_rfl) (by kernel_rfl) (fun _ _ h => h) (by rw [hsz]; kernel_rfl) (by kernel_rfl) rfl fun vals w1 ρ hG hF hρ hcst hfun => ?_
      have e51 : ρ (.tmp 51) = .int .u64 (U64 ep) := ((hρ 51).trans (slotJ [10] (by rw [hsz]; decide) (by kernel_rfl))).trans (hF 10 (by decide))
      clear hρ hF hcst sl1 sl2 sl9 fin
      exact opv_enter (by go_simp <;> rfl) (of_same6 (HS.out w1))
    · refine owes_vt 8 false (Go.Op.fieldAddr 26 (Go.Operand.tmp 2) 0) 0 [] (by kernel_rfl) (by kernel_rfl) (by kernel_rfl) (fun _ _ h => h) (by rw [hsz]; kernel_rfl) (by kernel_rfl) rfl fun vals w1 ρ hG hF hρ hcst hfun => ?_
      have e2 : ρ (.tmp 2) = .pointer (some ⟨g, 0, none⟩) := ((hρ 2).trans (slotO [] (by kernel_rfl))).trans sl2
      clear hρ hF hcst hfun sl1 sl2 sl9 fin
      exact opv_val (by go_simp <;> rfl) ⟨gw_self _, rfl⟩
    · refine owes_vt 8 false (Go.Op.load 22 (Go.Operand.tmp 53)) 22 [12] (by kernel_rfl) (by kernel_rfl) (by kernel_rfl) (fun _ _ h => h) (by rw [hsz]; kernel_rfl) (by kernel_rfl) rfl fun vals w1 ρ hG hF hρ hcst hfun => ?_
      have e53 : ρ (.tmp 53) = .pointer (some ⟨g, 0, none⟩) := ((hρ 53).trans (slotJ [12] (by rw [hsz]; decide) (by kernel_rfl))).trans (hF 12 (by decide))
      have k := (hk.below hG hk.lt).cell 0
      clear hρ hF hcst hfun sl1 sl2 sl9 fin
      exact opv_val (by go_simp <;> rfl) ⟨gw_self _, rfl⟩
    · refine owes_vt 8 false (Go.Op.binOp Go.BinOp.rem 22 (Go.Operand.tmp 54) (Go.Operand.const (Go.Value.int Go.IntKind.u64 2)) 22) 22 [13] (by kernel_rfl) (by kernel_rfl) (by kernel_rfl) (fun _ _ h => h) (by rw [hsz]; kernel_rfl) (by kernel_rfl) rfl fun vals w1 ρ hG hF hρ hcst hfun => ?_
      have e54 : ρ (.tmp 54) = .int .u64 (U64 ep) := ((hρ 54).trans (slotJ [13] (by rw [hsz]; decide) (by kernel_rfl))).trans (hF 13 (by decide))
      clear hρ hF hfun sl1 sl2 sl9 fin
      exact opv_val (by go_simp <;> rfl) ⟨gw_self _, rfl⟩
    · refine owes_vt 8 false (Go.Op.convert 22 3 (Go.Operand.tmp 55)) 3 [14] (by kernel_rfl) (by kernel_rfl) (by kernel_rfl) (fun _ _ h => h) (by rw [hsz]; kernel_rfl) (by kernel_rfl) rfl fun vals w1 ρ hG hF hρ hcst hfun => ?_
      have e55 : ρ (.tmp 55) = .int .u64 m := ((hρ 55).trans (slotJ [14] (by rw [hsz]; decide) (by kernel_rfl))).trans (hF 14 (by decide))
      have kw0 : IntKind.i64.wrap (m) = m := wrapIn (by omega) (by omega)
      clear hρ hF hcst hfun sl1 sl2 sl9 fin
      exact opv_val (by go_simp <;> rfl) ⟨gw_self _, rfl⟩
    · refine owes_vt 8 false (Go.Op.binOp Go.BinOp.neq 3 (Go.Operand.tmp 52) (Go.Operand.tmp 56) 3) 4 [11, 15] (by kernel_rfl) (by kernel_rfl) (by kernel_rfl) (fun _ _ h => h) (by rw [hsz]; kernel_rfl) (by kernel_rfl) rfl fun vals w1 ρ hG hF hρ hcst hfun => ?_
      have e52 : ρ (.tmp 52) = .int .i64 m := ((hρ 52).trans (slotJ [11, 15] (by rw [hsz]; decide) (by kernel_rfl))).trans (hF 11 (by decide))
      have e56 : ρ (.tmp 56) = .int .i64 m := ((hρ 56).trans (slotJ [11, 15] (by rw [hsz]; decide) (by kernel_rfl))).trans (hF 15 (by decide))
      clear hρ hF hcst hfun sl1 sl2 sl9 fin
      exact opv_val (by go_simp <;> rfl) ⟨gw_self _, rfl⟩
    · refine owes_v (Go.Op.pick (Go.Operand.tmp 49) (Go.Operand.const (Go.Value.bool true)) (Go.Operand.tmp 57)) 4 [8, 16] (by kernel_rfl) (by kernel_rfl) (by kernel_rfl) rfl fun vals w1 ρ hG hF hρ hcst hfun => ?_
      have e49 : ρ (.tmp 49) = .bool false := ((hρ 49).trans (slotJ [8, 16] (by rw [hsz]; decide) (by kernel_rfl))).trans (hF 8 (by decide))
      have e57 : ρ (.tmp 57) = .bool false := ((hρ 57).trans (slotJ [8, 16] (by rw [hsz]; decide) (by kernel_rfl))).trans (hF 16 (by decide))
      clear hρ hF hfun sl1 sl2 sl9 fin
      exact opv_val (by go_simp <;> rfl) ⟨gw_self _, rfl⟩
  · intro vals w1 hG hF
    exact fin vals w1 hG (hF 17 (by decide +kernel))
theorem slot_m (x : BitVec 64) : (U64 x).tmod 2 = U64 (x &&& 1#64) ∧ 0 ≤ U64 (x &&& 1#64) ∧ U64 (x &&& 1#64) ≤ 1 ∧ 0 ≤ U64 x := by
  have e : U64 (x &&& 1#64) = ((x.toNat % 2 : Nat) : Int) := by
    unfold U64
    rw [BitVec.toNat_and, show (1#64).toNat = 2 ^ 1 - 1 from rfl, Nat.and_two_pow_sub_one_eq_mod]
  have h : 0 ≤ U64 x := by unfold U64; omega
  rw [Int.tmod_eq_emod_of_nonneg h, e]
  unfold U64
  omega
theorem sb_walk (w : World) (ep lg ep2 : BitVec 64) (s l n sp wd : Int) (f : Bool) (hf : ∀ W, Calls Try.prog 8 #[gV s l n] W (RetP (.bool f) W)) (er : Int) (xs : List (BitVec 8)) (h1 : ∀ W, Calls Try.prog 9 #[blkV ep s l n sp wd lg] W (EncC er xs W)) (h2 : ∀ W, Calls Try.prog 10 #[blkV ep s l n sp wd lg] W (EncC er xs W))
    (he : er = 0 ∨ er = 1) (hd : er = 0 → ∀ W A c, xs.length ≤ c → Rd b8 W W.heap.size A xs → Calls Try.prog 14 #[.slice A xs.length c] W (RetP (.tuple #[blkV ep s l n sp wd lg, .int .i64 0]) W)) :
    Calls Try.prog 3 #[blkV ep s l n sp wd lg, .int .u64 (U64 ep2)] w (TruP (.bool true) w) := by
  obtain ⟨W0, hW0⟩ : ∃ X, X = w.alloc (.cells #[.int .u64 (U64 ep), .int .i64 s, .int .i64 l, .int .i64 n, .int .i64 sp, .int .i64 wd, .int .u64 (U64 lg)] 26) := ⟨_, rfl⟩
  obtain ⟨H, hH⟩ : ∃ H, H = w.heap.size := ⟨_, rfl⟩
  have HK := Lib.hid (show Bk W0 H 26 #[.int .u64 (U64 ep), .int .i64 s, .int .i64 l, .int .i64 n, .int .i64 sp, .int .i64 wd, .int .u64 (U64 lg)] ∧ Below w.heap.size w W0 from by rw [hW0, hH]; exact ⟨Bk.new w _ _, Gw.alloc w _⟩)
  have HF := Lib.hid hf
  have HH1 := Lib.hid h1
  have HH2 := Lib.hid h2
  have HOF := Lib.hid (fun W => of6_c ep lg s l n sp wd W)
  have HD := Lib.hid hd
  have HEE := Lib.hid he
  obtain ⟨r, hr⟩ : ∃ r, r = decide (U64 ep2 < U64 ep) := ⟨_, rfl⟩
  have HN := Lib.hid (show ∀ W, Calls Try.prog 12 #[blkV ep s l n sp wd lg, blkV ep2 0 0 0 0 0 0#64] W (RetP (.bool r) W) from fun W => by rw [hr]; exact newer_c ep ep2 s l n sp wd 0 0 0 0 0 lg 0#64 W)
  obtain ⟨m, hm⟩ : ∃ m, m = U64 (ep &&& 1#64) := ⟨_, rfl⟩
  have HS := Lib.hid (show ∀ W, Calls Try.prog 13 #[.int .u64 (U64 ep)] W fun e w' => e = .returned (.int .i64 m) ∧ w' = W from fun W => by rw [hm]; exact slot_c ep W)
  have HM := Lib.hid (show (U64 ep).tmod 2 = m ∧ 0 ≤ m ∧ m ≤ 1 ∧ 0 ≤ U64 ep from by rw [hm]; exact slot_m ep)
  have HR := Lib.hid hr.symm
  have HQB := Lib.hid (eqBlk ep ep lg lg s l n sp wd s l n sp wd true (by simp))
  clear hf h1 h2 hd he hr hm
  unfold gV at HF
  unfold blkV at HH1 HH2 HOF HD HN ⊢
  go_enter Try.func3, Try.ntmps3
  go_wp2_with fail
  rw [← hW0, ← hH]
  clear hW0 hH
  refine Calls.mono (known6_c _) ?_
  rintro e w1 ⟨rfl, b1⟩
  have HK1 := Lib.hid (And.intro (HK.out.1.below b1 HK.out.1.lt) (HK.out.2.trans (b1.mono HK.out.2.size)))
  clear b1 HK
  obtain ⟨c0, c1, c2, c3, c4, c5, c6⟩ := HK1.out.1.seven
  go_wp2_with fail
  refine Calls.mono (HF.out _) ?_
  rintro e w2 ⟨rfl, b2⟩
  have HK2 := Lib.hid (And.intro (HK1.out.1.below b2 HK1.out.1.lt) (HK1.out.2.trans (b2.mono HK1.out.2.size)))
  clear b2 HK1 c0 c1 c2 c3 c4 c5 c6 HF
  cases f
  · go_wp2_with fail
    go_ret
    exact ⟨rfl, HK2.out.2⟩
  obtain ⟨c0, c1, c2, c3, c4, c5, c6⟩ := HK2.out.1.seven
  go_wp2_with fail
  refine Calls.mono (HH1.out _) ?_
  rintro e w3 ⟨A3, k3, rfl, hk3, hr3, b3⟩
  obtain ⟨N, hN⟩ : ∃ N, N = xs.length := ⟨_, rfl⟩
  have HR3 := Lib.hid (And.intro hk3 hr3)
  have HK3 := Lib.hid (And.intro (HK2.out.1.below b3 HK2.out.1.lt) (HK2.out.2.trans (b3.mono HK2.out.2.size)))
  rw [← hN]
  have HNN := Lib.hid hN
  clear b3 HK2 c0 c1 c2 c3 c4 c5 c6 HH1 hk3 hr3 hN
  obtain ⟨c0, c1, c2, c3, c4, c5, c6⟩ := HK3.out.1.seven
  go_wp2_with fail
  refine Calls.mono (HOF.out _) ?_
  rintro e w4 ⟨rfl, b4⟩
  have HR4 := Lib.hid (And.intro HR3.out.1 ((HR3.out.2.below b4).more b4.size))
  have HK4 := Lib.hid (And.intro (HK3.out.1.below b4 HK3.out.1.lt) (HK3.out.2.trans (b4.mono HK3.out.2.size)))
  clear b4 HK3 HR3 HOF c0 c1 c2 c3 c4 c5 c6
  go_wp2_with fail
  refine Calls.mono (HH2.out _) ?_
  rintro e w5 ⟨A5, k5, rfl, hk5, hr5, b5⟩
  have HR5 := Lib.hid (And.intro HR4.out.1 ((HR4.out.2.below b5).more b5.size))
  have HK5 := Lib.hid (And.intro (HK4.out.1.below b5 HK4.out.1.lt) (HK4.out.2.trans (b5.mono HK4.out.2.size)))
  have HT5 := Lib.hid hr5
  rw [← HNN.out]
  clear b5 HK4 HR4 HH2 hk5 hr5
  have kc3 := str_conv xs A3 k3 _ w5 HR5.out.2
  have kc5 := str_conv xs A5 k5 _ w5 HT5.out
  rw [← HNN.out] at kc3 kc5
  rcases HEE.out with rfl | rfl
  · go_wp2_with fail
    obtain ⟨W6, hW6⟩ : ∃ X, X = w5.alloc (.cells #[.int .u64 (U64 ep2), .int .i64 0, .int .i64 0, .int .i64 0, .int .i64 0, .int .i64 0, .int .u64 0] 26) := ⟨_, rfl⟩
    obtain ⟨Q6, hQ6⟩ : ∃ q, q = w5.heap.size := ⟨_, rfl⟩
    have hb6 : Below w5.heap.size w5 W6 := by rw [hW6]; exact Gw.alloc w5 _
    have HQ6 := Lib.hid (show Bk W6 Q6 26 #[.int .u64 (U64 ep2), .int .i64 0, .int .i64 0, .int .i64 0, .int .i64 0, .int .i64 0, .int .u64 0] from by rw [hW6, hQ6]; exact Bk.new w5 _ _)
    have HK6 := Lib.hid (And.intro (HK5.out.1.below hb6 HK5.out.1.lt) (HK5.out.2.trans (hb6.mono HK5.out.2.size)))
    have HR6 := Lib.hid (And.intro HR5.out.1 ((HR5.out.2.below hb6).more hb6.size))
    rw [← hW6, ← hQ6]
    clear hW6 hQ6 hb6 kc3 kc5 HK5 HR5 HT5
    refine sb10_reg _ _ _ H Q6 ep ep2 lg s l n sp wd m r HK6.out.1 HQ6.out HR.out HM.out.2.1 HM.out.2.2.1 HM.out.1 HN HS HM.out.2.2.2 rfl rfl rfl rfl ?_
    intro vals w7 hG h58
    unfold IsV at h58
    simp only [putD, Act.put, List.setIfInBounds_toArray, List.set_cons_zero, List.set_cons_succ, h58]
    have HK7 := Lib.hid (And.intro (HK6.out.1.below hG HK6.out.1.lt) (HK6.out.2.trans (hG.mono HK6.out.2.size)))
    have HR7 := Lib.hid (And.intro HR6.out.1 ((HR6.out.2.below hG).more hG.size))
    clear hG h58 HK6 HR6 HQ6
    go_wp2_with fail
    have HDD := Lib.hid (HD.out (by trivial) w7 A3 k3 HR7.out.1 HR7.out.2)
    rw [← HNN.out] at HDD
    refine Calls.mono HDD.out ?_
    rintro e w8 ⟨rfl, b8⟩
    have HK8 := Lib.hid (And.intro (HK7.out.1.below b8 HK7.out.1.lt) (HK7.out.2.trans (b8.mono HK7.out.2.size)))
    have HK9 := Lib.hid (And.intro (HK8.out.1.below (Gw.alloc w8 (.cells #[.int .u64 (U64 ep), .int .i64 s, .int .i64 l, .int .i64 n, .int .i64 sp, .int .i64 wd, .int .u64 (U64 lg)] 26)) HK8.out.1.lt) (HK8.out.2.trans ((Gw.alloc w8 (.cells #[.int .u64 (U64 ep), .int .i64 s, .int .i64 l, .int .i64 n, .int .i64 sp, .int .i64 wd, .int .u64 (U64 lg)] 26)).mono HK8.out.2.size)))
    obtain ⟨c0, c1, c2, c3, c4, c5, c6⟩ := HK9.out.1.seven
    obtain ⟨d0, d1, d2, d3, d4, d5, d6⟩ := (Bk.new w8 26 #[.int .u64 (U64 ep), .int .i64 s, .int .i64 l, .int .i64 n, .int .i64 sp, .int .i64 wd, .int .u64 (U64 lg)]).seven
    have kq := HQB.out
    clear b8 HK8 HK7 HR7 HDD HD HN HS
    go_wp2_with fail
    go_ret
    exact ⟨rfl, HK9.out.2⟩
  · go_wp2_with fail
    obtain ⟨W6, hW6⟩ : ∃ X, X = w5.alloc (.cells #[.int .u64 (U64 ep2), .int .i64 0, .int .i64 0, .int .i64 0, .int .i64 0, .int .i64 0, .int .u64 0] 26) := ⟨_, rfl⟩
    obtain ⟨Q6, hQ6⟩ : ∃ q, q = w5.heap.size := ⟨_, rfl⟩
    have hb6 : Below w5.heap.size w5 W6 := by rw [hW6]; exact Gw.alloc w5 _
    have HQ6 := Lib.hid (show Bk W6 Q6 26 #[.int .u64 (U64 ep2), .int .i64 0, .int .i64 0, .int .i64 0, .int .i64 0, .int .i64 0, .int .u64 0] from by rw [hW6, hQ6]; exact Bk.new w5 _ _)
    have HK6 := Lib.hid (And.intro (HK5.out.1.below hb6 HK5.out.1.lt) (HK5.out.2.trans (hb6.mono HK5.out.2.size)))
    have HR6 := Lib.hid (And.intro HR5.out.1 ((HR5.out.2.below hb6).more hb6.size))
    rw [← hW6, ← hQ6]
    clear hW6 hQ6 hb6 kc3 kc5 HK5 HR5 HT5
    refine sb10_reg _ _ _ H Q6 ep ep2 lg s l n sp wd m r HK6.out.1 HQ6.out HR.out HM.out.2.1 HM.out.2.2.1 HM.out.1 HN HS HM.out.2.2.2 rfl rfl rfl rfl ?_
    intro vals w7 hG h58
    unfold IsV at h58
    simp only [putD, Act.put, List.setIfInBounds_toArray, List.set_cons_zero, List.set_cons_succ, h58]
    have HK7 := Lib.hid (And.intro (HK6.out.1.below hG HK6.out.1.lt) (HK6.out.2.trans (hG.mono HK6.out.2.size)))
    have HR7 := Lib.hid (And.intro HR6.out.1 ((HR6.out.2.below hG).more hG.size))
    clear hG h58 HK6 HR6 HQ6
    go_wp2_with fail
    go_ret
    exact ⟨rfl, HK7.out.2⟩
theorem enc_both (ep : BitVec 64) (s l n sp wd : Int) (lg : BitVec 64) : ∃ er xs, (∀ W, Calls Try.prog 9 #[blkV ep s l n sp wd lg] W (EncC er xs W)) ∧ (∀ W, Calls Try.prog 10 #[blkV ep s l n sp wd lg] W (EncC er xs W)) ∧ (er = 0 ∨ er = 1) ∧
    (er = 0 → ∀ W A c, xs.length ≤ c → Rd b8 W W.heap.size A xs → Calls Try.prog 14 #[.slice A xs.length c] W (RetP (.tuple #[blkV ep s l n sp wd lg, .int .i64 0]) W)) := by
  by_cases hb : badS s l n sp wd
  · exact ⟨1, [], fun W => (enc6_bad ep s l n sp wd lg W hb).mono fun _ _ h => ⟨none, 0, h.1, Nat.le_refl _, Rd.nil, h.2⟩, fun W => (renc6_bad ep s l n sp wd lg W hb).mono fun _ _ h => ⟨none, 0, h.1, Nat.le_refl _, Rd.nil, h.2⟩, .inr rfl, fun e => by cases e⟩
  · have hg : okG s l n = true := by
      cases hg : okG s l n with
      | true => rfl
      | false => exact absurd (.inl hg) hb
    have og := okG_out hg
    have h1 := og.s1
    have h2 := og.l1
    have h3 := og.n1
    have h4 : ¬ (sp < 0 ∨ 1 < sp ∨ wd < 0 ∨ n < wd) := fun e => hb (.inr e)
    obtain ⟨s', rfl⟩ : ∃ k : Nat, s = (k : Int) := ⟨s.toNat, by omega⟩
    obtain ⟨l', rfl⟩ : ∃ k : Nat, l = (k : Int) := ⟨l.toNat, by omega⟩
    obtain ⟨n', rfl⟩ : ∃ k : Nat, n = (k : Int) := ⟨n.toNat, by omega⟩
    obtain ⟨sp', rfl⟩ : ∃ k : Nat, sp = (k : Int) := ⟨sp.toNat, by omega⟩
    obtain ⟨wd', rfl⟩ : ∃ k : Nat, wd = (k : Int) := ⟨wd.toNat, by omega⟩
    have gd : goodS s' l' n' sp' wd' := ⟨hg, by omega, by omega⟩
    exact ⟨0, encSB ep s' l' n' sp' wd' lg, fun W => (enc6_ok ep s' l' n' sp' wd' lg W gd).mono fun _ _ ⟨A, c, q1, q2, q3, q4, _⟩ => ⟨A, c, q1, q2, q3, q4⟩, fun W => (renc6_ok ep s' l' n' sp' wd' lg W gd).mono fun _ _ ⟨A, c, q1, q2, q3, q4, _⟩ => ⟨A, c, q1, q2, q3, q4⟩, .inl rfl, fun _ W A c h5 h6 => dec6_ok ep s' l' n' sp' wd' lg A c W gd h5 h6⟩
theorem back6_walk (w : World) (x : Bl) (_hx : BlOk x) (z : Int) (hz : (Lit.int .u64 z).wf = true) : Calls Try.prog 3 #[x.v, .int .u64 z] w (TruP (.bool true) w) := by
  obtain ⟨ep, s, l, n, sp, wd, lg⟩ := x
  change Calls Try.prog 3 #[blkV ep s l n sp wd lg, .int .u64 z] w (TruP (.bool true) w)
  rw [wfu64 hz]
  obtain ⟨f, hf⟩ := few_any s l n
  obtain ⟨er, xs, h1, h2, h3, h4⟩ := enc_both ep s l n sp wd lg
  exact sb_walk w ep lg _ s l n sp wd f hf er xs h1 h2 h3 h4
end Go.Proofs.Ytjdifejnnkplaaa
namespace Go.Proofs.Ytjdifejnnkplaaa.superBack
open Go.ChangeShapes Go.WideShapes Go.ChangeAt Go.RowKit
open Go.ChangeMaps (open_string shut_string)
set_option linter.unusedVariables false
set_option maxRecDepth 100000 in
theorem lifted (os : Os) (started : os.Started) (H : Type) (enc : TypeId × Value → H) :
    ReturnsInHanded {} Try.checked os 3 .any (Rows.superBackSpec.pre6 enc Try.prog Try.f3 Rows.superBackRow.domain false) (Rows.superBackSpec.post enc Try.prog Try.f3 false true false false) := by
  refine returnsInHanded_of_change (C := Try.checked) own started (by kernel_rfl) Try.func3
    (ChangeSpec.witness6 (enc := enc) (C := Try.checked) false ⟨#[], #[.agg #[.int .u64 0, .int .i64 0, .int .i64 0, .int .i64 0, .int .i64 0, .int .i64 0, .int .u64 0], .int .u64 0], []⟩ 8 (by kernel_rfl) (by kernel_rfl) (by kernel_rfl) (by kernel_rfl)) ?_
  intro W base args ds gs before hval0 hW hcnd _
  have hval : ∀ (j : Nat) t v, Try.f3.params[j]? = some t → args[j]? = some v → Value.okWide Try.prog W .any base t v := hval0
  have hW' := hW
  obtain ⟨p, q, hA0, hV, rfl, hfz, hnd⟩ := hW
  have hA : DataW.TrodAll enc Try.prog W 0 (fun _ => true) true Try.f3.params.toList args.toList ds p := hA0
  rw [Try.params3] at hA hval
  obtain ⟨v0, vs0, d0, ds0, p0, q0, hargs, rfl, rfl, h0, r0⟩ := trodAll_cons hA
  obtain ⟨v1, vs1, d1, ds1, p1, q1, rfl, rfl, rfl, h1, r1⟩ := trodAll_cons r0
  obtain ⟨rfl, rfl, rfl⟩ := trodAll_nil r1
  obtain rfl : args = #[v0, v1] := by cases args; simp_all
  obtain ⟨rfl, rfl⟩ := trodVars_none hV
  have k0 := h0
  have lt0 : ∀ x ∈ p0, x.block < W.heap.size := by obtain ⟨m, hm⟩ := k0; exact DataW.trod_lt m _ _ _ hm
  obtain ⟨a0, e0v, w0⟩ := open_str_Block (hval 0 26 v0 rfl rfl) h0; subst e0v
  have k1 := h1
  have lt1 : ∀ x ∈ p1, x.block < W.heap.size := by obtain ⟨m, hm⟩ := k1; exact DataW.trod_lt m _ _ _ hm
  obtain ⟨a1, e1v, _, _, w1⟩ := open_int Try.underlying22 (hval 1 22 v1 rfl rfl) h1; subst e1v
  clear hA0 hval0
  refine (back6_walk W a0 w0 a1 w1).mono fun e W' ⟨he, bel⟩ => ?_
  subst he
  exact ⟨_, rfl, _, _, _, [], _, [], hW', trodAll_mk1 (shut_bool Try.underlying4 _), (trodAll_cons_mk (Below.trod laidOut (by kernel_rfl) (of_decide_eq_true (by kernel_rfl)) k0 bel lt0) (trodAll_cons_mk (Below.trod laidOut (by kernel_rfl) (of_decide_eq_true (by kernel_rfl)) k1 bel lt1) trodAll_mk0)), rfl, bel.frame _, fun h => by cases h⟩
theorem over : Rows.superBackRow.holds Try.pinned (OpenSpec.ofChange Rows.superBackSpec) :=
  OpenClaim.holds_of_wide 3 Try.f3 rfl rfl rfl rfl rfl rfl rfl ⟨rfl, rfl, rfl, rfl, rfl⟩ rfl rfl rfl rfl rfl (by kernel_rfl) Try.func3 (by kernel_rfl)
    (of_decide_eq_true (by kernel_rfl)) (by unfold Func.isWrapper; first | (rw [if_pos (by decide +kernel)]; kernel_rfl) | (rw [if_neg (by decide +kernel)]; exact ⟨rfl, rfl⟩))
    (fun os started H enc _ => lifted os started H enc)
theorem proved : Rows.SuperBackSaid := over
end Go.Proofs.Ytjdifejnnkplaaa.superBack
