/- The law SuperUnlike of layer 6 returns true for every argument. No conditions. -/
import Derived.Test.YtjdifejnnkplaaaFew6
import Derived.Test.YtjdifejnnkplaaaOpenB
import Derived.Test.YtjdifejnnkplaaaGeomA
namespace Go.Proofs.Ytjdifejnnkplaaa
set_option linter.unusedVariables false
set_option linter.unusedSimpArgs false
open Go.RowKit
set_option maxRecDepth 100000
set_option maxHeartbeats 800000
theorem encSB_inj {ep ep2 lg lg2 : BitVec 64} {s l n sp wd s2 l2 n2 sp2 wd2 : Nat} (h1 : s < 4294967296) (h2 : l < 4294967296) (h3 : n < 4294967296) (h4 : sp < 4294967296) (h5 : wd < 4294967296) (q1 : s2 < 4294967296) (q2 : l2 < 4294967296) (q3 : n2 < 4294967296) (q4 : sp2 < 4294967296) (q5 : wd2 < 4294967296)
    (h : encSB ep s l n sp wd lg = encSB ep2 s2 l2 n2 sp2 wd2 lg2) : ep = ep2 ∧ s = s2 ∧ l = l2 ∧ n = n2 ∧ sp = sp2 ∧ wd = wd2 ∧ lg = lg2 := by
  have a0 := get_num ep s l n sp wd lg 2 ep 8 8 rfl (by simp [headB, numsL, lowN]) (by decide) (by decide) ep.isLt
  have a1 := get4 ep s l n sp wd lg 3 s 16 rfl (by simp [headB, numsL, lowN]) h1
  have a2 := get4 ep s l n sp wd lg 4 l 20 rfl (by simp [headB, numsL, lowN]) h2
  have a3 := get4 ep s l n sp wd lg 5 n 24 rfl (by simp [headB, numsL, lowN]) h3
  have a4 := get4 ep s l n sp wd lg 6 sp 28 rfl (by simp [headB, numsL, lowN]) h4
  have a5 := get4 ep s l n sp wd lg 7 wd 32 rfl (by simp [headB, numsL, lowN]) h5
  have a6 := get_num ep s l n sp wd lg 8 lg 8 36 rfl (by simp [headB, numsL, lowN]) (by decide) (by decide) lg.isLt
  have b0 := get_num ep2 s2 l2 n2 sp2 wd2 lg2 2 ep2 8 8 rfl (by simp [headB, numsL, lowN]) (by decide) (by decide) ep2.isLt
  have b1 := get4 ep2 s2 l2 n2 sp2 wd2 lg2 3 s2 16 rfl (by simp [headB, numsL, lowN]) q1
  have b2 := get4 ep2 s2 l2 n2 sp2 wd2 lg2 4 l2 20 rfl (by simp [headB, numsL, lowN]) q2
  have b3 := get4 ep2 s2 l2 n2 sp2 wd2 lg2 5 n2 24 rfl (by simp [headB, numsL, lowN]) q3
  have b4 := get4 ep2 s2 l2 n2 sp2 wd2 lg2 6 sp2 28 rfl (by simp [headB, numsL, lowN]) q4
  have b5 := get4 ep2 s2 l2 n2 sp2 wd2 lg2 7 wd2 32 rfl (by simp [headB, numsL, lowN]) q5
  have b6 := get_num ep2 s2 l2 n2 sp2 wd2 lg2 8 lg2 8 36 rfl (by simp [headB, numsL, lowN]) (by decide) (by decide) lg2.isLt
  rw [← h] at b0 b1 b2 b3 b4 b5 b6
  exact ⟨a0.symm.trans b0, by omega, by omega, by omega, by omega, by omega, a6.symm.trans b6⟩
theorem eqBlk (a0 b0 a6 b6 : BitVec 64) (a1 a2 a3 a4 a5 b1 b2 b3 b4 b5 : Int) (r : Bool) (hr : r = decide (a0 = b0 ∧ a1 = b1 ∧ a2 = b2 ∧ a3 = b3 ∧ a4 = b4 ∧ a5 = b5 ∧ a6 = b6)) (W : World) :
    (Op.equalIn 10000 26 (.agg #[.int .u64 (U64 a0), .int .i64 a1, .int .i64 a2, .int .i64 a3, .int .i64 a4, .int .i64 a5, .int .u64 (U64 a6)]) (.agg #[.int .u64 (U64 b0), .int .i64 b1, .int .i64 b2, .int .i64 b3, .int .i64 b4, .int .i64 b5, .int .u64 (U64 b6)])).run Try.prog W = .ok r W := by
  subst hr
  have e0 : (U64 a0 = U64 b0) = (a0 = b0) := propext ⟨U64_inj, fun h => by rw [h]⟩
  have e6 : (U64 a6 = U64 b6) = (a6 = b6) := propext ⟨U64_inj, fun h => by rw [h]⟩
  go_simp
  try simp only [e0, e6]
  by_cases h0 : a0 = b0
  · skip
    by_cases h1 : a1 = b1
    · skip
      by_cases h2 : a2 = b2
      · skip
        by_cases h3 : a3 = b3
        · skip
          by_cases h4 : a4 = b4
          · skip
            by_cases h5 : a5 = b5
            · skip
              by_cases h6 : a6 = b6
              · simp [h0, h1, h2, h3, h4, h5, h6]
              · simp [h6]
            · simp [h5]
          · simp [h4]
        · simp [h3]
      · simp [h2]
    · simp [h1]
  · simp [h0]
theorem of_strs (xs ys : List (BitVec 8)) : ((strB xs).toList == (strB ys).toList) = decide (xs = ys) := by
  by_cases h : xs = ys
  · subst h; simp
  · have hne : ¬ (strB xs).toList = (strB ys).toList := fun e => h (strB_inj (by
      rw [ByteArray.toList_eq, ByteArray.toList_eq] at e
      exact ByteArray.ext (Array.toList_inj.1 e)))
    simp [h, hne]
def cells7 (ep : BitVec 64) (s l n sp wd : Int) (lg : BitVec 64) : Array Value := #[.int .u64 (U64 ep), .int .i64 s, .int .i64 l, .int .i64 n, .int .i64 sp, .int .i64 wd, .int .u64 (U64 lg)]
theorem un_reg (Q : Exit → Act → World → Prop) (a0 : Act) (w : World) (g2 g3 nx ny c d : Nat) (A B : Option Addr) (xs ys : List (BitVec 8)) (b1 : Bool) (ep ep2 lg lg2 : BitVec 64) (s l n sp wd s2 l2 n2 sp2 wd2 : Int) (hnx : Hid (nx = xs.length)) (hny : Hid (ny = ys.length)) (rx : Rd b8 w w.heap.size A xs) (ry : Rd b8 w w.heap.size B ys) (hk2 : Bk w g2 26 #[.int .u64 (U64 ep), .int .i64 s, .int .i64 l, .int .i64 n, .int .i64 sp, .int .i64 wd, .int .u64 (U64 lg)]) (hk3 : Bk w g3 26 #[.int .u64 (U64 ep2), .int .i64 s2, .int .i64 l2, .int .i64 n2, .int .i64 sp2, .int .i64 wd2, .int .u64 (U64 lg2)]) (hs : Hid (((strB xs).toList == (strB ys).toList) = b1)) (he : Hid (∀ W, (Op.equalIn 10000 26 (.agg #[.int .u64 (U64 ep), .int .i64 s, .int .i64 l, .int .i64 n, .int .i64 sp, .int .i64 wd, .int .u64 (U64 lg)]) (.agg #[.int .u64 (U64 ep2), .int .i64 s2, .int .i64 l2, .int .i64 n2, .int .i64 sp2, .int .i64 wd2, .int .u64 (U64 lg2)])).run Try.prog W = .ok b1 W)) (hsz : a0.tmps.size = 44) (sl2 : a0.tmps.getD 2 undef = .pointer (some ⟨g2, 0, none⟩)) (sl3 : a0.tmps.getD 3 undef = .pointer (some ⟨g3, 0, none⟩)) (sl5 : a0.tmps.getD 5 undef = .slice A nx c) (sl7 : a0.tmps.getD 7 undef = .slice B ny d)
    (fin : ∀ (vals : Nat → Value) (w1 : World), Below w.heap.size w w1 → (IsV (.bool true)) (vals 9) w1 → Q .normal (putD vals [35, 36, 37, 38, 39, 40, 41, 42, 43, 4] 0 a0) w1) :
    (Code.region 9 (regIn Try.f6 9) true).wp Try.prog Q a0 w := by
  refine region_by (G := fun w w1 => Below w.heap.size w w1) [IsV (.slice A nx c),
    IsV (.string (strB xs)),
    IsV (.slice B ny d),
    IsV (.string (strB ys)),
    IsV (.bool b1),
    IsV (.agg #[.int .u64 (U64 ep), .int .i64 s, .int .i64 l, .int .i64 n, .int .i64 sp, .int .i64 wd, .int .u64 (U64 lg)]),
    IsV (.agg #[.int .u64 (U64 ep2), .int .i64 s2, .int .i64 l2, .int .i64 n2, .int .i64 sp2, .int .i64 wd2, .int .u64 (U64 lg2)]),
    IsV (.bool b1),
    IsV (.bool true),
    IsV (.bool true)]
    [35, 36, 37, 38, 39, 40, 41, 42, 43, 4] (by kernel_rfl) (Gw.drew _) Gw.trans (by rw [hsz]; kernel_rfl) (by kernel_rfl) ?_ ?_ ?_
  · intro f hf
    simp only [List.mem_cons, List.not_mem_nil, or_false] at hf
    rcases hf with rfl | rfl | rfl | rfl | rfl | rfl | rfl | rfl | rfl | rfl <;> intro v a b h g <;> first | exact IsV.mono h
  · refine ⟨?_, ?_, ?_, ?_, ?_, ?_, ?_, ?_, ?_, ?_, trivial⟩
    · exact owes_mv 5 (by kernel_rfl) (by kernel_rfl) (by kernel_rfl) sl5 (fun _ => rfl)
    · refine owes_v (Go.Op.convert 29 9 (Go.Operand.tmp 35)) 9 [0] (by kernel_rfl) (by kernel_rfl) (by kernel_rfl) rfl fun vals w1 ρ hG hF hρ hcst hfun => ?_
      have e35 : ρ (.tmp 35) = .slice A nx c := ((hρ 35).trans (slotJ [0] (by rw [hsz]; decide) (by kernel_rfl))).trans (hF 0 (by decide))
      have k := str_conv xs A c _ w1 ((rx.below hG).more hG.size)
      rw [← hnx.out] at k
      clear hρ hF hcst hfun sl2 sl3 sl5 sl7 fin
      exact opv_val (by go_simp <;> rfl) ⟨gw_self _, rfl⟩
    · exact owes_mv 7 (by kernel_rfl) (by kernel_rfl) (by kernel_rfl) sl7 (fun _ => rfl)
    · refine owes_v (Go.Op.convert 29 9 (Go.Operand.tmp 37)) 9 [2] (by kernel_rfl) (by kernel_rfl) (by kernel_rfl) rfl fun vals w1 ρ hG hF hρ hcst hfun => ?_
      have e37 : ρ (.tmp 37) = .slice B ny d := ((hρ 37).trans (slotJ [2] (by rw [hsz]; decide) (by kernel_rfl))).trans (hF 2 (by decide))
      have k := str_conv ys B d _ w1 ((ry.below hG).more hG.size)
      rw [← hny.out] at k
      clear hρ hF hcst hfun sl2 sl3 sl5 sl7 fin
      exact opv_val (by go_simp <;> rfl) ⟨gw_self _, rfl⟩
    · refine owes_v (Go.Op.binOp Go.BinOp.eql 9 (Go.Operand.tmp 36) (Go.Operand.tmp 38) 9) 4 [1, 3] (by kernel_rfl) (by kernel_rfl) (by kernel_rfl) rfl fun vals w1 ρ hG hF hρ hcst hfun => ?_
      have e36 : ρ (.tmp 36) = .string (strB xs) := ((hρ 36).trans (slotJ [1, 3] (by rw [hsz]; decide) (by kernel_rfl))).trans (hF 1 (by decide))
      have e38 : ρ (.tmp 38) = .string (strB ys) := ((hρ 38).trans (slotJ [1, 3] (by rw [hsz]; decide) (by kernel_rfl))).trans (hF 3 (by decide))
      have k := hs.out
      clear hρ hF hcst hfun sl2 sl3 sl5 sl7 fin
      exact opv_val (by go_simp <;> rfl) ⟨gw_self _, rfl⟩
    · refine owes_v (Go.Op.load 26 (Go.Operand.tmp 2)) 26 [] (by kernel_rfl) (by kernel_rfl) (by kernel_rfl) rfl fun vals w1 ρ hG hF hρ hcst hfun => ?_
      have e2 : ρ (.tmp 2) = .pointer (some ⟨g2, 0, none⟩) := ((hρ 2).trans (slotO [] (by kernel_rfl))).trans sl2
      obtain ⟨k0, k1, k2, k3, k4, k5, k6⟩ := (hk2.below hG hk2.lt).seven
      clear hρ hF hcst hfun sl2 sl3 sl5 sl7 fin
      exact opv_val (by go_simp <;> rfl) ⟨gw_self _, rfl⟩
    · refine owes_v (Go.Op.load 26 (Go.Operand.tmp 3)) 26 [] (by kernel_rfl) (by kernel_rfl) (by kernel_rfl) rfl fun vals w1 ρ hG hF hρ hcst hfun => ?_
      have e3 : ρ (.tmp 3) = .pointer (some ⟨g3, 0, none⟩) := ((hρ 3).trans (slotO [] (by kernel_rfl))).trans sl3
      obtain ⟨k0, k1, k2, k3, k4, k5, k6⟩ := (hk3.below hG hk3.lt).seven
      clear hρ hF hcst hfun sl2 sl3 sl5 sl7 fin
      exact opv_val (by go_simp <;> rfl) ⟨gw_self _, rfl⟩
    · refine owes_v (Go.Op.binOp Go.BinOp.eql 26 (Go.Operand.tmp 40) (Go.Operand.tmp 41) 26) 4 [5, 6] (by kernel_rfl) (by kernel_rfl) (by kernel_rfl) rfl fun vals w1 ρ hG hF hρ hcst hfun => ?_
      have e40 : ρ (.tmp 40) = .agg #[.int .u64 (U64 ep), .int .i64 s, .int .i64 l, .int .i64 n, .int .i64 sp, .int .i64 wd, .int .u64 (U64 lg)] := ((hρ 40).trans (slotJ [5, 6] (by rw [hsz]; decide) (by kernel_rfl))).trans (hF 5 (by decide))
      have e41 : ρ (.tmp 41) = .agg #[.int .u64 (U64 ep2), .int .i64 s2, .int .i64 l2, .int .i64 n2, .int .i64 sp2, .int .i64 wd2, .int .u64 (U64 lg2)] := ((hρ 41).trans (slotJ [5, 6] (by rw [hsz]; decide) (by kernel_rfl))).trans (hF 6 (by decide))
      have k := he.out
      clear hρ hF hcst hfun sl2 sl3 sl5 sl7 fin
      exact opv_val (by go_simp <;> rfl) ⟨gw_self _, rfl⟩
    · refine owes_v (Go.Op.binOp Go.BinOp.eql 4 (Go.Operand.tmp 39) (Go.Operand.tmp 42) 4) 4 [4, 7] (by kernel_rfl) (by kernel_rfl) (by kernel_rfl) rfl fun vals w1 ρ hG hF hρ hcst hfun => ?_
      have e39 : ρ (.tmp 39) = .bool b1 := ((hρ 39).trans (slotJ [4, 7] (by rw [hsz]; decide) (by kernel_rfl))).trans (hF 4 (by decide))
      have e42 : ρ (.tmp 42) = .bool b1 := ((hρ 42).trans (slotJ [4, 7] (by rw [hsz]; decide) (by kernel_rfl))).trans (hF 7 (by decide))
      clear hρ hF hcst hfun sl2 sl3 sl5 sl7 fin
      exact opv_val (by go_simp <;> rfl) ⟨gw_self _, rfl⟩
    · exact owes_mvj 8 43 (by kernel_rfl) (by kernel_rfl) (by kernel_rfl) (by kernel_rfl) (by rw [hsz]; decide) (fun v w h => h)
  · intro vals w1 hG hF
    exact fin vals w1 hG (hF 9 (by decide +kernel))
/-- What Encode answers of a block, whether it may be or not: its error, and the bytes that are read. -/
def EncA (er : Int) (bs : List (BitVec 8)) (w : World) (e : Ending) (w' : World) : Prop := ∃ A c, e = .returned (.tuple #[.slice A bs.length c, .int .i64 er]) ∧ Rd b8 w' w'.heap.size A bs ∧ Below w.heap.size w w'
theorem un_walk (w : World) (ep ep2 lg lg2 : BitVec 64) (s l n sp wd s2 l2 n2 sp2 wd2 : Int) (f1 f2 : Bool) (hf1 : ∀ W, Calls Try.prog 8 #[gV s l n] W (RetP (.bool f1) W)) (hf2 : ∀ W, Calls Try.prog 8 #[gV s2 l2 n2] W (RetP (.bool f2) W))
    (e1 e2 : Int) (x1 x2 : List (BitVec 8)) (h1 : f1 = true → ∀ W, Calls Try.prog 9 #[blkV ep s l n sp wd lg] W (EncA e1 x1 W)) (h2 : f2 = true → ∀ W, Calls Try.prog 9 #[blkV ep2 s2 l2 n2 sp2 wd2 lg2] W (EncA e2 x2 W))
    (hee : (e1 = 0 ∨ e1 = 1) ∧ (e2 = 0 ∨ e2 = 1)) (hq : e1 = 0 → e2 = 0 → (decide (x1 = x2)) = decide (ep = ep2 ∧ s = s2 ∧ l = l2 ∧ n = n2 ∧ sp = sp2 ∧ wd = wd2 ∧ lg = lg2)) :
    Calls Try.prog 6 #[blkV ep s l n sp wd lg, blkV ep2 s2 l2 n2 sp2 wd2 lg2] w (TruP (.bool true) w) := by
  have HF1 := Lib.hid hf1
  have HF2 := Lib.hid hf2
  have HH1 := Lib.hid h1
  have HH2 := Lib.hid h2
  have HQ := Lib.hid hq
  have HEE := Lib.hid hee
  have HK := Lib.hid (show Bk ((w.alloc (.cells (cells7 ep s l n sp wd lg) 26)).alloc (.cells (cells7 ep2 s2 l2 n2 sp2 wd2 lg2) 26)) w.heap.size 26 (cells7 ep s l n sp wd lg) ∧ Bk ((w.alloc (.cells (cells7 ep s l n sp wd lg) 26)).alloc (.cells (cells7 ep2 s2 l2 n2 sp2 wd2 lg2) 26)) (w.heap.size + 1) 26 (cells7 ep2 s2 l2 n2 sp2 wd2 lg2) ∧ Below w.heap.size w ((w.alloc (.cells (cells7 ep s l n sp wd lg) 26)).alloc (.cells (cells7 ep2 s2 l2 n2 sp2 wd2 lg2) 26)) from by
    refine ⟨(Bk.new w _ _).alloc _, ?_, (Gw.alloc w _).trans ((Gw.alloc _ _).mono (by simp))⟩
    have q := Bk.new (w.alloc (.cells (cells7 ep s l n sp wd lg) 26)) 26 (cells7 ep2 s2 l2 n2 sp2 wd2 lg2)
    simpa using q)
  unfold cells7 at HK
  unfold gV at HF1 HF2
  unfold blkV at HH1 HH2 ⊢
  clear hf1 hf2 h1 h2 hq hee
  go_enter Try.func6, Try.ntmps6
  go_wp2_with fail
  refine Calls.mono (known6_c _) ?_
  rintro e w1 ⟨rfl, b1⟩
  have HK1 := Lib.hid (And.intro (HK.out.1.below b1 HK.out.1.lt) (And.intro (HK.out.2.1.below b1 HK.out.2.1.lt) (HK.out.2.2.trans (b1.mono HK.out.2.2.size))))
  clear b1 HK
  obtain ⟨c0, c1, c2, c3, c4, c5, c6⟩ := HK1.out.1.seven
  go_wp2_with fail
  refine Calls.mono (HF1.out _) ?_
  rintro e w2 ⟨rfl, b2⟩
  have HK2 := Lib.hid (And.intro (HK1.out.1.below b2 HK1.out.1.lt) (And.intro (HK1.out.2.1.below b2 HK1.out.2.1.lt) (HK1.out.2.2.trans (b2.mono HK1.out.2.2.size))))
  clear b2 HK1 c0 c1 c2 c3 c4 c5 c6 HF1
  cases f1
  · go_wp2_with fail
    go_ret
    exact ⟨rfl, HK2.out.2.2⟩
  · obtain ⟨d0, d1, d2, d3, d4, d5, d6⟩ := HK2.out.2.1.seven
    go_wp2_with fail
    refine Calls.mono (HF2.out _) ?_
    rintro e w3 ⟨rfl, b3⟩
    have HK3 := Lib.hid (And.intro (HK2.out.1.below b3 HK2.out.1.lt) (And.intro (HK2.out.2.1.below b3 HK2.out.2.1.lt) (HK2.out.2.2.trans (b3.mono HK2.out.2.2.size))))
    clear b3 HK2 d0 d1 d2 d3 d4 d5 d6 HF2
    cases f2
    · go_wp2_with fail
      go_ret
      exact ⟨rfl, HK3.out.2.2⟩
    · obtain ⟨c0, c1, c2, c3, c4, c5, c6⟩ := HK3.out.1.seven
      have hE1 := Lib.hid (HH1.out (by trivial) w3)
      go_wp2_with fail
      refine Calls.mono hE1.out ?_
      rintro e w4 ⟨A4, k4, rfl, hr4, b4⟩
      obtain ⟨n4, hn4⟩ : ∃ m, m = x1.length := ⟨_, rfl⟩
      have HN4 := Lib.hid hn4
      rw [← hn4]
      have HR4 := Lib.hid hr4
      have HK4 := Lib.hid (And.intro (HK3.out.1.below b4 HK3.out.1.lt) (And.intro (HK3.out.2.1.below b4 HK3.out.2.1.lt) (HK3.out.2.2.trans (b4.mono HK3.out.2.2.size))))
      clear b4 HK3 c0 c1 c2 c3 c4 c5 c6 hE1 HH1 hr4 hn4
      obtain ⟨d0, d1, d2, d3, d4, d5, d6⟩ := HK4.out.2.1.seven
      have hE2 := Lib.hid (HH2.out (by trivial) w4)
      go_wp2_with fail
      refine Calls.mono hE2.out ?_
      rintro e w5 ⟨A5, k5, rfl, hr5, b5⟩
      obtain ⟨n5, hn5⟩ : ∃ m, m = x2.length := ⟨_, rfl⟩
      have HN5 := Lib.hid hn5
      rw [← hn5]
      have HR5 := Lib.hid hr5
      have HR4' := Lib.hid ((HR4.out.below b5).more b5.size)
      have HK5 := Lib.hid (And.intro (HK4.out.1.below b5 HK4.out.1.lt) (And.intro (HK4.out.2.1.below b5 HK4.out.2.1.lt) (HK4.out.2.2.trans (b5.mono HK4.out.2.2.size))))
      clear b5 HK4 d0 d1 d2 d3 d4 d5 d6 hE2 HH2 hr5 hn5 HR4
      rcases HEE.out with ⟨rfl | rfl, rfl | rfl⟩
      · obtain ⟨bb, hbb⟩ : ∃ b, b = decide (x1 = x2) := ⟨_, rfl⟩
        have HS := Lib.hid (show ((strB x1).toList == (strB x2).toList) = bb from by rw [hbb]; exact of_strs x1 x2)
        have HQ2 := Lib.hid (eqBlk ep ep2 lg lg2 s l n sp wd s2 l2 n2 sp2 wd2 bb (by rw [hbb]; exact HQ.out rfl rfl))
        clear hbb
        go_wp2_with fail
        refine un_reg _ _ _ w.heap.size (w.heap.size + 1) n4 n5 k4 k5 A4 A5 x1 x2 bb ep ep2 lg lg2 s l n sp wd s2 l2 n2 sp2 wd2 HN4 HN5 HR4'.out HR5.out HK5.out.1 HK5.out.2.1 HS HQ2 rfl rfl rfl rfl rfl ?_
        intro vals w9 hG h4
        unfold IsV at h4
        simp only [putD, Act.put, List.setIfInBounds_toArray, List.set_cons_zero, List.set_cons_succ, h4]
        have HB9 := Lib.hid (HK5.out.2.2.trans (hG.mono HK5.out.2.2.size))
        clear h4 hG
        go_wp2_with fail
        go_ret
        exact ⟨rfl, HB9.out⟩
      all_goals
        go_wp2_with fail
        go_ret
        exact ⟨rfl, HK5.out.2.2⟩
theorem few_any (s l n : Int) : ∃ f, (∀ W, Calls Try.prog 8 #[gV s l n] W (RetP (.bool f) W)) := by
  by_cases h : fewP s l n
  · exact ⟨true, fun W => few_yes s l n W h⟩
  · exact ⟨false, fun W => few_no s l n W h⟩
theorem enc_any (ep : BitVec 64) (s l n sp wd : Int) (lg : BitVec 64) : (badS s l n sp wd ∧ ∀ W, Calls Try.prog 9 #[blkV ep s l n sp wd lg] W (EncA 1 [] W)) ∨
    ∃ s' l' n' sp' wd' : Nat, s = s' ∧ l = l' ∧ n = n' ∧ sp = sp' ∧ wd = wd' ∧ s' < 4294967296 ∧ l' < 4294967296 ∧ n' < 4294967296 ∧ sp' < 4294967296 ∧ wd' < 4294967296 ∧ ∀ W, Calls Try.prog 9 #[blkV ep s l n sp wd lg] W (EncA 0 (encSB ep s' l' n' sp' wd' lg) W) := by
  by_cases hb : badS s l n sp wd
  · exact .inl ⟨hb, fun W => (enc6_bad ep s l n sp wd lg W hb).mono fun _ _ h => ⟨none, 0, h.1, Rd.nil, h.2⟩⟩
  · right
    have hg : okG s l n = true := by
      cases hg : okG s l n with
      | true => rfl
      | false => exact absurd (.inl hg) hb
    have og := okG_out hg
    have h1 := og.s1
    have h2 := og.l1
    have h3 := og.n1
    have h1' := og.s2
    have h2' := og.l2
    have h3' := og.n2
    have h4 : ¬ (sp < 0 ∨ 1 < sp ∨ wd < 0 ∨ n < wd) := fun e => hb (.inr e)
    obtain ⟨s', rfl⟩ : ∃ k : Nat, s = (k : Int) := ⟨s.toNat, by omega⟩
    obtain ⟨l', rfl⟩ : ∃ k : Nat, l = (k : Int) := ⟨l.toNat, by omega⟩
    obtain ⟨n', rfl⟩ : ∃ k : Nat, n = (k : Int) := ⟨n.toNat, by omega⟩
    obtain ⟨sp', rfl⟩ : ∃ k : Nat, sp = (k : Int) := ⟨sp.toNat, by omega⟩
    obtain ⟨wd', rfl⟩ : ∃ k : Nat, wd = (k : Int) := ⟨wd.toNat, by omega⟩
    refine ⟨s', l', n', sp', wd', rfl, rfl, rfl, rfl, rfl, by omega, by omega, by omega, by omega, by omega, fun W => ?_⟩
    exact (enc6_ok ep s' l' n' sp' wd' lg W ⟨hg, by omega, by omega⟩).mono fun _ _ ⟨A, c, q1, _, q3, q4, _⟩ => ⟨A, c, q1, q3, q4⟩
theorem unlike_walk (w : World) (x : Bl) (_hx : BlOk x) (y : Bl) (_hy : BlOk y) : Calls Try.prog 6 #[x.v, y.v] w (TruP (.bool true) w) := by
  obtain ⟨ep, s, l, n, sp, wd, lg⟩ := x
  obtain ⟨ep2, s2, l2, n2, sp2, wd2, lg2⟩ := y
  change Calls Try.prog 6 #[blkV ep s l n sp wd lg, blkV ep2 s2 l2 n2 sp2 wd2 lg2] w (TruP (.bool true) w)
  obtain ⟨f1, hf1⟩ := few_any s l n
  obtain ⟨f2, hf2⟩ := few_any s2 l2 n2
  rcases enc_any ep s l n sp wd lg with ⟨_, h1⟩ | ⟨a1, a2, a3, a4, a5, rfl, rfl, rfl, rfl, rfl, u1, u2, u3, u4, u5, h1⟩
  · rcases enc_any ep2 s2 l2 n2 sp2 wd2 lg2 with ⟨_, h2⟩ | ⟨c1, c2, c3, c4, c5, rfl, rfl, rfl, rfl, rfl, v1, v2, v3, v4, v5, h2⟩
    · exact un_walk w ep ep2 lg lg2 s l n sp wd s2 l2 n2 sp2 wd2 f1 f2 hf1 hf2 1 1 [] [] (fun _ => h1) (fun _ => h2) ⟨.inr rfl, .inr rfl⟩ (fun e => by cases e)
    · exact un_walk w ep ep2 lg lg2 s l n sp wd _ _ _ _ _ f1 f2 hf1 hf2 1 0 [] _ (fun _ => h1) (fun _ => h2) ⟨.inr rfl, .inl rfl⟩ (fun e => by cases e)
  · rcases enc_any ep2 s2 l2 n2 sp2 wd2 lg2 with ⟨_, h2⟩ | ⟨c1, c2, c3, c4, c5, rfl, rfl, rfl, rfl, rfl, v1, v2, v3, v4, v5, h2⟩
    · exact un_walk w ep ep2 lg lg2 _ _ _ _ _ s2 l2 n2 sp2 wd2 f1 f2 hf1 hf2 0 1 _ [] (fun _ => h1) (fun _ => h2) ⟨.inl rfl, .inr rfl⟩ (fun _ e => by cases e)
    · refine un_walk w ep ep2 lg lg2 _ _ _ _ _ _ _ _ _ _ f1 f2 hf1 hf2 0 0 _ _ (fun _ => h1) (fun _ => h2) ⟨.inl rfl, .inl rfl⟩ (fun _ _ => ?_)
      rw [decide_eq_decide]
      constructor
      · intro h
        obtain ⟨q0, q1, q2, q3, q4, q5, q6⟩ := encSB_inj u1 u2 u3 u4 u5 v1 v2 v3 v4 v5 h
        exact ⟨q0, by omega, by omega, by omega, by omega, by omega, q6⟩
      · rintro ⟨rfl, q1, q2, q3, q4, q5, rfl⟩
        have e1 : a1 = c1 := by omega
        have e2 : a2 = c2 := by omega
        have e3 : a3 = c3 := by omega
        have e4 : a4 = c4 := by omega
        have e5 : a5 = c5 := by omega
        rw [e1, e2, e3, e4, e5]
end Go.Proofs.Ytjdifejnnkplaaa
namespace Go.Proofs.Ytjdifejnnkplaaa.superUnlike
open Go.ChangeShapes Go.WideShapes Go.ChangeAt Go.RowKit
open Go.ChangeMaps (open_string shut_string)
set_option linter.unusedVariables false
set_option maxRecDepth 100000 in
theorem lifted (os : Os) (started : os.Started) (H : Type) (enc : TypeId × Value → H) :
    ReturnsInHanded {} Try.checked os 6 .any (Rows.superUnlikeSpec.pre6 enc Try.prog Try.f6 Rows.superUnlikeRow.domain false) (Rows.superUnlikeSpec.post enc Try.prog Try.f6 false true false false) := by
  refine returnsInHanded_of_change (C := Try.checked) own started (by kernel_rfl) Try.func6
    (ChangeSpec.witness6 (enc := enc) (C := Try.checked) false ⟨#[], #[.agg #[.int .u64 0, .int .i64 0, .int .i64 0, .int .i64 0, .int .i64 0, .int .i64 0, .int .u64 0], .agg #[.int .u64 0, .int .i64 0, .int .i64 0, .int .i64 0, .int .i64 0, .int .i64 0, .int .u64 0]], []⟩ 8 (by kernel_rfl) (by kernel_rfl) (by kernel_rfl) (by kernel_rfl)) ?_
  intro W base args ds gs before hval0 hW hcnd _
  have hval : ∀ (j : Nat) t v, Try.f6.params[j]? = some t → args[j]? = some v → Value.okWide Try.prog W .any base t v := hval0
  have hW' := hW
  obtain ⟨p, q, hA0, hV, rfl, hfz, hnd⟩ := hW
  have hA : DataW.TrodAll enc Try.prog W 0 (fun _ => true) true Try.f6.params.toList args.toList ds p := hA0
  rw [Try.params6] at hA hval
  obtain ⟨v0, vs0, d0, ds0, p0, q0, hargs, rfl, rfl, h0, r0⟩ := trodAll_cons hA
  obtain ⟨v1, vs1, d1, ds1, p1, q1, rfl, rfl, rfl, h1, r1⟩ := trodAll_cons r0
  obtain ⟨rfl, rfl, rfl⟩ := trodAll_nil r1
  obtain rfl : args = #[v0, v1] := by cases args; simp_all
  obtain ⟨rfl, rfl⟩ := trodVars_none hV
  have k0 := h0
  have lt0 : ∀ x ∈ p0, x.block < W.heap.size := by obtain ⟨m, hm⟩ := k0; exact DataW.trod_lt m _ _ _ hm
  obtain ⟨a0, e0v, w0⟩ := open_str_Block (hval 0 26 v0 rfl rfl) h0; subst e0v
  have k1 := h1
  have lt1 : ∀ x ∈ p1, x.block < W.heap.size := by obtain ⟨m, hm⟩ := k1; exact DataW.trod_lt m _ _ _ hm
  obtain ⟨a1, e1v, w1⟩ := open_str_Block (hval 1 26 v1 rfl rfl) h1; subst e1v
  clear hA0 hval0
  refine (unlike_walk W a0 w0 a1 w1).mono fun e W' ⟨he, bel⟩ => ?_
  subst he
  exact ⟨_, rfl, _, _, _, [], _, [], hW', trodAll_mk1 (shut_bool Try.underlying4 _), (trodAll_cons_mk (Below.trod laidOut (by kernel_rfl) (of_decide_eq_true (by kernel_rfl)) k0 bel lt0) (trodAll_cons_mk (Below.trod laidOut (by kernel_rfl) (of_decide_eq_true (by kernel_rfl)) k1 bel lt1) trodAll_mk0)), rfl, bel.frame _, fun h => by cases h⟩
theorem over : Rows.superUnlikeRow.holds Try.pinned (OpenSpec.ofChange Rows.superUnlikeSpec) :=
  OpenClaim.holds_of_wide 6 Try.f6 rfl rfl rfl rfl rfl rfl rfl ⟨rfl, rfl, rfl, rfl, rfl⟩ rfl rfl rfl rfl rfl (by kernel_rfl) Try.func6 (by kernel_rfl)
    (of_decide_eq_true (by kernel_rfl)) (by unfold Func.isWrapper; first | (rw [if_pos (by decide +kernel)]; kernel_rfl) | (rw [if_neg (by decide +kernel)]; exact ⟨rfl, rfl⟩))
    (fun os started H enc _ => lifted os started H enc)
theorem proved : Rows.SuperUnlikeSaid := over
end Go.Proofs.Ytjdifejnnkplaaa.superUnlike
