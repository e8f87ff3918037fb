/- The law HeadUnlike of layer 14 returns true for every argument. No conditions. -/
import Derived.Test.YtodicffceholkabHeadF
import Derived.Deep.RegionHeld3
namespace Go.Proofs.Ytodicffceholkab
open Go.RowKit
theorem shr63U64 (x : BitVec 64) : U64 x / (9223372036854775808 : Int) = U64 (x >>> 63) := by
  rw [show (9223372036854775808 : Int) = 2 ^ 63 from by decide, shrU64]
attribute [local go_sem] beqU64 and1 shr63U64
theorem boxedAB {w w1 : World} {E F : TypeId} {a b : Array Value} (hb : Below ((w.alloc (.cells a E)).alloc (.cells b F)).heap.size ((w.alloc (.cells a E)).alloc (.cells b F)) w1) :
    Bk w1 w.heap.size E a ∧ Bk w1 (w.heap.size + 1) F b ∧ Below w.heap.size w w1 := by
  have h2 := Bk.new (w.alloc (.cells a E)) F b
  simp only [World.size_alloc] at h2
  refine ⟨(((Bk.new w E a).alloc _).below hb (by simp; omega)), h2.below hb (by simp), ?_⟩
  exact ((Below.refl _ w |>.alloc (Nat.le_refl _) _) |>.alloc (by simp) _).trans (hb.mono (by simp; omega))
theorem map1_c (m : Bool) (w : World) : Ans Try.prog 22 #[.bool m] w (.int .u64 (if m then 1 else 0)) := by
  unfold Ans
  cases m
  all_goals
    go_enter Try.func22, Try.ntmps22
    go_wp2
    go_ret
    exact ans_int rfl (by repeat (first | exact Dn.rfl_ _ | apply Dn.drew | apply Dn.drewN))
theorem top_bit {p b : Int} {m : Bool} {t : Int} (h : rightH p b m t = true) : (U64 (packH p b m t >>> 63) == 1) = true := by
  have hb : (packH p b m t).getLsbD 63 = true := by
    have hp : packH p b m t = if m then withB (markB ||| 1#64) 32 16 (BitVec.ofInt 64 t) else withB (withB markB 1 8 (BitVec.ofInt 64 p)) 16 12 (BitVec.ofInt 64 b) := if_pos h
    rw [hp]
    cases m
    · rw [if_neg (by simp), with_bit _ _ _ _ (by decide) _ (by decide), if_neg (by decide), with_bit _ _ _ _ (by decide) _ (by decide), if_neg (by decide), mark_bit]; rfl
    · rw [if_pos rfl, with_bit _ _ _ _ (by decide) _ (by decide), if_neg (by decide), BitVec.getLsbD_or, mark_bit]; rfl
  have e : packH p b m t >>> 63 = 1#64 := by
    apply BitVec.eq_of_getLsbD_eq
    intro i hi
    rw [BitVec.getLsbD_ushiftRight, one_bit]
    rcases i with _ | i
    · simpa using hb
    · rw [BitVec.getLsbD_of_ge _ _ (by omega)]; simp
  rw [e]; decide +kernel
theorem low_bit {p b : Int} {m : Bool} {t : Int} (h : rightH p b m t = true) : (U64 (packH p b m t &&& 1#64) == (if m then 1 else 0)) = true := by
  have h1 := (un_pack p b m t h).2.2.1
  have h2 : (U64 (packH p b m t &&& 1#64) == 1) = m := by rw [bit0_eq]; exact h1
  have h3 : (U64 (packH p b m t &&& 1#64) != 0) = m := by rw [bit0_ne]; exact h1
  cases m
  · simpa using h3
  · exact h2
theorem pack_inj {p b : Int} {m : Bool} {t : Int} {p' b' : Int} {m' : Bool} {t' : Int} (h : rightH p b m t = true) (h' : rightH p' b' m' t' = true) (hn : ¬ (p = p' ∧ b = b' ∧ m = m' ∧ t = t')) : (packH p b m t == packH p' b' m' t') = false := by
  rw [beq_eq_false_iff_ne]
  intro e
  obtain ⟨e1, e2, e3, e4⟩ := un_pack p b m t h
  obtain ⟨f1, f2, f3, f4⟩ := un_pack p' b' m' t' h'
  rw [e] at e1 e2 e3 e4
  exact hn ⟨e1.symm.trans f1, e2.symm.trans f2, e3.symm.trans f3, e4.symm.trans f4⟩
theorem pv_yes {p b : Int} {m : Bool} {t : Int} (h : rightH p b m t = true) : Value.tuple #[.int .u64 (U64 (packH p b m t)), .int .i64 (errH p b m t)] = .tuple #[.int .u64 (U64 (packH p b m t)), .int .i64 0] := by rw [show errH p b m t = 0 from if_pos h]
theorem pv_no {p b : Int} {m : Bool} {t : Int} (h : rightH p b m t = false) : Value.tuple #[.int .u64 (U64 (packH p b m t)), .int .i64 (errH p b m t)] = .tuple #[.int .u64 (U64 (packH p b m t)), .int .i64 1] := by rw [show errH p b m t = 1 from if_neg (by rw [h]; simp)]
set_option maxHeartbeats 800000
theorem unlike_ff (w : World) (p b : Int) (m : Bool) (t : Int) (p' b' : Int) (m' : Bool) (t' : Int) (ra : rightH p b m t = false) (rb : rightH p' b' m' t' = false) : Calls Try.prog 7 #[.agg #[.int .i64 p, .int .i64 b, .bool m, .int .i64 t], .agg #[.int .i64 p', .int .i64 b', .bool m', .int .i64 t']] w (RetP (.bool true) w) := by
  have v1 := Lib.hid (pv_no ra)
  have v2 := Lib.hid (pv_no rb)
  have r1 := Lib.hid ra
  have r2 := Lib.hid rb
  clear ra rb
  go_enter Try.func7, Try.ntmps7
  go_wp2_with fail
  refine (known14_c _).mono ?_
  rintro e w1 ⟨rfl, hb1⟩
  obtain ⟨k1, k2, hB1⟩ := boxedAB hb1
  clear hb1
  obtain ⟨c0, c1, c2, c3⟩ := k1.four
  obtain ⟨d0, d1, d2, d3⟩ := k2.four
  have l1 := k1.lt
  have l2 := k2.lt
  go_wp2_with fail
  refine (retp_as (pack_c p b m t _) rfl v1.out).mono ?_
  rintro e w2 ⟨rfl, hb2⟩
  have k3 := k1.below hb2 k1.lt
  have k4 := k2.below hb2 k2.lt
  have hB2 := hB1.trans (hb2.mono hB1.size)
  clear c0 c1 c2 c3 d0 d1 d2 d3 l1 l2 hb2 k1 k2 hB1
  obtain ⟨c0, c1, c2, c3⟩ := k3.four
  obtain ⟨d0, d1, d2, d3⟩ := k4.four
  have l1 := k3.lt
  have l2 := k4.lt
  go_wp2_with fail
  refine (retp_as (pack_c p' b' m' t' _) rfl v2.out).mono ?_
  rintro e w3 ⟨rfl, hb3⟩
  have k5 := k3.below hb3 k3.lt
  have k6 := k4.below hb3 k4.lt
  have hB3 := hB2.trans (hb3.mono hB2.size)
  clear c0 c1 c2 c3 d0 d1 d2 d3 l1 l2 hb3 k3 k4 hB2
  obtain ⟨c0, c1, c2, c3⟩ := k5.four
  obtain ⟨d0, d1, d2, d3⟩ := k6.four
  have l1 := k5.lt
  have l2 := k6.lt
  go_wp2_with fail
  refine (retp_as (right_c p b m t _) rfl (by rw [r1.out])).mono ?_
  rintro e w5 ⟨rfl, hb5⟩
  have hB5 := hB3.trans (hb5.mono hB3.size)
  clear hb5
  go_wp2_with fail
  go_ret
  exact ret_b rfl hB5
theorem unlike_ft (w : World) (p b : Int) (m : Bool) (t : Int) (p' b' : Int) (m' : Bool) (t' : Int) (ra : rightH p b m t = false) (rb : rightH p' b' m' t' = true) : Calls Try.prog 7 #[.agg #[.int .i64 p, .int .i64 b, .bool m, .int .i64 t], .agg #[.int .i64 p', .int .i64 b', .bool m', .int .i64 t']] w (RetP (.bool true) w) := by
  have v1 := Lib.hid (pv_no ra)
  have v2 := Lib.hid (pv_yes rb)
  have r1 := Lib.hid ra
  have r2 := Lib.hid rb
  clear ra rb
  go_enter Try.func7, Try.ntmps7
  go_wp2_with fail
  refine (known14_c _).mono ?_
  rintro e w1 ⟨rfl, hb1⟩
  obtain ⟨k1, k2, hB1⟩ := boxedAB hb1
  clear hb1
  obtain ⟨c0, c1, c2, c3⟩ := k1.four
  obtain ⟨d0, d1, d2, d3⟩ := k2.four
  have l1 := k1.lt
  have l2 := k2.lt
  go_wp2_with fail
  refine (retp_as (pack_c p b m t _) rfl v1.out).mono ?_
  rintro e w2 ⟨rfl, hb2⟩
  have k3 := k1.below hb2 k1.lt
  have k4 := k2.below hb2 k2.lt
  have hB2 := hB1.trans (hb2.mono hB1.size)
  clear c0 c1 c2 c3 d0 d1 d2 d3 l1 l2 hb2 k1 k2 hB1
  obtain ⟨c0, c1, c2, c3⟩ := k3.four
  obtain ⟨d0, d1, d2, d3⟩ := k4.four
  have l1 := k3.lt
  have l2 := k4.lt
  go_wp2_with fail
  refine (retp_as (pack_c p' b' m' t' _) rfl v2.out).mono ?_
  rintro e w3 ⟨rfl, hb3⟩
  have k5 := k3.below hb3 k3.lt
  have k6 := k4.below hb3 k4.lt
  have hB3 := hB2.trans (hb3.mono hB2.size)
  clear c0 c1 c2 c3 d0 d1 d2 d3 l1 l2 hb3 k3 k4 hB2
  obtain ⟨c0, c1, c2, c3⟩ := k5.four
  obtain ⟨d0, d1, d2, d3⟩ := k6.four
  have l1 := k5.lt
  have l2 := k6.lt
  go_wp2_with fail
  refine (retp_as (right_c p' b' m' t' _) rfl (by rw [r2.out])).mono ?_
  rintro e w5 ⟨rfl, hb5⟩
  have hB5 := hB3.trans (hb5.mono hB3.size)
  clear hb5
  go_wp2_with fail
  go_ret
  exact ret_b rfl hB5
theorem unlike_tf (w : World) (p b : Int) (m : Bool) (t : Int) (p' b' : Int) (m' : Bool) (t' : Int) (ra : rightH p b m t = true) (rb : rightH p' b' m' t' = false) : Calls Try.prog 7 #[.agg #[.int .i64 p, .int .i64 b, .bool m, .int .i64 t], .agg #[.int .i64 p', .int .i64 b', .bool m', .int .i64 t']] w (RetP (.bool true) w) := by
  have v1 := Lib.hid (pv_yes ra)
  have v2 := Lib.hid (pv_no rb)
  have r1 := Lib.hid ra
  have r2 := Lib.hid rb
  clear ra rb
  go_enter Try.func7, Try.ntmps7
  go_wp2_with fail
  refine (known14_c _).mono ?_
  rintro e w1 ⟨rfl, hb1⟩
  obtain ⟨k1, k2, hB1⟩ := boxedAB hb1
  clear hb1
  obtain ⟨c0, c1, c2, c3⟩ := k1.four
  obtain ⟨d0, d1, d2, d3⟩ := k2.four
  have l1 := k1.lt
  have l2 := k2.lt
  go_wp2_with fail
  refine (retp_as (pack_c p b m t _) rfl v1.out).mono ?_
  rintro e w2 ⟨rfl, hb2⟩
  have k3 := k1.below hb2 k1.lt
  have k4 := k2.below hb2 k2.lt
  have hB2 := hB1.trans (hb2.mono hB1.size)
  clear c0 c1 c2 c3 d0 d1 d2 d3 l1 l2 hb2 k1 k2 hB1
  obtain ⟨c0, c1, c2, c3⟩ := k3.four
  obtain ⟨d0, d1, d2, d3⟩ := k4.four
  have l1 := k3.lt
  have l2 := k4.lt
  go_wp2_with fail
  refine (retp_as (pack_c p' b' m' t' _) rfl v2.out).mono ?_
  rintro e w3 ⟨rfl, hb3⟩
  have k5 := k3.below hb3 k3.lt
  have k6 := k4.below hb3 k4.lt
  have hB3 := hB2.trans (hb3.mono hB2.size)
  clear c0 c1 c2 c3 d0 d1 d2 d3 l1 l2 hb3 k3 k4 hB2
  obtain ⟨c0, c1, c2, c3⟩ := k5.four
  obtain ⟨d0, d1, d2, d3⟩ := k6.four
  have l1 := k5.lt
  have l2 := k6.lt
  go_wp2_with fail
  refine (retp_as (right_c p b m t _) rfl (by rw [r1.out])).mono ?_
  rintro e w5 ⟨rfl, hb5⟩
  have hB5 := hB3.trans (hb5.mono hB3.size)
  clear hb5
  go_wp2_with fail
  go_ret
  exact ret_b rfl hB5
theorem unlike_p (w : World) (p b : Int) (m : Bool) (t : Int) (p' : Int) (b' : Int) (m' : Bool) (t' : Int) (ra : rightH p b m t = true) (rb : rightH p' b' m' t' = true) (hn : (p == p') = false) : Calls Try.prog 7 #[.agg #[.int .i64 p, .int .i64 b, .bool m, .int .i64 t], .agg #[.int .i64 p', .int .i64 b', .bool m', .int .i64 t']] w (RetP (.bool true) w) := by
  have v1 := Lib.hid (pv_yes ra)
  have v2 := Lib.hid (pv_yes rb)
  have r1 := Lib.hid ra
  have r2 := Lib.hid rb
  have q1 := pack_inj ra rb (fun h => by simp at hn; exact hn h.1)
  clear ra rb
  go_enter Try.func7, Try.ntmps7
  go_wp2_with fail
  refine (known14_c _).mono ?_
  rintro e w1 ⟨rfl, hb1⟩
  obtain ⟨k1, k2, hB1⟩ := boxedAB hb1
  clear hb1
  obtain ⟨c0, c1, c2, c3⟩ := k1.four
  obtain ⟨d0, d1, d2, d3⟩ := k2.four
  have l1 := k1.lt
  have l2 := k2.lt
  go_wp2_with fail
  refine (retp_as (pack_c p b m t _) rfl v1.out).mono ?_
  rintro e w2 ⟨rfl, hb2⟩
  have k3 := k1.below hb2 k1.lt
  have k4 := k2.below hb2 k2.lt
  have hB2 := hB1.trans (hb2.mono hB1.size)
  clear c0 c1 c2 c3 d0 d1 d2 d3 l1 l2 hb2 k1 k2 hB1
  obtain ⟨c0, c1, c2, c3⟩ := k3.four
  obtain ⟨d0, d1, d2, d3⟩ := k4.four
  have l1 := k3.lt
  have l2 := k4.lt
  go_wp2_with fail
  refine (retp_as (pack_c p' b' m' t' _) rfl v2.out).mono ?_
  rintro e w3 ⟨rfl, hb3⟩
  have k5 := k3.below hb3 k3.lt
  have k6 := k4.below hb3 k4.lt
  have hB3 := hB2.trans (hb3.mono hB2.size)
  clear c0 c1 c2 c3 d0 d1 d2 d3 l1 l2 hb3 k3 k4 hB2
  obtain ⟨c0, c1, c2, c3⟩ := k5.four
  obtain ⟨d0, d1, d2, d3⟩ := k6.four
  have l1 := k5.lt
  have l2 := k6.lt
  have q2 := top_bit r1.out
  have q3 := top_bit r2.out
  have q4 := low_bit r1.out
  go_wp2_with (go_at_call 22; refine (map1_c _ _).go.mono ?_; rintro e w' ⟨rfl, mm, rfl⟩)
  all_goals go_ret
  all_goals exact ret_b (by first | rfl | simp) (by first | exact hB3 | exact bdN hB3 _)
theorem unlike_b (w : World) (p b : Int) (m : Bool) (t : Int) (b' : Int) (m' : Bool) (t' : Int) (ra : rightH p b m t = true) (rb : rightH p b' m' t' = true) (hn : (b == b') = false) : Calls Try.prog 7 #[.agg #[.int .i64 p, .int .i64 b, .bool m, .int .i64 t], .agg #[.int .i64 p, .int .i64 b', .bool m', .int .i64 t']] w (RetP (.bool true) w) := by
  have v1 := Lib.hid (pv_yes ra)
  have v2 := Lib.hid (pv_yes rb)
  have r1 := Lib.hid ra
  have r2 := Lib.hid rb
  have q1 := pack_inj ra rb (fun h => by simp at hn; exact hn h.2.1)
  clear ra rb
  go_enter Try.func7, Try.ntmps7
  go_wp2_with fail
  refine (known14_c _).mono ?_
  rintro e w1 ⟨rfl, hb1⟩
  obtain ⟨k1, k2, hB1⟩ := boxedAB hb1
  clear hb1
  obtain ⟨c0, c1, c2, c3⟩ := k1.four
  obtain ⟨d0, d1, d2, d3⟩ := k2.four
  have l1 := k1.lt
  have l2 := k2.lt
  go_wp2_with fail
  refine (retp_as (pack_c p b m t _) rfl v1.out).mono ?_
  rintro e w2 ⟨rfl, hb2⟩
  have k3 := k1.below hb2 k1.lt
  have k4 := k2.below hb2 k2.lt
  have hB2 := hB1.trans (hb2.mono hB1.size)
  clear c0 c1 c2 c3 d0 d1 d2 d3 l1 l2 hb2 k1 k2 hB1
  obtain ⟨c0, c1, c2, c3⟩ := k3.four
  obtain ⟨d0, d1, d2, d3⟩ := k4.four
  have l1 := k3.lt
  have l2 := k4.lt
  go_wp2_with fail
  refine (retp_as (pack_c p b' m' t' _) rfl v2.out).mono ?_
  rintro e w3 ⟨rfl, hb3⟩
  have k5 := k3.below hb3 k3.lt
  have k6 := k4.below hb3 k4.lt
  have hB3 := hB2.trans (hb3.mono hB2.size)
  clear c0 c1 c2 c3 d0 d1 d2 d3 l1 l2 hb3 k3 k4 hB2
  obtain ⟨c0, c1, c2, c3⟩ := k5.four
  obtain ⟨d0, d1, d2, d3⟩ := k6.four
  have l1 := k5.lt
  have l2 := k6.lt
  have q2 := top_bit r1.out
  have q3 := top_bit r2.out
  have q4 := low_bit r1.out
  go_wp2_with (go_at_call 22; refine (map1_c _ _).go.mono ?_; rintro e w' ⟨rfl, mm, rfl⟩)
  all_goals go_ret
  all_goals exact ret_b (by first | rfl | simp) (by first | exact hB3 | exact bdN hB3 _)
theorem unlike_m (w : World) (p b : Int) (m : Bool) (t : Int) (m' : Bool) (t' : Int) (ra : rightH p b m t = true) (rb : rightH p b m' t' = true) (hn : (m == m') = false) : Calls Try.prog 7 #[.agg #[.int .i64 p, .int .i64 b, .bool m, .int .i64 t], .agg #[.int .i64 p, .int .i64 b, .bool m', .int .i64 t']] w (RetP (.bool true) w) := by
  have v1 := Lib.hid (pv_yes ra)
  have v2 := Lib.hid (pv_yes rb)
  have r1 := Lib.hid ra
  have r2 := Lib.hid rb
  have q1 := pack_inj ra rb (fun h => by rw [h.2.2.1] at hn; simp at hn)
  clear ra rb
  go_enter Try.func7, Try.ntmps7
  go_wp2_with fail
  refine (known14_c _).mono ?_
  rintro e w1 ⟨rfl, hb1⟩
  obtain ⟨k1, k2, hB1⟩ := boxedAB hb1
  clear hb1
  obtain ⟨c0, c1, c2, c3⟩ := k1.four
  obtain ⟨d0, d1, d2, d3⟩ := k2.four
  have l1 := k1.lt
  have l2 := k2.lt
  go_wp2_with fail
  refine (retp_as (pack_c p b m t _) rfl v1.out).mono ?_
  rintro e w2 ⟨rfl, hb2⟩
  have k3 := k1.below hb2 k1.lt
  have k4 := k2.below hb2 k2.lt
  have hB2 := hB1.trans (hb2.mono hB1.size)
  clear c0 c1 c2 c3 d0 d1 d2 d3 l1 l2 hb2 k1 k2 hB1
  obtain ⟨c0, c1, c2, c3⟩ := k3.four
  obtain ⟨d0, d1, d2, d3⟩ := k4.four
  have l1 := k3.lt
  have l2 := k4.lt
  go_wp2_with fail
  refine (retp_as (pack_c p b m' t' _) rfl v2.out).mono ?_
  rintro e w3 ⟨rfl, hb3⟩
  have k5 := k3.below hb3 k3.lt
  have k6 := k4.below hb3 k4.lt
  have hB3 := hB2.trans (hb3.mono hB2.size)
  clear c0 c1 c2 c3 d0 d1 d2 d3 l1 l2 hb3 k3 k4 hB2
  obtain ⟨c0, c1, c2, c3⟩ := k5.four
  obtain ⟨d0, d1, d2, d3⟩ := k6.four
  have l1 := k5.lt
  have l2 := k6.lt
  have q2 := top_bit r1.out
  have q3 := top_bit r2.out
  have q4 := low_bit r1.out
  go_wp2_with (go_at_call 22; refine (map1_c _ _).go.mono ?_; rintro e w' ⟨rfl, mm, rfl⟩)
  all_goals go_ret
  all_goals exact ret_b (by first | rfl | simp) (by first | exact hB3 | exact bdN hB3 _)
theorem unlike_t (w : World) (p b : Int) (m : Bool) (t : Int) (t' : Int) (ra : rightH p b m t = true) (rb : rightH p b m t' = true) (hn : (t == t') = false) : Calls Try.prog 7 #[.agg #[.int .i64 p, .int .i64 b, .bool m, .int .i64 t], .agg #[.int .i64 p, .int .i64 b, .bool m, .int .i64 t']] w (RetP (.bool true) w) := by
  have v1 := Lib.hid (pv_yes ra)
  have v2 := Lib.hid (pv_yes rb)
  have r1 := Lib.hid ra
  have r2 := Lib.hid rb
  have q1 := pack_inj ra rb (fun h => by simp at hn; exact hn h.2.2.2)
  clear ra rb
  go_enter Try.func7, Try.ntmps7
  go_wp2_with fail
  refine (known14_c _).mono ?_
  rintro e w1 ⟨rfl, hb1⟩
  obtain ⟨k1, k2, hB1⟩ := boxedAB hb1
  clear hb1
  obtain ⟨c0, c1, c2, c3⟩ := k1.four
  obtain ⟨d0, d1, d2, d3⟩ := k2.four
  have l1 := k1.lt
  have l2 := k2.lt
  go_wp2_with fail
  refine (retp_as (pack_c p b m t _) rfl v1.out).mono ?_
  rintro e w2 ⟨rfl, hb2⟩
  have k3 := k1.below hb2 k1.lt
  have k4 := k2.below hb2 k2.lt
  have hB2 := hB1.trans (hb2.mono hB1.size)
  clear c0 c1 c2 c3 d0 d1 d2 d3 l1 l2 hb2 k1 k2 hB1
  obtain ⟨c0, c1, c2, c3⟩ := k3.four
  obtain ⟨d0, d1, d2, d3⟩ := k4.four
  have l1 := k3.lt
  have l2 := k4.lt
  go_wp2_with fail
  refine (retp_as (pack_c p b m t' _) rfl v2.out).mono ?_
  rintro e w3 ⟨rfl, hb3⟩
  have k5 := k3.below hb3 k3.lt
  have k6 := k4.below hb3 k4.lt
  have hB3 := hB2.trans (hb3.mono hB2.size)
  clear c0 c1 c2 c3 d0 d1 d2 d3 l1 l2 hb3 k3 k4 hB2
  obtain ⟨c0, c1, c2, c3⟩ := k5.four
  obtain ⟨d0, d1, d2, d3⟩ := k6.four
  have l1 := k5.lt
  have l2 := k6.lt
  have q2 := top_bit r1.out
  have q3 := top_bit r2.out
  have q4 := low_bit r1.out
  go_wp2_with (go_at_call 22; refine (map1_c _ _).go.mono ?_; rintro e w' ⟨rfl, mm, rfl⟩)
  all_goals go_ret
  all_goals exact ret_b (by first | rfl | simp) (by first | exact hB3 | exact bdN hB3 _)
theorem unlike_s (w : World) (p b : Int) (m : Bool) (t : Int) (ra : rightH p b m t = true) (rb : rightH p b m t = true) : Calls Try.prog 7 #[.agg #[.int .i64 p, .int .i64 b, .bool m, .int .i64 t], .agg #[.int .i64 p, .int .i64 b, .bool m, .int .i64 t]] w (RetP (.bool true) w) := by
  have v1 := Lib.hid (pv_yes ra)
  have v2 := Lib.hid (pv_yes rb)
  have r1 := Lib.hid ra
  have r2 := Lib.hid rb
  have q1 : (packH p b m t == packH p b m t) = true := by simp
  clear ra rb
  go_enter Try.func7, Try.ntmps7
  go_wp2_with fail
  refine (known14_c _).mono ?_
  rintro e w1 ⟨rfl, hb1⟩
  obtain ⟨k1, k2, hB1⟩ := boxedAB hb1
  clear hb1
  obtain ⟨c0, c1, c2, c3⟩ := k1.four
  obtain ⟨d0, d1, d2, d3⟩ := k2.four
  have l1 := k1.lt
  have l2 := k2.lt
  go_wp2_with fail
  refine (retp_as (pack_c p b m t _) rfl v1.out).mono ?_
  rintro e w2 ⟨rfl, hb2⟩
  have k3 := k1.below hb2 k1.lt
  have k4 := k2.below hb2 k2.lt
  have hB2 := hB1.trans (hb2.mono hB1.size)
  clear c0 c1 c2 c3 d0 d1 d2 d3 l1 l2 hb2 k1 k2 hB1
  obtain ⟨c0, c1, c2, c3⟩ := k3.four
  obtain ⟨d0, d1, d2, d3⟩ := k4.four
  have l1 := k3.lt
  have l2 := k4.lt
  go_wp2_with fail
  refine (retp_as (pack_c p b m t _) rfl v2.out).mono ?_
  rintro e w3 ⟨rfl, hb3⟩
  have k5 := k3.below hb3 k3.lt
  have k6 := k4.below hb3 k4.lt
  have hB3 := hB2.trans (hb3.mono hB2.size)
  clear c0 c1 c2 c3 d0 d1 d2 d3 l1 l2 hb3 k3 k4 hB2
  obtain ⟨c0, c1, c2, c3⟩ := k5.four
  obtain ⟨d0, d1, d2, d3⟩ := k6.four
  have l1 := k5.lt
  have l2 := k6.lt
  have q2 := top_bit r1.out
  have q3 := top_bit r2.out
  have q4 := low_bit r1.out
  go_wp2_with (go_at_call 22; refine (map1_c _ _).go.mono ?_; rintro e w' ⟨rfl, mm, rfl⟩)
  all_goals go_ret
  all_goals exact ret_b (by first | rfl | simp) (by first | exact hB3 | exact bdN hB3 _)
theorem unlike_walk (w : World) (p b : Int) (m : Bool) (t : Int) (p' b' : Int) (m' : Bool) (t' : Int) : Calls Try.prog 7 #[.agg #[.int .i64 p, .int .i64 b, .bool m, .int .i64 t], .agg #[.int .i64 p', .int .i64 b', .bool m', .int .i64 t']] w (RetP (.bool true) w) := by
  cases ra : rightH p b m t
  · cases rb : rightH p' b' m' t'
    · exact unlike_ff w p b m t p' b' m' t' ra rb
    · exact unlike_ft w p b m t p' b' m' t' ra rb
  · cases rb : rightH p' b' m' t'
    · exact unlike_tf w p b m t p' b' m' t' ra rb
    · by_cases h1 : p = p'
      · subst h1
        by_cases h2 : b = b'
        · subst h2
          by_cases h3 : m = m'
          · subst h3
            by_cases h4 : t = t'
            · subst h4
              exact unlike_s w p b m t ra rb
            · exact unlike_t w p b m t t' ra rb (by simpa using h4)
          · exact unlike_m w p b m t m' t' ra rb (by simpa using h3)
        · exact unlike_b w p b m t b' m' t' ra rb (by simpa using h2)
      · exact unlike_p w p b m t p' b' m' t' ra rb (by simpa using h1)
theorem unlike_raw {H : Type} {enc : TypeId × Value → H} {base : Nat} (w : World) (v : Value) {d : DataW H} {q : List MemPlace}
    (hv : Value.okWide Try.prog w .any base 35 v) (h : DataW.Trod enc Try.prog w 0 (fun _ => true) true 35 v d q)
    (v' : Value) {d' : DataW H} {q' : List MemPlace}
    (hv' : Value.okWide Try.prog w .any base 35 v') (h' : DataW.Trod enc Try.prog w 0 (fun _ => true) true 35 v' d' q') :
    Calls Try.prog 7 #[v, v'] w (RetP (.bool true) w) := by
  obtain ⟨p, b, m, t, rfl⟩ := open_head hv h
  obtain ⟨p', b', m', t', rfl⟩ := open_head hv' h'
  exact unlike_walk w p b m t p' b' m' t'
end Go.Proofs.Ytodicffceholkab
namespace Go.Proofs.Ytodicffceholkab.headUnlike
open Go.ChangeShapes Go.WideShapes Go.ChangeAt Go.RowKit
open Go.ChangeMaps (open_string shut_string)
set_option linter.unusedVariables false
set_option maxRecDepth 100000 in
theorem lifted (os : Os) (started : os.Started) (H : Type) (enc : TypeId × Value → H) :
    ReturnsInHanded {} Try.checked os 7 .any (Rows.headUnlikeSpec.pre6 enc Try.prog Try.f7 Rows.headUnlikeRow.domain false) (Rows.headUnlikeSpec.post enc Try.prog Try.f7 false true false false) := by
  refine returnsInHanded_of_change (C := Try.checked) own started (by kernel_rfl) Try.func7
    (ChangeSpec.witness6 (enc := enc) (C := Try.checked) false ⟨#[], #[.agg #[.int .i64 0, .int .i64 0, .bool false, .int .i64 0], .agg #[.int .i64 0, .int .i64 0, .bool false, .int .i64 0]], []⟩ 8 (by kernel_rfl) (by kernel_rfl) (by kernel_rfl) (by kernel_rfl)) ?_
  intro W base args ds gs before hval0 hW hcnd _
  have hval : ∀ (j : Nat) t v, Try.f7.params[j]? = some t → args[j]? = some v → Value.okWide Try.prog W .any base t v := hval0
  have hW' := hW
  obtain ⟨p, q, hA0, hV, rfl, hfz, hnd⟩ := hW
  have hA : DataW.TrodAll enc Try.prog W 0 (fun _ => true) true Try.f7.params.toList args.toList ds p := hA0
  rw [Try.params7] at hA hval
  obtain ⟨v0, vs0, d0, ds0, p0, q0, hargs, rfl, rfl, h0, r0⟩ := trodAll_cons hA
  obtain ⟨v1, vs1, d1, ds1, p1, q1, rfl, rfl, rfl, h1, r1⟩ := trodAll_cons r0
  obtain ⟨rfl, rfl, rfl⟩ := trodAll_nil r1
  obtain rfl : args = #[v0, v1] := by cases args; simp_all
  obtain ⟨rfl, rfl⟩ := trodVars_none hV
  have k0 := h0
  have lt0 : ∀ x ∈ p0, x.block < W.heap.size := by obtain ⟨m, hm⟩ := k0; exact DataW.trod_lt m _ _ _ hm
  have k1 := h1
  have lt1 : ∀ x ∈ p1, x.block < W.heap.size := by obtain ⟨m, hm⟩ := k1; exact DataW.trod_lt m _ _ _ hm
  clear hA0 hval0
  refine (unlike_raw W v0 (hval 0 35 v0 rfl rfl) k0 v1 (hval 1 35 v1 rfl rfl) k1).mono fun e W' ⟨he, bel⟩ => ?_
  subst he
  exact ⟨_, rfl, _, _, _, [], _, [], hW', trodAll_mk1 (shut_bool Try.underlying4 _), (trodAll_cons_mk (Below.trod laidOut (by kernel_rfl) (of_decide_eq_true (by kernel_rfl)) k0 bel lt0) (trodAll_cons_mk (Below.trod laidOut (by kernel_rfl) (of_decide_eq_true (by kernel_rfl)) k1 bel lt1) trodAll_mk0)), rfl, bel.frame _, fun h => by cases h⟩
theorem over : Rows.headUnlikeRow.holds Try.pinned (OpenSpec.ofChange Rows.headUnlikeSpec) :=
  OpenClaim.holds_of_wide 7 Try.f7 rfl rfl rfl rfl rfl rfl rfl ⟨rfl, rfl, rfl, rfl, rfl⟩ rfl rfl rfl rfl rfl (by kernel_rfl) Try.func7 (by kernel_rfl)
    (of_decide_eq_true (by kernel_rfl)) (by unfold Func.isWrapper; first | (rw [if_pos (by decide +kernel)]; kernel_rfl) | (rw [if_neg (by decide +kernel)]; exact ⟨rfl, rfl⟩))
    (fun os started H enc _ => lifted os started H enc)
theorem proved : Rows.HeadUnlikeSaid := over
end Go.Proofs.Ytodicffceholkab.headUnlike
