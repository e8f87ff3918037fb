/- loamref14's Alloc and Head of a space. Conditions: lengths. -/
import Derived.Test.YtgjnencpdafkoaaSpI
import Derived.Test.YtgjnencpdafkoaaSpF
namespace Go.Proofs.Ytgjnencpdafkoaa
set_option linter.unusedVariables false
set_option linter.unusedSimpArgs false
open Go.RowKit
theorem Two.one {a b : World} {s : Nat} (h : Two a b s none) : a.grownBy b (some s) := ⟨h.os, h.tape, h.output, h.size, fun k hk h1 => h.block k hk (fun e => h1 (by rw [e])) (by simp)⟩
theorem zero_alloc (ws : List (BitVec 64)) (t n : Nat) (x : BitVec 64) (h : t + n ≤ ws.length) (hn : 1 ≤ n) : (zeroW ws t n).set t x = allocW ws t n x := by
  apply List.ext_getElem?
  intro i
  unfold allocW
  rw [List.getElem?_set, zeroW_get ws t i n h, zeroW_get (ws.set t x) (t + 1) i (n - 1) (by rw [List.length_set]; omega), List.getElem?_set]
  by_cases e : t = i
  · subst e
    rw [if_pos rfl, if_pos (by rw [zeroW_len]; omega), if_neg (by omega), if_pos rfl, if_pos (by omega)]
  · rw [if_neg e, if_neg e]
    by_cases c : t ≤ i ∧ i < t + n
    · rw [if_pos c, if_pos (by omega)]
    · rw [if_neg c, if_neg (by omega)]
set_option maxHeartbeats 400000
set_option maxRecDepth 100000
theorem ra_reg (Q : Exit → Act → World → Prop) (a0 : Act) (w : World) (H R N c b t e n room : Nat) (A : Option Addr) (hp hb ht : Int) (r : Bool) (hk : Bk w H 40 #[.int .i64 hp, .int .i64 hb, .bool false, .int .i64 ht]) (hr : Bk w R 33 #[.slice A N c, .int .i64 b, .int .i64 t, .int .i64 e]) (hz : sizeH hp hb false ht = (n : Int)) (d1 : (e : Int) - (t : Int) = (room : Int)) (d2 : (room : Int) ≤ 100000) (d3 : (0 : Int) ≤ (room : Int)) (hd : decide (room < n) = r) (hsz : a0.tmps.size = 69) (sl0 : a0.tmps.getD 0 undef = .pointer (some ⟨R, 0, none⟩)) (sl3 : a0.tmps.getD 3 undef = .pointer (some ⟨H, 0, none⟩))
    (fin : ∀ (vals : Nat → Value) (w1 : World), Below w.heap.size w w1 → (IsV (.bool r)) (vals 11) w1 → Q .normal (putD vals [16, 17, 18, 19, 20, 21, 22, 23, 24, 25, 26, 27] 0 a0) w1) :
    (Code.region 3 (regIn Try.f11 3) true).wp Try.prog Q a0 w := by
  refine region_by (G := fun w w1 => Below w.heap.size w w1) [IsV (.agg #[.int .i64 hp, .int .i64 hb, .bool false, .int .i64 ht]),
    IsV (.int .i64 n),
    IsV (.pointer (some ⟨R, 0, none⟩)),
    IsV (.pointer (some ⟨R, 0, none⟩)),
    IsV (.pointer (some ⟨R, 3, none⟩)),
    IsV (.int .i64 e),
    IsV (.pointer (some ⟨R, 0, none⟩)),
    IsV (.pointer (some ⟨R, 0, none⟩)),
    IsV (.pointer (some ⟨R, 2, none⟩)),
    IsV (.int .i64 t),
    IsV (.int .i64 room),
    IsV (.bool r)]
    [16, 17, 18, 19, 20, 21, 22, 23, 24, 25, 26, 27] (by kernel_rfl) (Gw.drew _) Gw.trans (by rw [hsz]; kernel_rfl) (by kernel_rfl) ?_ ?_ ?_
  · intro f hf
    simp only [List.mem_cons, List.not_mem_nil, or_false] at hf
    rcases hf with rfl | rfl | rfl | rfl | rfl | rfl | rfl | rfl | rfl | rfl | rfl | rfl <;> intro v a b h g <;> first | exact IsV.mono h
  · refine ⟨?_, ?_, ?_, ?_, ?_, ?_, ?_, ?_, ?_, ?_, ?_, ?_, trivial⟩
    · refine owes_v (Go.Op.load 40 (Go.Operand.tmp 3)) 40 [] (by kernel_rfl) (by kernel_rfl) (by kernel_rfl) rfl fun vals w1 ρ hG hF hρ hcst hfun => ?_
      have e3 : ρ (.tmp 3) = .pointer (some ⟨H, 0, none⟩) := ((hρ 3).trans (slotO [] (by kernel_rfl))).trans sl3
      obtain ⟨k1, k2, k3, k4⟩ := (hk.below hG hk.lt).four
      clear hρ hF hcst hfun sl0 sl3 fin
      exact opv_val (by go_simp <;> rfl) ⟨gw_self _, rfl⟩
    · refine owes_v (Go.Op.call { callee := Go.Callee.value (Go.Operand.func 34), args := #[Go.Operand.tmp 16], argTypes := #[40] }) 3 [0] (by kernel_rfl) (by kernel_rfl) (by kernel_rfl) rfl fun vals w1 ρ hG hF hρ hcst hfun => ?_
      have e16 : ρ (.tmp 16) = .agg #[.int .i64 hp, .int .i64 hb, .bool false, .int .i64 ht] := ((hρ 16).trans (slotJ [0] (by rw [hsz]; decide) (by kernel_rfl))).trans (hF 0 (by decide))
      have kz := rsize_c hp hb false ht w1
      rw [hz] at kz
      clear hρ hF hcst sl0 sl3 fin
      exact opv_enter (by go_simp <;> rfl) (of_rp kz)
    · exact owes_mv 0 (by kernel_rfl) (by kernel_rfl) (by kernel_rfl) sl0 (fun _ => rfl)
    · refine owes_v (Go.Op.nilCheck (Go.Operand.tmp 18)) 0 [2] (by kernel_rfl) (by kernel_rfl) (by kernel_rfl) rfl fun vals w1 ρ hG hF hρ hcst hfun => ?_
      have e18 : ρ (.tmp 18) = .pointer (some ⟨R, 0, none⟩) := ((hρ 18).trans (slotJ [2] (by rw [hsz]; decide) (by kernel_rfl))).trans (hF 2 (by decide))
      clear hρ hF hcst hfun sl0 sl3 fin
      exact opv_val (by go_simp <;> rfl) ⟨gw_self _, rfl⟩
    · refine owes_v (Go.Op.fieldAddr 33 (Go.Operand.tmp 19) 3) 0 [3] (by kernel_rfl) (by kernel_rfl) (by kernel_rfl) rfl fun vals w1 ρ hG hF hρ hcst hfun => ?_
      have e19 : ρ (.tmp 19) = .pointer (some ⟨R, 0, none⟩) := ((hρ 19).trans (slotJ [3] (by rw [hsz]; decide) (by kernel_rfl))).trans (hF 3 (by decide))
      clear hρ hF hcst hfun sl0 sl3 fin
      exact opv_val (by go_simp <;> rfl) ⟨gw_self _, rfl⟩
    · refine owes_v (Go.Op.load 3 (Go.Operand.tmp 20)) 3 [4] (by kernel_rfl) (by kernel_rfl) (by kernel_rfl) rfl fun vals w1 ρ hG hF hρ hcst hfun => ?_
      have e20 : ρ (.tmp 20) = .pointer (some ⟨R, 3, none⟩) := ((hρ 20).trans (slotJ [4] (by rw [hsz]; decide) (by kernel_rfl))).trans (hF 4 (by decide))
      have k := (hr.below hG hr.lt).cell 3
      clear hρ hF hcst hfun sl0 sl3 fin
      exact opv_val (by go_simp <;> rfl) ⟨gw_self _, rfl⟩
    · exact owes_mv 0 (by kernel_rfl) (by kernel_rfl) (by kernel_rfl) sl0 (fun _ => rfl)
    · refine owes_v (Go.Op.nilCheck (Go.Operand.tmp 22)) 0 [6] (by kernel_rfl) (by kernel_rfl) (by kernel_rfl) rfl fun vals w1 ρ hG hF hρ hcst hfun => ?_
      have e22 : ρ (.tmp 22) = .pointer (some ⟨R, 0, none⟩) := ((hρ 22).trans (slotJ [6] (by rw [hsz]; decide) (by kernel_rfl))).trans (hF 6 (by decide))
      clear hρ hF hcst hfun sl0 sl3 fin
      exact opv_val (by go_simp <;> rfl) ⟨gw_self _, rfl⟩
    · refine owes_v (Go.Op.fieldAddr 33 (Go.Operand.tmp 23) 2) 0 [7] (by kernel_rfl) (by kernel_rfl) (by kernel_rfl) rfl fun vals w1 ρ hG hF hρ hcst hfun => ?_
      have e23 : ρ (.tmp 23) = .pointer (some ⟨R, 0, none⟩) := ((hρ 23).trans (slotJ [7] (by rw [hsz]; decide) (by kernel_rfl))).trans (hF 7 (by decide))
      clear hρ hF hcst hfun sl0 sl3 fin
      exact opv_val (by go_simp <;> rfl) ⟨gw_self _, rfl⟩
    · refine owes_v (Go.Op.load 3 (Go.Operand.tmp 24)) 3 [8] (by kernel_rfl) (by kernel_rfl) (by kernel_rfl) rfl fun vals w1 ρ hG hF hρ hcst hfun => ?_
      have e24 : ρ (.tmp 24) = .pointer (some ⟨R, 2, none⟩) := ((hρ 24).trans (slotJ [8] (by rw [hsz]; decide) (by kernel_rfl))).trans (hF 8 (by decide))
      have k := (hr.below hG hr.lt).cell 2
      clear hρ hF hcst hfun sl0 sl3 fin
      exact opv_val (by go_simp <;> rfl) ⟨gw_self _, rfl⟩
    · refine owes_v (Go.Op.binOp Go.BinOp.sub 3 (Go.Operand.tmp 21) (Go.Operand.tmp 25) 3) 3 [5, 9] (by kernel_rfl) (by kernel_rfl) (by kernel_rfl) rfl fun vals w1 ρ hG hF hρ hcst hfun => ?_
      have e21 : ρ (.tmp 21) = .int .i64 e := ((hρ 21).trans (slotJ [5, 9] (by rw [hsz]; decide) (by kernel_rfl))).trans (hF 5 (by decide))
      have e25 : ρ (.tmp 25) = .int .i64 t := ((hρ 25).trans (slotJ [5, 9] (by rw [hsz]; decide) (by kernel_rfl))).trans (hF 9 (by decide))
      have kw0 : IntKind.i64.wrap ((room : Int)) = (room : Int) := wrapIn (by omega) (by omega)
      clear hρ hF hcst hfun sl0 sl3 fin
      exact opv_val (by go_simp <;> rfl) ⟨gw_self _, rfl⟩
    · refine owes_v (Go.Op.binOp Go.BinOp.gtr 3 (Go.Operand.tmp 17) (Go.Operand.tmp 26) 3) 4 [1, 10] (by kernel_rfl) (by kernel_rfl) (by kernel_rfl) rfl fun vals w1 ρ hG hF hρ hcst hfun => ?_
      have e17 : ρ (.tmp 17) = .int .i64 n := ((hρ 17).trans (slotJ [1, 10] (by rw [hsz]; decide) (by kernel_rfl))).trans (hF 1 (by decide))
      have e26 : ρ (.tmp 26) = .int .i64 room := ((hρ 26).trans (slotJ [1, 10] (by rw [hsz]; decide) (by kernel_rfl))).trans (hF 10 (by decide))
      clear hρ hF hcst hfun sl0 sl3 fin
      exact opv_val (by go_simp <;> first | rfl | exact hd | rw [hd]) ⟨gw_self _, rfl⟩
  · intro vals w1 hG hF
    exact fin vals w1 hG (hF 11 (by decide +kernel))
theorem ralloc_bad (w : World) (R : Nat) (hp hb : Int) (hm : Bool) (ht : Int) (h : rightH hp hb hm ht = false ∨ (rightH hp hb hm ht = true ∧ hm = true)) :
    Calls Try.prog 11 #[.pointer (some ⟨R, 0, none⟩), .agg #[.int .i64 hp, .int .i64 hb, .bool hm, .int .i64 ht]] w (RetP (.tuple #[.int .i64 0, .int .i64 1]) w) := by
  have HRt := Lib.hid (fun W => rright_c hp hb hm ht W)
  have hk := Bk.new w 40 #[.int .i64 hp, .int .i64 hb, .bool hm, .int .i64 ht]
  have HK := Lib.hid hk
  have hB := Gw.alloc w (.cells #[.int .i64 hp, .int .i64 hb, .bool hm, .int .i64 ht] 40)
  have HB := Lib.hid hB
  rcases h with h | ⟨h, rfl⟩
  all_goals
    rw [h] at HRt
    clear h hk hB
    go_enter Try.func11, Try.ntmps11
    go_wp2_with fail
    refine Calls.mono (HRt.out _) ?_
    rintro r w1 ⟨rfl, b1⟩
    have HB1 := Lib.hid (HB.out.trans (b1.mono HB.out.size))
    obtain ⟨k0, k1, k2, k3⟩ := (HK.out.below b1 HK.out.lt).four
    clear b1
    go_wp2_with fail
    go_ret2
    exact ⟨rfl, HB1.out⟩
theorem ralloc_full (w : World) (R N c b t e : Nat) (A : Option Addr) (hr : Bk w R 33 #[.slice A N c, .int .i64 b, .int .i64 t, .int .i64 e]) (hp hb ht : Int) (n : Nat) (hrt : rightH hp hb false ht = true) (hn : sizeH hp hb false ht = (n : Int)) (hte : t ≤ e) (he : e ≤ 100000) (hf : e - t < n) :
    Calls Try.prog 11 #[.pointer (some ⟨R, 0, none⟩), .agg #[.int .i64 hp, .int .i64 hb, .bool false, .int .i64 ht]] w (RetP (.tuple #[.int .i64 0, .int .i64 6]) w) := by
  have HRt := Lib.hid (fun W => rright_c hp hb false ht W)
  rw [hrt] at HRt
  have hk := Bk.new w 40 #[.int .i64 hp, .int .i64 hb, .bool false, .int .i64 ht]
  have HK := Lib.hid hk
  have hB := Gw.alloc w (.cells #[.int .i64 hp, .int .i64 hb, .bool false, .int .i64 ht] 40)
  have HB := Lib.hid hB
  have HR := Lib.hid hr
  obtain ⟨room, hroom⟩ : ∃ r, r = e - t := ⟨_, rfl⟩
  have HX := Lib.hid (show ((e : Int) - (t : Int) = (room : Int)) ∧ ((room : Int) ≤ 100000) ∧ ((0 : Int) ≤ (room : Int)) ∧ decide (room < n) = true from ⟨by omega, by omega, by omega, by simp; omega⟩)
  have HN := Lib.hid hn
  clear hrt hk hB hr hn hte he hf hroom
  go_enter Try.func11, Try.ntmps11
  go_wp2_with fail
  refine Calls.mono (HRt.out _) ?_
  rintro r w1 ⟨rfl, b1⟩
  have HB1 := Lib.hid (HB.out.trans (b1.mono HB.out.size))
  have HK1 := Lib.hid (HK.out.below b1 HK.out.lt)
  obtain ⟨k0, k1, k2, k3⟩ := HK1.out.four
  have HR1 := Lib.hid (HR.out.below HB1.out HR.out.lt)
  clear b1
  go_wp2_with fail
  refine ra_reg _ _ _ w.heap.size R N c b t e n room A hp hb ht true HK1.out HR1.out HN.out HX.out.1 HX.out.2.1 HX.out.2.2.1 HX.out.2.2.2 rfl rfl rfl ?_
  intro vals w2 hG h27
  unfold IsV at h27
  simp only [putD, Act.put, List.setIfInBounds_toArray, List.set_cons_zero, List.set_cons_succ, h27]
  have HB2 := Lib.hid (HB1.out.trans (hG.mono HB1.out.size))
  clear h27 hG k0 k1 k2 k3
  go_wp2_with fail
  go_ret2
  exact ⟨rfl, HB2.out⟩
theorem ralloc_ok (w : World) (R b t e c : Nat) (A : Option Addr) (ws : List (BitVec 64)) (hr : Bk w R 33 #[.slice A ws.length c, .int .i64 b, .int .i64 t, .int .i64 e]) (hrd : Rd u64v w w.heap.size A ws) (hp hb ht : Int) (n : Nat) (hrt : rightH hp hb false ht = true) (hn : sizeH hp hb false ht = (n : Int)) (hn1 : 1 ≤ n) (hte : t ≤ e) (hel : e ≤ ws.length) (hl : ws.length ≤ 100000) (hf : n ≤ e - t) :
    Calls Try.prog 11 #[.pointer (some ⟨R, 0, none⟩), .agg #[.int .i64 hp, .int .i64 hb, .bool false, .int .i64 ht]] w fun r w' => r = .returned (.tuple #[.int .i64 t, .int .i64 0]) ∧ ∃ A' c', Bk w' R 33 #[.slice A' ws.length c', .int .i64 b, .int .i64 ((t + n : Nat) : Int), .int .i64 e] ∧ Ow u64v 54 w' w.heap.size (.slice A' ws.length c') (allocW ws t n (packH hp hb false ht)) ∧ w.grownBy w' (some R) := by
  have HRt := Lib.hid (fun W => rright_c hp hb false ht W)
  rw [hrt] at HRt
  have HSz := Lib.hid (fun W => rsize_c hp hb false ht W)
  rw [hn] at HSz
  have HPk := Lib.hid (fun W => rpack_c hp hb false ht W)
  have e1 : errH hp hb false ht = 0 := by unfold errH; rw [hrt]; rfl
  rw [e1] at HPk
  obtain ⟨x, hx⟩ : ∃ x, x = packH hp hb false ht := ⟨_, rfl⟩
  rw [← hx] at HPk ⊢
  have hk := Bk.new w 40 #[.int .i64 hp, .int .i64 hb, .bool false, .int .i64 ht]
  have HK := Lib.hid hk
  have hB := Gw.alloc w (.cells #[.int .i64 hp, .int .i64 hb, .bool false, .int .i64 ht] 40)
  have HB := Lib.hid hB
  have HR := Lib.hid hr
  have HRd := Lib.hid hrd
  obtain ⟨N, hN⟩ : ∃ N, N = ws.length := ⟨_, rfl⟩
  rw [← hN] at HR ⊢
  obtain ⟨room, hroom⟩ : ∃ r, r = e - t := ⟨_, rfl⟩
  obtain ⟨tn, htn⟩ : ∃ tn, tn = t + n := ⟨_, rfl⟩
  rw [← htn]
  have HX := Lib.hid (show ((e : Int) - (t : Int) = (room : Int)) ∧ ((room : Int) ≤ 100000) ∧ ((0 : Int) ≤ (room : Int)) ∧ decide (room < n) = false from ⟨by omega, by omega, by omega, by simp; omega⟩)
  have HN := Lib.hid hn
  have HNN := Lib.hid hN
  have HTN := Lib.hid (show tn = t + n ∧ tn ≤ N ∧ 1 ≤ n ∧ N ≤ 100000 from ⟨htn, by omega, hn1, by omega⟩)
  have d2 : (t : Int) + (n : Int) = (tn : Int) := by omega
  have d3 : (tn : Int) ≤ 100000 := by omega
  have d4 : (t : Int) ≤ 100000 := by omega
  have d5 : (0 : Int) ≤ (tn : Int) := by omega
  have d6 : (0 : Int) ≤ (t : Int) := by omega
  have d7 : (t : Int) < (N : Int) := by omega
  have d8 : (n : Int) ≤ 100000 := by omega
  clear hrt hk hB hr hn hte hel hl hf hroom hx hN htn e1 hrd hn1
  go_enter Try.func11, Try.ntmps11
  go_wp2_with fail
  refine Calls.mono (HRt.out _) ?_
  rintro r w1 ⟨rfl, b1⟩
  have HB1 := Lib.hid (HB.out.trans (b1.mono HB.out.size))
  have HK1 := Lib.hid (HK.out.below b1 HK.out.lt)
  obtain ⟨k0, k1, k2, k3⟩ := HK1.out.four
  have HR1 := Lib.hid (HR.out.below HB1.out HR.out.lt)
  clear b1
  go_wp2_with fail
  refine ra_reg _ _ _ w.heap.size R N c b t e n room A hp hb ht false HK1.out HR1.out HN.out HX.out.1 HX.out.2.1 HX.out.2.2.1 HX.out.2.2.2 rfl rfl rfl ?_
  intro vals w2 hG h27
  unfold IsV at h27
  simp only [putD, Act.put, List.setIfInBounds_toArray, List.set_cons_zero, List.set_cons_succ, h27]
  have HB2 := Lib.hid (HB1.out.trans (hG.mono HB1.out.size))
  have HK2 := Lib.hid (HK1.out.below hG HK1.out.lt)
  have HR2 := Lib.hid (HR1.out.below hG HR1.out.lt)
  have c0 := HR2.out.cell 0
  have c2 := HR2.out.cell 2
  have hrl := HR2.out.lt
  clear h27 hG k0 k1 k2 k3
  have hsw2 := HB2.out.size
  have hal := Gw.alloc w2 (.cells #[] 54)
  have HAL := Lib.hid hal
  clear hal
  go_wp2_with (at_builtin; refine wp_app one64 u64v_one rfl (.tmp 32) (.tmp 36) rfl w2.heap.size _ [] rfl (ow_empty u64v 54 w2 w2.heap.size (Nat.le_refl _)) A N c ws rfl HNN.out w2.heap.size (((HRd.out.below HB2.out).more HB2.out.size).alloc (Nat.le_refl _) _) (by have := HTN.out; have := HNN.out; simp; omega) (by decide) (by simp) ?_; intro v4 w4 ho4 hb4 hg4 hv4)
  rw [List.nil_append] at ho4
  obtain ⟨A4, c4, rfl, hc4⟩ := ho4.form
  rw [← HNN.out] at ho4 ⊢
  have HB4' : Hid (Below w2.heap.size w2 w4) := Lib.hid (HAL.out.trans hb4)
  have HB4 : Hid (Below w.heap.size w w4) := Lib.hid (HB2.out.trans (HB4'.out.mono HB2.out.size))
  have HO4 : Hid (Ow u64v 54 w4 w2.heap.size (.slice A4 N c4) ws) := Lib.hid ho4
  have HK4 := Lib.hid (HK2.out.below HB4'.out HK2.out.lt)
  clear ho4 hb4 hg4 hv4 hc4 c0 c2 hrl
  go_wp2_with fail
  go_loopw [8] (fun i W => ∃ k : Nat, k ≤ n ∧ i = .int .i64 k ∧ Ow u64v 54 W w2.heap.size (.slice A4 N c4) (zeroW ws t k) ∧ Below w2.heap.size w2 W) (fun i _ => n - (intOf i).toNat)
  case atStart => exact ⟨0, by omega, rfl, HO4.out, HB4'.out⟩
  case round =>
    obtain ⟨k, hkn, rfl, ho, hB⟩ := hrel
    have HBk := Lib.hid (And.intro ho hB)
    obtain ⟨k0, k1, k2, k3⟩ := (HK2.out.below hB HK2.out.lt).four
    obtain ⟨q, rfl⟩ : ∃ q, A4 = some ⟨q, 0, none⟩ := by
      rcases ho.2 with ⟨e, hn⟩ | ⟨q, _, _, e, _⟩
      · have hn' : (zeroW ws t k).length = 0 := hn
        rw [zeroW_len] at hn'
        have := HTN.out
        have := HNN.out
        omega
      · injection e with e
        exact ⟨q, e⟩
    have pk1 : (0 : Int) ≤ (k : Int) := by omega
    by_cases hlt : k < n
    · have pk2 : (k : Int) < (n : Int) := by omega
      obtain ⟨s, hs⟩ : ∃ s, s = t + k := ⟨_, rfl⟩
      have hX := HTN.out
      have hNN := HNN.out
      have hsl : s < (zeroW ws t k).length := by rw [zeroW_len]; omega
      have HST := Lib.hid (fun W (hW : Below wr.heap.size wr W) => show (W.frozen? ⟨q, s, none⟩ = false ∧ W.cell? ⟨q, s, none⟩ = some (u64v ((zeroW ws t k)[s]))) ∧ (Ow u64v 54 (W.setCell ⟨q, s, none⟩ (.int .u64 0)) w2.heap.size (.slice (some ⟨q, 0, none⟩) N c4) (zeroW ws t (k + 1)) ∧ Below w2.heap.size w2 (W.setCell ⟨q, s, none⟩ (.int .u64 0))) from by
        have ho' := ho.below hW
        refine ⟨⟨ho'.free s, ho'.cell hsl⟩, ?_, (hB.trans (hW.mono hB.size)).setCell (p := ⟨q, s, none⟩) ho.ge.1 _⟩
        have h := ho'.set hsl 0#64
        have e0 : u64v 0#64 = .int .u64 0 := congrArg (fun i => Value.int .u64 i) (by decide +kernel)
        have e1 : (zeroW ws t k).set s 0#64 = zeroW ws t (k + 1) := by rw [hs]; rfl
        rw [e0, e1] at h
        exact h)
      obtain ⟨z, hz⟩ : ∃ z, z = (zeroW ws t k)[s] := ⟨_, rfl⟩
      rw [← hz] at HST
      have f1 : (t : Int) + (k : Int) = (s : Int) := by omega
      have f2 : (0 : Int) ≤ (s : Int) := by omega
      have f3 : (s : Int) < (N : Int) := by omega
      clear hs hX hNN hsl hz ho hB
      go_wp2_with fail
      refine Calls.mono (HSz.out wr) ?_
      rintro r w5 ⟨rfl, b5⟩
      obtain ⟨⟨g1, g2⟩, g3⟩ := HST.out w5 b5
      unfold u64v at g2
      have G3 := Lib.hid g3
      clear g3 b5 k0 k1 k2 k3
      go_wp2_with fail
      go_roundw
      case rel => exact ⟨k + 1, by omega, by go_num, G3.out.1, G3.out.2⟩
      case measure => (first | (simp [intOf]; done) | (simp [intOf]; omega))
    · have hkk : k = n := by omega
      subst hkk
      have hX := HTN.out
      have hNN := HNN.out
      have htl : t < (zeroW ws t k).length := by rw [zeroW_len]; omega
      have hq2 := ho.ge
      have HST := Lib.hid (fun W (hW : Below wr.heap.size wr W) => show (W.frozen? ⟨q, t, none⟩ = false ∧ W.cell? ⟨q, t, none⟩ = some (u64v ((zeroW ws t k)[t]))) ∧ (Ow u64v 54 (W.setCell ⟨q, t, none⟩ (.int .u64 (U64 x))) w2.heap.size (.slice (some ⟨q, 0, none⟩) N c4) (allocW ws t k x) ∧ Below w2.heap.size w2 (W.setCell ⟨q, t, none⟩ (.int .u64 (U64 x)))) from by
        have ho' := ho.below hW
        refine ⟨⟨ho'.free t, ho'.cell htl⟩, ?_, (hB.trans (hW.mono hB.size)).setCell (p := ⟨q, t, none⟩) ho.ge.1 _⟩
        have h := ho'.set htl x
        rw [zero_alloc ws t k x (by omega) hX.2.2.1] at h
        exact h)
      obtain ⟨z, hz⟩ : ∃ z, z = (zeroW ws t k)[t] := ⟨_, rfl⟩
      rw [← hz] at HST
      have HB' := Lib.hid hB
      clear hX hNN htl hz ho hB hq2
      go_wp2_with fail
      refine Calls.mono (HSz.out wr) ?_
      rintro r w5 ⟨rfl, b5⟩
      have HB5 : Hid (Below w2.heap.size w2 w5) := Lib.hid (HB'.out.trans (b5.mono HB'.out.size))
      obtain ⟨k0, k1, k2, k3⟩ := (HK2.out.below HB5.out HK2.out.lt).four
      have HBA := Lib.hid b5
      clear b5
      go_wp2_with fail
      refine Calls.mono (HPk.out w5) ?_
      rintro r w6 ⟨rfl, b6⟩
      obtain ⟨⟨g1, g2⟩, g3⟩ := HST.out w6 (HBA.out.trans (b6.mono HBA.out.size))
      unfold u64v at g2
      obtain ⟨w7, hw7⟩ : ∃ w7, w7 = w6.setCell ⟨q, t, none⟩ (.int .u64 (U64 x)) := ⟨_, rfl⟩
      rw [← hw7] at g3
      have G3 := Lib.hid g3
      have hR7 := HR2.out.below g3.2 HR2.out.lt
      have f70 := hR7.free 0
      have c70 := hR7.cell 0
      rw [hw7] at f70 c70
      have hk7 := HK2.out.below g3.2 HK2.out.lt
      have hRne : w.heap.size ≠ R := by have := HR.out.lt; omega
      have hk8 := hk7.far (p := ⟨R, 0, none⟩) hRne (.slice (some ⟨q, 0, none⟩) N c4)
      have hR8 := hR7.set 0 (.slice (some ⟨q, 0, none⟩) N c4)
      have HW8 : Hid (w2.heap.size ≤ q ∧ Two w (w7.setCell ⟨R, 0, none⟩ (.slice (some ⟨q, 0, none⟩) N c4)) R none) := Lib.hid ⟨g3.1.ge.1, (Two.below (HB2.out.trans (g3.2.mono HB2.out.size))).trans (Two.setc w7 R 0 _ none)⟩
      have HO8 : Hid (Ow u64v 54 (w7.setCell ⟨R, 0, none⟩ (.slice (some ⟨q, 0, none⟩) N c4)) w2.heap.size (.slice (some ⟨q, 0, none⟩) N c4) (allocW ws t k x)) := Lib.hid (g3.1.kept (grown_set w7 ⟨R, 0, none⟩ _) (.inr (fun e => by injection e with e; have := g3.1.ge.1; have := HR2.out.lt; change q = R at e; omega)))
      rw [hw7] at hk8 hR8 HW8 HO8
      have HR8 := Lib.hid hR8
      have HK8 := Lib.hid hk8
      obtain ⟨m0, m1, m2, m3⟩ := hk8.four
      clear g3 hw7 hR7 hk7 hRne hk8 hR8 b6 HBA HST HB5 HB' k0 k1 k2 k3
      go_wp2_with fail
      refine Calls.mono (HSz.out _) ?_
      rintro r w9 ⟨rfl, b9⟩
      have hR9 := HR8.out.below b9 HR8.out.lt
      have f2 := hR9.free 2
      have c2 := hR9.cell 2
      have HR9 := Lib.hid (hR9.set 2 (.int .i64 tn))
      have HO9 := Lib.hid (((HO8.out.below b9).kept (grown_set w9 ⟨R, 2, none⟩ (.int .i64 tn)) (.inr (fun e => by injection e with e; have := HW8.out.1; have := HR2.out.lt; change q = R at e; omega))).mono HB2.out.size)
      have HW9 := Lib.hid ((HW8.out.2.trans (Two.below b9)).trans (Two.setc w9 R 2 (.int .i64 tn) none))
      have hrl9 := hR9.lt
      clear hR9 b9 m0 m1 m2 m3
      go_wp2_with fail
      go_ret2
      exact ⟨rfl, some ⟨q, 0, none⟩, c4, HR9.out, HO9.out, HW9.out.one⟩
theorem rhead_in (w : World) (R b t e c : Nat) (A : Option Addr) (ws : List (BitVec 64)) (hr : Bk w R 33 #[.slice A ws.length c, .int .i64 b, .int .i64 t, .int .i64 e]) (hrd : Rd u64v w w.heap.size A ws) (i : Nat) (hi1 : b ≤ i) (hi2 : i < t) (hl : ws.length ≤ 100000) (hiw : i < ws.length) :
    Calls Try.prog 18 #[.pointer (some ⟨R, 0, none⟩), .int .i64 i] w (RetP (unV ws[i]) w) := by
  have hb := Gw.alloc w (.cells #[.int .i64 0, .int .i64 0, .bool false, .int .i64 0] 40)
  have hr1 := hr.below hb hr.lt
  have c0 := hr1.cell 0
  have c1 := hr1.cell 1
  have c2 := hr1.cell 2
  obtain ⟨ad, rfl, hadb, hcx⟩ := (hrd.below hb) i hiw
  obtain ⟨x, hx⟩ : ∃ x, x = ws[i] := ⟨_, rfl⟩
  rw [← hx] at hcx ⊢
  unfold u64v at hcx
  have HU := Lib.hid (runpack_c x (w.alloc (.cells #[.int .i64 0, .int .i64 0, .bool false, .int .i64 0] 40)))
  obtain ⟨N, hN⟩ : ∃ N, N = ws.length := ⟨_, rfl⟩
  rw [← hN] at c0
  have u1 : ¬ i < b := by omega
  have u2 : ¬ t ≤ i := by omega
  have p1 : (0 : Int) ≤ (i : Int) := by omega
  have p2 : (i : Int) < (N : Int) := by omega
  have hk := Bk.new w 40 #[.int .i64 0, .int .i64 0, .bool false, .int .i64 0]
  have HK := Lib.hid hk
  have HB := Lib.hid hb
  clear hr hrd hb hr1 hk hi1 hi2 hiw hx hl hN hadb
  go_enter Try.func18, Try.ntmps18
  go_wp2_with fail
  refine Calls.mono HU.out ?_
  rintro r w2 ⟨rfl, b2⟩
  have hk2 := HK.out.below b2 HK.out.lt
  have f0 := hk2.free 0
  have f1 := hk2.free 1
  have f2 := hk2.free 2
  have f3 := hk2.free 3
  obtain ⟨d0, d1, d2, d3⟩ := hk2.four
  have hkl := hk2.lt
  have HB2 := Lib.hid (HB.out.trans (b2.mono HB.out.size))
  unfold unV
  clear HU b2 hk2 HK c0 c1 c2 hcx
  go_wp2_with fail
  refine bodyPost_ret (v := .tuple #[.agg #[.int .i64 (unP x), .int .i64 (unB x), .bool (unM' x), .int .i64 (unT x)], .int .i64 (unE x)]) (by simp [results, Try.results18, go_sem, d0, d1, d2, d3]) rfl ⟨rfl, ?_⟩
  exact (((HB2.out.setCell (p := ⟨w.heap.size, 0, none⟩) (Nat.le_refl _) _).setCell (p := ⟨w.heap.size, 1, none⟩) (Nat.le_refl _) _).setCell (p := ⟨w.heap.size, 2, none⟩) (Nat.le_refl _) _).setCell (p := ⟨w.heap.size, 3, none⟩) (Nat.le_refl _) _
theorem rhead_out (w : World) (R b t e c N : Nat) (A : Option Addr) (hr : Bk w R 33 #[.slice A N c, .int .i64 b, .int .i64 t, .int .i64 e]) (i : Int) (hi : i < (b : Int) ∨ (¬ i < (b : Int) ∧ (t : Int) ≤ i)) :
    Calls Try.prog 18 #[.pointer (some ⟨R, 0, none⟩), .int .i64 i] w (RetP (.tuple #[.agg #[.int .i64 0, .int .i64 0, .bool false, .int .i64 0], .int .i64 1]) w) := by
  have hb := Gw.alloc w (.cells #[.int .i64 0, .int .i64 0, .bool false, .int .i64 0] 40)
  have hr1 := hr.below hb hr.lt
  have c0 := hr1.cell 0
  have c1 := hr1.cell 1
  have c2 := hr1.cell 2
  have hk := Bk.new w 40 #[.int .i64 0, .int .i64 0, .bool false, .int .i64 0]
  have f0 := hk.free 0
  have f1 := hk.free 1
  have f2 := hk.free 2
  have f3 := hk.free 3
  clear hr hr1 hk
  rcases hi with h1 | ⟨h1, h2⟩
  all_goals
    go_enter Try.func18, Try.ntmps18
    go_wp2_with fail
    refine bodyPost_ret (v := .tuple #[.agg #[.int .i64 0, .int .i64 0, .bool false, .int .i64 0], .int .i64 1]) (by simp [results, Try.results18, go_sem]) rfl ⟨rfl, Gw.alloc w _⟩
end Go.Proofs.Ytgjnencpdafkoaa
