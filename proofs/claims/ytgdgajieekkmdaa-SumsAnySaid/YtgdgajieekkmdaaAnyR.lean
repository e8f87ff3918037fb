/- The last region of SumsAny. Conditions: lengths. -/
import Derived.Test.YtgdgajieekkmdaaCrcF
import Derived.Test.YtgdgajieekkmdaaOpenP
namespace Go.Proofs.Ytgdgajieekkmdaa
open Go.RowKit
theorem of_ret {P : Program} {f : FuncId} {args : Array Value} {v : Value} {w : World} (h : Calls P f args w (RetP v w)) : Calls P f args w fun e w2 => ∃ u, e = .returned u ∧ Below w.heap.size w w2 ∧ IsV v u w2 :=
  h.mono fun _ _ h => ⟨_, h.1, h.2, rfl⟩
theorem of_mk {P : Program} {g : FuncId} {args : Array Value} {α : Type} {f : α → Value} {E : TypeId} {xs : List α} {w : World} (h : Calls P g args w (MkP f E xs w)) : Calls P g args w fun e w2 => ∃ u, e = .returned u ∧ Below w.heap.size w w2 ∧ SlV f xs u w2 :=
  h.mono fun e w2 h => by
    obtain ⟨A, c, rfl, hc, ho, hb⟩ := h
    exact ⟨_, rfl, hb, A, c, rfl, hc, ho.rd⟩
theorem sum_all (ps : List Pt) (zs : List (BitVec 8)) (A : Option Addr) (c : Nat) (w : World) (hz : (ps.map Pt.l).flatten = zs) (hr : Rd Pt.v w w.heap.size A ps) (hp : ∀ p ∈ ps, Rd b8 w w.heap.size p.1 p.2.1 ∧ p.2.1.length ≤ 2147483648) (hl : ps.length ≤ 2147483648) :
    Calls Try.prog 16 #[.slice A ps.length c] w fun e w2 => ∃ u, e = .returned u ∧ Below w.heap.size w w2 ∧ IsV (.int .u32 (U32 (addC 0#32 zs))) u w2 := by
  have h := sum_c ps A c w hr hp hl
  have e : sumC (ps.map Pt.l) = addC 0#32 zs := by rw [← hz]; exact sumC_flat _ _
  rw [e] at h
  exact of_ret h
theorem rightL_seal (zs : List (BitVec 8)) : rightL (sealC zs) = true := by
  have hn : (sealC zs).length = zs.length + 4 := by simp [sealC, tailL]
  rw [rightL_yes _ (by omega), hn, Nat.add_sub_cancel]
  unfold sealC
  rw [List.take_left, List.drop_left]
  simp
theorem conv_sl {xs : List (BitVec 8)} {v : Value} {w : World} (h : SlV b8 xs v w) : (convert 23 9 v).run Try.prog w = .ok (.string (strB xs)) w := by
  obtain ⟨A, c, rfl, _, hr⟩ := h
  exact str_conv xs A c _ w hr
theorem right_sl (xs : List (BitVec 8)) (v : Value) (w : World) (h : SlV b8 xs v w) (hl : xs.length ≤ 1073741824) : Calls Try.prog 21 #[v] w (RetP (.bool (rightL xs)) w) := by
  obtain ⟨A, c, rfl, hc, hr⟩ := h
  exact right_l xs A c w hr hc hl
set_option maxRecDepth 100000
set_option maxHeartbeats 400000
theorem any_reg (Q : Exit → Act → World → Prop) (a0 : Act) (w : World) (A B Z : Option Addr) (ps : List Pt) (ys zs : List (BitVec 8)) (c d cz : Nat) (hz : Hid ((ps.map Pt.l).flatten = zs)) (ra : Rd Pt.v w w.heap.size A ps) (hp : Hid (∀ p ∈ ps, Rd b8 w w.heap.size p.1 p.2.1 ∧ p.2.1.length ≤ 300)) (hn : ps.length ≤ 20) (rb : Rd b8 w w.heap.size B ys) (hy : ys.length ≤ 1000) (hd : ys.length ≤ d) (rz : Rd b8 w w.heap.size Z zs) (hzl : zs.length ≤ 6000) (hs : a0.tmps.size = 75) (h0 : a0.tmps.getD 0 undef = .slice A ps.length c) (h1 : a0.tmps.getD 1 undef = .slice B ys.length d) (h5 : a0.tmps.getD 5 undef = .slice Z zs.length cz) (h6 : a0.tmps.getD 6 undef = .int .u32 (U32 (addC 0#32 zs)))
    (fin : ∀ (vals : Nat → Value) (w1 : World), Below w.heap.size w w1 → (IsV (.bool true)) (vals 32) w1 → Q .normal (putD vals [43, 44, 45, 46, 47, 48, 49, 50, 51, 52, 53, 54, 55, 56, 57, 58, 59, 60, 61, 62, 63, 64, 65, 66, 67, 68, 69, 70, 71, 72, 73, 74, 4] 0 a0) w1) :
    (Code.region 14 (regIn Try.f3 14) true).wp Try.prog Q a0 w := by
  refine region_by (G := fun w w1 => Below w.heap.size w w1) [IsV (.slice A ps.length c),
    IsV (.int .u32 (U32 (addC 0#32 zs))),
    IsV (.slice Z zs.length cz),
    IsV (.int .u32 (U32 (addC 0#32 zs))),
    IsV (.bool true),
    IsV (.bool true),
    IsV (.int .u32 (U32 (addC 0#32 zs))),
    IsV (.slice Z zs.length cz),
    IsV (.int .u32 (U32 (addC 0#32 zs))),
    IsV (.bool true),
    IsV (.bool true),
    IsV (.bool true),
    IsV (.slice Z zs.length cz),
    SlV b8 (sealC zs),
    IsV (.string (strB (sealC zs))),
    IsV (.slice Z zs.length cz),
    SlV b8 (sealC zs),
    IsV (.string (strB (sealC zs))),
    IsV (.bool true),
    IsV (.bool true),
    IsV (.bool true),
    IsV (.slice Z zs.length cz),
    SlV b8 (sealC zs),
    IsV (.bool true),
    IsV (.bool true),
    IsV (.bool true),
    IsV (.slice B ys.length d),
    IsV (.bool (rightL ys)),
    IsV (.slice B ys.length d),
    IsV (.bool (rightL ys)),
    IsV (.bool true),
    IsV (.bool true),
    IsV (.bool true)]
    [43, 44, 45, 46, 47, 48, 49, 50, 51, 52, 53, 54, 55, 56, 57, 58, 59, 60, 61, 62, 63, 64, 65, 66, 67, 68, 69, 70, 71, 72, 73, 74, 4] (by kernel_rfl) (Gw.drew _) Gw.trans (by rw [hs]; kernel_rfl) (by kernel_rfl) ?_ ?_ ?_
  · intro f hf
    simp only [List.mem_cons, List.not_mem_nil, or_false] at hf
    rcases hf with rfl | rfl | rfl | rfl | rfl | rfl | rfl | rfl | rfl | rfl | rfl | rfl | rfl | rfl | rfl | rfl | rfl | rfl | rfl | rfl | rfl | rfl | rfl | rfl | rfl | rfl | rfl | rfl | rfl | rfl | rfl | rfl | rfl <;> intro v a b h g <;> first | exact IsV.mono h | exact SlV.mono h g
  · refine ⟨?_, ?_, ?_, ?_, ?_, ?_, ?_, ?_, ?_, ?_, ?_, ?_, ?_, ?_, ?_, ?_, ?_, ?_, ?_, ?_, ?_, ?_, ?_, ?_, ?_, ?_, ?_, ?_, ?_, ?_, ?_, ?_, ?_, trivial⟩
    · exact owes_mv 0 (by kernel_rfl) (by kernel_rfl) (by kernel_rfl) h0 (fun _ => rfl)
    · refine owes_v (Go.Op.call { callee := Go.Callee.value (Go.Operand.func 16), args := #[Go.Operand.tmp 43], argTypes := #[22] }) 25 [0] (by kernel_rfl) (by kernel_rfl) (by kernel_rfl) rfl fun vals w1 ρ hG hF hρ hcst hfun => ?_
      have e43 : ρ (.tmp 43) = .slice A ps.length c := ((hρ 43).trans (slotJ [0] (by rw [hs]; decide) (by kernel_rfl))).trans (hF 0 (by decide))
      clear hρ hF hcst h0 h1 h5 h6 fin
      exact opv_enter (by go_simp <;> rfl) (sum_all ps zs A c w1 hz.out ((ra.below hG).more hG.size) (fun p h => ⟨((hp.out p h).1.below hG).more hG.size, by have := (hp.out p h).2; omega⟩) (by omega))
    · exact owes_mv 5 (by kernel_rfl) (by kernel_rfl) (by kernel_rfl) h5 (fun _ => rfl)
    · refine owes_v (Go.Op.call { callee := Go.Callee.value (Go.Operand.func 18), args := #[Go.Operand.tmp 45], argTypes := #[23] }) 25 [2] (by kernel_rfl) (by kernel_rfl) (by kernel_rfl) rfl fun vals w1 ρ hG hF hρ hcst hfun => ?_
      have e45 : ρ (.tmp 45) = .slice Z zs.length cz := ((hρ 45).trans (slotJ [2] (by rw [hs]; decide) (by kernel_rfl))).trans (hF 2 (by decide))
      clear hρ hF hcst h0 h1 h5 h6 fin
      exact opv_enter (by go_simp <;> rfl) (sum_r zs Z cz _ w1 rfl ((rz.below hG).more hG.size) (by omega))
    · refine owes_v (Go.Op.binOp Go.BinOp.eql 25 (Go.Operand.tmp 44) (Go.Operand.tmp 46) 25) 4 [1, 3] (by kernel_rfl) (by kernel_rfl) (by kernel_rfl) rfl fun vals w1 ρ hG hF hρ hcst hfun => ?_
      have e44 : ρ (.tmp 44) = .int .u32 (U32 (addC 0#32 zs)) := ((hρ 44).trans (slotJ [1, 3] (by rw [hs]; decide) (by kernel_rfl))).trans (hF 1 (by decide))
      have e46 : ρ (.tmp 46) = .int .u32 (U32 (addC 0#32 zs)) := ((hρ 46).trans (slotJ [1, 3] (by rw [hs]; decide) (by kernel_rfl))).trans (hF 3 (by decide))
      clear hρ hF hcst hfun h0 h1 h5 h6 fin
      exact opv_val (by go_simp <;> rfl) ⟨gw_self _, rfl⟩
    · exact owes_mvj 4 47 (by kernel_rfl) (by kernel_rfl) (by kernel_rfl) (by kernel_rfl) (by rw [hs]; decide) (fun v w h => h)
    · refine owes_vt 5 true (Go.Op.move (Go.Operand.tmp 6)) 25 [] (by kernel_rfl) (by kernel_rfl) (by kernel_rfl) (fun _ _ h => h) (by rw [hs]; kernel_rfl) (by kernel_rfl) rfl fun vals w1 ρ hG hF hρ hcst hfun => ?_
      have e6 : ρ (.tmp 6) = .int .u32 (U32 (addC 0#32 zs)) := ((hρ 6).trans (slotO [] (by kernel_rfl))).trans h6
      clear hρ hF hcst hfun h0 h1 h5 h6 fin
      exact opv_val (by go_simp <;> rfl) ⟨gw_self _, rfl⟩
    · refine owes_vt 5 true (Go.Op.move (Go.Operand.tmp 5)) 23 [] (by kernel_rfl) (by kernel_rfl) (by kernel_rfl) (fun _ _ h => h) (by rw [hs]; kernel_rfl) (by kernel_rfl) rfl fun vals w1 ρ hG hF hρ hcst hfun => ?_
      have e5 : ρ (.tmp 5) = .slice Z zs.length cz := ((hρ 5).trans (slotO [] (by kernel_rfl))).trans h5
      clear hρ hF hcst hfun h0 h1 h5 h6 fin
      exact opv_val (by go_simp <;> rfl) ⟨gw_self _, rfl⟩
    · refine owes_vt 5 true (Go.Op.call { callee := Go.Callee.value (Go.Operand.func 18), args := #[Go.Operand.tmp 50], argTypes := #[23] }) 25 [7] (by kernel_rfl) (by kernel_rfl) (by kernel_rfl) (fun _ _ h => h) (by rw [hs]; kernel_rfl) (by kernel_rfl) rfl fun vals w1 ρ hG hF hρ hcst hfun => ?_
      have e50 : ρ (.tmp 50) = .slice Z zs.length cz := ((hρ 50).trans (slotJ [7] (by rw [hs]; decide) (by kernel_rfl))).trans (hF 7 (by decide))
      clear hρ hF hcst h0 h1 h5 h6 fin
      exact opv_enter (by go_simp <;> rfl) (sum_r zs Z cz _ w1 rfl ((rz.below hG).more hG.size) (by omega))
    · refine owes_vt 5 true (Go.Op.binOp Go.BinOp.eql 25 (Go.Operand.tmp 49) (Go.Operand.tmp 51) 25) 4 [6, 8] (by kernel_rfl) (by kernel_rfl) (by kernel_rfl) (fun _ _ h => h) (by rw [hs]; kernel_rfl) (by kernel_rfl) rfl fun vals w1 ρ hG hF hρ hcst hfun => ?_
      have e49 : ρ (.tmp 49) = .int .u32 (U32 (addC 0#32 zs)) := ((hρ 49).trans (slotJ [6, 8] (by rw [hs]; decide) (by kernel_rfl))).trans (hF 6 (by decide))
      have e51 : ρ (.tmp 51) = .int .u32 (U32 (addC 0#32 zs)) := ((hρ 51).trans (slotJ [6, 8] (by rw [hs]; decide) (by kernel_rfl))).trans (hF 8 (by decide))
      clear hρ hF hcst hfun h0 h1 h5 h6 fin
      exact opv_val (by go_simp <;> rfl) ⟨gw_self _, rfl⟩
    · refine owes_v (Go.Op.pick (Go.Operand.tmp 48) (Go.Operand.tmp 52) (Go.Operand.const (Go.Value.bool false))) 4 [5, 9] (by kernel_rfl) (by kernel_rfl) (by kernel_rfl) rfl fun vals w1 ρ hG hF hρ hcst hfun => ?_
      have e48 : ρ (.tmp 48) = .bool true := ((hρ 48).trans (slotJ [5, 9] (by rw [hs]; decide) (by kernel_rfl))).trans (hF 5 (by decide))
      have e52 : ρ (.tmp 52) = .bool true := ((hρ 52).trans (slotJ [5, 9] (by rw [hs]; decide) (by kernel_rfl))).trans (hF 9 (by decide))
      clear hρ hF hfun h0 h1 h5 h6 fin
      exact opv_val (by go_simp <;> rfl) ⟨gw_self _, rfl⟩
    · exact owes_mvj 10 53 (by kernel_rfl) (by kernel_rfl) (by kernel_rfl) (by kernel_rfl) (by rw [hs]; decide) (fun v w h => h)
    · refine owes_vt 11 true (Go.Op.move (Go.Operand.tmp 5)) 23 [] (by kernel_rfl) (by kernel_rfl) (by kernel_rfl) (fun _ _ h => h) (by rw [hs]; kernel_rfl) (by kernel_rfl) rfl fun vals w1 ρ hG hF hρ hcst hfun => ?_
      have e5 : ρ (.tmp 5) = .slice Z zs.length cz := ((hρ 5).trans (slotO [] (by kernel_rfl))).trans h5
      clear hρ hF hcst hfun h0 h1 h5 h6 fin
      exact opv_val (by go_simp <;> rfl) ⟨gw_self _, rfl⟩
    · refine owes_vt 11 true (Go.Op.call { callee := Go.Callee.value (Go.Operand.func 19), args := #[Go.Operand.tmp 55], argTypes := #[23] }) 23 [12] (by kernel_rfl) (by kernel_rfl) (by kernel_rfl) (fun _ _ h => h) (by rw [hs]; kernel_rfl) (by kernel_rfl) rfl fun vals w1 ρ hG hF hρ hcst hfun => ?_
      have e55 : ρ (.tmp 55) = .slice Z zs.length cz := ((hρ 55).trans (slotJ [12] (by rw [hs]; decide) (by kernel_rfl))).trans (hF 12 (by decide))
      clear hρ hF hcst h0 h1 h5 h6 fin
      exact opv_enter (by go_simp <;> rfl) (of_mk (seal_c zs Z cz w1 ((rz.below hG).more hG.size) (by omega)))
    · refine owes_vt 11 true (Go.Op.convert 23 9 (Go.Operand.tmp 56)) 9 [13] (by kernel_rfl) (by kernel_rfl) (by kernel_rfl) (fun _ _ h => h) (by rw [hs]; kernel_rfl) (by kernel_rfl) rfl fun vals w1 ρ hG hF hρ hcst hfun => ?_
      have f56 : (SlV b8 (sealC zs)) (vals 13) w1 := hF 13 (by decide)
      have e56 : ρ (.tmp 56) = vals 13 := (hρ 56).trans (slotJ [13] (by rw [hs]; decide) (by kernel_rfl))
      have k := conv_sl f56
      clear hρ hF hcst hfun h0 h1 h5 h6 fin
      exact opv_val (by go_simp <;> rfl) ⟨gw_self _, rfl⟩
    · refine owes_vt 11 true (Go.Op.move (Go.Operand.tmp 5)) 23 [] (by kernel_rfl) (by kernel_rfl) (by kernel_rfl) (fun _ _ h => h) (by rw [hs]; kernel_rfl) (by kernel_rfl) rfl fun vals w1 ρ hG hF hρ hcst hfun => ?_
      have e5 : ρ (.tmp 5) = .slice Z zs.length cz := ((hρ 5).trans (slotO [] (by kernel_rfl))).trans h5
      clear hρ hF hcst hfun h0 h1 h5 h6 fin
      exact opv_val (by go_simp <;> rfl) ⟨gw_self _, rfl⟩
    · refine owes_vt 11 true (Go.Op.call { callee := Go.Callee.value (Go.Operand.func 20), args := #[Go.Operand.tmp 58], argTypes := #[23] }) 23 [15] (by kernel_rfl) (by kernel_rfl) (by kernel_rfl) (fun _ _ h => h) (by rw [hs]; kernel_rfl) (by kernel_rfl) rfl fun vals w1 ρ hG hF hρ hcst hfun => ?_
      have e58 : ρ (.tmp 58) = .slice Z zs.length cz := ((hρ 58).trans (slotJ [15] (by rw [hs]; decide) (by kernel_rfl))).trans (hF 15 (by decide))
      clear hρ hF hcst h0 h1 h5 h6 fin
      exact opv_enter (by go_simp <;> rfl) (of_mk (rseal_c zs Z cz w1 ((rz.below hG).more hG.size) (by omega)))
    · refine owes_vt 11 true (Go.Op.convert 23 9 (Go.Operand.tmp 59)) 9 [16] (by kernel_rfl) (by kernel_rfl) (by kernel_rfl) (fun _ _ h => h) (by rw [hs]; kernel_rfl) (by kernel_rfl) rfl fun vals w1 ρ hG hF hρ hcst hfun => ?_
      have f59 : (SlV b8 (sealC zs)) (vals 16) w1 := hF 16 (by decide)
      have e59 : ρ (.tmp 59) = vals 16 := (hρ 59).trans (slotJ [16] (by rw [hs]; decide) (by kernel_rfl))
      have k := conv_sl f59
      clear hρ hF hcst hfun h0 h1 h5 h6 fin
      exact opv_val (by go_simp <;> rfl) ⟨gw_self _, rfl⟩
    · refine owes_vt 11 true (Go.Op.binOp Go.BinOp.eql 9 (Go.Operand.tmp 57) (Go.Operand.tmp 60) 9) 4 [14, 17] (by kernel_rfl) (by kernel_rfl) (by kernel_rfl) (fun _ _ h => h) (by rw [hs]; kernel_rfl) (by kernel_rfl) rfl fun vals w1 ρ hG hF hρ hcst hfun => ?_
      have e57 : ρ (.tmp 57) = .string (strB (sealC zs)) := ((hρ 57).trans (slotJ [14, 17] (by rw [hs]; decide) (by kernel_rfl))).trans (hF 14 (by decide))
      have e60 : ρ (.tmp 60) = .string (strB (sealC zs)) := ((hρ 60).trans (slotJ [14, 17] (by rw [hs]; decide) (by kernel_rfl))).trans (hF 17 (by decide))
      clear hρ hF hcst hfun h0 h1 h5 h6 fin
      exact opv_val (by go_simp <;> rfl) ⟨gw_self _, rfl⟩
    · refine owes_v (Go.Op.pick (Go.Operand.tmp 54) (Go.Operand.tmp 61) (Go.Operand.const (Go.Value.bool false))) 4 [11, 18] (by kernel_rfl) (by kernel_rfl) (by kernel_rfl) rfl fun vals w1 ρ hG hF hρ hcst hfun => ?_
      have e54 : ρ (.tmp 54) = .bool true := ((hρ 54).trans (slotJ [11, 18] (by rw [hs]; decide) (by kernel_rfl))).trans (hF 11 (by decide))
      have e61 : ρ (.tmp 61) = .bool true := ((hρ 61).trans (slotJ [11, 18] (by rw [hs]; decide) (by kernel_rfl))).trans (hF 18 (by decide))
      clear hρ hF hfun h0 h1 h5 h6 fin
      exact opv_val (by go_simp <;> rfl) ⟨gw_self _, rfl⟩
    · exact owes_mvj 19 62 (by kernel_rfl) (by kernel_rfl) (by kernel_rfl) (by kernel_rfl) (by rw [hs]; decide) (fun v w h => h)
    · refine owes_vt 20 true (Go.Op.move (Go.Operand.tmp 5)) 23 [] (by kernel_rfl) (by kernel_rfl) (by kernel_rfl) (fun _ _ h => h) (by rw [hs]; kernel_rfl) (by kernel_rfl) rfl fun vals w1 ρ hG hF hρ hcst hfun => ?_
      have e5 : ρ (.tmp 5) = .slice Z zs.length cz := ((hρ 5).trans (slotO [] (by kernel_rfl))).trans h5
      clear hρ hF hcst hfun h0 h1 h5 h6 fin
      exact opv_val (by go_simp <;> rfl) ⟨gw_self _, rfl⟩
    · refine owes_vt 20 true (Go.Op.call { callee := Go.Callee.value (Go.Operand.func 19), args := #[Go.Operand.tmp 64], argTypes := #[23] }) 23 [21] (by kernel_rfl) (by kernel_rfl) (by kernel_rfl) (fun _ _ h => h) (by rw [hs]; kernel_rfl) (by kernel_rfl) rfl fun vals w1 ρ hG hF hρ hcst hfun => ?_
      have e64 : ρ (.tmp 64) = .slice Z zs.length cz := ((hρ 64).trans (slotJ [21] (by rw [hs]; decide) (by kernel_rfl))).trans (hF 21 (by decide))
      clear hρ hF hcst h0 h1 h5 h6 fin
      exact opv_enter (by go_simp <;> rfl) (of_mk (seal_c zs Z cz w1 ((rz.below hG).more hG.size) (by omega)))
    · refine owes_vt 20 true (Go.Op.call { callee := Go.Callee.value (Go.Operand.func 21), args := #[Go.Operand.tmp 65], argTypes := #[23] }) 4 [22] (by kernel_rfl) (by kernel_rfl) (by kernel_rfl) (fun _ _ h => h) (by rw [hs]; kernel_rfl) (by kernel_rfl) rfl fun vals w1 ρ hG hF hρ hcst hfun => ?_
      have f65 : (SlV b8 (sealC zs)) (vals 22) w1 := hF 22 (by decide)
      have e65 : ρ (.tmp 65) = vals 22 := (hρ 65).trans (slotJ [22] (by rw [hs]; decide) (by kernel_rfl))
      clear hρ hF hcst h0 h1 h5 h6 fin
      exact opv_enter (by go_simp <;> rfl) (of_ret (rightL_seal zs ▸ right_sl (sealC zs) _ w1 f65 (by simp [sealC, tailL]; omega)))
    · refine owes_v (Go.Op.pick (Go.Operand.tmp 63) (Go.Operand.tmp 66) (Go.Operand.const (Go.Value.bool false))) 4 [20, 23] (by kernel_rfl) (by kernel_rfl) (by kernel_rfl) rfl fun vals w1 ρ hG hF hρ hcst hfun => ?_
      have e63 : ρ (.tmp 63) = .bool true := ((hρ 63).trans (slotJ [20, 23] (by rw [hs]; decide) (by kernel_rfl))).trans (hF 20 (by decide))
      have e66 : ρ (.tmp 66) = .bool true := ((hρ 66).trans (slotJ [20, 23] (by rw [hs]; decide) (by kernel_rfl))).trans (hF 23 (by decide))
      clear hρ hF hfun h0 h1 h5 h6 fin
      exact opv_val (by go_simp <;> rfl) ⟨gw_self _, rfl⟩
    · exact owes_mvj 24 67 (by kernel_rfl) (by kernel_rfl) (by kernel_rfl) (by kernel_rfl) (by rw [hs]; decide) (fun v w h => h)
    · refine owes_vt 25 true (Go.Op.move (Go.Operand.tmp 1)) 23 [] (by kernel_rfl) (by kernel_rfl) (by kernel_rfl) (fun _ _ h => h) (by rw [hs]; kernel_rfl) (by kernel_rfl) rfl fun vals w1 ρ hG hF hρ hcst hfun => ?_
      have e1 : ρ (.tmp 1) = .slice B ys.length d := ((hρ 1).trans (slotO [] (by kernel_rfl))).trans h1
      clear hρ hF hcst hfun h0 h1 h5 h6 fin
      exact opv_val (by go_simp <;> rfl) ⟨gw_self _, rfl⟩
    · refine owes_vt 25 true (Go.Op.call { callee := Go.Callee.value (Go.Operand.func 21), args := #[Go.Operand.tmp 69], argTypes := #[23] }) 4 [26] (by kernel_rfl) (by kernel_rfl) (by kernel_rfl) (fun _ _ h => h) (by rw [hs]; kernel_rfl) (by kernel_rfl) rfl fun vals w1 ρ hG hF hρ hcst hfun => ?_
      have e69 : ρ (.tmp 69) = .slice B ys.length d := ((hρ 69).trans (slotJ [26] (by rw [hs]; decide) (by kernel_rfl))).trans (hF 26 (by decide))
      clear hρ hF hcst h0 h1 h5 h6 fin
      exact opv_enter (by go_simp <;> rfl) (of_ret (right_l ys B d w1 ((rb.below hG).more hG.size) hd (by omega)))
    · refine owes_vt 25 true (Go.Op.move (Go.Operand.tmp 1)) 23 [] (by kernel_rfl) (by kernel_rfl) (by kernel_rfl) (fun _ _ h => h) (by rw [hs]; kernel_rfl) (by kernel_rfl) rfl fun vals w1 ρ hG hF hρ hcst hfun => ?_
      have e1 : ρ (.tmp 1) = .slice B ys.length d := ((hρ 1).trans (slotO [] (by kernel_rfl))).trans h1
      clear hρ hF hcst hfun h0 h1 h5 h6 fin
      exact opv_val (by go_simp <;> rfl) ⟨gw_self _, rfl⟩
    · refine owes_vt 25 true (Go.Op.call { callee := Go.Callee.value (Go.Operand.func 22), args := #[Go.Operand.tmp 71], argTypes := #[23] }) 4 [28] (by kernel_rfl) (by kernel_rfl) (by kernel_rfl) (fun _ _ h => h) (by rw [hs]; kernel_rfl) (by kernel_rfl) rfl fun vals w1 ρ hG hF hρ hcst hfun => ?_
      have e71 : ρ (.tmp 71) = .slice B ys.length d := ((hρ 71).trans (slotJ [28] (by rw [hs]; decide) (by kernel_rfl))).trans (hF 28 (by decide))
      clear hρ hF hcst h0 h1 h5 h6 fin
      exact opv_enter (by go_simp <;> rfl) (of_ret (rright_c ys B d w1 ((rb.below hG).more hG.size) hd (by omega)))
    · refine owes_vt 25 true (Go.Op.binOp Go.BinOp.eql 4 (Go.Operand.tmp 70) (Go.Operand.tmp 72) 4) 4 [27, 29] (by kernel_rfl) (by kernel_rfl) (by kernel_rfl) (fun _ _ h => h) (by rw [hs]; kernel_rfl) (by kernel_rfl) rfl fun vals w1 ρ hG hF hρ hcst hfun => ?_
      have e70 : ρ (.tmp 70) = .bool (rightL ys) := ((hρ 70).trans (slotJ [27, 29] (by rw [hs]; decide) (by kernel_rfl))).trans (hF 27 (by decide))
      have e72 : ρ (.tmp 72) = .bool (rightL ys) := ((hρ 72).trans (slotJ [27, 29] (by rw [hs]; decide) (by kernel_rfl))).trans (hF 29 (by decide))
      clear hρ hF hcst hfun h0 h1 h5 h6 fin
      exact opv_val (by go_simp <;> rfl) ⟨gw_self _, rfl⟩
    · refine owes_v (Go.Op.pick (Go.Operand.tmp 68) (Go.Operand.tmp 73) (Go.Operand.const (Go.Value.bool false))) 4 [25, 30] (by kernel_rfl) (by kernel_rfl) (by kernel_rfl) rfl fun vals w1 ρ hG hF hρ hcst hfun => ?_
      have e68 : ρ (.tmp 68) = .bool true := ((hρ 68).trans (slotJ [25, 30] (by rw [hs]; decide) (by kernel_rfl))).trans (hF 25 (by decide))
      have e73 : ρ (.tmp 73) = .bool true := ((hρ 73).trans (slotJ [25, 30] (by rw [hs]; decide) (by kernel_rfl))).trans (hF 30 (by decide))
      clear hρ hF hfun h0 h1 h5 h6 fin
      exact opv_val (by go_simp <;> rfl) ⟨gw_self _, rfl⟩
    · exact owes_mvj 31 74 (by kernel_rfl) (by kernel_rfl) (by kernel_rfl) (by kernel_rfl) (by rw [hs]; decide) (fun v w h => h)
  · intro vals w1 hG hF
    exact fin vals w1 hG (hF 32 (by decide +kernel))
end Go.Proofs.Ytgdgajieekkmdaa
