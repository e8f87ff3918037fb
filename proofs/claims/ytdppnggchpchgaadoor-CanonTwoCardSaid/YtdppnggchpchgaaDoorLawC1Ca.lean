/- The law CanonTwo of layer 18 returns true for every argument. -/
import Derived.Test.YtdppnggchpchgaaDoorCa9
namespace Go.Proofs.YtdppnggchpchgaaDoor
set_option linter.unusedVariables false
set_option linter.unusedSimpArgs false
open Go.RowKit Go.Maps
theorem sameC_comm (a b : Gv) : sameC b a = sameC a b := by
  have h : sameC b a = true ↔ sameC a b = true := by
    unfold sameC
    rw [Bool.and_eq_true, Bool.and_eq_true, sameR_iff, sameR_iff, decide_eq_true_iff, decide_eq_true_iff]
    exact ⟨fun h => ⟨h.1.symm, h.2.symm⟩, fun h => ⟨h.1.symm, h.2.symm⟩⟩
  cases h1 : sameC b a <;> cases h2 : sameC a b <;> simp_all
theorem can_few {g : Gv} (hf : FewP g) (c : Gv) (h1 : c.n.map Nv.m = canM g) (h2 : c.r = canR g) : FewP c := hf.pick (walkL_nd _ _).2 (walkL_nd _ _).1 h1 h2
theorem reqc_p {W : World} {a b : Gv} {u v : Value} {p : Bool} (hf : FewP a) (hp : sameC a b = p) (ha : CnV (canM a) (canR a) u W) (hb : CnV (canM b) (canR b) v W) : Calls Tryd.prog 12 #[u, v] W (RetP (.bool p) W) := by
  obtain ⟨g1, rfl, h1, m1, r1⟩ := ha
  obtain ⟨g2, rfl, h2, m2, r2⟩ := hb
  have k := req_c W g1 g2 h1 h2 (can_few hf g1 m1 r1)
  unfold sameG sameNs at k
  rw [m1, m2, r1, r2] at k
  rw [← hp]
  exact k
theorem rcan_k {W : World} {g : Gv} {v : Value} (hf : FewP g) (h0 : ckG g = 0) (h : OfV g v W) : Calls Tryd.prog 13 #[v] W fun e w2 => ∃ u, e = .returned u ∧ Below W.heap.size W w2 ∧ CnV (canM g) (canR g) u w2 :=
  can_k hf (ck_ok h0).1 (ck_ok h0).2 rfl rfl h
theorem csame_k {W : World} {a b : Gv} {u v : Value} {p : Bool} (ea : a.v = u) (eb : b.v = v) (oa : CanOk a) (ob : CanOk b) (hp : sameC a b = p) (ha : a.At W W.heap.size) (hb : b.At W W.heap.size) : Calls Tryd.prog 21 #[u, v] W (RetP (.bool p) W) := by
  rw [← ea, ← eb, ← hp]
  exact csame_c W a b ha hb oa ob
theorem rck_k {W : World} {g : Gv} {v : Value} (hf : FewP g) (h : OfV g v W) : Calls Tryd.prog 9 #[v] W (RetP (.int .i64 (ckG g)) W) := by
  obtain ⟨g1, rfl, h1, n1, r1⟩ := h
  have k := rcheck_c W g1 h1 (hf.same (by rw [n1]) r1)
  rw [show ckG g1 = ckG g from by unfold ckG; rw [n1, r1]] at k
  exact k
set_option maxHeartbeats 8000000
set_option maxRecDepth 100000
theorem ct6 (Q : Exit → Act → World → Prop) (a0 : Act) (w : World) (sa sb : Nat) (a b : Gv) (A A2 B B2 : Option Addr) (N M K L a1 a2 b1 b2 : Nat) (p : Bool) (hva : a.v = .agg #[.slice A N a1, .slice A2 M a2]) (hvb : b.v = .agg #[.slice B K b1, .slice B2 L b2]) (hfa : FewP a) (hfb : FewP b) (h0a : ckG a = 0) (h0b : ckG b = 0) (ha : Hid (GBx w sa a (.slice A N a1) (.slice A2 M a2))) (hb : Hid (GBx w sb b (.slice B K b1) (.slice B2 L b2))) (hp : Hid (sameC a b = p)) (hp2 : Hid (sameC b a = p)) (hpp : (p == p) = true) (hsz : a0.tmps.size = 47) (sl2 : a0.tmps.getD 2 undef = .pointer (some ⟨sa, 0, none⟩)) (sl3 : a0.tmps.getD 3 undef = .pointer (some ⟨sb, 0, none⟩)) (sl5 : a0.tmps.getD 5 undef = .bool p)
    (fin : ∀ (vals : Nat → Value) (w1 : World), Below w.heap.size w w1 → (IsV (.bool true)) (vals 16) w1 → Q .normal (putD vals [31, 32, 33, 34, 35, 36, 37, 38, 39, 40, 41, 42, 43, 44, 45, 46, 4] 0 a0) w1) :
    (Code.region 6 (regIn Tryd.f4 6) true).wp Tryd.prog Q a0 w := by
  refine region_by (G := fun w w1 => Below w.heap.size w w1) [IsV (.bool p),
    IsV (.agg #[.slice A N a1, .slice A2 M a2]),
    OfV a,
    CnV (canM a) (canR a),
    IsV (.agg #[.slice B K b1, .slice B2 L b2]),
    OfV b,
    CnV (canM b) (canR b),
    IsV (.bool p),
    IsV (.bool true),
    IsV (.bool true),
    IsV (.bool p),
    IsV (.agg #[.slice B K b1, .slice B2 L b2]),
    IsV (.agg #[.slice A N a1, .slice A2 M a2]),
    IsV (.bool p),
    IsV (.bool true),
    IsV (.bool true),
    IsV (.bool true)]
    [31, 32, 33, 34, 35, 36, 37, 38, 39, 40, 41, 42, 43, 44, 45, 46, 4] (by kernel_rfl) (Gw.drew _) Gw.trans (by rw [hsz]; kernel_rfl) (by kernel_rfl) ?_ ?_ ?_
  · intro f hf
    simp only [List.mem_cons, List.not_mem_nil, or_false] at hf
    rcases hf with rfl | rfl | rfl | rfl | rfl | rfl | rfl | rfl | rfl | rfl | rfl | rfl | rfl | rfl | rfl | rfl | rfl <;> intro v a b h g <;> first | exact IsV.mono h | exact OfV.mono h g | exact CnV.mono h g
  · refine ⟨?_, ?_, ?_, ?_, ?_, ?_, ?_, ?_, ?_, ?_, ?_, ?_, ?_, ?_, ?_, ?_, ?_, trivial⟩
    · exact owes_mv 5 (by kernel_rfl) (by kernel_rfl) (by kernel_rfl) sl5 (fun _ => rfl)
    · refine owes_v (Go.Op.load 25 (Go.Operand.tmp 2)) 25 [] (by kernel_rfl) (by kernel_rfl) (by kernel_rfl) rfl fun vals w1 ρ hG hF hρ hcst hfun => ?_
      have e2 : ρ (.tmp 2) = .pointer (some ⟨sa, 0, none⟩) := ((hρ 2).trans (slotO [] (by kernel_rfl))).trans sl2
      obtain ⟨d0, d1, _⟩ := ha.out w1 hG
      clear hρ hF hcst hfun sl2 sl3 sl5 fin
      exact opv_val (by go_simp <;> rfl) ⟨gw_self _, rfl⟩
    · refine owes_v (Go.Op.call { callee := Go.Callee.value (Go.Operand.func 10), args := #[Go.Operand.tmp 32], argTypes := #[25] }) 32 [1] (by kernel_rfl) (by kernel_rfl) (by kernel_rfl) rfl fun vals w1 ρ hG hF hρ hcst hfun => ?_
      have e32 : ρ (.tmp 32) = .agg #[.slice A N a1, .slice A2 M a2] := ((hρ 32).trans (slotJ [1] (by rw [hsz]; decide) (by kernel_rfl))).trans (hF 1 (by decide))
      clear hρ hF hcst sl2 sl3 sl5 fin
      exact opv_enter (by go_simp <;> rfl) (of_k hva hfa (ha.out w1 hG).2.2)
    · refine owes_v (Go.Op.call { callee := Go.Callee.value (Go.Operand.func 13), args := #[Go.Operand.tmp 33], argTypes := #[32] }) 32 [2] (by kernel_rfl) (by kernel_rfl) (by kernel_rfl) rfl fun vals w1 ρ hG hF hρ hcst hfun => ?_
      have f33 : (OfV a) (vals 2) w1 := hF 2 (by decide)
      have e33 : ρ (.tmp 33) = vals 2 := (hρ 33).trans (slotJ [2] (by rw [hsz]; decide) (by kernel_rfl))
      clear hρ hF hcst sl2 sl3 sl5 fin
      exact opv_enter (by go_simp <;> rfl) (rcan_k hfa h0a f33)
    · refine owes_v (Go.Op.load 25 (Go.Operand.tmp 3)) 25 [] (by kernel_rfl) (by kernel_rfl) (by kernel_rfl) rfl fun vals w1 ρ hG hF hρ hcst hfun => ?_
      have e3 : ρ (.tmp 3) = .pointer (some ⟨sb, 0, none⟩) := ((hρ 3).trans (slotO [] (by kernel_rfl))).trans sl3
      obtain ⟨d0, d1, _⟩ := hb.out w1 hG
      clear hρ hF hcst hfun sl2 sl3 sl5 fin
      exact opv_val (by go_simp <;> rfl) ⟨gw_self _, rfl⟩
    · refine owes_v (Go.Op.call { callee := Go.Callee.value (Go.Operand.func 10), args := #[Go.Operand.tmp 35], argTypes := #[25] }) 32 [4] (by kernel_rfl) (by kernel_rfl) (by kernel_rfl) rfl fun vals w1 ρ hG hF hρ hcst hfun => ?_
      have e35 : ρ (.tmp 35) = .agg #[.slice B K b1, .slice B2 L b2] := ((hρ 35).trans (slotJ [4] (by rw [hsz]; decide) (by kernel_rfl))).trans (hF 4 (by decide))
      clear hρ hF hcst sl2 sl3 sl5 fin
      exact opv_enter (by go_simp <;> rfl) (of_k hvb hfb (hb.out w1 hG).2.2)
    · refine owes_v (Go.Op.call { callee := Go.Callee.value (Go.Operand.func 13), args := #[Go.Operand.tmp 36], argTypes := #[32] }) 32 [5] (by kernel_rfl) (by kernel_rfl) (by kernel_rfl) rfl fun vals w1 ρ hG hF hρ hcst hfun => ?_
      have f36 : (OfV b) (vals 5) w1 := hF 5 (by decide)
      have e36 : ρ (.tmp 36) = vals 5 := (hρ 36).trans (slotJ [5] (by rw [hsz]; decide) (by kernel_rfl))
      clear hρ hF hcst sl2 sl3 sl5 fin
      exact opv_enter (by go_simp <;> rfl) (rcan_k hfb h0b f36)
    · refine owes_v (Go.Op.call { callee := Go.Callee.value (Go.Operand.func 12), args := #[Go.Operand.tmp 34, Go.Operand.tmp 37], argTypes := #[32, 32] }) 4 [3, 6] (by kernel_rfl) (by kernel_rfl) (by kernel_rfl) rfl fun vals w1 ρ hG hF hρ hcst hfun => ?_
      have f34 : (CnV (canM a) (canR a)) (vals 3) w1 := hF 3 (by decide)
      have e34 : ρ (.tmp 34) = vals 3 := (hρ 34).trans (slotJ [3, 6] (by rw [hsz]; decide) (by kernel_rfl))
      have f37 : (CnV (canM b) (canR b)) (vals 6) w1 := hF 6 (by decide)
      have e37 : ρ (.tmp 37) = vals 6 := (hρ 37).trans (slotJ [3, 6] (by rw [hsz]; decide) (by kernel_rfl))
      clear hρ hF hcst sl2 sl3 sl5 fin
      exact opv_enter (by go_simp <;> rfl) (of_retK (reqc_p hfa hp.out f34 f37))
    · refine owes_v (Go.Op.binOp Go.BinOp.eql 4 (Go.Operand.tmp 31) (Go.Operand.tmp 38) 4) 4 [0, 7] (by kernel_rfl) (by kernel_rfl) (by kernel_rfl) rfl fun vals w1 ρ hG hF hρ hcst hfun => ?_
      have e31 : ρ (.tmp 31) = .bool p := ((hρ 31).trans (slotJ [0, 7] (by rw [hsz]; decide) (by kernel_rfl))).trans (hF 0 (by decide))
      have e38 : ρ (.tmp 38) = .bool p := ((hρ 38).trans (slotJ [0, 7] (by rw [hsz]; decide) (by kernel_rfl))).trans (hF 7 (by decide))
      have k := hpp
      clear hρ hF hcst hfun sl2 sl3 sl5 fin
      exact opv_val (by go_simp <;> rfl) ⟨gw_self _, rfl⟩
    · exact owes_mvj 8 39 (by kernel_rfl) (by kernel_rfl) (by kernel_rfl) (by kernel_rfl) (by rw [hsz]; decide) (fun v w h => h)
    · refine owes_vt 9 true (Go.Op.move (Go.Operand.tmp 5)) 4 [] (by kernel_rfl) (by kernel_rfl) (by kernel_rfl) (fun _ _ h => h) (by rw [hsz]; kernel_rfl) (by kernel_rfl) rfl fun vals w1 ρ hG hF hρ hcst hfun => ?_
      have e5 : ρ (.tmp 5) = .bool p := ((hρ 5).trans (slotO [] (by kernel_rfl))).trans sl5
      clear hρ hF hcst hfun sl2 sl3 sl5 fin
      exact opv_val (by go_simp <;> rfl) ⟨gw_self _, rfl⟩
    · refine owes_vt 9 true (Go.Op.load 25 (Go.Operand.tmp 3)) 25 [] (by kernel_rfl) (by kernel_rfl) (by kernel_rfl) (fun _ _ h => h) (by rw [hsz]; kernel_rfl) (by kernel_rfl) rfl fun vals w1 ρ hG hF hρ hcst hfun => ?_
      have e3 : ρ (.tmp 3) = .pointer (some ⟨sb, 0, none⟩) := ((hρ 3).trans (slotO [] (by kernel_rfl))).trans sl3
      obtain ⟨d0, d1, _⟩ := hb.out w1 hG
      clear hρ hF hcst hfun sl2 sl3 sl5 fin
      exact opv_val (by go_simp <;> rfl) ⟨gw_self _, rfl⟩
    · refine owes_vt 9 true (Go.Op.load 25 (Go.Operand.tmp 2)) 25 [] (by kernel_rfl) (by kernel_rfl) (by kernel_rfl) (fun _ _ h => h) (by rw [hsz]; kernel_rfl) (by kernel_rfl) rfl fun vals w1 ρ hG hF hρ hcst hfun => ?_
      have e2 : ρ (.tmp 2) = .pointer (some ⟨sa, 0, none⟩) := ((hρ 2).trans (slotO [] (by kernel_rfl))).trans sl2
      obtain ⟨d0, d1, _⟩ := ha.out w1 hG
      clear hρ hF hcst hfun sl2 sl3 sl5 fin
      exact opv_val (by go_simp <;> rfl) ⟨gw_self _, rfl⟩
    · refine owes_vt 9 true (Go.Op.call { callee := Go.Callee.value (Go.Operand.func 21), args := #[Go.Operand.tmp 42, Go.Operand.tmp 43], argTypes := #[25, 25] }) 4 [11, 12] (by kernel_rfl) (by kernel_rfl) (by kernel_rfl) (fun _ _ h => h) (by rw [hsz]; kernel_rfl) (by kernel_rfl) rfl fun vals w1 ρ hG hF hρ hcst hfun => ?_
      have e42 : ρ (.tmp 42) = .agg #[.slice B K b1, .slice B2 L b2] := ((hρ 42).trans (slotJ [11, 12] (by rw [hsz]; decide) (by kernel_rfl))).trans (hF 11 (by decide))
      have e43 : ρ (.tmp 43) = .agg #[.slice A N a1, .slice A2 M a2] := ((hρ 43).trans (slotJ [11, 12] (by rw [hsz]; decide) (by kernel_rfl))).trans (hF 12 (by decide))
      clear hρ hF hcst sl2 sl3 sl5 fin
      exact opv_enter (by go_simp <;> rfl) (of_retK (csame_k hvb hva (can_ok h0b hfb.small) (can_ok h0a hfa.small) hp2.out (hb.out w1 hG).2.2 (ha.out w1 hG).2.2))
    · refine owes_vt 9 true (Go.Op.binOp Go.BinOp.eql 4 (Go.Operand.tmp 41) (Go.Operand.tmp 44) 4) 4 [10, 13] (by kernel_rfl) (by kernel_rfl) (by kernel_rfl) (fun _ _ h => h) (by rw [hsz]; kernel_rfl) (by kernel_rfl) rfl fun vals w1 ρ hG hF hρ hcst hfun => ?_
      have e41 : ρ (.tmp 41) = .bool p := ((hρ 41).trans (slotJ [10, 13] (by rw [hsz]; decide) (by kernel_rfl))).trans (hF 10 (by decide))
      have e44 : ρ (.tmp 44) = .bool p := ((hρ 44).trans (slotJ [10, 13] (by rw [hsz]; decide) (by kernel_rfl))).trans (hF 13 (by decide))
      have k := hpp
      clear hρ hF hcst hfun sl2 sl3 sl5 fin
      exact opv_val (by go_simp <;> rfl) ⟨gw_self _, rfl⟩
    · refine owes_v (Go.Op.pick (Go.Operand.tmp 40) (Go.Operand.tmp 45) (Go.Operand.const (Go.Value.bool false))) 4 [9, 14] (by kernel_rfl) (by kernel_rfl) (by kernel_rfl) rfl fun vals w1 ρ hG hF hρ hcst hfun => ?_
      have e40 : ρ (.tmp 40) = .bool true := ((hρ 40).trans (slotJ [9, 14] (by rw [hsz]; decide) (by kernel_rfl))).trans (hF 9 (by decide))
      have e45 : ρ (.tmp 45) = .bool true := ((hρ 45).trans (slotJ [9, 14] (by rw [hsz]; decide) (by kernel_rfl))).trans (hF 14 (by decide))
      clear hρ hF hfun sl2 sl3 sl5 fin
      exact opv_val (by go_simp <;> rfl) ⟨gw_self _, rfl⟩
    · exact owes_mvj 15 46 (by kernel_rfl) (by kernel_rfl) (by kernel_rfl) (by kernel_rfl) (by rw [hsz]; decide) (fun v w h => h)
  · intro vals w1 hG hF
    exact fin vals w1 hG (hF 16 (by decide +kernel))
theorem two18_walk (w : World) (ht : w.cell? ⟨2, 15, none⟩ = some (.int .u8 4)) (a : Gv) (wa : GvOk w a) (b : Gv) (wb : GvOk w b) : Calls Tryd.prog 4 #[a.v, b.v] w (RetP (.bool true) w) := by
  have HK := Lib.hid (fun W (h : Below w.heap.size w W) => known18_c W ((h.cell (tab_lt ht)).trans ht))
  have HFa := Lib.hid (fun W (h : Below w.heap.size w W) => few_c W a (wa.at_.up h))
  have HFb := Lib.hid (fun W (h : Below w.heap.size w W) => few_c W b (wb.at_.up h))
  have HOa := Lib.hid (fun W (h : Below w.heap.size w W) (hf : FewP a) => of_k (W := W) (g := a) (v := a.v) rfl hf (wa.at_.up h))
  have HOb := Lib.hid (fun W (h : Below w.heap.size w W) (hf : FewP b) => of_k (W := W) (g := b) (v := b.v) rfl hf (wb.at_.up h))
  have HSm := Lib.hid (fun W (h : Below w.heap.size w W) (fa : FewP a) (fb : FewP b) (ca : ckG a = 0) (cb : ckG b = 0) => csame_c W a b (wa.at_.up h) (wb.at_.up h) (can_ok ca fa.small) (can_ok cb fb.small))
  have HAt := Lib.hid (And.intro wa.at_ wb.at_)
  obtain ⟨va, hva⟩ : ∃ v, v = a.v := ⟨_, rfl⟩
  obtain ⟨vb, hvb⟩ : ∃ v, v = b.v := ⟨_, rfl⟩
  obtain ⟨A, N, a1, A2, M, a2, ea⟩ : ∃ A N a1 A2 M a2, va = .agg #[.slice A N a1, .slice A2 M a2] := ⟨_, _, _, _, _, _, hva⟩
  obtain ⟨B, K, b1, B2, L, b2, eb⟩ : ∃ A N a1 A2 M a2, vb = .agg #[.slice A N a1, .slice A2 M a2] := ⟨_, _, _, _, _, _, hvb⟩
  rw [← hva] at HFa HOa HSm ⊢
  rw [← hvb] at HFb HOb HSm ⊢
  subst ea eb
  have HV := Lib.hid (And.intro hva.symm hvb.symm)
  clear hva hvb wa wb ht
  go_enter Tryd.func4, Tryd.ntmps4
  go_wp2_with fail
  obtain ⟨sa, hsa⟩ : ∃ s, s = w.heap.size := ⟨_, rfl⟩
  obtain ⟨sb, hsb⟩ : ∃ s, s = sa + 1 := ⟨_, rfl⟩
  obtain ⟨x1, hx1⟩ : ∃ W, W = w.alloc (.cells #[.slice A N a1, .slice A2 M a2] 25) := ⟨_, rfl⟩
  obtain ⟨x2, hx2⟩ : ∃ W, W = x1.alloc (.cells #[.slice B K b1, .slice B2 L b2] 25) := ⟨_, rfl⟩
  rw [← hsa, ← hsb, ← hx1, ← hx2]
  have z1 : x1.heap.size = sb := by rw [hx1, hsb, hsa]; simp
  have k1 : Bk x1 sa 25 #[.slice A N a1, .slice A2 M a2] := by rw [hx1, hsa]; exact Bk.new w _ _
  have k2 : Bk x2 sb 25 #[.slice B K b1, .slice B2 L b2] := by rw [hx2, ← z1]; exact Bk.new x1 _ _
  have d1 : Below w.heap.size w x1 := by rw [hx1]; exact Gw.alloc w _
  have d2 : Below x1.heap.size x1 x2 := by rw [hx2]; exact Gw.alloc x1 _
  have HX := Lib.hid (show ∀ W, Below x2.heap.size x2 W → Bk W sa 25 #[.slice A N a1, .slice A2 M a2] ∧ Bk W sb 25 #[.slice B K b1, .slice B2 L b2] ∧ Below w.heap.size w W from fun W h =>
    ⟨(k1.below d2 k1.lt).below h (k1.below d2 k1.lt).lt, k2.below h k2.lt, d1.trans ((d2.trans (h.mono d2.size)).mono d1.size)⟩)
  have By2 := Lib.hid (Below.refl x2.heap.size x2)
  clear hsa hsb hx1 hx2 z1 k1 k2 d1 d2
  refine Calls.mono (HK.out x2 (HX.out x2 By2.out).2.2) ?_
  rintro r x3 ⟨rfl, h⟩
  have B3 := Lib.hid (By2.out.trans (h.mono By2.out.size))
  clear h
  obtain ⟨ca0, ca1⟩ := (HX.out x3 B3.out).1.two
  have cal := (HX.out x3 B3.out).1.lt
  go_wp2_with fail
  refine Calls.mono (HFa.out x3 (HX.out x3 B3.out).2.2) ?_
  rintro r x4 ⟨bf, rfl, hfa, h⟩
  have B4 := Lib.hid (B3.out.trans (h.mono B3.out.size))
  clear h ca0 ca1 cal
  cases bf with
  | false =>
    clear hfa
    go_wp2_with fail
    go_ret
    exact ⟨rfl, (HX.out x4 B4.out).2.2⟩
  | true =>
    have FA := Lib.hid (hfa rfl)
    clear hfa
    obtain ⟨cb0, cb1⟩ := (HX.out x4 B4.out).2.1.two
    have cbl := (HX.out x4 B4.out).2.1.lt
    go_wp2_with fail
    refine Calls.mono (HFb.out x4 (HX.out x4 B4.out).2.2) ?_
    rintro r x5 ⟨bf, rfl, hfb, h⟩
    have B5 := Lib.hid (B4.out.trans (h.mono B4.out.size))
    clear h cb0 cb1 cbl
    cases bf with
    | false =>
      clear hfb
      go_wp2_with fail
      go_ret
      exact ⟨rfl, (HX.out x5 B5.out).2.2⟩
    | true =>
      have FB := Lib.hid (hfb rfl)
      clear hfb
      obtain ⟨ca0, ca1⟩ := (HX.out x5 B5.out).1.two
      have cal := (HX.out x5 B5.out).1.lt
      go_wp2_with fail
      refine Calls.mono (HOa.out x5 (HX.out x5 B5.out).2.2 FA.out) ?_
      rintro r x6 ⟨u, rfl, h, hu⟩
      have B6 := Lib.hid (B5.out.trans (h.mono B5.out.size))
      have HC := Lib.hid (rck_k FA.out hu)
      obtain ⟨Ea, hEa⟩ : ∃ E, E = ckG a := ⟨_, rfl⟩
      rw [← hEa] at HC
      have HEa := Lib.hid hEa
      clear h hu hEa ca0 ca1 cal
      go_wp2_with fail
      refine Calls.mono HC.out ?_
      rintro r x7 ⟨rfl, h⟩
      have B7 := Lib.hid (B6.out.trans (h.mono B6.out.size))
      clear h HC
      by_cases hE : Ea = 0
      · subst hE
        obtain ⟨cb0, cb1⟩ := (HX.out x7 B7.out).2.1.two
        have cbl := (HX.out x7 B7.out).2.1.lt
        go_wp2_with fail
        refine Calls.mono (HOb.out x7 (HX.out x7 B7.out).2.2 FB.out) ?_
        rintro r x8 ⟨u2, rfl, h, hu⟩
        have B8 := Lib.hid (B7.out.trans (h.mono B7.out.size))
        have HC := Lib.hid (rck_k FB.out hu)
        obtain ⟨Eb, hEb⟩ : ∃ E, E = ckG b := ⟨_, rfl⟩
        rw [← hEb] at HC
        have HEb := Lib.hid hEb
        clear h hu hEb cb0 cb1 cbl
        go_wp2_with fail
        refine Calls.mono HC.out ?_
        rintro r x9 ⟨rfl, h⟩
        have B9 := Lib.hid (B8.out.trans (h.mono B8.out.size))
        clear h HC
        by_cases hE : Eb = 0
        · subst hE
          obtain ⟨ca0, ca1⟩ := (HX.out x9 B9.out).1.two
          have cal := (HX.out x9 B9.out).1.lt
          obtain ⟨cb0, cb1⟩ := (HX.out x9 B9.out).2.1.two
          have cbl := (HX.out x9 B9.out).2.1.lt
          go_wp2_with fail
          refine Calls.mono (HSm.out x9 (HX.out x9 B9.out).2.2 FA.out FB.out HEa.out.symm HEb.out.symm) ?_
          rintro r x10 ⟨rfl, h⟩
          obtain ⟨p, hp⟩ : ∃ p, p = sameC a b := ⟨_, rfl⟩
          rw [← hp]
          have B10 := Lib.hid (B9.out.trans (h.mono B9.out.size))
          have HP := Lib.hid hp.symm
          have HP2 := Lib.hid ((sameC_comm a b).trans hp.symm)
          have hga := GBx.of (HX.out x10 B10.out).1 (HAt.out.1.up (HX.out x10 B10.out).2.2)
          have hgb := GBx.of (HX.out x10 B10.out).2.1 (HAt.out.2.up (HX.out x10 B10.out).2.2)
          clear h hp ca0 ca1 cal cb0 cb1 cbl
          go_wp2_with fail
          refine ct6 _ _ _ sa sb a b A A2 B B2 N M K L a1 a2 b1 b2 p HV.out.1 HV.out.2 FA.out FB.out HEa.out.symm HEb.out.symm (Lib.hid hga) (Lib.hid hgb) HP HP2 (by cases p <;> rfl) rfl ?_ ?_ ?_ ?_
          · rfl
          · rfl
          · rfl
          intro vals y hG h4
          unfold IsV at h4
          simp only [putD, Act.put, List.setIfInBounds_toArray, List.set_cons_zero, List.set_cons_succ, h4]
          have HY := Lib.hid ((HX.out x10 B10.out).2.2.trans (hG.mono (HX.out x10 B10.out).2.2.size))
          clear hG h4 hga hgb
          go_wp2_with fail
          go_ret
          exact ⟨rfl, HY.out⟩
        · have e1 : (Eb != 0) = true := by simpa using hE
          clear hE
          go_wp2_with fail
          go_ret
          exact ⟨rfl, (HX.out x9 B9.out).2.2⟩
      · have e1 : (Ea != 0) = true := by simpa using hE
        clear hE
        go_wp2_with fail
        go_ret
        exact ⟨rfl, (HX.out x7 B7.out).2.2⟩
end Go.Proofs.YtdppnggchpchgaaDoor
namespace Go.Proofs.YtdppnggchpchgaaDoor.canonTwo
open Go.ChangeShapes Go.WideShapes Go.ChangeAt Go.RowKit
open Go.ChangeMaps (open_string shut_string)
set_option linter.unusedVariables false
set_option maxRecDepth 100000 in
theorem lifted (os : Os) (started : os.Started) (H : Type) (enc : TypeId × Value → H) :
    ReturnsInHanded {} Tryd.checked os 4 .any (fun w args => (Rows.canonTwoSpec.pre enc Tryd.prog Tryd.f4 [] false w args ∧ laidMetH Tryd.prog laid18 w) ∧ sizedMet enc Tryd.prog Tryd.f4 (OpenSpec.ofChange Rows.canonTwoSpec) false w args) (Rows.canonTwoSpec.post enc Tryd.prog Tryd.f4 false true false false) := by
  refine returnsInHanded_of_change_and (C := Tryd.checked) (X := fun w _ => laidMetH Tryd.prog laid18 w) (fun _ _ _ hh h => h.of_heap hh) own started (by kernel_rfl) Tryd.func4
    (ChangeSpec.witness_shaped (enc := enc) (C := Tryd.checked) (os := os) (X := fun w _ => laidMetH Tryd.prog laid18 w) false (World.doorLaid Tryd.prog 24 os) #[.agg #[.slice none 0 0, .slice none 0 0], .agg #[.slice none 0 0, .slice none 0 0]] 8 rfl (World.shaped_of_RefB (by kernel_rfl) (by kernel_rfl)) (by kernel_rfl) (by kernel_rfl) (by kernel_rfl) (door_met os _)) ?_
  intro W base args ds gs before hval0 hW _ _ hL _
  have hLd := of_laid hL
  have hval : ∀ (j : Nat) t v, Tryd.f4.params[j]? = some t → args[j]? = some v → Value.okWide Tryd.prog W .any base t v := hval0
  have hW' := hW
  obtain ⟨p, q, hA0, hV, rfl, hfz, hnd⟩ := hW
  have hA : DataW.TrodAll enc Tryd.prog W 0 (fun _ => true) true Tryd.f4.params.toList args.toList ds p := hA0
  rw [Tryd.params4] at hA hval
  obtain ⟨v0, vs0, d0, ds0, p0, q0, hargs, rfl, rfl, h0, r0⟩ := trodAll_cons hA
  obtain ⟨v1, vs1, d1, ds1, p1, q1, rfl, rfl, rfl, h1, r1⟩ := trodAll_cons r0
  obtain ⟨rfl, rfl, rfl⟩ := trodAll_nil r1
  obtain rfl : args = #[v0, v1] := by cases args; simp_all
  obtain ⟨rfl, rfl⟩ := trodVars_none hV
  have k0 := h0
  have lt0 : ∀ x ∈ p0, x.block < W.heap.size := by obtain ⟨m, hm⟩ := k0; exact DataW.trod_lt m _ _ _ hm
  obtain ⟨a0, e0v, w0⟩ := open_str_Graph (hval 0 25 v0 rfl rfl) h0; subst e0v
  have k1 := h1
  have lt1 : ∀ x ∈ p1, x.block < W.heap.size := by obtain ⟨m, hm⟩ := k1; exact DataW.trod_lt m _ _ _ hm
  obtain ⟨a1, e1v, w1⟩ := open_str_Graph (hval 1 25 v1 rfl rfl) h1; subst e1v
  clear hA0 hval0
  refine (two18_walk W hLd a0 w0 a1 w1).mono fun e W' ⟨he, bel⟩ => ?_
  subst he
  exact ⟨_, rfl, _, _, _, [], _, [], hW', trodAll_mk1 (shut_bool Tryd.underlying4 _), (trodAll_cons_mk (Below.trod laidOut (by kernel_rfl) (of_decide_eq_true (by kernel_rfl)) k0 bel lt0) (trodAll_cons_mk (Below.trod laidOut (by kernel_rfl) (of_decide_eq_true (by kernel_rfl)) k1 bel lt1) trodAll_mk0)), rfl, bel.frame _, fun h => by cases h⟩
theorem over : Rows.canonTwoRow.holds Tryd.pinned (OpenSpec.ofChange Rows.canonTwoSpec) :=
  OpenClaim.holds_of_wide 4 Tryd.f4 rfl rfl rfl rfl rfl rfl rfl ⟨rfl, rfl, rfl, rfl, rfl⟩ rfl rfl rfl rfl rfl (by kernel_rfl) Tryd.func4 (by kernel_rfl)
    (of_decide_eq_true (by kernel_rfl)) (by unfold Func.isWrapper; first | (rw [if_pos (by decide +kernel)]; kernel_rfl) | (rw [if_neg (by decide +kernel)]; exact ⟨rfl, rfl⟩))
    (fun os started H enc _ => lifted os started H enc)
theorem proved : Rows.CanonTwoCardSaid :=
  Claim7.holds_tied_plain_at .later [] [.data, .data, .data] true (true, "951687fa000d9c105ddb988a2098679cd808f61cc62620e067a1f545dd23d005") false over (fun _ h => by cases h) (by kernel_rfl) (fun _ h => by cases h) canonTwo_row_tie rfl ⟨rfl, rfl⟩ (by kernel_rfl) rfl
    (fun f fn hf hfn => by
      obtain rfl : f = 4 := Option.some.inj ((show Tryd.prog.funcNamed Rows.canonTwoRow.func = some 4 by kernel_rfl).symm.trans hf) |>.symm
      obtain rfl : fn = Tryd.f4 := (Option.some.inj (Tryd.func4.symm.trans hfn)).symm
      exact ⟨by kernel_rfl, fun j t ht => by
        rw [Tryd.params4] at ht
        have hm : t ∈ [25, 25] := by simpa using Array.mem_of_getElem? ht
        have hall : ([25, 25].all fun u => !Tryd.prog.wantsStandIn u) = true := by kernel_rfl
        exact (show Tryd.prog.wantsStandIn t = false by simpa using List.all_eq_true.1 hall t hm)⟩)
    (by kernel_rfl)
end Go.Proofs.YtdppnggchpchgaaDoor.canonTwo
