/- The law CanonAny of layer 18 returns true for every argument. -/
import Derived.Test.YtdppnggchpchgaaDoorCb9
namespace Go.Proofs.YtdppnggchpchgaaDoor
set_option linter.unusedVariables false
set_option linter.unusedSimpArgs false
open Go.RowKit Go.Maps
set_option maxHeartbeats 8000000
set_option maxRecDepth 100000
theorem ca7 (Q : Exit → Act → World → Prop) (a0 : Act) (w : World) (sg sx sc : Nat) (g x c : Gv) (A A2 B B2 C C2 : Option Addr) (N M K L X Y a1 a2 b1 b2 c1 c2 : Nat) (T : List (BitVec 8)) (hvg : g.v = .agg #[.slice A N a1, .slice A2 M a2]) (hvx : x.v = .agg #[.slice B K b1, .slice B2 L b2]) (hvc : c.v = .agg #[.slice C X c1, .slice C2 Y c2]) (hfg : FewP g) (hfx : FewP x) (hfc : FewP c) (h0 : ckG g = 0) (h0c : ckG c = 0) (hx : Hid (x.n = g.n ∧ x.r = g.r)) (hc : Hid (c.n.map Nv.m = canM g ∧ c.r = canR g ∧ canM c = canM g ∧ canR c = canR g)) (hg : Hid (GBx w sg g (.slice A N a1) (.slice A2 M a2))) (hgx : Hid (GBx w sx x (.slice B K b1) (.slice B2 L b2))) (hgc : Hid (GBx w sc c (.slice C X c1) (.slice C2 Y c2))) (hT : Hid (textL (canR g) (canM g) = T)) (ht : Hid (∀ W, Below w.heap.size w W → W.cell? ⟨2, 15, none⟩ = some (.int .u8 4))) (hsz : a0.tmps.size = 52) (sl1 : a0.tmps.getD 1 undef = .pointer (some ⟨sg, 0, none⟩)) (sl3 : a0.tmps.getD 3 undef = .pointer (some ⟨sx, 0, none⟩)) (sl4 : a0.tmps.getD 4 undef = .pointer (some ⟨sc, 0, none⟩))
    (fin : ∀ (vals : Nat → Value) (w1 : World), Below w.heap.size w w1 → (IsV (.bool true)) (vals 32) w1 → Q .normal (putD vals [20, 21, 22, 23, 24, 25, 26, 27, 28, 29, 30, 31, 32, 33, 34, 35, 36, 37, 38, 39, 40, 41, 42, 43, 44, 45, 46, 47, 48, 49, 50, 51, 2] 0 a0) w1) :
    (Code.region 7 (regIn Tryd.f3 7) true).wp Tryd.prog Q a0 w := by
  refine region_by (G := fun w w1 => Below w.heap.size w w1) [IsV (.agg #[.slice C X c1, .slice C2 Y c2]),
    OfV c,
    IsV (.agg #[.slice B K b1, .slice B2 L b2]),
    CnV (canM g) (canR g),
    IsV (.bool true),
    IsV (.bool true),
    IsV (.agg #[.slice A N a1, .slice A2 M a2]),
    IsV (.string (strB T)),
    IsV (.agg #[.slice B K b1, .slice B2 L b2]),
    IsV (.string (strB T)),
    IsV (.bool true),
    IsV (.bool true),
    IsV (.bool true),
    IsV (.agg #[.slice A N a1, .slice A2 M a2]),
    IntsV (walkL g.n (g.r.map (·.t))),
    IsV (.agg #[.slice B K b1, .slice B2 L b2]),
    IsV (.agg #[.slice B K b1, .slice B2 L b2]),
    IntsV (g.r.map (·.t)),
    IntsV (walkL g.n (g.r.map (·.t))),
    IsV (.bool true),
    IsV (.bool true),
    IsV (.bool true),
    IsV (.agg #[.slice C X c1, .slice C2 Y c2]),
    CaV c,
    IsV (.agg #[.slice C X c1, .slice C2 Y c2]),
    IsV (.bool true),
    IsV (.bool true),
    IsV (.bool true),
    IsV (.agg #[.slice C X c1, .slice C2 Y c2]),
    IsV (.agg #[.slice A N a1, .slice A2 M a2]),
    IsV (.bool true),
    IsV (.bool true),
    IsV (.bool true)]
    [20, 21, 22, 23, 24, 25, 26, 27, 28, 29, 30, 31, 32, 33, 34, 35, 36, 37, 38, 39, 40, 41, 42, 43, 44, 45, 46, 47, 48, 49, 50, 51, 2] (by kernel_rfl) (Gw.drew _) Gw.trans (by rw [hsz]; kernel_rfl) (by kernel_rfl) ?_ ?_ ?_
  · intro f hf
    simp only [List.mem_cons, List.not_mem_nil, or_false] at hf
    rcases hf with rfl | rfl | rfl | rfl | rfl | rfl | rfl | rfl | rfl | rfl | rfl | rfl | rfl | rfl | rfl | rfl | rfl | rfl | rfl | rfl | rfl | rfl | rfl | rfl | rfl | rfl | rfl | rfl | rfl | rfl | rfl | rfl | rfl <;> intro v a b h g <;> first | exact IsV.mono h | exact OfV.mono h g | exact CnV.mono h g | exact CaV.mono h g | exact IntsV.mono h g
  · refine ⟨?_, ?_, ?_, ?_, ?_, ?_, ?_, ?_, ?_, ?_, ?_, ?_, ?_, ?_, ?_, ?_, ?_, ?_, ?_, ?_, ?_, ?_, ?_, ?_, ?_, ?_, ?_, ?_, ?_, ?_, ?_, ?_, ?_, trivial⟩
    · refine owes_v (Go.Op.load 25 (Go.Operand.tmp 4)) 25 [] (by kernel_rfl) (by kernel_rfl) (by kernel_rfl) rfl fun vals w1 ρ hG hF hρ hcst hfun => ?_
      have e4 : ρ (.tmp 4) = .pointer (some ⟨sc, 0, none⟩) := ((hρ 4).trans (slotO [] (by kernel_rfl))).trans sl4
      obtain ⟨d0, d1, _⟩ := hgc.out w1 hG
      clear hρ hF hcst hfun sl1 sl3 sl4 fin
      exact opv_val (by go_simp <;> rfl) ⟨gw_self _, rfl⟩
    · refine owes_v (Go.Op.call { callee := Go.Callee.value (Go.Operand.func 10), args := #[Go.Operand.tmp 20], argTypes := #[25] }) 32 [0] (by kernel_rfl) (by kernel_rfl) (by kernel_rfl) rfl fun vals w1 ρ hG hF hρ hcst hfun => ?_
      have e20 : ρ (.tmp 20) = .agg #[.slice C X c1, .slice C2 Y c2] := ((hρ 20).trans (slotJ [0] (by rw [hsz]; decide) (by kernel_rfl))).trans (hF 0 (by decide))
      clear hρ hF hcst sl1 sl3 sl4 fin
      exact opv_enter (by go_simp <;> rfl) (of_k hvc hfc (hgc.out w1 hG).2.2)
    · refine owes_v (Go.Op.load 32 (Go.Operand.tmp 3)) 32 [] (by kernel_rfl) (by kernel_rfl) (by kernel_rfl) rfl fun vals w1 ρ hG hF hρ hcst hfun => ?_
      have e3 : ρ (.tmp 3) = .pointer (some ⟨sx, 0, none⟩) := ((hρ 3).trans (slotO [] (by kernel_rfl))).trans sl3
      obtain ⟨d0, d1, _⟩ := hgx.out w1 hG
      clear hρ hF hcst hfun sl1 sl3 sl4 fin
      exact opv_val (by go_simp <;> rfl) ⟨gw_self _, rfl⟩
    · refine owes_v (Go.Op.call { callee := Go.Callee.value (Go.Operand.func 13), args := #[Go.Operand.tmp 22], argTypes := #[32] }) 32 [2] (by kernel_rfl) (by kernel_rfl) (by kernel_rfl) rfl fun vals w1 ρ hG hF hρ hcst hfun => ?_
      have e22 : ρ (.tmp 22) = .agg #[.slice B K b1, .slice B2 L b2] := ((hρ 22).trans (slotJ [2] (by rw [hsz]; decide) (by kernel_rfl))).trans (hF 2 (by decide))
      clear hρ hF hcst sl1 sl3 sl4 fin
      exact opv_enter (by go_simp <;> rfl) (rcan_x hvx hfg h0 hx.out (hgx.out w1 hG).2.2)
    · refine owes_v (Go.Op.call { callee := Go.Callee.value (Go.Operand.func 12), args := #[Go.Operand.tmp 21, Go.Operand.tmp 23], argTypes := #[32, 32] }) 4 [1, 3] (by kernel_rfl) (by kernel_rfl) (by kernel_rfl) rfl fun vals w1 ρ hG hF hρ hcst hfun => ?_
      have f21 : (OfV c) (vals 1) w1 := hF 1 (by decide)
      have e21 : ρ (.tmp 21) = vals 1 := (hρ 21).trans (slotJ [1, 3] (by rw [hsz]; decide) (by kernel_rfl))
      have f23 : (CnV (canM g) (canR g)) (vals 3) w1 := hF 3 (by decide)
      have e23 : ρ (.tmp 23) = vals 3 := (hρ 23).trans (slotJ [1, 3] (by rw [hsz]; decide) (by kernel_rfl))
      clear hρ hF hcst sl1 sl3 sl4 fin
      exact opv_enter (by go_simp <;> rfl) (of_retK (req_oc hfc hc.out.1 hc.out.2.1 f21 f23))
    · exact owes_mvj 4 24 (by kernel_rfl) (by kernel_rfl) (by kernel_rfl) (by kernel_rfl) (by rw [hsz]; decide) (fun v w h => h)
    · refine owes_vt 5 true (Go.Op.load 25 (Go.Operand.tmp 1)) 25 [] (by kernel_rfl) (by kernel_rfl) (by kernel_rfl) (fun _ _ h => h) (by rw [hsz]; kernel_rfl) (by kernel_rfl) rfl fun vals w1 ρ hG hF hρ hcst hfun => ?_
      have e1 : ρ (.tmp 1) = .pointer (some ⟨sg, 0, none⟩) := ((hρ 1).trans (slotO [] (by kernel_rfl))).trans sl1
      obtain ⟨d0, d1, _⟩ := hg.out w1 hG
      clear hρ hF hcst hfun sl1 sl3 sl4 fin
      exact opv_val (by go_simp <;> rfl) ⟨gw_self _, rfl⟩
    · refine owes_vt 5 true (Go.Op.call { callee := Go.Callee.value (Go.Operand.func 14), args := #[Go.Operand.tmp 26], argTypes := #[25] }) 9 [6] (by kernel_rfl) (by kernel_rfl) (by kernel_rfl) (fun _ _ h => h) (by rw [hsz]; kernel_rfl) (by kernel_rfl) rfl fun vals w1 ρ hG hF hρ hcst hfun => ?_
      have e26 : ρ (.tmp 26) = .agg #[.slice A N a1, .slice A2 M a2] := ((hρ 26).trans (slotJ [6] (by rw [hsz]; decide) (by kernel_rfl))).trans (hF 6 (by decide))
      clear hρ hF hcst sl1 sl3 sl4 fin
      exact opv_enter (by go_simp <;> rfl) (of_retK (text_k hvg hfg h0 hT.out (hg.out w1 hG).2.2 (ht.out w1 hG)))
    · refine owes_vt 5 true (Go.Op.load 32 (Go.Operand.tmp 3)) 32 [] (by kernel_rfl) (by kernel_rfl) (by kernel_rfl) (fun _ _ h => h) (by rw [hsz]; kernel_rfl) (by kernel_rfl) rfl fun vals w1 ρ hG hF hρ hcst hfun => ?_
      have e3 : ρ (.tmp 3) = .pointer (some ⟨sx, 0, none⟩) := ((hρ 3).trans (slotO [] (by kernel_rfl))).trans sl3
      obtain ⟨d0, d1, _⟩ := hgx.out w1 hG
      clear hρ hF hcst hfun sl1 sl3 sl4 fin
      exact opv_val (by go_simp <;> rfl) ⟨gw_self _, rfl⟩
    · refine owes_vt 5 true (Go.Op.call { callee := Go.Callee.value (Go.Operand.func 15), args := #[Go.Operand.tmp 28], argTypes := #[32] }) 9 [8] (by kernel_rfl) (by kernel_rfl) (by kernel_rfl) (fun _ _ h => h) (by rw [hsz]; kernel_rfl) (by kernel_rfl) rfl fun vals w1 ρ hG hF hρ hcst hfun => ?_
      have e28 : ρ (.tmp 28) = .agg #[.slice B K b1, .slice B2 L b2] := ((hρ 28).trans (slotJ [8] (by rw [hsz]; decide) (by kernel_rfl))).trans (hF 8 (by decide))
      clear hρ hF hcst sl1 sl3 sl4 fin
      exact opv_enter (by go_simp <;> rfl) (of_retK (rtext_k hvx hfg h0 hx.out hT.out (hgx.out w1 hG).2.2))
    · refine owes_vt 5 true (Go.Op.binOp Go.BinOp.eql 9 (Go.Operand.tmp 27) (Go.Operand.tmp 29) 9) 4 [7, 9] (by kernel_rfl) (by kernel_rfl) (by kernel_rfl) (fun _ _ h => h) (by rw [hsz]; kernel_rfl) (by kernel_rfl) rfl fun vals w1 ρ hG hF hρ hcst hfun => ?_
      have e27 : ρ (.tmp 27) = .string (strB T) := ((hρ 27).trans (slotJ [7, 9] (by rw [hsz]; decide) (by kernel_rfl))).trans (hF 7 (by decide))
      have e29 : ρ (.tmp 29) = .string (strB T) := ((hρ 29).trans (slotJ [7, 9] (by rw [hsz]; decide) (by kernel_rfl))).trans (hF 9 (by decide))
      clear hρ hF hcst hfun sl1 sl3 sl4 fin
      exact opv_val (by go_simp <;> rfl) ⟨gw_self _, rfl⟩
    · refine owes_v (Go.Op.pick (Go.Operand.tmp 25) (Go.Operand.tmp 30) (Go.Operand.const (Go.Value.bool false))) 4 [5, 10] (by kernel_rfl) (by kernel_rfl) (by kernel_rfl) rfl fun vals w1 ρ hG hF hρ hcst hfun => ?_
      have e25 : ρ (.tmp 25) = .bool true := ((hρ 25).trans (slotJ [5, 10] (by rw [hsz]; decide) (by kernel_rfl))).trans (hF 5 (by decide))
      have e30 : ρ (.tmp 30) = .bool true := ((hρ 30).trans (slotJ [5, 10] (by rw [hsz]; decide) (by kernel_rfl))).trans (hF 10 (by decide))
      clear hρ hF hfun sl1 sl3 sl4 fin
      exact opv_val (by go_simp <;> rfl) ⟨gw_self _, rfl⟩
    · exact owes_mvj 11 31 (by kernel_rfl) (by kernel_rfl) (by kernel_rfl) (by kernel_rfl) (by rw [hsz]; decide) (fun v w h => h)
    · refine owes_vt 12 true (Go.Op.load 25 (Go.Operand.tmp 1)) 25 [] (by kernel_rfl) (by kernel_rfl) (by kernel_rfl) (fun _ _ h => h) (by rw [hsz]; kernel_rfl) (by kernel_rfl) rfl fun vals w1 ρ hG hF hρ hcst hfun => ?_
      have e1 : ρ (.tmp 1) = .pointer (some ⟨sg, 0, none⟩) := ((hρ 1).trans (slotO [] (by kernel_rfl))).trans sl1
      obtain ⟨d0, d1, _⟩ := hg.out w1 hG
      clear hρ hF hcst hfun sl1 sl3 sl4 fin
      exact opv_val (by go_simp <;> rfl) ⟨gw_self _, rfl⟩
    · refine owes_vt 12 true (Go.Op.call { callee := Go.Callee.value (Go.Operand.func 17), args := #[Go.Operand.tmp 33], argTypes := #[25] }) 40 [13] (by kernel_rfl) (by kernel_rfl) (by kernel_rfl) (fun _ _ h => h) (by rw [hsz]; kernel_rfl) (by kernel_rfl) rfl fun vals w1 ρ hG hF hρ hcst hfun => ?_
      have e33 : ρ (.tmp 33) = .agg #[.slice A N a1, .slice A2 M a2] := ((hρ 33).trans (slotJ [13] (by rw [hsz]; decide) (by kernel_rfl))).trans (hF 13 (by decide))
      clear hρ hF hcst sl1 sl3 sl4 fin
      exact opv_enter (by go_simp <;> rfl) (order_k hvg hfg (hg.out w1 hG).2.2)
    · refine owes_vt 12 true (Go.Op.load 32 (Go.Operand.tmp 3)) 32 [] (by kernel_rfl) (by kernel_rfl) (by kernel_rfl) (fun _ _ h => h) (by rw [hsz]; kernel_rfl) (by kernel_rfl) rfl fun vals w1 ρ hG hF hρ hcst hfun => ?_
      have e3 : ρ (.tmp 3) = .pointer (some ⟨sx, 0, none⟩) := ((hρ 3).trans (slotO [] (by kernel_rfl))).trans sl3
      obtain ⟨d0, d1, _⟩ := hgx.out w1 hG
      clear hρ hF hcst hfun sl1 sl3 sl4 fin
      exact opv_val (by go_simp <;> rfl) ⟨gw_self _, rfl⟩
    · refine owes_vt 12 true (Go.Op.load 32 (Go.Operand.tmp 3)) 32 [] (by kernel_rfl) (by kernel_rfl) (by kernel_rfl) (fun _ _ h => h) (by rw [hsz]; kernel_rfl) (by kernel_rfl) rfl fun vals w1 ρ hG hF hρ hcst hfun => ?_
      have e3 : ρ (.tmp 3) = .pointer (some ⟨sx, 0, none⟩) := ((hρ 3).trans (slotO [] (by kernel_rfl))).trans sl3
      obtain ⟨d0, d1, _⟩ := hgx.out w1 hG
      clear hρ hF hcst hfun sl1 sl3 sl4 fin
      exact opv_val (by go_simp <;> rfl) ⟨gw_self _, rfl⟩
    · refine owes_vt 12 true (Go.Op.call { callee := Go.Callee.value (Go.Operand.func 19), args := #[Go.Operand.tmp 36], argTypes := #[32] }) 40 [16] (by kernel_rfl) (by kernel_rfl) (by kernel_rfl) (fun _ _ h => h) (by rw [hsz]; kernel_rfl) (by kernel_rfl) rfl fun vals w1 ρ hG hF hρ hcst hfun => ?_
      have e36 : ρ (.tmp 36) = .agg #[.slice B K b1, .slice B2 L b2] := ((hρ 36).trans (slotJ [16] (by rw [hsz]; decide) (by kernel_rfl))).trans (hF 16 (by decide))
      clear hρ hF hcst sl1 sl3 sl4 fin
      exact opv_enter (by go_simp <;> rfl) (rnamed_k hvx hfx hx.out.2 (hgx.out w1 hG).2.2)
    · refine owes_vt 12 true (Go.Op.call { callee := Go.Callee.value (Go.Operand.func 18), args := #[Go.Operand.tmp 35, Go.Operand.tmp 37], argTypes := #[32, 40] }) 40 [15, 17] (by kernel_rfl) (by kernel_rfl) (by kernel_rfl) (fun _ _ h => h) (by rw [hsz]; kernel_rfl) (by kernel_rfl) rfl fun vals w1 ρ hG hF hρ hcst hfun => ?_
      have e35 : ρ (.tmp 35) = .agg #[.slice B K b1, .slice B2 L b2] := ((hρ 35).trans (slotJ [15, 17] (by rw [hsz]; decide) (by kernel_rfl))).trans (hF 15 (by decide))
      have f37 : (IntsV (g.r.map (·.t))) (vals 17) w1 := hF 17 (by decide)
      have e37 : ρ (.tmp 37) = vals 17 := (hρ 37).trans (slotJ [15, 17] (by rw [hsz]; decide) (by kernel_rfl))
      clear hρ hF hcst sl1 sl3 sl4 fin
      exact opv_enter (by go_simp <;> rfl) (walk_k (by rw [hx.out.1]) hvx hfx (by rw [hx.out.1]; exact (ck_ok h0).1) (hgx.out w1 hG).2.2 (by rw [List.length_map]; have := hfg.2.1; omega) f37)
    · refine owes_vt 12 true (Go.Op.call { callee := Go.Callee.value (Go.Operand.func 16), args := #[Go.Operand.tmp 34, Go.Operand.tmp 38], argTypes := #[40, 40] }) 4 [14, 18] (by kernel_rfl) (by kernel_rfl) (by kernel_rfl) (fun _ _ h => h) (by rw [hsz]; kernel_rfl) (by kernel_rfl) rfl fun vals w1 ρ hG hF hρ hcst hfun => ?_
      have f34 : (IntsV (walkL g.n (g.r.map (·.t)))) (vals 14) w1 := hF 14 (by decide)
      have e34 : ρ (.tmp 34) = vals 14 := (hρ 34).trans (slotJ [14, 18] (by rw [hsz]; decide) (by kernel_rfl))
      have f38 : (IntsV (walkL g.n (g.r.map (·.t)))) (vals 18) w1 := hF 18 (by decide)
      have e38 : ρ (.tmp 38) = vals 18 := (hρ 38).trans (slotJ [14, 18] (by rw [hsz]; decide) (by kernel_rfl))
      clear hρ hF hcst sl1 sl3 sl4 fin
      exact opv_enter (by go_simp <;> rfl) (of_retK (ints_k (by have := walkL_len g.n (g.r.map (·.t)); have := hfg.1; omega) f34 f38))
    · refine owes_v (Go.Op.pick (Go.Operand.tmp 32) (Go.Operand.tmp 39) (Go.Operand.const (Go.Value.bool false))) 4 [12, 19] (by kernel_rfl) (by kernel_rfl) (by kernel_rfl) rfl fun vals w1 ρ hG hF hρ hcst hfun => ?_
      have e32 : ρ (.tmp 32) = .bool true := ((hρ 32).trans (slotJ [12, 19] (by rw [hsz]; decide) (by kernel_rfl))).trans (hF 12 (by decide))
      have e39 : ρ (.tmp 39) = .bool true := ((hρ 39).trans (slotJ [12, 19] (by rw [hsz]; decide) (by kernel_rfl))).trans (hF 19 (by decide))
      clear hρ hF hfun sl1 sl3 sl4 fin
      exact opv_val (by go_simp <;> rfl) ⟨gw_self _, rfl⟩
    · exact owes_mvj 20 40 (by kernel_rfl) (by kernel_rfl) (by kernel_rfl) (by kernel_rfl) (by rw [hsz]; decide) (fun v w h => h)
    · refine owes_vt 21 true (Go.Op.load 25 (Go.Operand.tmp 4)) 25 [] (by kernel_rfl) (by kernel_rfl) (by kernel_rfl) (fun _ _ h => h) (by rw [hsz]; kernel_rfl) (by kernel_rfl) rfl fun vals w1 ρ hG hF hρ hcst hfun => ?_
      have e4 : ρ (.tmp 4) = .pointer (some ⟨sc, 0, none⟩) := ((hρ 4).trans (slotO [] (by kernel_rfl))).trans sl4
      obtain ⟨d0, d1, _⟩ := hgc.out w1 hG
      clear hρ hF hcst hfun sl1 sl3 sl4 fin
      exact opv_val (by go_simp <;> rfl) ⟨gw_self _, rfl⟩
    · refine owes_vt 21 true (Go.Op.call { callee := Go.Callee.value (Go.Operand.func 11), args := #[Go.Operand.tmp 42], argTypes := #[25] }) 25 [22] (by kernel_rfl) (by kernel_rfl) (by kernel_rfl) (fun _ _ h => h) (by rw [hsz]; kernel_rfl) (by kernel_rfl) rfl fun vals w1 ρ hG hF hρ hcst hfun => ?_
      have e42 : ρ (.tmp 42) = .agg #[.slice C X c1, .slice C2 Y c2] := ((hρ 42).trans (slotJ [22] (by rw [hsz]; decide) (by kernel_rfl))).trans (hF 22 (by decide))
      clear hρ hF hcst sl1 sl3 sl4 fin
      exact opv_enter (by go_simp <;> rfl) (can_v hvc (can_ok h0c hfc.small) (hgc.out w1 hG).2.2)
    · refine owes_vt 21 true (Go.Op.load 25 (Go.Operand.tmp 4)) 25 [] (by kernel_rfl) (by kernel_rfl) (by kernel_rfl) (fun _ _ h => h) (by rw [hsz]; kernel_rfl) (by kernel_rfl) rfl fun vals w1 ρ hG hF hρ hcst hfun => ?_
      have e4 : ρ (.tmp 4) = .pointer (some ⟨sc, 0, none⟩) := ((hρ 4).trans (slotO [] (by kernel_rfl))).trans sl4
      obtain ⟨d0, d1, _⟩ := hgc.out w1 hG
      clear hρ hF hcst hfun sl1 sl3 sl4 fin
      exact opv_val (by go_simp <;> rfl) ⟨gw_self _, rfl⟩
    · refine owes_vt 21 true (Go.Op.call { callee := Go.Callee.value (Go.Operand.func 20), args := #[Go.Operand.tmp 43, Go.Operand.tmp 44], argTypes := #[25, 25] }) 4 [23, 24] (by kernel_rfl) (by kernel_rfl) (by kernel_rfl) (fun _ _ h => h) (by rw [hsz]; kernel_rfl) (by kernel_rfl) rfl fun vals w1 ρ hG hF hρ hcst hfun => ?_
      have f43 : (CaV c) (vals 23) w1 := hF 23 (by decide)
      have e43 : ρ (.tmp 43) = vals 23 := (hρ 43).trans (slotJ [23, 24] (by rw [hsz]; decide) (by kernel_rfl))
      have e44 : ρ (.tmp 44) = .agg #[.slice C X c1, .slice C2 Y c2] := ((hρ 44).trans (slotJ [23, 24] (by rw [hsz]; decide) (by kernel_rfl))).trans (hF 24 (by decide))
      clear hρ hF hcst sl1 sl3 sl4 fin
      exact opv_enter (by go_simp <;> rfl) (of_retK (ceq_k hvc hfc (by rw [hc.out.2.2.1, hc.out.1]) (by rw [hc.out.2.2.2, hc.out.2.1]) f43 (hgc.out w1 hG).2.2))
    · refine owes_v (Go.Op.pick (Go.Operand.tmp 41) (Go.Operand.tmp 45) (Go.Operand.const (Go.Value.bool false))) 4 [21, 25] (by kernel_rfl) (by kernel_rfl) (by kernel_rfl) rfl fun vals w1 ρ hG hF hρ hcst hfun => ?_
      have e41 : ρ (.tmp 41) = .bool true := ((hρ 41).trans (slotJ [21, 25] (by rw [hsz]; decide) (by kernel_rfl))).trans (hF 21 (by decide))
      have e45 : ρ (.tmp 45) = .bool true := ((hρ 45).trans (slotJ [21, 25] (by rw [hsz]; decide) (by kernel_rfl))).trans (hF 25 (by decide))
      clear hρ hF hfun sl1 sl3 sl4 fin
      exact opv_val (by go_simp <;> rfl) ⟨gw_self _, rfl⟩
    · exact owes_mvj 26 46 (by kernel_rfl) (by kernel_rfl) (by kernel_rfl) (by kernel_rfl) (by rw [hsz]; decide) (fun v w h => h)
    · refine owes_vt 27 true (Go.Op.load 25 (Go.Operand.tmp 4)) 25 [] (by kernel_rfl) (by kernel_rfl) (by kernel_rfl) (fun _ _ h => h) (by rw [hsz]; kernel_rfl) (by kernel_rfl) rfl fun vals w1 ρ hG hF hρ hcst hfun => ?_
      have e4 : ρ (.tmp 4) = .pointer (some ⟨sc, 0, none⟩) := ((hρ 4).trans (slotO [] (by kernel_rfl))).trans sl4
      obtain ⟨d0, d1, _⟩ := hgc.out w1 hG
      clear hρ hF hcst hfun sl1 sl3 sl4 fin
      exact opv_val (by go_simp <;> rfl) ⟨gw_self _, rfl⟩
    · refine owes_vt 27 true (Go.Op.load 25 (Go.Operand.tmp 1)) 25 [] (by kernel_rfl) (by kernel_rfl) (by kernel_rfl) (fun _ _ h => h) (by rw [hsz]; kernel_rfl) (by kernel_rfl) rfl fun vals w1 ρ hG hF hρ hcst hfun => ?_
      have e1 : ρ (.tmp 1) = .pointer (some ⟨sg, 0, none⟩) := ((hρ 1).trans (slotO [] (by kernel_rfl))).trans sl1
      obtain ⟨d0, d1, _⟩ := hg.out w1 hG
      clear hρ hF hcst hfun sl1 sl3 sl4 fin
      exact opv_val (by go_simp <;> rfl) ⟨gw_self _, rfl⟩
    · refine owes_vt 27 true (Go.Op.call { callee := Go.Callee.value (Go.Operand.func 21), args := #[Go.Operand.tmp 48, Go.Operand.tmp 49], argTypes := #[25, 25] }) 4 [28, 29] (by kernel_rfl) (by kernel_rfl) (by kernel_rfl) (fun _ _ h => h) (by rw [hsz]; kernel_rfl) (by kernel_rfl) rfl fun vals w1 ρ hG hF hρ hcst hfun => ?_
      have e48 : ρ (.tmp 48) = .agg #[.slice C X c1, .slice C2 Y c2] := ((hρ 48).trans (slotJ [28, 29] (by rw [hsz]; decide) (by kernel_rfl))).trans (hF 28 (by decide))
      have e49 : ρ (.tmp 49) = .agg #[.slice A N a1, .slice A2 M a2] := ((hρ 49).trans (slotJ [28, 29] (by rw [hsz]; decide) (by kernel_rfl))).trans (hF 29 (by decide))
      clear hρ hF hcst sl1 sl3 sl4 fin
      exact opv_enter (by go_simp <;> rfl) (of_retK (csame_k hvc hvg (can_ok h0c hfc.small) (can_ok h0 hfg.small) (sameC_true hc.out.2.2.1 hc.out.2.2.2) (hgc.out w1 hG).2.2 (hg.out w1 hG).2.2))
    · refine owes_v (Go.Op.pick (Go.Operand.tmp 47) (Go.Operand.tmp 50) (Go.Operand.const (Go.Value.bool false))) 4 [27, 30] (by kernel_rfl) (by kernel_rfl) (by kernel_rfl) rfl fun vals w1 ρ hG hF hρ hcst hfun => ?_
      have e47 : ρ (.tmp 47) = .bool true := ((hρ 47).trans (slotJ [27, 30] (by rw [hsz]; decide) (by kernel_rfl))).trans (hF 27 (by decide))
      have e50 : ρ (.tmp 50) = .bool true := ((hρ 50).trans (slotJ [27, 30] (by rw [hsz]; decide) (by kernel_rfl))).trans (hF 30 (by decide))
      clear hρ hF hfun sl1 sl3 sl4 fin
      exact opv_val (by go_simp <;> rfl) ⟨gw_self _, rfl⟩
    · exact owes_mvj 31 51 (by kernel_rfl) (by kernel_rfl) (by kernel_rfl) (by kernel_rfl) (by rw [hsz]; decide) (fun v w h => h)
  · intro vals w1 hG hF
    exact fin vals w1 hG (hF 32 (by decide +kernel))
theorem any18_walk (w : World) (ht : w.cell? ⟨2, 15, none⟩ = some (.int .u8 4)) (g : Gv) (wg : GvOk w g) : Calls Tryd.prog 3 #[g.v] w (RetP (.bool true) w) := by
  have HT := Lib.hid (fun W (h : Below w.heap.size w W) => (h.cell (tab_lt ht)).trans ht)
  have HK := Lib.hid (fun W (h : Below w.heap.size w W) => known18_c W (HT.out W h))
  have HFw := Lib.hid (fun W (h : Below w.heap.size w W) => few_c W g (wg.at_.up h))
  have HOf := Lib.hid (fun W (h : Below w.heap.size w W) (hf : FewP g) => of_k (W := W) (g := g) (v := g.v) rfl hf (wg.at_.up h))
  have HCn := Lib.hid (fun W (h : Below w.heap.size w W) (hf : FewP g) (h0 : ckG g = 0) => can_v (W := W) (g := g) (v := g.v) rfl (can_ok h0 hf.small) (wg.at_.up h))
  have HAt := Lib.hid wg.at_
  obtain ⟨va, hva⟩ : ∃ v, v = g.v := ⟨_, rfl⟩
  obtain ⟨A, N, a1, A2, M, a2, ea⟩ : ∃ A N a1 A2 M a2, va = .agg #[.slice A N a1, .slice A2 M a2] := ⟨_, _, _, _, _, _, hva⟩
  rw [← hva] at HFw HOf HCn ⊢
  subst ea
  have HV := Lib.hid hva.symm
  clear hva wg ht
  go_enter Tryd.func3, Tryd.ntmps3
  go_wp2_with fail
  obtain ⟨sa, hsa⟩ : ∃ s, s = w.heap.size := ⟨_, rfl⟩
  obtain ⟨x2, hx2⟩ : ∃ W, W = w.alloc (.cells #[.slice A N a1, .slice A2 M a2] 25) := ⟨_, rfl⟩
  rw [← hsa, ← hx2]
  have k1 : Bk x2 sa 25 #[.slice A N a1, .slice A2 M a2] := by rw [hx2, hsa]; exact Bk.new w _ _
  have d1 : Below w.heap.size w x2 := by rw [hx2]; exact Gw.alloc w _
  have HX := Lib.hid (show ∀ W, Below x2.heap.size x2 W → Bk W sa 25 #[.slice A N a1, .slice A2 M a2] ∧ Below w.heap.size w W from fun W h =>
    ⟨k1.below h k1.lt, d1.trans (h.mono d1.size)⟩)
  have B2 := Lib.hid (Below.refl x2.heap.size x2)
  clear hsa hx2 k1 d1
  refine Calls.mono (HK.out x2 (HX.out x2 B2.out).2) ?_
  rintro r x3 ⟨rfl, h⟩
  have B3 := Lib.hid (B2.out.trans (h.mono B2.out.size))
  clear h
  obtain ⟨ca0, ca1⟩ := (HX.out x3 B3.out).1.two
  have cal := (HX.out x3 B3.out).1.lt
  go_wp2_with fail
  refine Calls.mono (HFw.out x3 (HX.out x3 B3.out).2) ?_
  rintro r x4 ⟨bf, rfl, hfa, h⟩
  have B4 := Lib.hid (B3.out.trans (h.mono B3.out.size))
  clear h ca0 ca1 cal
  cases bf with
  | false =>
    clear hfa
    go_wp2_with fail
    go_ret
    exact ⟨rfl, (HX.out x4 B4.out).2⟩
  | true =>
    have FG := Lib.hid (hfa rfl)
    clear hfa
    obtain ⟨ca0, ca1⟩ := (HX.out x4 B4.out).1.two
    have cal := (HX.out x4 B4.out).1.lt
    go_wp2_with fail
    refine Calls.mono (HOf.out x4 (HX.out x4 B4.out).2 FG.out) ?_
    rintro r x5 ⟨u, rfl, h, hu⟩
    have B5 := Lib.hid (B4.out.trans (h.mono B4.out.size))
    have HC := Lib.hid (rck_k FG.out hu)
    obtain ⟨E0, hE0⟩ : ∃ E, E = ckG g := ⟨_, rfl⟩
    rw [← hE0] at HC
    have HE0 := Lib.hid hE0
    clear h hu hE0 ca0 ca1 cal
    go_wp2_with fail
    refine Calls.mono HC.out ?_
    rintro r x6 ⟨rfl, h⟩
    have B6 := Lib.hid (B5.out.trans (h.mono B5.out.size))
    clear h HC
    by_cases hE : E0 = 0
    · subst hE
      obtain ⟨ca0, ca1⟩ := (HX.out x6 B6.out).1.two
      have cal := (HX.out x6 B6.out).1.lt
      go_wp2_with fail
      refine Calls.mono (HOf.out x6 (HX.out x6 B6.out).2 FG.out) ?_
      rintro r x7 ⟨u2, rfl, h, gx, rfl, hgx, hxn, hxr⟩
      have B7 := Lib.hid (B6.out.trans (h.mono B6.out.size))
      have HXG := Lib.hid (And.intro hgx (And.intro hxn hxr))
      obtain ⟨vx, hvx⟩ : ∃ v, v = gx.v := ⟨_, rfl⟩
      obtain ⟨B, K, b1, Bq, L, b2, ex⟩ : ∃ A N a1 A2 M a2, vx = .agg #[.slice A N a1, .slice A2 M a2] := ⟨_, _, _, _, _, _, hvx⟩
      rw [← hvx]
      subst ex
      have HVx := Lib.hid hvx.symm
      clear h hgx hxn hxr hvx ca0 ca1 cal
      obtain ⟨ca0, ca1⟩ := (HX.out x7 B7.out).1.two
      have cal := (HX.out x7 B7.out).1.lt
      go_wp2_with fail
      obtain ⟨sx, hsx⟩ : ∃ s, s = x7.heap.size := ⟨_, rfl⟩
      obtain ⟨x8, hx8⟩ : ∃ W, W = x7.alloc (.cells #[.slice B K b1, .slice Bq L b2] 32) := ⟨_, rfl⟩
      have hbk : Bk x8 sx 32 #[.slice B K b1, .slice Bq L b2] := by rw [hx8, hsx]; exact Bk.new x7 _ _
      have hb8 : Below x7.heap.size x7 x8 := by rw [hx8]; exact Gw.alloc x7 _
      rw [← hsx, ← hx8]
      have B8 := Lib.hid (B7.out.trans (hb8.mono B7.out.size))
      have HGX := Lib.hid (GBx.of2 hbk (HXG.out.1.up hb8))
      clear hsx hx8 hbk hb8 ca0 ca1 cal
      refine Calls.mono (HCn.out x8 (HX.out x8 B8.out).2 FG.out HE0.out.symm) ?_
      rintro r x9 ⟨u3, rfl, h, c, rfl, hca, hcm, hcr⟩
      have B9 := Lib.hid (B8.out.trans (h.mono B8.out.size))
      have HGX9 := Lib.hid (HGX.out.up h)
      have HCG := Lib.hid (And.intro hca (And.intro hcm hcr))
      obtain ⟨vc, hvc⟩ : ∃ v, v = c.v := ⟨_, rfl⟩
      obtain ⟨C, X, c1, C2, Y, c2, ec⟩ : ∃ A N a1 A2 M a2, vc = .agg #[.slice A N a1, .slice A2 M a2] := ⟨_, _, _, _, _, _, hvc⟩
      rw [← hvc]
      subst ec
      have HVc := Lib.hid hvc.symm
      clear h hca hcm hcr hvc HGX
      go_wp2_with fail
      obtain ⟨sc, hsc⟩ : ∃ s, s = x9.heap.size := ⟨_, rfl⟩
      obtain ⟨xa, hxa⟩ : ∃ W, W = x9.alloc (.cells #[.slice C X c1, .slice C2 Y c2] 25) := ⟨_, rfl⟩
      have hbk : Bk xa sc 25 #[.slice C X c1, .slice C2 Y c2] := by rw [hxa, hsc]; exact Bk.new x9 _ _
      have hba : Below x9.heap.size x9 xa := by rw [hxa]; exact Gw.alloc x9 _
      rw [← hsc, ← hxa]
      have BA := Lib.hid (B9.out.trans (hba.mono B9.out.size))
      have HGC := Lib.hid (GBx.of2 hbk (HCG.out.1.up hba))
      have HGXa := Lib.hid (HGX9.out.up hba)
      have HGa := Lib.hid (GBx.of (HX.out xa BA.out).1 (HAt.out.up (HX.out xa BA.out).2))
      obtain ⟨T, hT⟩ : ∃ T, T = textL (canR g) (canM g) := ⟨_, rfl⟩
      have HTT := Lib.hid hT.symm
      have hcc := can_can HE0.out.symm HCG.out.2.1 HCG.out.2.2
      have hta : Hid (∀ W, Below xa.heap.size xa W → W.cell? ⟨2, 15, none⟩ = some (.int .u8 4)) := Lib.hid fun W b => HT.out W ((HX.out xa BA.out).2.trans (b.mono (HX.out xa BA.out).2.size))
      have hfx : FewP gx := FG.out.same (by rw [HXG.out.2.1]) HXG.out.2.2
      have hfc : FewP c := can_few FG.out c HCG.out.2.1 HCG.out.2.2
      clear hsc hxa hbk hba hT HGX9
      refine ca7 _ _ _ sa sx sc g gx c A A2 B Bq C C2 N M K L X Y a1 a2 b1 b2 c1 c2 T HV.out HVx.out HVc.out FG.out hfx hfc HE0.out.symm hcc.2.2 (Lib.hid HXG.out.2) (Lib.hid ⟨HCG.out.2.1, HCG.out.2.2, hcc.1, hcc.2.1⟩) HGa HGXa HGC HTT hta rfl ?_ ?_ ?_ ?_
      · rfl
      · rfl
      · rfl
      intro vals y hG h2'
      unfold IsV at h2'
      simp only [putD, Act.put, List.setIfInBounds_toArray, List.set_cons_zero, List.set_cons_succ, h2']
      have HY := Lib.hid ((HX.out xa BA.out).2.trans (hG.mono (HX.out xa BA.out).2.size))
      clear hG h2' hcc hta hfx hfc
      go_wp2_with fail
      go_ret
      exact ⟨rfl, HY.out⟩
    · have e1 : (E0 != 0) = true := by simpa using hE
      clear hE
      go_wp2_with fail
      go_ret
      exact ⟨rfl, (HX.out x6 B6.out).2⟩
end Go.Proofs.YtdppnggchpchgaaDoor
namespace Go.Proofs.YtdppnggchpchgaaDoor.canonAny
open Go.ChangeShapes Go.WideShapes Go.ChangeAt Go.RowKit
open Go.ChangeMaps (open_string shut_string)
set_option linter.unusedVariables false
set_option maxRecDepth 100000 in
theorem lifted (os : Os) (started : os.Started) (H : Type) (enc : TypeId × Value → H) :
    ReturnsInHanded {} Tryd.checked os 3 .any (fun w args => (Rows.canonAnySpec.pre enc Tryd.prog Tryd.f3 [] false w args ∧ laidMetH Tryd.prog laid18 w) ∧ sizedMet enc Tryd.prog Tryd.f3 (OpenSpec.ofChange Rows.canonAnySpec) false w args) (Rows.canonAnySpec.post enc Tryd.prog Tryd.f3 false true false false) := by
  refine returnsInHanded_of_change_and (C := Tryd.checked) (X := fun w _ => laidMetH Tryd.prog laid18 w) (fun _ _ _ hh h => h.of_heap hh) own started (by kernel_rfl) Tryd.func3
    (ChangeSpec.witness_shaped (enc := enc) (C := Tryd.checked) (os := os) (X := fun w _ => laidMetH Tryd.prog laid18 w) false (World.doorLaid Tryd.prog 24 os) #[.agg #[.slice none 0 0, .slice none 0 0]] 8 rfl (World.shaped_of_RefB (by kernel_rfl) (by kernel_rfl)) (by kernel_rfl) (by kernel_rfl) (by kernel_rfl) (door_met os _)) ?_
  intro W base args ds gs before hval0 hW _ _ hL _
  have hLd := of_laid hL
  have hval : ∀ (j : Nat) t v, Tryd.f3.params[j]? = some t → args[j]? = some v → Value.okWide Tryd.prog W .any base t v := hval0
  have hW' := hW
  obtain ⟨p, q, hA0, hV, rfl, hfz, hnd⟩ := hW
  have hA : DataW.TrodAll enc Tryd.prog W 0 (fun _ => true) true Tryd.f3.params.toList args.toList ds p := hA0
  rw [Tryd.params3] at hA hval
  obtain ⟨v0, vs0, d0, ds0, p0, q0, hargs, rfl, rfl, h0, r0⟩ := trodAll_cons hA
  obtain ⟨rfl, rfl, rfl⟩ := trodAll_nil r0
  obtain rfl : args = #[v0] := by cases args; simp_all
  obtain ⟨rfl, rfl⟩ := trodVars_none hV
  have k0 := h0
  have lt0 : ∀ x ∈ p0, x.block < W.heap.size := by obtain ⟨m, hm⟩ := k0; exact DataW.trod_lt m _ _ _ hm
  obtain ⟨a0, e0v, w0⟩ := open_str_Graph (hval 0 25 v0 rfl rfl) h0; subst e0v
  clear hA0 hval0
  refine (any18_walk W hLd a0 w0).mono fun e W' ⟨he, bel⟩ => ?_
  subst he
  exact ⟨_, rfl, _, _, _, [], _, [], hW', trodAll_mk1 (shut_bool Tryd.underlying4 _), (trodAll_cons_mk (Below.trod laidOut (by kernel_rfl) (of_decide_eq_true (by kernel_rfl)) k0 bel lt0) trodAll_mk0), rfl, bel.frame _, fun h => by cases h⟩
theorem over : Rows.canonAnyRow.holds Tryd.pinned (OpenSpec.ofChange Rows.canonAnySpec) :=
  OpenClaim.holds_of_wide 3 Tryd.f3 rfl rfl rfl rfl rfl rfl rfl ⟨rfl, rfl, rfl, rfl, rfl⟩ rfl rfl rfl rfl rfl (by kernel_rfl) Tryd.func3 (by kernel_rfl)
    (of_decide_eq_true (by kernel_rfl)) (by unfold Func.isWrapper; first | (rw [if_pos (by decide +kernel)]; kernel_rfl) | (rw [if_neg (by decide +kernel)]; exact ⟨rfl, rfl⟩))
    (fun os started H enc _ => lifted os started H enc)
theorem proved : Rows.CanonAnyCardSaid :=
  Claim7.holds_tied_plain_at .later [] [.data, .data, .data] true (true, "951687fa000d9c105ddb988a2098679cd808f61cc62620e067a1f545dd23d005") false over (fun _ h => by cases h) (by kernel_rfl) (fun _ h => by cases h) canonAny_row_tie rfl ⟨rfl, rfl⟩ (by kernel_rfl) rfl
    (fun f fn hf hfn => by
      obtain rfl : f = 3 := Option.some.inj ((show Tryd.prog.funcNamed Rows.canonAnyRow.func = some 3 by kernel_rfl).symm.trans hf) |>.symm
      obtain rfl : fn = Tryd.f3 := (Option.some.inj (Tryd.func3.symm.trans hfn)).symm
      exact ⟨by kernel_rfl, fun j t ht => by
        rw [Tryd.params3] at ht
        have hm : t ∈ [25] := by simpa using Array.mem_of_getElem? ht
        have hall : ([25].all fun u => !Tryd.prog.wantsStandIn u) = true := by kernel_rfl
        exact (show Tryd.prog.wantsStandIn t = false by simpa using List.all_eq_true.1 hall t hm)⟩)
    (by kernel_rfl)
end Go.Proofs.YtdppnggchpchgaaDoor.canonAny
