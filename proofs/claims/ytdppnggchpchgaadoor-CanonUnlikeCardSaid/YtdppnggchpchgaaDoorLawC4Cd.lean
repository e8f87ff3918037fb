/- The law CanonUnlike of layer 18 returns true for every argument. -/
import Derived.Test.YtdppnggchpchgaaDoorCd9
namespace Go.Proofs.YtdppnggchpchgaaDoor
set_option linter.unusedVariables false
set_option linter.unusedSimpArgs false
open Go.RowKit Go.Maps
theorem ROwn.ne {W : World} {B q : Nat} {v : Value} {xs : List Rv} {cs : Array Value} {m : Nat × Nat} (h : ROwn W B v xs) (hq : W.heap[q]? = some (.cells cs 5 m)) : v.ownBlock ≠ some q := by
  intro e
  unfold ROwn at h
  rcases h.2 with ⟨e2, _⟩ | ⟨g, cap, cur, e2, _, hh, _⟩
  · rw [e2] at e; cases e
  · rw [e2] at e
    injection e with e
    have e3 : g = q := e
    subst e3
    rw [hq] at hh
    injection hh with hh
    injection hh with _ h3
    exact absurd h3 (by decide)
theorem sameC_ne {a b : Gv} (h : canM a ≠ canM b) : sameC a b = false := by unfold sameC; rw [decide_eq_false h, Bool.and_false]
theorem bv_succ : ∀ z : BitVec 8, z + 1#8 ≠ z := by decide +kernel
theorem k_of_m {a b : List Nv} (h : a.map Nv.m = b.map Nv.m) : a.map Nv.k = b.map Nv.k := by
  have e : ∀ l : List Nv, l.map Nv.k = (l.map Nv.m).map (fun p => (p.1, p.2.length)) := fun l => by
    rw [List.map_map]
    exact List.map_congr_left fun z _ => rfl
  rw [e a, e b, h]
theorem u8_wf {a : Int} (h : (Lit.int .u8 a).wf = true) : 0 ≤ a ∧ a ≤ 255 := by
  simp [Lit.wf, IntKind.min, IntKind.max, IntKind.signed, IntKind.bits] at h
  omega
set_option maxHeartbeats 8000000
set_option maxRecDepth 100000
theorem cu19 (Q : Exit → Act → World → Prop) (a0 : Act) (w : World) (sc q k j K c1 n d : Nat) (ad : Addr) (y : BitVec 8) (hs : Hid (∀ W, Below w.heap.size w W → W.cell? ⟨sc, 0, none⟩ = some (.slice (some ad) K c1) ∧ W.cell? ⟨(ad.add (k * 2)).block, (ad.add (k * 2)).off + 1, none⟩ = some (.slice (some ⟨q, 0, none⟩) n d) ∧ W.cell? ⟨q, j, none⟩ = some (.int .u8 (U8 y)))) (p1 : (0 : Int) ≤ (k : Int)) (p2 : (k : Int) < (K : Int)) (p3 : (0 : Int) ≤ (j : Int)) (p4 : (j : Int) < (n : Int)) (hsz : a0.tmps.size = 113) (sl8 : a0.tmps.getD 8 undef = .int .i64 j) (sl9 : a0.tmps.getD 9 undef = .pointer (some ⟨sc, 0, none⟩)) (sl10 : a0.tmps.getD 10 undef = .int .i64 k)
    (fin : ∀ (vals : Nat → Value) (w1 : World), Below w.heap.size w w1 → (IsV (.int .u8 (U8 (y + 1#8)))) (vals 16) w1 → (IsV (.pointer (some ⟨q, j, none⟩))) (vals 17) w1 → wpList Tryd.prog #[{ dst := none, op := Go.Op.store 5 (Go.Operand.tmp 81) (Go.Operand.tmp 80), type := 0, pos := "", after := #[], guard := none }] Q [{ dst := none, op := Go.Op.store 5 (Go.Operand.tmp 81) (Go.Operand.tmp 80), type := 0, pos := "", after := #[], guard := none }] (putD vals [64, 65, 66, 67, 68, 69, 70, 71, 72, 73, 74, 75, 76, 77, 78, 79, 80, 81] 0 a0) w1) :
    (Code.region 19 (regIn Tryd.f6 19) true).wp Tryd.prog Q a0 w := by
  refine region_by_tail (m := 18) (G := fun w w1 => Below w.heap.size w w1) [IsV (.pointer (some ⟨sc, 0, none⟩)),
    IsV (.slice (some ad) K c1),
    IsV (.int .i64 k),
    IsV (.pointer (some (ad.add (k * 2)))),
    IsV (.pointer (some ⟨(ad.add (k * 2)).block, (ad.add (k * 2)).off + 1, none⟩)),
    IsV (.slice (some ⟨q, 0, none⟩) n d),
    IsV (.int .i64 j),
    IsV (.pointer (some ⟨sc, 0, none⟩)),
    IsV (.slice (some ad) K c1),
    IsV (.int .i64 k),
    IsV (.pointer (some (ad.add (k * 2)))),
    IsV (.pointer (some ⟨(ad.add (k * 2)).block, (ad.add (k * 2)).off + 1, none⟩)),
    IsV (.slice (some ⟨q, 0, none⟩) n d),
    IsV (.int .i64 j),
    IsV (.pointer (some ⟨q, j, none⟩)),
    IsV (.int .u8 (U8 y)),
    IsV (.int .u8 (U8 (y + 1#8))),
    IsV (.pointer (some ⟨q, j, none⟩))]
    [64, 65, 66, 67, 68, 69, 70, 71, 72, 73, 74, 75, 76, 77, 78, 79, 80, 81] (by kernel_rfl) (Gw.drew _) Gw.trans (by rw [hsz]; kernel_rfl) (by kernel_rfl) ?_ ?_ ?_
  · intro f hf
    simp only [List.mem_cons, List.not_mem_nil, or_false] at hf
    rcases hf with rfl | rfl | rfl | rfl | rfl | rfl | rfl | rfl | rfl | rfl | rfl | rfl | rfl | rfl | rfl | rfl | rfl | rfl <;> intro v a b h g <;> first | exact IsV.mono h
  · refine ⟨?_, ?_, ?_, ?_, ?_, ?_, ?_, ?_, ?_, ?_, ?_, ?_, ?_, ?_, ?_, ?_, ?_, ?_, trivial⟩
    · refine owes_v (Go.Op.fieldAddr 25 (Go.Operand.tmp 9) 0) 0 [] (by kernel_rfl) (by kernel_rfl) (by kernel_rfl) rfl fun vals w1 ρ hG hF hρ hcst hfun => ?_
      have e9 : ρ (.tmp 9) = .pointer (some ⟨sc, 0, none⟩) := ((hρ 9).trans (slotO [] (by kernel_rfl))).trans sl9
      clear hρ hF hcst hfun sl8 sl9 sl10 fin
      exact opv_val (by go_simp <;> rfl) ⟨gw_self _, rfl⟩
    · refine owes_v (Go.Op.load 22 (Go.Operand.tmp 64)) 22 [0] (by kernel_rfl) (by kernel_rfl) (by kernel_rfl) rfl fun vals w1 ρ hG hF hρ hcst hfun => ?_
      have e64 : ρ (.tmp 64) = .pointer (some ⟨sc, 0, none⟩) := ((hρ 64).trans (slotJ [0] (by rw [hsz]; decide) (by kernel_rfl))).trans (hF 0 (by decide))
      have d0 := (hs.out w1 hG).1
      clear hρ hF hcst hfun sl8 sl9 sl10 fin
      exact opv_val (by go_simp <;> rfl) ⟨gw_self _, rfl⟩
    · exact owes_mv 10 (by kernel_rfl) (by kernel_rfl) (by kernel_rfl) sl10 (fun _ => rfl)
    · refine owes_v (Go.Op.indexAddr 22 (Go.Operand.tmp 65) (Go.Operand.tmp 66)) 0 [1, 2] (by kernel_rfl) (by kernel_rfl) (by kernel_rfl) rfl fun vals w1 ρ hG hF hρ hcst hfun => ?_
      have e65 : ρ (.tmp 65) = .slice (some ad) K c1 := ((hρ 65).trans (slotJ [1, 2] (by rw [hsz]; decide) (by kernel_rfl))).trans (hF 1 (by decide))
      have e66 : ρ (.tmp 66) = .int .i64 k := ((hρ 66).trans (slotJ [1, 2] (by rw [hsz]; decide) (by kernel_rfl))).trans (hF 2 (by decide))
      have g1 := p1; have g2 := p2
      clear hρ hF hcst hfun sl8 sl9 sl10 fin
      exact opv_val (by go_simp <;> rfl) ⟨gw_self _, rfl⟩
    · refine owes_v (Go.Op.fieldAddr 52 (Go.Operand.tmp 67) 1) 0 [3] (by kernel_rfl) (by kernel_rfl) (by kernel_rfl) rfl fun vals w1 ρ hG hF hρ hcst hfun => ?_
      have e67 : ρ (.tmp 67) = .pointer (some (ad.add (k * 2))) := ((hρ 67).trans (slotJ [3] (by rw [hsz]; decide) (by kernel_rfl))).trans (hF 3 (by decide))
      clear hρ hF hcst hfun sl8 sl9 sl10 fin
      exact opv_val (by go_simp <;> rfl) ⟨gw_self _, rfl⟩
    · refine owes_v (Go.Op.load 45 (Go.Operand.tmp 68)) 45 [4] (by kernel_rfl) (by kernel_rfl) (by kernel_rfl) rfl fun vals w1 ρ hG hF hρ hcst hfun => ?_
      have e68 : ρ (.tmp 68) = .pointer (some ⟨(ad.add (k * 2)).block, (ad.add (k * 2)).off + 1, none⟩) := ((hρ 68).trans (slotJ [4] (by rw [hsz]; decide) (by kernel_rfl))).trans (hF 4 (by decide))
      have d0 := (hs.out w1 hG).2.1
      clear hρ hF hcst hfun sl8 sl9 sl10 fin
      exact opv_val (by go_simp <;> rfl) ⟨gw_self _, rfl⟩
    · exact owes_mv 8 (by kernel_rfl) (by kernel_rfl) (by kernel_rfl) sl8 (fun _ => rfl)
    · refine owes_v (Go.Op.fieldAddr 25 (Go.Operand.tmp 9) 0) 0 [] (by kernel_rfl) (by kernel_rfl) (by kernel_rfl) rfl fun vals w1 ρ hG hF hρ hcst hfun => ?_
      have e9 : ρ (.tmp 9) = .pointer (some ⟨sc, 0, none⟩) := ((hρ 9).trans (slotO [] (by kernel_rfl))).trans sl9
      clear hρ hF hcst hfun sl8 sl9 sl10 fin
      exact opv_val (by go_simp <;> rfl) ⟨gw_self _, rfl⟩
    · refine owes_v (Go.Op.load 22 (Go.Operand.tmp 71)) 22 [7] (by kernel_rfl) (by kernel_rfl) (by kernel_rfl) rfl fun vals w1 ρ hG hF hρ hcst hfun => ?_
      have e71 : ρ (.tmp 71) = .pointer (some ⟨sc, 0, none⟩) := ((hρ 71).trans (slotJ [7] (by rw [hsz]; decide) (by kernel_rfl))).trans (hF 7 (by decide))
      have d0 := (hs.out w1 hG).1
      clear hρ hF hcst hfun sl8 sl9 sl10 fin
      exact opv_val (by go_simp <;> rfl) ⟨gw_self _, rfl⟩
    · exact owes_mv 10 (by kernel_rfl) (by kernel_rfl) (by kernel_rfl) sl10 (fun _ => rfl)
    · refine owes_v (Go.Op.indexAddr 22 (Go.Operand.tmp 72) (Go.Operand.tmp 73)) 0 [8, 9] (by kernel_rfl) (by kernel_rfl) (by kernel_rfl) rfl fun vals w1 ρ hG hF hρ hcst hfun => ?_
      have e72 : ρ (.tmp 72) = .slice (some ad) K c1 := ((hρ 72).trans (slotJ [8, 9] (by rw [hsz]; decide) (by kernel_rfl))).trans (hF 8 (by decide))
      have e73 : ρ (.tmp 73) = .int .i64 k := ((hρ 73).trans (slotJ [8, 9] (by rw [hsz]; decide) (by kernel_rfl))).trans (hF 9 (by decide))
      have g1 := p1; have g2 := p2
      clear hρ hF hcst hfun sl8 sl9 sl10 fin
      exact opv_val (by go_simp <;> rfl) ⟨gw_self _, rfl⟩
    · refine owes_v (Go.Op.fieldAddr 52 (Go.Operand.tmp 74) 1) 0 [10] (by kernel_rfl) (by kernel_rfl) (by kernel_rfl) rfl fun vals w1 ρ hG hF hρ hcst hfun => ?_
      have e74 : ρ (.tmp 74) = .pointer (some (ad.add (k * 2))) := ((hρ 74).trans (slotJ [10] (by rw [hsz]; decide) (by kernel_rfl))).trans (hF 10 (by decide))
      clear hρ hF hcst hfun sl8 sl9 sl10 fin
      exact opv_val (by go_simp <;> rfl) ⟨gw_self _, rfl⟩
    · refine owes_v (Go.Op.load 45 (Go.Operand.tmp 75)) 45 [11] (by kernel_rfl) (by kernel_rfl) (by kernel_rfl) rfl fun vals w1 ρ hG hF hρ hcst hfun => ?_
      have e75 : ρ (.tmp 75) = .pointer (some ⟨(ad.add (k * 2)).block, (ad.add (k * 2)).off + 1, none⟩) := ((hρ 75).trans (slotJ [11] (by rw [hsz]; decide) (by kernel_rfl))).trans (hF 11 (by decide))
      have d0 := (hs.out w1 hG).2.1
      clear hρ hF hcst hfun sl8 sl9 sl10 fin
      exact opv_val (by go_simp <;> rfl) ⟨gw_self _, rfl⟩
    · exact owes_mv 8 (by kernel_rfl) (by kernel_rfl) (by kernel_rfl) sl8 (fun _ => rfl)
    · refine owes_v (Go.Op.indexAddr 45 (Go.Operand.tmp 76) (Go.Operand.tmp 77)) 0 [12, 13] (by kernel_rfl) (by kernel_rfl) (by kernel_rfl) rfl fun vals w1 ρ hG hF hρ hcst hfun => ?_
      have e76 : ρ (.tmp 76) = .slice (some ⟨q, 0, none⟩) n d := ((hρ 76).trans (slotJ [12, 13] (by rw [hsz]; decide) (by kernel_rfl))).trans (hF 12 (by decide))
      have e77 : ρ (.tmp 77) = .int .i64 j := ((hρ 77).trans (slotJ [12, 13] (by rw [hsz]; decide) (by kernel_rfl))).trans (hF 13 (by decide))
      have g1 := p3; have g2 := p4
      clear hρ hF hcst hfun sl8 sl9 sl10 fin
      exact opv_val (by go_simp <;> rfl) ⟨gw_self _, rfl⟩
    · refine owes_v (Go.Op.load 5 (Go.Operand.tmp 78)) 5 [14] (by kernel_rfl) (by kernel_rfl) (by kernel_rfl) rfl fun vals w1 ρ hG hF hρ hcst hfun => ?_
      have e78 : ρ (.tmp 78) = .pointer (some ⟨q, j, none⟩) := ((hρ 78).trans (slotJ [14] (by rw [hsz]; decide) (by kernel_rfl))).trans (hF 14 (by decide))
      have d0 := (hs.out w1 hG).2.2
      clear hρ hF hcst hfun sl8 sl9 sl10 fin
      exact opv_val (by go_simp <;> rfl) ⟨gw_self _, rfl⟩
    · refine owes_v (Go.Op.binOp Go.BinOp.add 5 (Go.Operand.tmp 79) (Go.Operand.const (Go.Value.int Go.IntKind.u8 1)) 5) 5 [15] (by kernel_rfl) (by kernel_rfl) (by kernel_rfl) rfl fun vals w1 ρ hG hF hρ hcst hfun => ?_
      have e79 : ρ (.tmp 79) = .int .u8 (U8 y) := ((hρ 79).trans (slotJ [15] (by rw [hsz]; decide) (by kernel_rfl))).trans (hF 15 (by decide))
      have kk := u8_succ y
      clear hρ hF hfun sl8 sl9 sl10 fin
      exact opv_val (by go_simp <;> rfl) ⟨gw_self _, rfl⟩
    · refine owes_v (Go.Op.indexAddr 45 (Go.Operand.tmp 69) (Go.Operand.tmp 70)) 0 [5, 6] (by kernel_rfl) (by kernel_rfl) (by kernel_rfl) rfl fun vals w1 ρ hG hF hρ hcst hfun => ?_
      have e69 : ρ (.tmp 69) = .slice (some ⟨q, 0, none⟩) n d := ((hρ 69).trans (slotJ [5, 6] (by rw [hsz]; decide) (by kernel_rfl))).trans (hF 5 (by decide))
      have e70 : ρ (.tmp 70) = .int .i64 j := ((hρ 70).trans (slotJ [5, 6] (by rw [hsz]; decide) (by kernel_rfl))).trans (hF 6 (by decide))
      have g1 := p3; have g2 := p4
      clear hρ hF hcst hfun sl8 sl9 sl10 fin
      exact opv_val (by go_simp <;> rfl) ⟨gw_self _, rfl⟩
  · intro vals w1 hG hF
    exact last_list (by kernel_rfl) (by kernel_rfl) (by kernel_rfl) (fin vals w1 hG (hF 16 (by decide +kernel)) (hF 17 (by decide +kernel)))
theorem cu21 (Q : Exit → Act → World → Prop) (a0 : Act) (w : World) (sg sc sd : Nat) (g c d : Gv) (A A2 B B2 C C2 : Option Addr) (N M K L X Y a1 a2 b1 b2 c1 c2 : Nat) (T T2 : List (BitVec 8)) (hvg : g.v = .agg #[.slice A N a1, .slice A2 M a2]) (hvc : c.v = .agg #[.slice B K b1, .slice B2 L b2]) (hvd : d.v = .agg #[.slice C X c1, .slice C2 Y c2]) (hfg : FewP g) (hfc : FewP c) (hfd : FewP d) (h0 : ckG g = 0) (h0c : ckG c = 0) (h0d : ckG d = 0) (hp : Hid (sameC c d = false ∧ sameC g d = false ∧ sameC c g = true)) (hg : Hid (GBx w sg g (.slice A N a1) (.slice A2 M a2))) (hgc : Hid (GBx w sc c (.slice B K b1) (.slice B2 L b2))) (hgd : Hid (GBx w sd d (.slice C X c1) (.slice C2 Y c2))) (hT : Hid (textL (canR c) (canM c) = T)) (hT2 : Hid (textL (canR d) (canM d) = T2)) (hne : ¬ (strB T).toList = (strB T2).toList) (ht : Hid (∀ W, Below w.heap.size w W → W.cell? ⟨2, 15, none⟩ = some (.int .u8 4))) (hsz : a0.tmps.size = 113) (sl2 : a0.tmps.getD 2 undef = .pointer (some ⟨sg, 0, none⟩)) (sl5 : a0.tmps.getD 5 undef = .pointer (some ⟨sc, 0, none⟩)) (sl9 : a0.tmps.getD 9 undef = .pointer (some ⟨sd, 0, none⟩))
    (fin : ∀ (vals : Nat → Value) (w1 : World), Below w.heap.size w w1 → (IsV (.bool true)) (vals 22) w1 → Q .normal (putD vals [91, 92, 93, 94, 95, 96, 97, 98, 99, 100, 101, 102, 103, 104, 105, 106, 107, 108, 109, 110, 111, 112, 4] 0 a0) w1) :
    (Code.region 21 (regIn Tryd.f6 21) true).wp Tryd.prog Q a0 w := by
  refine region_by (G := fun w w1 => Below w.heap.size w w1) [IsV (.agg #[.slice B K b1, .slice B2 L b2]),
    IsV (.agg #[.slice C X c1, .slice C2 Y c2]),
    IsV (.bool false),
    IsV (.bool true),
    IsV (.bool true),
    IsV (.agg #[.slice A N a1, .slice A2 M a2]),
    IsV (.agg #[.slice C X c1, .slice C2 Y c2]),
    IsV (.bool false),
    IsV (.bool true),
    IsV (.bool true),
    IsV (.bool true),
    IsV (.agg #[.slice B K b1, .slice B2 L b2]),
    IsV (.string (strB T)),
    IsV (.agg #[.slice C X c1, .slice C2 Y c2]),
    IsV (.string (strB T2)),
    IsV (.bool true),
    IsV (.bool true),
    IsV (.bool true),
    IsV (.agg #[.slice B K b1, .slice B2 L b2]),
    IsV (.agg #[.slice A N a1, .slice A2 M a2]),
    IsV (.bool true),
    IsV (.bool true),
    IsV (.bool true)]
    [91, 92, 93, 94, 95, 96, 97, 98, 99, 100, 101, 102, 103, 104, 105, 106, 107, 108, 109, 110, 111, 112, 4] (by kernel_rfl) (Gw.drew _) Gw.trans (by rw [hsz]; kernel_rfl) (by kernel_rfl) ?_ ?_ ?_
  · intro f hf
    simp only [List.mem_cons, List.not_mem_nil, or_false] at hf
    rcases hf with rfl | rfl | rfl | rfl | rfl | rfl | rfl | rfl | rfl | rfl | rfl | rfl | rfl | rfl | rfl | rfl | rfl | rfl | rfl | rfl | rfl | rfl | rfl <;> intro v a b h g <;> first | exact IsV.mono h
  · refine ⟨?_, ?_, ?_, ?_, ?_, ?_, ?_, ?_, ?_, ?_, ?_, ?_, ?_, ?_, ?_, ?_, ?_, ?_, ?_, ?_, ?_, ?_, ?_, trivial⟩
    · refine owes_v (Go.Op.load 25 (Go.Operand.tmp 5)) 25 [] (by kernel_rfl) (by kernel_rfl) (by kernel_rfl) rfl fun vals w1 ρ hG hF hρ hcst hfun => ?_
      have e5 : ρ (.tmp 5) = .pointer (some ⟨sc, 0, none⟩) := ((hρ 5).trans (slotO [] (by kernel_rfl))).trans sl5
      obtain ⟨d0, d1, _⟩ := hgc.out w1 hG
      clear hρ hF hcst hfun sl2 sl5 sl9 fin
      exact opv_val (by go_simp <;> rfl) ⟨gw_self _, rfl⟩
    · refine owes_v (Go.Op.load 25 (Go.Operand.tmp 9)) 25 [] (by kernel_rfl) (by kernel_rfl) (by kernel_rfl) rfl fun vals w1 ρ hG hF hρ hcst hfun => ?_
      have e9 : ρ (.tmp 9) = .pointer (some ⟨sd, 0, none⟩) := ((hρ 9).trans (slotO [] (by kernel_rfl))).trans sl9
      obtain ⟨d0, d1, _⟩ := hgd.out w1 hG
      clear hρ hF hcst hfun sl2 sl5 sl9 fin
      exact opv_val (by go_simp <;> rfl) ⟨gw_self _, rfl⟩
    · refine owes_v (Go.Op.call { callee := Go.Callee.value (Go.Operand.func 21), args := #[Go.Operand.tmp 91, Go.Operand.tmp 92], argTypes := #[25, 25] }) 4 [0, 1] (by kernel_rfl) (by kernel_rfl) (by kernel_rfl) rfl fun vals w1 ρ hG hF hρ hcst hfun => ?_
      have e91 : ρ (.tmp 91) = .agg #[.slice B K b1, .slice B2 L b2] := ((hρ 91).trans (slotJ [0, 1] (by rw [hsz]; decide) (by kernel_rfl))).trans (hF 0 (by decide))
      have e92 : ρ (.tmp 92) = .agg #[.slice C X c1, .slice C2 Y c2] := ((hρ 92).trans (slotJ [0, 1] (by rw [hsz]; decide) (by kernel_rfl))).trans (hF 1 (by decide))
      clear hρ hF hcst sl2 sl5 sl9 fin
      exact opv_enter (by go_simp <;> rfl) (of_retK (csame_k hvc hvd (can_ok h0c hfc.small) (can_ok h0d hfd.small) hp.out.1 (hgc.out w1 hG).2.2 (hgd.out w1 hG).2.2))
    · refine owes_v (Go.Op.unOp Go.UnOp.not 4 (Go.Operand.tmp 93)) 4 [2] (by kernel_rfl) (by kernel_rfl) (by kernel_rfl) rfl fun vals w1 ρ hG hF hρ hcst hfun => ?_
      have e93 : ρ (.tmp 93) = .bool false := ((hρ 93).trans (slotJ [2] (by rw [hsz]; decide) (by kernel_rfl))).trans (hF 2 (by decide))
      clear hρ hF hcst hfun sl2 sl5 sl9 fin
      exact opv_val (by go_simp <;> rfl) ⟨gw_self _, rfl⟩
    · exact owes_mvj 3 94 (by kernel_rfl) (by kernel_rfl) (by kernel_rfl) (by kernel_rfl) (by rw [hsz]; decide) (fun v w h => h)
    · refine owes_vt 4 true (Go.Op.load 25 (Go.Operand.tmp 2)) 25 [] (by kernel_rfl) (by kernel_rfl) (by kernel_rfl) (fun _ _ h => h) (by rw [hsz]; kernel_rfl) (by kernel_rfl) rfl fun vals w1 ρ hG hF hρ hcst hfun => ?_
      have e2 : ρ (.tmp 2) = .pointer (some ⟨sg, 0, none⟩) := ((hρ 2).trans (slotO [] (by kernel_rfl))).trans sl2
      obtain ⟨d0, d1, _⟩ := hg.out w1 hG
      clear hρ hF hcst hfun sl2 sl5 sl9 fin
      exact opv_val (by go_simp <;> rfl) ⟨gw_self _, rfl⟩
    · refine owes_vt 4 true (Go.Op.load 25 (Go.Operand.tmp 9)) 25 [] (by kernel_rfl) (by kernel_rfl) (by kernel_rfl) (fun _ _ h => h) (by rw [hsz]; kernel_rfl) (by kernel_rfl) rfl fun vals w1 ρ hG hF hρ hcst hfun => ?_
      have e9 : ρ (.tmp 9) = .pointer (some ⟨sd, 0, none⟩) := ((hρ 9).trans (slotO [] (by kernel_rfl))).trans sl9
      obtain ⟨d0, d1, _⟩ := hgd.out w1 hG
      clear hρ hF hcst hfun sl2 sl5 sl9 fin
      exact opv_val (by go_simp <;> rfl) ⟨gw_self _, rfl⟩
    · refine owes_vt 4 true (Go.Op.call { callee := Go.Callee.value (Go.Operand.func 21), args := #[Go.Operand.tmp 96, Go.Operand.tmp 97], argTypes := #[25, 25] }) 4 [5, 6] (by kernel_rfl) (by kernel_rfl) (by kernel_rfl) (fun _ _ h => h) (by rw [hsz]; kernel_rfl) (by kernel_rfl) rfl fun vals w1 ρ hG hF hρ hcst hfun => ?_
      have e96 : ρ (.tmp 96) = .agg #[.slice A N a1, .slice A2 M a2] := ((hρ 96).trans (slotJ [5, 6] (by rw [hsz]; decide) (by kernel_rfl))).trans (hF 5 (by decide))
      have e97 : ρ (.tmp 97) = .agg #[.slice C X c1, .slice C2 Y c2] := ((hρ 97).trans (slotJ [5, 6] (by rw [hsz]; decide) (by kernel_rfl))).trans (hF 6 (by decide))
      clear hρ hF hcst sl2 sl5 sl9 fin
      exact opv_enter (by go_simp <;> rfl) (of_retK (csame_k hvg hvd (can_ok h0 hfg.small) (can_ok h0d hfd.small) hp.out.2.1 (hg.out w1 hG).2.2 (hgd.out w1 hG).2.2))
    · refine owes_vt 4 true (Go.Op.unOp Go.UnOp.not 4 (Go.Operand.tmp 98)) 4 [7] (by kernel_rfl) (by kernel_rfl) (by kernel_rfl) (fun _ _ h => h) (by rw [hsz]; kernel_rfl) (by kernel_rfl) rfl fun vals w1 ρ hG hF hρ hcst hfun => ?_
      have e98 : ρ (.tmp 98) = .bool false := ((hρ 98).trans (slotJ [7] (by rw [hsz]; decide) (by kernel_rfl))).trans (hF 7 (by decide))
      clear hρ hF hcst hfun sl2 sl5 sl9 fin
      exact opv_val (by go_simp <;> rfl) ⟨gw_self _, rfl⟩
    · refine owes_v (Go.Op.pick (Go.Operand.tmp 95) (Go.Operand.tmp 99) (Go.Operand.const (Go.Value.bool false))) 4 [4, 8] (by kernel_rfl) (by kernel_rfl) (by kernel_rfl) rfl fun vals w1 ρ hG hF hρ hcst hfun => ?_
      have e95 : ρ (.tmp 95) = .bool true := ((hρ 95).trans (slotJ [4, 8] (by rw [hsz]; decide) (by kernel_rfl))).trans (hF 4 (by decide))
      have e99 : ρ (.tmp 99) = .bool true := ((hρ 99).trans (slotJ [4, 8] (by rw [hsz]; decide) (by kernel_rfl))).trans (hF 8 (by decide))
      clear hρ hF hfun sl2 sl5 sl9 fin
      exact opv_val (by go_simp <;> rfl) ⟨gw_self _, rfl⟩
    · exact owes_mvj 9 100 (by kernel_rfl) (by kernel_rfl) (by kernel_rfl) (by kernel_rfl) (by rw [hsz]; decide) (fun v w h => h)
    · refine owes_vt 10 true (Go.Op.load 25 (Go.Operand.tmp 5)) 25 [] (by kernel_rfl) (by kernel_rfl) (by kernel_rfl) (fun _ _ h => h) (by rw [hsz]; kernel_rfl) (by kernel_rfl) rfl fun vals w1 ρ hG hF hρ hcst hfun => ?_
      have e5 : ρ (.tmp 5) = .pointer (some ⟨sc, 0, none⟩) := ((hρ 5).trans (slotO [] (by kernel_rfl))).trans sl5
      obtain ⟨d0, d1, _⟩ := hgc.out w1 hG
      clear hρ hF hcst hfun sl2 sl5 sl9 fin
      exact opv_val (by go_simp <;> rfl) ⟨gw_self _, rfl⟩
    · refine owes_vt 10 true (Go.Op.call { callee := Go.Callee.value (Go.Operand.func 14), args := #[Go.Operand.tmp 102], argTypes := #[25] }) 9 [11] (by kernel_rfl) (by kernel_rfl) (by kernel_rfl) (fun _ _ h => h) (by rw [hsz]; kernel_rfl) (by kernel_rfl) rfl fun vals w1 ρ hG hF hρ hcst hfun => ?_
      have e102 : ρ (.tmp 102) = .agg #[.slice B K b1, .slice B2 L b2] := ((hρ 102).trans (slotJ [11] (by rw [hsz]; decide) (by kernel_rfl))).trans (hF 11 (by decide))
      clear hρ hF hcst sl2 sl5 sl9 fin
      exact opv_enter (by go_simp <;> rfl) (of_retK (text_k hvc hfc h0c hT.out (hgc.out w1 hG).2.2 (ht.out w1 hG)))
    · refine owes_vt 10 true (Go.Op.load 25 (Go.Operand.tmp 9)) 25 [] (by kernel_rfl) (by kernel_rfl) (by kernel_rfl) (fun _ _ h => h) (by rw [hsz]; kernel_rfl) (by kernel_rfl) rfl fun vals w1 ρ hG hF hρ hcst hfun => ?_
      have e9 : ρ (.tmp 9) = .pointer (some ⟨sd, 0, none⟩) := ((hρ 9).trans (slotO [] (by kernel_rfl))).trans sl9
      obtain ⟨d0, d1, _⟩ := hgd.out w1 hG
      clear hρ hF hcst hfun sl2 sl5 sl9 fin
      exact opv_val (by go_simp <;> rfl) ⟨gw_self _, rfl⟩
    · refine owes_vt 10 true (Go.Op.call { callee := Go.Callee.value (Go.Operand.func 14), args := #[Go.Operand.tmp 104], argTypes := #[25] }) 9 [13] (by kernel_rfl) (by kernel_rfl) (by kernel_rfl) (fun _ _ h => h) (by rw [hsz]; kernel_rfl) (by kernel_rfl) rfl fun vals w1 ρ hG hF hρ hcst hfun => ?_
      have e104 : ρ (.tmp 104) = .agg #[.slice C X c1, .slice C2 Y c2] := ((hρ 104).trans (slotJ [13] (by rw [hsz]; decide) (by kernel_rfl))).trans (hF 13 (by decide))
      clear hρ hF hcst sl2 sl5 sl9 fin
      exact opv_enter (by go_simp <;> rfl) (of_retK (text_k hvd hfd h0d hT2.out (hgd.out w1 hG).2.2 (ht.out w1 hG)))
    · refine owes_vt 10 true (Go.Op.binOp Go.BinOp.neq 9 (Go.Operand.tmp 103) (Go.Operand.tmp 105) 9) 4 [12, 14] (by kernel_rfl) (by kernel_rfl) (by kernel_rfl) (fun _ _ h => h) (by rw [hsz]; kernel_rfl) (by kernel_rfl) rfl fun vals w1 ρ hG hF hρ hcst hfun => ?_
      have e103 : ρ (.tmp 103) = .string (strB T) := ((hρ 103).trans (slotJ [12, 14] (by rw [hsz]; decide) (by kernel_rfl))).trans (hF 12 (by decide))
      have e105 : ρ (.tmp 105) = .string (strB T2) := ((hρ 105).trans (slotJ [12, 14] (by rw [hsz]; decide) (by kernel_rfl))).trans (hF 14 (by decide))
      have k := hne
      clear hρ hF hcst hfun sl2 sl5 sl9 fin
      exact opv_val (by go_simp <;> first | rfl | simp [k]) ⟨gw_self _, rfl⟩
    · refine owes_v (Go.Op.pick (Go.Operand.tmp 101) (Go.Operand.tmp 106) (Go.Operand.const (Go.Value.bool false))) 4 [10, 15] (by kernel_rfl) (by kernel_rfl) (by kernel_rfl) rfl fun vals w1 ρ hG hF hρ hcst hfun => ?_
      have e101 : ρ (.tmp 101) = .bool true := ((hρ 101).trans (slotJ [10, 15] (by rw [hsz]; decide) (by kernel_rfl))).trans (hF 10 (by decide))
      have e106 : ρ (.tmp 106) = .bool true := ((hρ 106).trans (slotJ [10, 15] (by rw [hsz]; decide) (by kernel_rfl))).trans (hF 15 (by decide))
      clear hρ hF hfun sl2 sl5 sl9 fin
      exact opv_val (by go_simp <;> rfl) ⟨gw_self _, rfl⟩
    · exact owes_mvj 16 107 (by kernel_rfl) (by kernel_rfl) (by kernel_rfl) (by kernel_rfl) (by rw [hsz]; decide) (fun v w h => h)
    · refine owes_vt 17 true (Go.Op.load 25 (Go.Operand.tmp 5)) 25 [] (by kernel_rfl) (by kernel_rfl) (by kernel_rfl) (fun _ _ h => h) (by rw [hsz]; kernel_rfl) (by kernel_rfl) rfl fun vals w1 ρ hG hF hρ hcst hfun => ?_
      have e5 : ρ (.tmp 5) = .pointer (some ⟨sc, 0, none⟩) := ((hρ 5).trans (slotO [] (by kernel_rfl))).trans sl5
      obtain ⟨d0, d1, _⟩ := hgc.out w1 hG
      clear hρ hF hcst hfun sl2 sl5 sl9 fin
      exact opv_val (by go_simp <;> rfl) ⟨gw_self _, rfl⟩
    · refine owes_vt 17 true (Go.Op.load 25 (Go.Operand.tmp 2)) 25 [] (by kernel_rfl) (by kernel_rfl) (by kernel_rfl) (fun _ _ h => h) (by rw [hsz]; kernel_rfl) (by kernel_rfl) rfl fun vals w1 ρ hG hF hρ hcst hfun => ?_
      have e2 : ρ (.tmp 2) = .pointer (some ⟨sg, 0, none⟩) := ((hρ 2).trans (slotO [] (by kernel_rfl))).trans sl2
      obtain ⟨d0, d1, _⟩ := hg.out w1 hG
      clear hρ hF hcst hfun sl2 sl5 sl9 fin
      exact opv_val (by go_simp <;> rfl) ⟨gw_self _, rfl⟩
    · refine owes_vt 17 true (Go.Op.call { callee := Go.Callee.value (Go.Operand.func 21), args := #[Go.Operand.tmp 109, Go.Operand.tmp 110], argTypes := #[25, 25] }) 4 [18, 19] (by kernel_rfl) (by kernel_rfl) (by kernel_rfl) (fun _ _ h => h) (by rw [hsz]; kernel_rfl) (by kernel_rfl) rfl fun vals w1 ρ hG hF hρ hcst hfun => ?_
      have e109 : ρ (.tmp 109) = .agg #[.slice B K b1, .slice B2 L b2] := ((hρ 109).trans (slotJ [18, 19] (by rw [hsz]; decide) (by kernel_rfl))).trans (hF 18 (by decide))
      have e110 : ρ (.tmp 110) = .agg #[.slice A N a1, .slice A2 M a2] := ((hρ 110).trans (slotJ [18, 19] (by rw [hsz]; decide) (by kernel_rfl))).trans (hF 19 (by decide))
      clear hρ hF hcst sl2 sl5 sl9 fin
      exact opv_enter (by go_simp <;> rfl) (of_retK (csame_k hvc hvg (can_ok h0c hfc.small) (can_ok h0 hfg.small) hp.out.2.2 (hgc.out w1 hG).2.2 (hg.out w1 hG).2.2))
    · refine owes_v (Go.Op.pick (Go.Operand.tmp 108) (Go.Operand.tmp 111) (Go.Operand.const (Go.Value.bool false))) 4 [17, 20] (by kernel_rfl) (by kernel_rfl) (by kernel_rfl) rfl fun vals w1 ρ hG hF hρ hcst hfun => ?_
      have e108 : ρ (.tmp 108) = .bool true := ((hρ 108).trans (slotJ [17, 20] (by rw [hsz]; decide) (by kernel_rfl))).trans (hF 17 (by decide))
      have e111 : ρ (.tmp 111) = .bool true := ((hρ 111).trans (slotJ [17, 20] (by rw [hsz]; decide) (by kernel_rfl))).trans (hF 20 (by decide))
      clear hρ hF hfun sl2 sl5 sl9 fin
      exact opv_val (by go_simp <;> rfl) ⟨gw_self _, rfl⟩
    · exact owes_mvj 21 112 (by kernel_rfl) (by kernel_rfl) (by kernel_rfl) (by kernel_rfl) (by rw [hsz]; decide) (fun v w h => h)
  · intro vals w1 hG hF
    exact fin vals w1 hG (hF 22 (by decide +kernel))
theorem unlike18_walk (w : World) (ht : w.cell? ⟨2, 15, none⟩ = some (.int .u8 4)) (g : Gv) (wg : GvOk w g) (a : Int) (wa : (Lit.int .u8 a).wf = true) : Calls Tryd.prog 6 #[g.v, .int .u8 a] w (RetP (.bool true) w) := by
  have HT := Lib.hid (fun W (h : Below w.heap.size w W) => (h.cell (tab_lt ht)).trans ht)
  have HK := Lib.hid (fun W (h : Below w.heap.size w W) => known18_c W (HT.out W h))
  have HFw := Lib.hid (fun W (h : Below w.heap.size w W) => few_c W g (wg.at_.up h))
  have HOf := Lib.hid (fun W (h : Below w.heap.size w W) (hf : FewP g) => of_k (W := W) (g := g) (v := g.v) rfl hf (wg.at_.up h))
  have HCn := Lib.hid (fun W (h : Below w.heap.size w W) (hf : FewP g) (h0 : ckG g = 0) => can_v (W := W) (g := g) (v := g.v) rfl (can_ok h0 hf.small) (wg.at_.up h))
  have HAt := Lib.hid wg.at_
  have HA8 := Lib.hid (u8_wf wa)
  clear wa
  obtain ⟨va, hva⟩ : ∃ v, v = g.v := ⟨_, rfl⟩
  obtain ⟨A, N, a1, A2, M, a2, ea⟩ : ∃ A N a1 A2 M a2, va = .agg #[.slice A N a1, .slice A2 M a2] := ⟨_, _, _, _, _, _, hva⟩
  rw [← hva] at HFw HOf HCn ⊢
  subst ea
  have HV := Lib.hid hva.symm
  clear hva wg ht
  go_enter Tryd.func6, Tryd.ntmps6
  go_wp2_with fail
  obtain ⟨sa, hsa⟩ : ∃ s, s = w.heap.size := ⟨_, rfl⟩
  obtain ⟨x2, hx2⟩ : ∃ W, W = w.alloc (.cells #[.slice A N a1, .slice A2 M a2] 25) := ⟨_, rfl⟩
  rw [← hsa, ← hx2]
  have k1 : Bk x2 sa 25 #[.slice A N a1, .slice A2 M a2] := by rw [hx2, hsa]; exact Bk.new w _ _
  have d1 : Below w.heap.size w x2 := by rw [hx2]; exact Gw.alloc w _
  have HX := Lib.hid (show ∀ W, Below x2.heap.size x2 W → Bk W sa 25 #[.slice A N a1, .slice A2 M a2] ∧ Below w.heap.size w W from fun W h =>
    ⟨k1.below h k1.lt, d1.trans (h.mono d1.size)⟩)
  have B2 := Lib.hid (Below.refl x2.heap.size x2)
  clear hsa hx2 k1 d1
  refine Calls.mono (HK.out x2 (HX.out x2 B2.out).2) ?_
  rintro r x3 ⟨rfl, h⟩
  have B3 := Lib.hid (B2.out.trans (h.mono B2.out.size))
  clear h
  obtain ⟨ca0, ca1⟩ := (HX.out x3 B3.out).1.two
  have cal := (HX.out x3 B3.out).1.lt
  go_wp2_with fail
  refine Calls.mono (HFw.out x3 (HX.out x3 B3.out).2) ?_
  rintro r x4 ⟨bf, rfl, hfa, h⟩
  have B4 := Lib.hid (B3.out.trans (h.mono B3.out.size))
  clear h ca0 ca1 cal
  cases bf with
  | false =>
    clear hfa
    go_wp2_with fail
    go_ret
    exact ⟨rfl, (HX.out x4 B4.out).2⟩
  | true =>
    have FG := Lib.hid (hfa rfl)
    clear hfa
    obtain ⟨ca0, ca1⟩ := (HX.out x4 B4.out).1.two
    have cal := (HX.out x4 B4.out).1.lt
    go_wp2_with fail
    refine Calls.mono (HOf.out x4 (HX.out x4 B4.out).2 FG.out) ?_
    rintro r x5 ⟨u, rfl, h, hu⟩
    have B5 := Lib.hid (B4.out.trans (h.mono B4.out.size))
    have HC := Lib.hid (rck_k FG.out hu)
    obtain ⟨E0, hE0⟩ : ∃ E, E = ckG g := ⟨_, rfl⟩
    rw [← hE0] at HC
    have HE0 := Lib.hid hE0
    clear h hu hE0 ca0 ca1 cal
    go_wp2_with fail
    refine Calls.mono HC.out ?_
    rintro r x6 ⟨rfl, h⟩
    have B6 := Lib.hid (B5.out.trans (h.mono B5.out.size))
    clear h HC
    by_cases hE : E0 = 0
    · subst hE
      obtain ⟨ca0, ca1⟩ := (HX.out x6 B6.out).1.two
      have cal := (HX.out x6 B6.out).1.lt
      go_wp2_with fail
      refine Calls.mono (HCn.out x6 (HX.out x6 B6.out).2 FG.out HE0.out.symm) ?_
      rintro r x9 ⟨u3, rfl, h, c, rfl, hca, hcm, hcr⟩
      have B9 := Lib.hid (B6.out.trans (h.mono B6.out.size))
      have hcc := can_can HE0.out.symm hcm hcr
      have hwi := can_idL HE0.out.symm hcm hcr
      have hci := can_id hwi hcc.2.2
      have hfc : FewP c := can_few FG.out c hcm hcr
      have HCC := Lib.hid (And.intro hcm (And.intro hcr (And.intro hcc (And.intro hwi (And.intro hci hfc)))))
      have HCA := Lib.hid hca
      obtain ⟨C, cap1, C2, cap2, cn, cr⟩ := c
      obtain ⟨K, hK⟩ : ∃ K, K = cn.length := ⟨_, rfl⟩
      obtain ⟨L, hL⟩ : ∃ L, L = cr.length := ⟨_, rfl⟩
      have HN := Lib.hid (And.intro hK hL)
      have q0 : (K : Int) ≤ 60 := by have : cn.length ≤ 60 := hfc.1; omega
      have hb11 : ∀ x ∈ cn, x.bs.length ≤ 1100 := fun x hx => (hfc.2.2.1 x hx).2
      have HB11 := Lib.hid hb11
      have HTw := Lib.hid (fun W (b : Below x9.heap.size x9 W) => twin_g W ⟨C, cap1, C2, cap2, cn, cr⟩ (hca.up b) hfc.small)
      unfold Gv.v Gv.vn Gv.vr at HTw ⊢
      simp only at HTw ⊢
      rw [← hK, ← hL] at HTw
      rw [← hK, ← hL]
      clear h hca hcm hcr hcc hwi hci hfc hK hL hb11 ca0 ca1 cal
      go_wp2_with fail
      obtain ⟨sc, hsc⟩ : ∃ s, s = x9.heap.size := ⟨_, rfl⟩
      obtain ⟨xa, hxa⟩ : ∃ W, W = x9.alloc (.cells #[.slice C K cap1, .slice C2 L cap2] 25) := ⟨_, rfl⟩
      have hbk : Bk xa sc 25 #[.slice C K cap1, .slice C2 L cap2] := by rw [hxa, hsc]; exact Bk.new x9 _ _
      have hba : Below x9.heap.size x9 xa := by rw [hxa]; exact Gw.alloc x9 _
      rw [← hsc, ← hxa]
      have HY := Lib.hid (show ∀ W, Below xa.heap.size xa W → Bk W sc 25 #[.slice C K cap1, .slice C2 L cap2] ∧ Gv.At W W.heap.size ⟨C, cap1, C2, cap2, cn, cr⟩ ∧ Bk W sa 25 #[.slice A N a1, .slice A2 M a2] ∧ Below w.heap.size w W ∧ Below x9.heap.size x9 W from fun W b => by
        have b9 := hba.trans (b.mono hba.size)
        have b2 := B9.out.trans (b9.mono B9.out.size)
        exact ⟨hbk.below b hbk.lt, HCA.out.up b9, (HX.out W b2).1, (HX.out W b2).2, b9⟩)
      clear hsc hxa hbk hba HCA
      go_loopw [6, 7] (fun o i W => ∃ k : Nat, i = .int .i64 k ∧ k ≤ K ∧ o = .int .i64 (dataN (cn.take k)) ∧ Hid (Below xa.heap.size xa W)) (fun _ i _ => K - (Go.RowKit.intOf i).toNat)
      case atStart => exact ⟨0, rfl, Nat.zero_le _, rfl, Lib.hid (Below.refl _ _)⟩
      case round =>
        obtain ⟨k, rfl, hk, rfl, hB⟩ := hrel
        obtain ⟨c0, c1⟩ := (HY.out wr hB.out).1.two
        have cl := (HY.out wr hB.out).1.lt
        by_cases hlt : k < K
        · have hkl : k < cn.length := by rw [← HN.out.1]; exact hlt
          obtain ⟨x, hx⟩ : ∃ x, x = cn[k] := ⟨_, rfl⟩
          obtain ⟨ad, rfl, hc3⟩ : ∃ ad, C = some ad ∧ wr.cell? ⟨(ad.add (k * 2)).block, (ad.add (k * 2)).off + 1, none⟩ = some x.vd := by
            obtain ⟨ad, e, _, h1, h2, h3⟩ := ((HY.out wr hB.out).2.1.n) k hkl
            exact ⟨ad, e, by rw [hx]; exact h2⟩
          have hnx : dataN (cn.take (k + 1)) = dataN (cn.take k) + x.bs.length := by
            rw [List.take_succ_eq_append_getElem hkl, dataN_snoc, ← hx]
          have hx11 := HB11.out x (by rw [hx]; exact List.getElem_mem _)
          have hl := dataN_le (cn.take k) (fun y hy => HB11.out y (List.mem_of_mem_take hy))
          have hl2 : dataN (cn.take k) ≤ 66000 := by rw [List.length_take] at hl; omega
          obtain ⟨S, hS⟩ : ∃ S, S = dataN (cn.take k) := ⟨_, rfl⟩
          rw [← hS] at hnx hl2 ⊢
          obtain ⟨xA, xc, xD, xd, xps, xbs⟩ := x
          unfold Nv.vd at hc3
          simp only at hc3 hnx hx11
          obtain ⟨m, hm⟩ : ∃ m, m = xbs.length := ⟨_, rfl⟩
          rw [← hm] at hc3 hnx hx11
          have HNx := Lib.hid hnx
          have p1 : (0 : Int) ≤ (k : Int) := by omega
          have p2 : (k : Int) < (K : Int) := by omega
          have p3 : (S : Int) ≤ 66000 := by omega
          have p4 : (m : Int) ≤ 1100 := by omega
          have p5 : (0 : Int) ≤ (S : Int) := by omega
          clear hx hkl hx11 hl hl2 hS hm hnx
          go_wp2_with fail
          clear c0 c1 cl hc3
          go_roundw
          case rel => exact ⟨k + 1, by go_num, by omega, by rw [HNx.out]; go_num, hB⟩
          case measure => simp [Go.RowKit.intOf]; omega
        · have hkN : cn.take k = cn := List.take_of_length_le (by rw [← HN.out.1]; omega)
          rw [hkN]
          obtain ⟨n, hn⟩ : ∃ n, n = dataN cn := ⟨_, rfl⟩
          have hnl : n ≤ 66000 := by
            have h1 := dataN_le cn HB11.out
            have := HN.out.1
            omega
          rw [← hn]
          have HNn := Lib.hid hn
          clear hkN hn
          by_cases hn0 : n = 0
          · subst hn0
            have HB := Lib.hid (HY.out wr hB.out).2.2.2.1
            go_wp2_with fail
            go_ret
            exact ⟨rfl, HB.out⟩
          · obtain ⟨k0, hk0⟩ : ∃ k0 : Nat, k0 = a.toNat % n := ⟨_, rfl⟩
            have hk0n : k0 < n := by rw [hk0]; exact Nat.mod_lt _ (by omega)
            obtain ⟨a8, a9⟩ := HA8.out
            have hmod : a.tmod (n : Int) = (k0 : Int) := by
              rw [Int.tmod_eq_emod_of_nonneg a8, hk0]
              have e : a = (a.toNat : Int) := by omega
              rw [Int.natCast_emod, ← e]
            have hn1 : ¬ (n : Int) = 0 := by omega
            have hn2 : (0 : Int) < (n : Int) := by omega
            have hn3 : (n : Int) ≤ 66000 := by omega
            have HK0 := Lib.hid hk0n
            clear hk0 hk0n hn0 hnl
            go_wp2_with fail
            refine Calls.mono (HTw.out wr (HY.out wr hB.out).2.2.2.2) ?_
            rintro r xt ⟨d, rfl, hn4, hr4, hm4, hr4e, b4⟩
            obtain ⟨DA, e1, D2, e2, ds, dr⟩ := d
            simp only at hn4 hr4 hm4 hr4e
            have hdl : ds.length = K := by
              have := congrArg List.length hm4
              rw [List.length_map, List.length_map] at this
              rw [this]; exact HN.out.1.symm
            have hdr : dr.length = L := by rw [hr4e]; exact HN.out.2.symm
            simp only
            rw [hdl] at hn4 ⊢
            rw [hdr] at hr4 ⊢
            have BT := Lib.hid (hB.out.trans (b4.mono hB.out.size))
            have HD := Lib.hid (And.intro hn4 (And.intro hr4 (And.intro hm4 (And.intro hr4e (And.intro b4 hdl)))))
            clear hn4 hr4 hm4 hr4e b4 hdl hdr c0 c1 cl hmod a8 a9
            go_wp2_with fail
            obtain ⟨sd, hsd⟩ : ∃ s, s = xt.heap.size := ⟨_, rfl⟩
            obtain ⟨xd, hxd⟩ : ∃ W, W = xt.alloc (.cells #[.slice DA K e1, .slice D2 L e2] 25) := ⟨_, rfl⟩
            have hbk : Bk xd sd 25 #[.slice DA K e1, .slice D2 L e2] := by rw [hxd, hsd]; exact Bk.new xt _ _
            have hbd : Below xt.heap.size xt xd := by rw [hxd]; exact Gw.alloc xt _
            rw [← hsd, ← hxd]
            obtain ⟨B, hBB⟩ : ∃ B, B = wr.heap.size := ⟨_, rfl⟩
            obtain ⟨xb, hxb⟩ : ∃ X, X = wr := ⟨_, rfl⟩
            rw [← hxb] at hBB
            have hbz : B ≤ xb.heap.size := by omega
            have HBx := Lib.hid (show xa.heap.size ≤ B from by rw [hBB, hxb]; exact hB.out.size)
            have hsm : ∀ x ∈ ds, x.ps.length ≤ 70 ∧ x.bs.length ≤ 1100 := fun x hx => by
              have hm : x.m ∈ ds.map Nv.m := List.mem_map.2 ⟨x, hx, rfl⟩
              rw [HD.out.2.2.1] at hm
              obtain ⟨y, hy, e⟩ := List.mem_map.1 hm
              have := HCC.out.2.2.2.2.2.2.2.1 y hy
              unfold Nv.m at e
              injection e with e1 e2
              rw [← e1, ← e2]
              exact this
            have HT2 := Lib.hid (show ∀ W, Below xd.heap.size xd W → TwoS B sd xb W DA K e1 (.slice D2 L e2) ds ∧ ROwn W B (.slice D2 L e2) dr ∧ Below xa.heap.size xa W from fun W b => by
              obtain ⟨g1, g2, g3, g4, g5, g6⟩ := HD.out
              have b1 := hbd.trans (b.mono hbd.size)
              have b2 := g5.trans (b1.mono g5.size)
              rw [hBB, hxb]
              exact ⟨⟨g1.below b1, g6, hsm, hbk.below b hbk.lt, b2⟩, g2.below b1, BT.out.trans (b1.mono BT.out.size)⟩)
            clear hsd hxd hbk hbd hsm hBB hxb hB hbz BT
            go_loopw [8, 10] (fun j i W => ∃ (k jj : Nat), i = .int .i64 k ∧ k ≤ K ∧ j = .int .i64 jj ∧ Hid (jj + dataN (ds.take k) = k0) ∧ Hid (Below xd.heap.size xd W)) (fun _ i _ => K - (Go.RowKit.intOf i).toNat)
            case atStart => exact ⟨0, k0, rfl, Nat.zero_le _, rfl, Lib.hid rfl, Lib.hid (Below.refl _ _)⟩
            case round =>
              clear hlt hk hn1 hn2 hn3
              obtain ⟨k, jj, rfl, hk, rfl, hjj, hB⟩ := hrel
              obtain ⟨hT, hR, hA⟩ := HT2.out wr hB.out
              have c0 := hT.bk.two.1
              have cl := hT.bk.lt
              by_cases hlt : k < K
              · have hkl : k < ds.length := by rw [hT.len]; exact hlt
                obtain ⟨x, hx⟩ : ∃ x, x = ds[k] := ⟨_, rfl⟩
                have hxs : ds[k]? = some x := by rw [hx]; exact List.getElem?_eq_getElem hkl
                obtain ⟨ad, rfl, hbl, _, n0, n1⟩ := hT.spot hxs
                have hnx : dataN (ds.take (k + 1)) = dataN (ds.take k) + x.bs.length := by
                  rw [List.take_succ_eq_append_getElem hkl, dataN_snoc, ← hx]
                have hxm := hT.sm x (List.mem_of_getElem? hxs)
                have how := (hT.own.each x (List.mem_of_getElem? hxs)).2
                have HXs := Lib.hid hxs
                have HNx := Lib.hid hnx
                obtain ⟨yA, yc, yD, yd, yps, ybs⟩ := x
                unfold Nv.vd at n1
                simp only at n1 hxm
                obtain ⟨m, hm⟩ : ∃ m, m = ybs.length := ⟨_, rfl⟩
                rw [← hm] at n1 hxm
                have p1 : (0 : Int) ≤ (k : Int) := by omega
                have p2 : (k : Int) < (K : Int) := by omega
                have p3 : (0 : Int) ≤ (jj : Int) := by omega
                have p5 : (m : Int) ≤ 1100 := by omega
                have p6 : (jj : Int) ≤ 66000 := by have h1 := hjj.out; have h2 := HK0.out; have h3 := dataN_le cn HB11.out; have h4 := HN.out.1; have h5 := HNn.out; omega
                have HM := Lib.hid hm
                by_cases hjm : jj < m
                · have hj2 : jj < ybs.length := by rw [← hm]; exact hjm
                  obtain ⟨q, rfl, hqc, hqf, hqg, hql⟩ := ow_spot how hj2
                  obtain ⟨z, hz⟩ : ∃ z, z = ybs[jj] := ⟨_, rfl⟩
                  simp only at hqc
                  rw [← hz] at hqc
                  unfold b8 at hqc
                  have HR := Lib.hid (fun (W : World) (b : Below wr.heap.size wr W) => show W.cell? ⟨sd, 0, none⟩ = some (.slice (some ad) K e1) ∧ W.cell? ⟨(ad.add (k * 2)).block, (ad.add (k * 2)).off + 1, none⟩ = some (.slice (some ⟨q, 0, none⟩) m yd) ∧ W.cell? ⟨q, jj, none⟩ = some (.int .u8 (U8 z)) from ⟨(b.cell cl).trans c0, (b.cell (cell_lt n1)).trans n1, (b.cell (cell_lt hqc)).trans hqc⟩)
                  have p4 : (jj : Int) < (m : Int) := by omega
                  have HJ := Lib.hid (And.intro hj2 (show ybs[jj]? = some z from by rw [hz]; exact List.getElem?_eq_getElem hj2))
                  have hql' : q < wr.heap.size := cell_lt hqc
                  clear how hqg hql hz hT hR hA hj2 hnx hxm hm hkl hx hxs hjm
                  go_wp2_with fail
                  refine cu19 _ _ _ sd q k jj K e1 m yd ad z HR p1 p2 p3 p4 rfl ?_ ?_ ?_ ?_
                  · rfl
                  · rfl
                  · rfl
                  intro vals w7 hG h80 h81
                  unfold IsV at h80 h81
                  simp only [putD, Act.put, List.setIfInBounds_toArray, List.set_cons_zero, List.set_cons_succ, h80, h81]
                  have hBw7 := hB.out.trans (hG.mono hB.out.size)
                  obtain ⟨g1, g2, g3⟩ := HT2.out w7 hBw7
                  have hown := (g1.own.each _ (List.mem_of_getElem? HXs.out)).2
                  obtain ⟨q2, e5, hqc7, hqf7, _⟩ := ow_spot hown HJ.out.1
                  injection e5 with e5
                  injection e5 with e5
                  subst e5
                  have hqc7' := (HR.out w7 hG).2.2
                  obtain ⟨cs, mm, hqb⟩ := ow_blk2 (show Ow b8 5 w7 B (.slice (some ⟨q, 0, none⟩) ybs.length yd) ybs from hown)
                  have hset := g1.setB HXs.out HJ.out.1 rfl (z + 1#8)
                  have hr8 : ROwn (w7.setCell ⟨q, jj, none⟩ (b8 (z + 1#8))) B (.slice D2 L e2) dr := World.ownsRow.kept g2 (grown_set w7 ⟨q, jj, none⟩ _) (.inr (g2.ne hqb))
                  have hqB : B ≤ q := (hown.lt q rfl).1
                  have hkey := Lib.hid (And.intro hset (And.intro hr8 (And.intro g3 (And.intro hqB g1.bl))))
                  clear g1 g2 g3 hown hqc7 hset hr8 hqb hG h80 h81 HR c0 n0 n1 cl hqc hqf hqB hbl hql'
                  go_wp2_with fail
                  clear hqc7' hqf7
                  obtain ⟨w8, hw8⟩ : ∃ W, W = w7.setCell ⟨q, jj, none⟩ (.int .u8 (U8 (z + 1#8))) := ⟨_, rfl⟩
                  have HKy := Lib.hid (show TwoS B sd xb w8 (some ad) K e1 (.slice D2 L e2) (ds.set k ⟨yA, yc, some ⟨q, 0, none⟩, yd, yps, ybs.set jj (z + 1#8)⟩) ∧ ROwn w8 B (.slice D2 L e2) dr ∧ Below xa.heap.size xa w8 from by
                    obtain ⟨g1, g2, g3, g4, g5⟩ := hkey.out
                    rw [hw8]
                    exact ⟨g1, g2, g3.setCell (p := ⟨q, jj, none⟩) (Nat.le_trans HBx.out g4) _⟩)
                  rw [← hw8]
                  obtain ⟨DS, hDS⟩ : ∃ X, X = ds.set k ⟨yA, yc, some ⟨q, 0, none⟩, yd, yps, ybs.set jj (z + 1#8)⟩ := ⟨_, rfl⟩
                  rw [← hDS] at HKy
                  obtain ⟨t1, t2, t3⟩ := HKy.out
                  obtain ⟨y1, y2, y3, y4, y5⟩ := HY.out w8 t3
                  have hdat : Gv.At w8 w8.heap.size ⟨some ad, e1, D2, e2, DS, dr⟩ := ⟨t1.own.rows.1, t2.rows.1, t1.own.rows.2.2, t2.rows.2.2⟩
                  obtain ⟨hcm, hcr, hcc, hwi, hci, hfc⟩ := HCC.out
                  have hkc : DS.map Nv.k = cn.map Nv.k := by
                    rw [hDS]
                    exact (set_k HXs.out (z + 1#8)).trans (k_of_m HD.out.2.2.1)
                  have hdl : DS.length = cn.length := by have := congrArg List.length hkc; rwa [List.length_map, List.length_map] at this
                  have hre : dr = cr := HD.out.2.2.2.1
                  have hcg : ckG ⟨some ad, e1, D2, e2, DS, dr⟩ = 0 := (ckG_k (c := ⟨C, cap1, C2, cap2, cn, cr⟩) (d := ⟨some ad, e1, D2, e2, DS, dr⟩) hkc hre).trans hcc.2.2
                  have hdi := can_id (c := ⟨some ad, e1, D2, e2, DS, dr⟩) (by
                    show walkL DS (dr.map (·.t)) = idL DS.length
                    rw [walk_kk hkc, hre, hdl]
                    exact hwi) hcg
                  have hfd : FewP ⟨some ad, e1, D2, e2, DS, dr⟩ := few_k (c := ⟨C, cap1, C2, cap2, cn, cr⟩) (d := ⟨some ad, e1, D2, e2, DS, dr⟩) hkc hre hfc
                  have htx := text_set (rs := dr) HXs.out HJ.out.2 (bv_succ z)
                  rw [← hDS] at htx
                  simp only at hdi
                  have hcM : canM ⟨C, cap1, C2, cap2, cn, cr⟩ = ds.map Nv.m := hci.1.trans HD.out.2.2.1.symm
                  have hcR : canR ⟨C, cap1, C2, cap2, cn, cr⟩ = dr := hci.2.trans hre.symm
                  have hn1 : canM ⟨C, cap1, C2, cap2, cn, cr⟩ ≠ canM ⟨some ad, e1, D2, e2, DS, dr⟩ := by rw [hcM, hdi.1]; exact htx.2
                  have hn2 : canM g ≠ canM ⟨some ad, e1, D2, e2, DS, dr⟩ := by rw [← hcc.1]; exact hn1
                  obtain ⟨T, hT⟩ : ∃ T, T = textL (canR ⟨C, cap1, C2, cap2, cn, cr⟩) (canM ⟨C, cap1, C2, cap2, cn, cr⟩) := ⟨_, rfl⟩
                  obtain ⟨T2, hT2⟩ : ∃ T, T = textL (canR ⟨some ad, e1, D2, e2, DS, dr⟩) (canM ⟨some ad, e1, D2, e2, DS, dr⟩) := ⟨_, rfl⟩
                  have hTne : T ≠ T2 := by rw [hT, hT2, hcM, hcR, hdi.1, hdi.2]; exact htx.1
                  have hvc : Gv.v ⟨C, cap1, C2, cap2, cn, cr⟩ = .agg #[.slice C K cap1, .slice C2 L cap2] := by
                    show Value.agg #[.slice C cn.length cap1, .slice C2 cr.length cap2] = _
                    rw [← HN.out.1, ← HN.out.2]
                  have hvd : Gv.v ⟨some ad, e1, D2, e2, DS, dr⟩ = .agg #[.slice (some ad) K e1, .slice D2 L e2] := by
                    show Value.agg #[.slice (some ad) DS.length e1, .slice D2 dr.length e2] = _
                    rw [t1.len, hre, ← HN.out.2]
                  have Hg := Lib.hid (GBx.of y3 (HAt.out.up y4))
                  have Hgc := Lib.hid (GBx.of y1 y2)
                  have Hgd := Lib.hid (GBx.of t1.bk hdat)
                  have Hp := Lib.hid (And.intro (sameC_ne hn1) (And.intro (sameC_ne hn2) (sameC_true hcc.1 hcc.2.1)))
                  have HTa := Lib.hid hT.symm
                  have HTb := Lib.hid hT2.symm
                  have Hta := Lib.hid (fun W (b : Below w8.heap.size w8 W) => HT.out W (y4.trans (b.mono y4.size)))
                  have hsn := str_ne hTne
                  have Hy4 := Lib.hid y4
                  clear hw8 hkey HKy hDS t1 t2 t3 y1 y2 y3 y4 y5 hdat hkc hdi htx hcM hcR hn1 hn2 hT hT2 hTne
                  refine cu21 _ _ _ sa sc sd g ⟨C, cap1, C2, cap2, cn, cr⟩ ⟨some ad, e1, D2, e2, DS, dr⟩ A A2 C C2 (some ad) D2 N M K L K L a1 a2 cap1 cap2 e1 e2 T T2 HV.out hvc hvd FG.out hfc hfd HE0.out.symm hcc.2.2 hcg Hp Hg Hgc Hgd HTa HTb hsn Hta rfl ?_ ?_ ?_ ?_
                  · rfl
                  · rfl
                  · rfl
                  intro vals y hG h4
                  unfold IsV at h4
                  simp only [putD, Act.put, List.setIfInBounds_toArray, List.set_cons_zero, List.set_cons_succ, h4]
                  have HYy := Lib.hid (Hy4.out.trans (hG.mono Hy4.out.size))
                  clear hG h4 hcm hcr hcc hwi hci hfc hcg hfd hvc hvd hsn hre hdl
                  go_wp2_with fail
                  go_ret
                  exact ⟨rfl, HYy.out⟩
                · have q1 : (m : Int) ≤ (jj : Int) := by omega
                  clear how hT hR hA hnx hxm hm hkl hx hxs hjm hbl
                  go_wp2_with fail
                  clear c0 n0 n1 cl
                  go_roundw
                  case rel =>
                    have e1 : (jj - m) + dataN (ds.take (k + 1)) = k0 := by
                      have h1 := hjj.out
                      have h2 := HNx.out
                      have h3 := HM.out
                      have h4 : (⟨yA, yc, yD, yd, yps, ybs⟩ : Nv).bs.length = ybs.length := rfl
                      omega
                    have e2 : (Value.int .i64 ((jj : Int) - (m : Int))) = .int .i64 ((jj - m : Nat) : Int) := by congr 1; omega
                    have X : ∃ (k' jj' : Nat), (Value.int .i64 ((k : Int) + 1)) = .int .i64 k' ∧ k' ≤ K ∧ (Value.int .i64 ((jj : Int) - (m : Int))) = .int .i64 jj' ∧ Hid (jj' + dataN (ds.take k') = k0) ∧ Hid (Below xd.heap.size xd wr) := ⟨k + 1, jj - m, by go_num, by omega, e2, Lib.hid e1, hB⟩
                    exact X
                  case measure => simp [Go.RowKit.intOf]; omega
              · exfalso
                have h1 := hjj.out
                have h2 := HK0.out
                have h3 : ds.take k = ds := List.take_of_length_le (by rw [hT.len]; omega)
                rw [h3, dataN_m HD.out.2.2.1, ← HNn.out] at h1
                omega
    · have e1 : (E0 != 0) = true := by simpa using hE
      clear hE
      go_wp2_with fail
      go_ret
      exact ⟨rfl, (HX.out x6 B6.out).2⟩
end Go.Proofs.YtdppnggchpchgaaDoor
namespace Go.Proofs.YtdppnggchpchgaaDoor.canonUnlike
open Go.ChangeShapes Go.WideShapes Go.ChangeAt Go.RowKit
open Go.ChangeMaps (open_string shut_string)
set_option linter.unusedVariables false
set_option maxRecDepth 100000 in
theorem lifted (os : Os) (started : os.Started) (H : Type) (enc : TypeId × Value → H) :
    ReturnsInHanded {} Tryd.checked os 6 .any (fun w args => (Rows.canonUnlikeSpec.pre enc Tryd.prog Tryd.f6 [] false w args ∧ laidMetH Tryd.prog laid18 w) ∧ sizedMet enc Tryd.prog Tryd.f6 (OpenSpec.ofChange Rows.canonUnlikeSpec) false w args) (Rows.canonUnlikeSpec.post enc Tryd.prog Tryd.f6 false true false false) := by
  refine returnsInHanded_of_change_and (C := Tryd.checked) (X := fun w _ => laidMetH Tryd.prog laid18 w) (fun _ _ _ hh h => h.of_heap hh) own started (by kernel_rfl) Tryd.func6
    (ChangeSpec.witness_shaped (enc := enc) (C := Tryd.checked) (os := os) (X := fun w _ => laidMetH Tryd.prog laid18 w) false (World.doorLaid Tryd.prog 24 os) #[.agg #[.slice none 0 0, .slice none 0 0], .int .u8 0] 8 rfl (World.shaped_of_RefB (by kernel_rfl) (by kernel_rfl)) (by kernel_rfl) (by kernel_rfl) (by kernel_rfl) (door_met os _)) ?_
  intro W base args ds gs before hval0 hW _ _ hL _
  have hLd := of_laid hL
  have hval : ∀ (j : Nat) t v, Tryd.f6.params[j]? = some t → args[j]? = some v → Value.okWide Tryd.prog W .any base t v := hval0
  have hW' := hW
  obtain ⟨p, q, hA0, hV, rfl, hfz, hnd⟩ := hW
  have hA : DataW.TrodAll enc Tryd.prog W 0 (fun _ => true) true Tryd.f6.params.toList args.toList ds p := hA0
  rw [Tryd.params6] at hA hval
  obtain ⟨v0, vs0, d0, ds0, p0, q0, hargs, rfl, rfl, h0, r0⟩ := trodAll_cons hA
  obtain ⟨v1, vs1, d1, ds1, p1, q1, rfl, rfl, rfl, h1, r1⟩ := trodAll_cons r0
  obtain ⟨rfl, rfl, rfl⟩ := trodAll_nil r1
  obtain rfl : args = #[v0, v1] := by cases args; simp_all
  obtain ⟨rfl, rfl⟩ := trodVars_none hV
  have k0 := h0
  have lt0 : ∀ x ∈ p0, x.block < W.heap.size := by obtain ⟨m, hm⟩ := k0; exact DataW.trod_lt m _ _ _ hm
  obtain ⟨a0, e0v, w0⟩ := open_str_Graph (hval 0 25 v0 rfl rfl) h0; subst e0v
  have k1 := h1
  have lt1 : ∀ x ∈ p1, x.block < W.heap.size := by obtain ⟨m, hm⟩ := k1; exact DataW.trod_lt m _ _ _ hm
  obtain ⟨a1, e1v, _, _, w1⟩ := open_int Tryd.underlying5 (hval 1 5 v1 rfl rfl) h1; subst e1v
  clear hA0 hval0
  refine (unlike18_walk W hLd a0 w0 a1 w1).mono fun e W' ⟨he, bel⟩ => ?_
  subst he
  exact ⟨_, rfl, _, _, _, [], _, [], hW', trodAll_mk1 (shut_bool Tryd.underlying4 _), (trodAll_cons_mk (Below.trod laidOut (by kernel_rfl) (of_decide_eq_true (by kernel_rfl)) k0 bel lt0) (trodAll_cons_mk (Below.trod laidOut (by kernel_rfl) (of_decide_eq_true (by kernel_rfl)) k1 bel lt1) trodAll_mk0)), rfl, bel.frame _, fun h => by cases h⟩
theorem over : Rows.canonUnlikeRow.holds Tryd.pinned (OpenSpec.ofChange Rows.canonUnlikeSpec) :=
  OpenClaim.holds_of_wide 6 Tryd.f6 rfl rfl rfl rfl rfl rfl rfl ⟨rfl, rfl, rfl, rfl, rfl⟩ rfl rfl rfl rfl rfl (by kernel_rfl) Tryd.func6 (by kernel_rfl)
    (of_decide_eq_true (by kernel_rfl)) (by unfold Func.isWrapper; first | (rw [if_pos (by decide +kernel)]; kernel_rfl) | (rw [if_neg (by decide +kernel)]; exact ⟨rfl, rfl⟩))
    (fun os started H enc _ => lifted os started H enc)
theorem proved : Rows.CanonUnlikeCardSaid :=
  Claim7.holds_tied_plain_at .later [] [.data, .data, .data] true (true, "951687fa000d9c105ddb988a2098679cd808f61cc62620e067a1f545dd23d005") false over (fun _ h => by cases h) (by kernel_rfl) (fun _ h => by cases h) canonUnlike_row_tie rfl ⟨rfl, rfl⟩ (by kernel_rfl) rfl
    (fun f fn hf hfn => by
      obtain rfl : f = 6 := Option.some.inj ((show Tryd.prog.funcNamed Rows.canonUnlikeRow.func = some 6 by kernel_rfl).symm.trans hf) |>.symm
      obtain rfl : fn = Tryd.f6 := (Option.some.inj (Tryd.func6.symm.trans hfn)).symm
      exact ⟨by kernel_rfl, fun j t ht => by
        rw [Tryd.params6] at ht
        have hm : t ∈ [25, 5] := by simpa using Array.mem_of_getElem? ht
        have hall : ([25, 5].all fun u => !Tryd.prog.wantsStandIn u) = true := by kernel_rfl
        exact (show Tryd.prog.wantsStandIn t = false by simpa using List.all_eq_true.1 hall t hm)⟩)
    (by kernel_rfl)
end Go.Proofs.YtdppnggchpchgaaDoor.canonUnlike
