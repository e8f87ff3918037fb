/- Texts joined: CrcE Known2 CrcF OpenP AnyR CaH TxC TxD. -/
import Derived.Test.YtdppnggchpchgaaDoorCe7
import Derived.Test.YtdppnggchpchgaaDoorCrcD
import Derived.Test.YtdppnggchpchgaaDoorStr
import Derived.Test.YtdppnggchpchgaaDoorRegV
import Derived.LoopTactic
import Derived.Lib.SmallJoins
import Derived.Test.YtdppnggchpchgaaDoorFrame
import Derived.Deep.Matrix
import Derived.Test.YtdppnggchpchgaaDoorTxB
/- What the functions of loamref2 answer. Conditions: at most 2^30 bytes. -/
namespace Go.Proofs.YtdppnggchpchgaaDoor
set_option linter.unusedVariables false
set_option linter.unusedSimpArgs false
open Go.RowKit
end Go.Proofs.YtdppnggchpchgaaDoor
/- What loamlaw2.known answers: true. No conditions. -/
namespace Go.Proofs.YtdppnggchpchgaaDoor
set_option linter.unusedVariables false
set_option linter.unusedSimpArgs false
open Go.RowKit
def l1234 : List (BitVec 8) := [49, 50, 51, 52]
def l5 : List (BitVec 8) := [53, 54, 55, 56, 57]
def lx : List (BitVec 8) := [120]
def labc : List (BitVec 8) := [97, 98, 99]
/-- Block g has the cells cs, whatever of it is frozen. -/
def Fk (w : World) (g : Nat) (E : TypeId) (cs : Array Value) : Prop := ∃ fr, w.heap[g]? = some (.cells cs E fr)
section
variable {W W' : World} {g B : Nat} {E : TypeId} {cs : Array Value}
theorem Fk.lt (h : Fk W g E cs) : g < W.heap.size := by
  obtain ⟨fr, h⟩ := h
  rcases Nat.lt_or_ge g W.heap.size with hl | hl
  · exact hl
  · rw [Array.getElem?_eq_none hl] at h; cases h
theorem Fk.alloc (h : Fk W g E cs) (o : Obj) : Fk (W.alloc o) g E cs := ⟨h.choose, (Below.heap_alloc W o g h.lt).trans h.choose_spec⟩
theorem Fk.drew (h : Fk W g E cs) : Fk W.drew g E cs := h
theorem Fk.below (h : Fk W g E cs) (hb : Below B W W') (hg : g < B) : Fk W' g E cs := ⟨h.choose, (hb.block g hg).trans h.choose_spec⟩
theorem Fk.rd {α : Type} {f : α → Value} {xs : List α} (h : Fk W g E cs) (e : cs = (xs.map f).toArray) (hB : g < B) : Rd f W B (some ⟨g, 0, none⟩) xs := fun j hj => by
  refine ⟨_, rfl, hB, ?_⟩
  have e2 : ((⟨g, 0, none⟩ : Addr).add j) = ⟨g, j, none⟩ := by unfold Addr.add; split <;> simp_all
  rw [e2, Joins.cell_of_block h.choose_spec, e]
  simp [hj]
end
theorem kc_at (w : World) (C : Array Value) (n c g : Nat) (hg : g = w.heap.size) : (convert 45 45 (.slice (some ⟨g, 0, none⟩) n c)).run Tryd.prog (w.alloc (.cells C 5)) = .ok (.slice (some ⟨g, 0, none⟩) n c) (w.alloc (.cells C 5 (C.size, C.size + 1))) :=
  Joins.run_convert_bytes_const_at w 45 5 C n c g hg Tryd.underlying45 Tryd.underlying5
attribute [local go_sem] kc_at
set_option maxHeartbeats 800000
set_option maxRecDepth 100000
end Go.Proofs.YtdppnggchpchgaaDoor
/- What Low, Seal, Right of loamref2 answer. Conditions: at most 2^30 bytes. -/
namespace Go.Proofs.YtdppnggchpchgaaDoor
set_option linter.unusedVariables false
set_option linter.unusedSimpArgs false
open Go.RowKit
set_option maxRecDepth 100000
set_option maxHeartbeats 400000
attribute [local go_sem] m8_0 sh8 sh16 sh24 u32_u8
def rightL (bs : List (BitVec 8)) : Bool := decide (4 ≤ bs.length) && tailL (addC 0#32 (bs.take (bs.length - 4))) == bs.drop (bs.length - 4)
end Go.Proofs.YtdppnggchpchgaaDoor
/- How an argument of type [][]byte is opened. No conditions. -/
namespace Go.Proofs.YtdppnggchpchgaaDoor
set_option linter.unusedVariables false
set_option linter.unusedSimpArgs false
open Go.ChangeShapes Go.WideShapes Go.ChangeAt Go.RowKit
end Go.Proofs.YtdppnggchpchgaaDoor
/- The last region of SumsAny. Conditions: lengths. -/
namespace Go.Proofs.YtdppnggchpchgaaDoor
set_option linter.unusedVariables false
set_option linter.unusedSimpArgs false
open Go.RowKit
theorem of_ret {P : Program} {f : FuncId} {args : Array Value} {v : Value} {w : World} (h : Calls P f args w (RetP v w)) : Calls P f args w fun e w2 => ∃ u, e = .returned u ∧ Below w.heap.size w w2 ∧ IsV v u w2 :=
  h.mono fun _ _ h => ⟨_, h.1, h.2, rfl⟩
set_option maxRecDepth 100000
set_option maxHeartbeats 400000
end Go.Proofs.YtdppnggchpchgaaDoor
/- canon.Same, as CaF, beside the reference's side (GvE). Conditions: lengths; numbers of 64 bits. -/
namespace Go.Proofs.YtdppnggchpchgaaDoor
set_option linter.unusedVariables false
set_option linter.unusedSimpArgs false
open Go.RowKit Go.Maps
/-- A value that stands for the canonical graph of g. -/
def CaV (g : Gv) (v : Value) (W : World) : Prop := ∃ g' : Gv, v = g'.v ∧ g'.At W W.heap.size ∧ g'.n.map Nv.m = canM g ∧ g'.r = canR g
theorem CaV.mono {g : Gv} {v : Value} {a b : World} (h : CaV g v a) (hb : Below a.heap.size a b) : CaV g v b := by
  obtain ⟨g', e, h1, h2⟩ := h
  exact ⟨g', e, h1.up hb, h2⟩
theorem can_v {W : World} {g : Gv} {v : Value} (hv : g.v = v) (hf : CanOk g) (h : g.At W W.heap.size) : Calls Tryd.prog 11 #[v] W fun e w2 => ∃ u, e = .returned u ∧ Below W.heap.size W w2 ∧ CaV g u w2 := by
  rw [← hv]
  refine (canon_g W g h hf.small hf.rl hf.wp hf.wr).mono ?_
  rintro e w' ⟨g', rfl, h1, h2, h3, hb⟩
  exact ⟨_, rfl, hb, g', rfl, h1, h2, h3⟩
theorem ceq_v {W : World} {a b : Gv} {u v : Value} {p : Bool} (hs : a.Small) (hp : sameC a b = p) (ha : CaV a u W) (hb : CaV b v W) : Calls Tryd.prog 20 #[u, v] W (RetP (.bool p) W) := by
  obtain ⟨g1, rfl, h1, m1, r1⟩ := ha
  obtain ⟨g2, rfl, h2, m2, r2⟩ := hb
  have k := equalG_c W g1 g2 h1 h2 (can_small hs m1 r1)
  unfold sameG sameNs at k
  rw [m1, m2, r1, r2] at k
  rw [← hp]
  exact k
set_option maxHeartbeats 4000000
set_option maxRecDepth 100000
theorem cs1_r (Q : Exit → Act → World → Prop) (a0 : Act) (w : World) (sa sb : Nat) (a b : Gv) (A A2 B B2 : Option Addr) (N M K L a1 a2 b1 b2 : Nat) (p : Bool) (hva : a.v = .agg #[.slice A N a1, .slice A2 M a2]) (hvb : b.v = .agg #[.slice B K b1, .slice B2 L b2]) (hfa : CanOk a) (hfb : CanOk b) (ha : Hid (GBx w sa a (.slice A N a1) (.slice A2 M a2))) (hb : Hid (GBx w sb b (.slice B K b1) (.slice B2 L b2))) (hp : Hid (sameC a b = p)) (hsz : a0.tmps.size = 10) (sl2 : a0.tmps.getD 2 undef = .pointer (some ⟨sa, 0, none⟩)) (sl3 : a0.tmps.getD 3 undef = .pointer (some ⟨sb, 0, none⟩))
    (fin : ∀ (vals : Nat → Value) (w1 : World), Below w.heap.size w w1 → (IsV (.bool p)) (vals 5) w1 → Q .normal (putD vals [5, 6, 7, 8, 9, 4] 0 a0) w1) :
    (Code.region 1 (regIn Tryd.f21 1) true).wp Tryd.prog Q a0 w := by
  refine region_by (G := fun w w1 => Below w.heap.size w w1) [IsV (.agg #[.slice A N a1, .slice A2 M a2]),
    CaV a,
    IsV (.agg #[.slice B K b1, .slice B2 L b2]),
    CaV b,
    IsV (.bool p),
    IsV (.bool p)]
    [5, 6, 7, 8, 9, 4] (by kernel_rfl) (Gw.drew _) Gw.trans (by rw [hsz]; kernel_rfl) (by kernel_rfl) ?_ ?_ ?_
  · intro f hf
    simp only [List.mem_cons, List.not_mem_nil, or_false] at hf
    rcases hf with rfl | rfl | rfl | rfl | rfl | rfl <;> intro v a b h g <;> first | exact IsV.mono h | exact CaV.mono h g
  · refine ⟨?_, ?_, ?_, ?_, ?_, ?_, trivial⟩
    · refine owes_v (Go.Op.load 25 (Go.Operand.tmp 2)) 25 [] (by kernel_rfl) (by kernel_rfl) (by kernel_rfl) rfl fun vals w1 ρ hG hF hρ hcst hfun => ?_
      have e2 : ρ (.tmp 2) = .pointer (some ⟨sa, 0, none⟩) := ((hρ 2).trans (slotO [] (by kernel_rfl))).trans sl2
      obtain ⟨d0, d1, _⟩ := ha.out w1 hG
      clear hρ hF hcst hfun sl2 sl3 fin
      exact opv_val (by go_simp <;> rfl) ⟨gw_self _, rfl⟩
    · refine owes_v (Go.Op.call { callee := Go.Callee.value (Go.Operand.func 11), args := #[Go.Operand.tmp 5], argTypes := #[25] }) 25 [0] (by kernel_rfl) (by kernel_rfl) (by kernel_rfl) rfl fun vals w1 ρ hG hF hρ hcst hfun => ?_
      have e5 : ρ (.tmp 5) = .agg #[.slice A N a1, .slice A2 M a2] := ((hρ 5).trans (slotJ [0] (by rw [hsz]; decide) (by kernel_rfl))).trans (hF 0 (by decide))
      clear hρ hF hcst sl2 sl3 fin
      exact opv_enter (by go_simp <;> rfl) (can_v hva hfa (ha.out w1 hG).2.2)
    · refine owes_v (Go.Op.load 25 (Go.Operand.tmp 3)) 25 [] (by kernel_rfl) (by kernel_rfl) (by kernel_rfl) rfl fun vals w1 ρ hG hF hρ hcst hfun => ?_
      have e3 : ρ (.tmp 3) = .pointer (some ⟨sb, 0, none⟩) := ((hρ 3).trans (slotO [] (by kernel_rfl))).trans sl3
      obtain ⟨d0, d1, _⟩ := hb.out w1 hG
      clear hρ hF hcst hfun sl2 sl3 fin
      exact opv_val (by go_simp <;> rfl) ⟨gw_self _, rfl⟩
    · refine owes_v (Go.Op.call { callee := Go.Callee.value (Go.Operand.func 11), args := #[Go.Operand.tmp 7], argTypes := #[25] }) 25 [2] (by kernel_rfl) (by kernel_rfl) (by kernel_rfl) rfl fun vals w1 ρ hG hF hρ hcst hfun => ?_
      have e7 : ρ (.tmp 7) = .agg #[.slice B K b1, .slice B2 L b2] := ((hρ 7).trans (slotJ [2] (by rw [hsz]; decide) (by kernel_rfl))).trans (hF 2 (by decide))
      clear hρ hF hcst sl2 sl3 fin
      exact opv_enter (by go_simp <;> rfl) (can_v hvb hfb (hb.out w1 hG).2.2)
    · refine owes_v (Go.Op.call { callee := Go.Callee.value (Go.Operand.func 20), args := #[Go.Operand.tmp 6, Go.Operand.tmp 8], argTypes := #[25, 25] }) 4 [1, 3] (by kernel_rfl) (by kernel_rfl) (by kernel_rfl) rfl fun vals w1 ρ hG hF hρ hcst hfun => ?_
      have f6 : (CaV a) (vals 1) w1 := hF 1 (by decide)
      have e6 : ρ (.tmp 6) = vals 1 := (hρ 6).trans (slotJ [1, 3] (by rw [hsz]; decide) (by kernel_rfl))
      have f8 : (CaV b) (vals 3) w1 := hF 3 (by decide)
      have e8 : ρ (.tmp 8) = vals 3 := (hρ 8).trans (slotJ [1, 3] (by rw [hsz]; decide) (by kernel_rfl))
      clear hρ hF hcst sl2 sl3 fin
      exact opv_enter (by go_simp <;> rfl) (of_ret (ceq_v hfa.small hp.out f6 f8))
    · exact owes_mvj 4 9 (by kernel_rfl) (by kernel_rfl) (by kernel_rfl) (by kernel_rfl) (by rw [hsz]; decide) (fun v w h => h)
  · intro vals w1 hG hF
    exact fin vals w1 hG (hF 5 (by decide +kernel))
theorem csame_c (w : World) (a b : Gv) (ha : a.At w w.heap.size) (hb : b.At w w.heap.size) (hfa : CanOk a) (hfb : CanOk b) : Calls Tryd.prog 21 #[a.v, b.v] w (RetP (.bool (sameC a b)) w) := by
  have HA := Lib.hid ha
  have HB := Lib.hid hb
  obtain ⟨N, M, hN, hM, hva⟩ := @gv_cut a
  obtain ⟨K, L, hK, hL, hvb⟩ := @gv_cut b
  obtain ⟨A, hA⟩ : ∃ A, A = a.A := ⟨_, rfl⟩
  obtain ⟨A2, hA2⟩ : ∃ A2, A2 = a.A2 := ⟨_, rfl⟩
  obtain ⟨a1, ha1⟩ : ∃ a1, a1 = a.c := ⟨_, rfl⟩
  obtain ⟨a2, ha2⟩ : ∃ a2, a2 = a.c2 := ⟨_, rfl⟩
  obtain ⟨B, hB⟩ : ∃ A, A = b.A := ⟨_, rfl⟩
  obtain ⟨B2, hB2⟩ : ∃ A2, A2 = b.A2 := ⟨_, rfl⟩
  obtain ⟨b1, hb1⟩ : ∃ a1, a1 = b.c := ⟨_, rfl⟩
  obtain ⟨b2, hb2⟩ : ∃ a2, a2 = b.c2 := ⟨_, rfl⟩
  rw [← hA, ← hA2, ← ha1, ← ha2] at hva
  rw [← hB, ← hB2, ← hb1, ← hb2] at hvb
  have HVa := Lib.hid hva
  have HVb := Lib.hid hvb
  rw [hva, hvb]
  obtain ⟨p, hp⟩ : ∃ p, p = sameC a b := ⟨_, rfl⟩
  rw [← hp]
  have HP := Lib.hid hp.symm
  have HF := Lib.hid (And.intro hfa hfb)
  clear ha hb hva hvb hN hM hK hL hA hA2 ha1 ha2 hB hB2 hb1 hb2 hp hfa hfb
  go_enter Tryd.func21, Tryd.ntmps21
  go_wp2_with fail
  obtain ⟨sa, hsa⟩ : ∃ s, s = w.heap.size := ⟨_, rfl⟩
  obtain ⟨sb, hsb⟩ : ∃ s, s = sa + 1 := ⟨_, rfl⟩
  obtain ⟨wa, hwa⟩ : ∃ W, W = w.alloc (.cells #[.slice A N a1, .slice A2 M a2] 25) := ⟨_, rfl⟩
  obtain ⟨wb, hwb⟩ : ∃ W, W = wa.alloc (.cells #[.slice B K b1, .slice B2 L b2] 25) := ⟨_, rfl⟩
  rw [← hsa, ← hsb, ← hwa, ← hwb]
  have z1 : wa.heap.size = sb := by rw [hwa, hsb, hsa]; simp
  have k1 : Bk wa sa 25 #[.slice A N a1, .slice A2 M a2] := by rw [hwa, hsa]; exact Bk.new w _ _
  have k2 : Bk wb sb 25 #[.slice B K b1, .slice B2 L b2] := by rw [hwb, ← z1]; exact Bk.new wa _ _
  have d1 : Below w.heap.size w wa := by rw [hwa]; exact Gw.alloc w _
  have d2 : Below wa.heap.size wa wb := by rw [hwb]; exact Gw.alloc wa _
  have d3 := d1.trans (d2.mono d1.size)
  have HX := Lib.hid (And.intro (GBx.of (k1.below d2 k1.lt) (HA.out.up d3)) (And.intro (GBx.of k2 (HB.out.up d3)) d3))
  clear hsa hsb hwa hwb z1 k1 k2 d1 d2 d3
  refine cs1_r _ _ _ sa sb a b A A2 B B2 N M K L a1 a2 b1 b2 p HVa.out HVb.out HF.out.1 HF.out.2 (Lib.hid HX.out.1) (Lib.hid HX.out.2.1) HP rfl ?_ ?_ ?_
  · rfl
  · rfl
  intro vals w4 hG h4
  unfold IsV at h4
  simp only [putD, Act.put, List.setIfInBounds_toArray, List.set_cons_zero, List.set_cons_succ, h4]
  have HG4 := Lib.hid (HX.out.2.2.trans (hG.mono HX.out.2.2.size))
  clear hG h4
  go_wp2_with fail
  go_ret
  exact ⟨rfl, HG4.out⟩
end Go.Proofs.YtdppnggchpchgaaDoor
/- canon.Text: a graph in words. Conditions: numbers below a hundred; lengths; the table deBruijn64tab. -/
namespace Go.Proofs.YtdppnggchpchgaaDoor
set_option linter.unusedVariables false
set_option linter.unusedSimpArgs false
open Go.RowKit
/-- A graph whose text is short. -/
structure TextOk (c : Gv) : Prop where
  nl : c.n.length ≤ 90
  rl : c.r.length ≤ 100
  each : ∀ x ∈ c.n, x.ps.length ≤ 1000 ∧ x.bs.length ≤ 2000 ∧ ∀ p ∈ x.ps, 0 ≤ p ∧ p < 100
  root : ∀ r ∈ c.r, r.s.size ≤ 1000 ∧ 0 ≤ r.t ∧ r.t < 100
def textL (rs : List Rv) (ms : List (List Int × List (BitVec 8))) : List (BitVec 8) := rootsT rs ++ nodesT ms 0
theorem rootT_len (r : Rv) : (rootT r).length ≤ r.s.size + 7 := by
  unfold rootT
  have := decL_len r.t.toNat
  simp [sB_len]; omega
theorem rootsT_len : ∀ l : List Rv, (∀ r ∈ l, r.s.size ≤ 1000) → (rootsT l).length ≤ 1007 * l.length
  | [], _ => Nat.le_refl _
  | r :: l, h => by
    have h1 := rootsT_len l (fun x hx => h x (List.mem_cons_of_mem _ hx))
    have h2 := rootT_len r
    have h3 := h r List.mem_cons_self
    have e : rootsT (r :: l) = rootT r ++ rootsT l := rfl
    rw [e, List.length_append, List.length_cons]
    omega
theorem nodeT_len (i : Nat) (m : List Int × List (BitVec 8)) (h1 : m.1.length ≤ 1000) (h2 : m.2.length ≤ 2000) : (nodeT i m).length ≤ 7010 := by
  unfold nodeT
  have := decL_len (i + 1)
  have := lineT_len m
  simp; omega
theorem nodesT_len : ∀ (l : List (List Int × List (BitVec 8))) (i : Nat), (∀ m ∈ l, m.1.length ≤ 1000 ∧ m.2.length ≤ 2000) → (nodesT l i).length ≤ 7010 * l.length
  | [], _, _ => Nat.le_refl _
  | m :: l, i, h => by
    have h1 := nodesT_len l (i + 1) (fun x hx => h x (List.mem_cons_of_mem _ hx))
    have h3 := h m List.mem_cons_self
    have h2 := nodeT_len i m h3.1 h3.2
    unfold nodesT
    rw [List.length_append, List.length_cons]
    omega
set_option maxHeartbeats 4000000
set_option maxRecDepth 100000
theorem tx6_r (Q : Exit → Act → World → Prop) (a0 : Act) (w : World) (rb bd : Nat) (s : ByteArray) (t : Int) (D S1 S2 S3 : List (BitVec 8)) (sl dl l1 l2 : Nat) (hb : Hid (∀ W, Below w.heap.size w W → W.cell? ⟨rb, 0, none⟩ = some (.string s) ∧ W.cell? ⟨rb, 1, none⟩ = some (.int .i64 t))) (hD : Hid (∀ W, Calls Tryd.prog 30 #[.int .i64 t] W (RetP (.string (strB D)) W))) (z0 : s.size = sl) (zd : (strB D).size = dl) (z1 : (strB S1).size = l1) (z2 : (strB S2).size = l2) (e1 : s ++ ⟨#[32, 45, 62, 32]⟩ = strB S1) (e2 : strB S1 ++ strB D = strB S2) (e3 : strB S2 ++ ⟨#[10]⟩ = strB S3) (b0 : (sl : Int) ≤ 10000) (bd' : (dl : Int) ≤ 10000) (b1 : (l1 : Int) ≤ 10000) (b2 : (l2 : Int) ≤ 10000) (hsz : a0.tmps.size = 47) (sl6 : a0.tmps.getD 6 undef = .pointer (some ⟨rb, 0, none⟩))
    (fin : ∀ (vals : Nat → Value) (w1 : World), Below w.heap.size w w1 → (IsV (.string (strB S3))) (vals 7) w1 → wpList Tryd.prog #[{ dst := some 26, op := Go.Op.call { callee := Go.Callee.value (Go.Operand.func 29), args := #[Go.Operand.tmp 4, Go.Operand.tmp 25], argTypes := #[65, 9] }, type := 68, pos := "", after := #[], guard := none }] Q [{ dst := some 26, op := Go.Op.call { callee := Go.Callee.value (Go.Operand.func 29), args := #[Go.Operand.tmp 4, Go.Operand.tmp 25], argTypes := #[65, 9] }, type := 68, pos := "", after := #[], guard := none }] (putD vals [18, 19, 20, 21, 22, 23, 24, 25] 0 a0) w1) :
    (Code.region 6 (regIn Tryd.f14 6) true).wp Tryd.prog Q a0 w := by
  refine region_by_tail (m := 8) (G := fun w w1 => Below w.heap.size w w1) [IsV (.pointer (some ⟨rb, 0, none⟩)),
    IsV (.string s),
    IsV (.string (strB S1)),
    IsV (.pointer (some ⟨rb, 1, none⟩)),
    IsV (.int .i64 t),
    IsV (.string (strB D)),
    IsV (.string (strB S2)),
    IsV (.string (strB S3))]
    [18, 19, 20, 21, 22, 23, 24, 25] (by kernel_rfl) (Gw.drew _) Gw.trans (by rw [hsz]; kernel_rfl) (by kernel_rfl) ?_ ?_ ?_
  · intro f hf
    simp only [List.mem_cons, List.not_mem_nil, or_false] at hf
    rcases hf with rfl | rfl | rfl | rfl | rfl | rfl | rfl | rfl <;> intro v a b h g <;> first | exact IsV.mono h
  · refine ⟨?_, ?_, ?_, ?_, ?_, ?_, ?_, ?_, trivial⟩
    · refine owes_v (Go.Op.fieldAddr 55 (Go.Operand.tmp 6) 0) 0 [] (by kernel_rfl) (by kernel_rfl) (by kernel_rfl) rfl fun vals w1 ρ hG hF hρ hcst hfun => ?_
      have e6 : ρ (.tmp 6) = .pointer (some ⟨rb, 0, none⟩) := ((hρ 6).trans (slotO [] (by kernel_rfl))).trans sl6
      clear hρ hF hcst hfun sl6 fin
      exact opv_val (by go_simp <;> rfl) ⟨gw_self _, rfl⟩
    · refine owes_v (Go.Op.load 9 (Go.Operand.tmp 18)) 9 [0] (by kernel_rfl) (by kernel_rfl) (by kernel_rfl) rfl fun vals w1 ρ hG hF hρ hcst hfun => ?_
      have e18 : ρ (.tmp 18) = .pointer (some ⟨rb, 0, none⟩) := ((hρ 18).trans (slotJ [0] (by rw [hsz]; decide) (by kernel_rfl))).trans (hF 0 (by decide))
      obtain ⟨d0, _⟩ := hb.out w1 hG
      clear hρ hF hcst hfun sl6 fin
      exact opv_val (by go_simp <;> rfl) ⟨gw_self _, rfl⟩
    · refine owes_v (Go.Op.binOp Go.BinOp.add 9 (Go.Operand.tmp 19) (Go.Operand.const (Go.Value.string { data := #[32, 45, 62, 32] })) 9) 9 [1] (by kernel_rfl) (by kernel_rfl) (by kernel_rfl) rfl fun vals w1 ρ hG hF hρ hcst hfun => ?_
      have e19 : ρ (.tmp 19) = .string s := ((hρ 19).trans (slotJ [1] (by rw [hsz]; decide) (by kernel_rfl))).trans (hF 1 (by decide))
      have k := e1; have k2 := z0; have k3 := b0
      clear hρ hF hfun sl6 fin
      exact opv_val (by go_simp <;> first | rfl | omega) ⟨gw_self _, rfl⟩
    · refine owes_v (Go.Op.fieldAddr 55 (Go.Operand.tmp 6) 1) 0 [] (by kernel_rfl) (by kernel_rfl) (by kernel_rfl) rfl fun vals w1 ρ hG hF hρ hcst hfun => ?_
      have e6 : ρ (.tmp 6) = .pointer (some ⟨rb, 0, none⟩) := ((hρ 6).trans (slotO [] (by kernel_rfl))).trans sl6
      clear hρ hF hcst hfun sl6 fin
      exact opv_val (by go_simp <;> rfl) ⟨gw_self _, rfl⟩
    · refine owes_v (Go.Op.load 3 (Go.Operand.tmp 21)) 3 [3] (by kernel_rfl) (by kernel_rfl) (by kernel_rfl) rfl fun vals w1 ρ hG hF hρ hcst hfun => ?_
      have e21 : ρ (.tmp 21) = .pointer (some ⟨rb, 1, none⟩) := ((hρ 21).trans (slotJ [3] (by rw [hsz]; decide) (by kernel_rfl))).trans (hF 3 (by decide))
      obtain ⟨_, d0⟩ := hb.out w1 hG
      clear hρ hF hcst hfun sl6 fin
      exact opv_val (by go_simp <;> rfl) ⟨gw_self _, rfl⟩
    · refine owes_v (Go.Op.call { callee := Go.Callee.value (Go.Operand.func 30), args := #[Go.Operand.tmp 22], argTypes := #[3] }) 9 [4] (by kernel_rfl) (by kernel_rfl) (by kernel_rfl) rfl fun vals w1 ρ hG hF hρ hcst hfun => ?_
      have e22 : ρ (.tmp 22) = .int .i64 t := ((hρ 22).trans (slotJ [4] (by rw [hsz]; decide) (by kernel_rfl))).trans (hF 4 (by decide))
      clear hρ hF hcst sl6 fin
      exact opv_enter (by go_simp <;> rfl) (of_ret (hD.out w1))
    · refine owes_v (Go.Op.binOp Go.BinOp.add 9 (Go.Operand.tmp 20) (Go.Operand.tmp 23) 9) 9 [2, 5] (by kernel_rfl) (by kernel_rfl) (by kernel_rfl) rfl fun vals w1 ρ hG hF hρ hcst hfun => ?_
      have e20 : ρ (.tmp 20) = .string (strB S1) := ((hρ 20).trans (slotJ [2, 5] (by rw [hsz]; decide) (by kernel_rfl))).trans (hF 2 (by decide))
      have e23 : ρ (.tmp 23) = .string (strB D) := ((hρ 23).trans (slotJ [2, 5] (by rw [hsz]; decide) (by kernel_rfl))).trans (hF 5 (by decide))
      have k := e2; have k2 := z1; have k3 := b1; have k4 := zd; have k5 := bd'
      clear hρ hF hcst hfun sl6 fin
      exact opv_val (by go_simp <;> first | rfl | omega) ⟨gw_self _, rfl⟩
    · refine owes_v (Go.Op.binOp Go.BinOp.add 9 (Go.Operand.tmp 24) (Go.Operand.const (Go.Value.string { data := #[10] })) 9) 9 [6] (by kernel_rfl) (by kernel_rfl) (by kernel_rfl) rfl fun vals w1 ρ hG hF hρ hcst hfun => ?_
      have e24 : ρ (.tmp 24) = .string (strB S2) := ((hρ 24).trans (slotJ [6] (by rw [hsz]; decide) (by kernel_rfl))).trans (hF 6 (by decide))
      have k := e3; have k2 := z2; have k3 := b2
      clear hρ hF hfun sl6 fin
      exact opv_val (by go_simp <;> first | rfl | omega) ⟨gw_self _, rfl⟩
  · intro vals w1 hG hF
    exact last_list (by kernel_rfl) (by kernel_rfl) (by kernel_rfl) (fin vals w1 hG (hF 7 (by decide +kernel)))
theorem tx11_r (Q : Exit → Act → World → Prop) (a0 : Act) (w : World) (nb bd k : Nat) (vp vd : Value) (D S1 LN S2 S3 : List (BitVec 8)) (dl l1 ln l2 : Nat) (hb : Hid (∀ W, Below w.heap.size w W → W.cell? ⟨nb, 0, none⟩ = some vp ∧ W.cell? ⟨nb, 1, none⟩ = some vd)) (hD : Hid (∀ W, Calls Tryd.prog 30 #[.int .i64 ((k : Int) + 1)] W (RetP (.string (strB D)) W))) (hL : Hid (∀ W, Below w.heap.size w W → Calls Tryd.prog 31 #[.agg #[vp, vd]] W (RetP (.string (strB LN)) W))) (zd : (strB D).size = dl) (z1 : (strB S1).size = l1) (zl : (strB LN).size = ln) (z2 : (strB S2).size = l2) (e1 : strB D ++ ⟨#[58]⟩ = strB S1) (e2 : strB S1 ++ strB LN = strB S2) (e3 : strB S2 ++ ⟨#[10]⟩ = strB S3) (b0 : (dl : Int) ≤ 10000) (b1 : (l1 : Int) ≤ 10000) (bl : (ln : Int) ≤ 10000) (b2 : (l2 : Int) ≤ 20000) (hk : (k : Int) ≤ 100) (hsz : a0.tmps.size = 47) (sl7 : a0.tmps.getD 7 undef = .int .i64 k) (sl8 : a0.tmps.getD 8 undef = .pointer (some ⟨nb, 0, none⟩))
    (fin : ∀ (vals : Nat → Value) (w1 : World), Below w.heap.size w w1 → (IsV (.string (strB S3))) (vals 7) w1 → wpList Tryd.prog #[{ dst := some 44, op := Go.Op.call { callee := Go.Callee.value (Go.Operand.func 29), args := #[Go.Operand.tmp 4, Go.Operand.tmp 43], argTypes := #[65, 9] }, type := 68, pos := "", after := #[], guard := none }] Q [{ dst := some 44, op := Go.Op.call { callee := Go.Callee.value (Go.Operand.func 29), args := #[Go.Operand.tmp 4, Go.Operand.tmp 43], argTypes := #[65, 9] }, type := 68, pos := "", after := #[], guard := none }] (putD vals [36, 37, 38, 39, 40, 41, 42, 43] 0 a0) w1) :
    (Code.region 11 (regIn Tryd.f14 11) true).wp Tryd.prog Q a0 w := by
  refine region_by_tail (m := 8) (G := fun w w1 => Below w.heap.size w w1) [IsV (.int .i64 k),
    IsV (.int .i64 ((k : Int) + 1)),
    IsV (.string (strB D)),
    IsV (.string (strB S1)),
    IsV (.agg #[vp, vd]),
    IsV (.string (strB LN)),
    IsV (.string (strB S2)),
    IsV (.string (strB S3))]
    [36, 37, 38, 39, 40, 41, 42, 43] (by kernel_rfl) (Gw.drew _) Gw.trans (by rw [hsz]; kernel_rfl) (by kernel_rfl) ?_ ?_ ?_
  · intro f hf
    simp only [List.mem_cons, List.not_mem_nil, or_false] at hf
    rcases hf with rfl | rfl | rfl | rfl | rfl | rfl | rfl | rfl <;> intro v a b h g <;> first | exact IsV.mono h
  · refine ⟨?_, ?_, ?_, ?_, ?_, ?_, ?_, ?_, trivial⟩
    · exact owes_mv 7 (by kernel_rfl) (by kernel_rfl) (by kernel_rfl) sl7 (fun _ => rfl)
    · refine owes_v (Go.Op.binOp Go.BinOp.add 3 (Go.Operand.tmp 36) (Go.Operand.const (Go.Value.int Go.IntKind.i64 1)) 3) 3 [0] (by kernel_rfl) (by kernel_rfl) (by kernel_rfl) rfl fun vals w1 ρ hG hF hρ hcst hfun => ?_
      have e36 : ρ (.tmp 36) = .int .i64 k := ((hρ 36).trans (slotJ [0] (by rw [hsz]; decide) (by kernel_rfl))).trans (hF 0 (by decide))
      have g1 := hk
      have kw1 : IntKind.i64.wrap ((k : Int) + 1) = (k : Int) + 1 := wrapIn (by omega) (by omega)
      clear hρ hF hfun sl7 sl8 fin
      exact opv_val (by go_simp <;> rfl) ⟨gw_self _, rfl⟩
    · refine owes_v (Go.Op.call { callee := Go.Callee.value (Go.Operand.func 30), args := #[Go.Operand.tmp 37], argTypes := #[3] }) 9 [1] (by kernel_rfl) (by kernel_rfl) (by kernel_rfl) rfl fun vals w1 ρ hG hF hρ hcst hfun => ?_
      have e37 : ρ (.tmp 37) = .int .i64 ((k : Int) + 1) := ((hρ 37).trans (slotJ [1] (by rw [hsz]; decide) (by kernel_rfl))).trans (hF 1 (by decide))
      clear hρ hF hcst sl7 sl8 fin
      exact opv_enter (by go_simp <;> rfl) (of_ret (hD.out w1))
    · refine owes_v (Go.Op.binOp Go.BinOp.add 9 (Go.Operand.tmp 38) (Go.Operand.const (Go.Value.string { data := #[58] })) 9) 9 [2] (by kernel_rfl) (by kernel_rfl) (by kernel_rfl) rfl fun vals w1 ρ hG hF hρ hcst hfun => ?_
      have e38 : ρ (.tmp 38) = .string (strB D) := ((hρ 38).trans (slotJ [2] (by rw [hsz]; decide) (by kernel_rfl))).trans (hF 2 (by decide))
      have k := e1; have k2 := zd; have k3 := b0
      clear hρ hF hfun sl7 sl8 fin
      exact opv_val (by go_simp <;> first | rfl | omega) ⟨gw_self _, rfl⟩
    · refine owes_v (Go.Op.load 52 (Go.Operand.tmp 8)) 52 [] (by kernel_rfl) (by kernel_rfl) (by kernel_rfl) rfl fun vals w1 ρ hG hF hρ hcst hfun => ?_
      have e8 : ρ (.tmp 8) = .pointer (some ⟨nb, 0, none⟩) := ((hρ 8).trans (slotO [] (by kernel_rfl))).trans sl8
      obtain ⟨d0, d1⟩ := hb.out w1 hG
      clear hρ hF hcst hfun sl7 sl8 fin
      exact opv_val (by go_simp <;> rfl) ⟨gw_self _, rfl⟩
    · refine owes_v (Go.Op.call { callee := Go.Callee.value (Go.Operand.func 31), args := #[Go.Operand.tmp 40], argTypes := #[52] }) 9 [4] (by kernel_rfl) (by kernel_rfl) (by kernel_rfl) rfl fun vals w1 ρ hG hF hρ hcst hfun => ?_
      have e40 : ρ (.tmp 40) = .agg #[vp, vd] := ((hρ 40).trans (slotJ [4] (by rw [hsz]; decide) (by kernel_rfl))).trans (hF 4 (by decide))
      clear hρ hF hcst sl7 sl8 fin
      exact opv_enter (by go_simp <;> rfl) (of_ret (hL.out w1 hG))
    · refine owes_v (Go.Op.binOp Go.BinOp.add 9 (Go.Operand.tmp 39) (Go.Operand.tmp 41) 9) 9 [3, 5] (by kernel_rfl) (by kernel_rfl) (by kernel_rfl) rfl fun vals w1 ρ hG hF hρ hcst hfun => ?_
      have e39 : ρ (.tmp 39) = .string (strB S1) := ((hρ 39).trans (slotJ [3, 5] (by rw [hsz]; decide) (by kernel_rfl))).trans (hF 3 (by decide))
      have e41 : ρ (.tmp 41) = .string (strB LN) := ((hρ 41).trans (slotJ [3, 5] (by rw [hsz]; decide) (by kernel_rfl))).trans (hF 5 (by decide))
      have k := e2; have k2 := z1; have k3 := b1; have k4 := zl; have k5 := bl
      clear hρ hF hcst hfun sl7 sl8 fin
      exact opv_val (by go_simp <;> first | rfl | omega) ⟨gw_self _, rfl⟩
    · refine owes_v (Go.Op.binOp Go.BinOp.add 9 (Go.Operand.tmp 42) (Go.Operand.const (Go.Value.string { data := #[10] })) 9) 9 [6] (by kernel_rfl) (by kernel_rfl) (by kernel_rfl) rfl fun vals w1 ρ hG hF hρ hcst hfun => ?_
      have e42 : ρ (.tmp 42) = .string (strB S2) := ((hρ 42).trans (slotJ [6] (by rw [hsz]; decide) (by kernel_rfl))).trans (hF 6 (by decide))
      have k := e3; have k2 := z2; have k3 := b2
      clear hρ hF hfun sl7 sl8 fin
      exact opv_val (by go_simp <;> first | rfl | omega) ⟨gw_self _, rfl⟩
  · intro vals w1 hG hF
    exact last_list (by kernel_rfl) (by kernel_rfl) (by kernel_rfl) (fin vals w1 hG (hF 7 (by decide +kernel)))
theorem text_c (w : World) (g : Gv) (hg : g.At w w.heap.size) (hok : CanOk g) (htx : ∀ c : Gv, c.n.map Nv.m = canM g → c.r = canR g → TextOk c) (ht : w.cell? ⟨2, 15, none⟩ = some (.int .u8 4)) :
    Calls Tryd.prog 14 #[g.v] w (RetP (.string (strB (textL (canR g) (canM g)))) w) := by
  have HT := Lib.hid (fun W (b : Below w.heap.size w W) => (b.cell (tab_lt ht)).trans ht)
  have HCn := Lib.hid (fun W (b : Below w.heap.size w W) => can_v (W := W) (g := g) (v := g.v) rfl hok (hg.up b))
  have HTx := Lib.hid htx
  obtain ⟨PT, hPT⟩ : ∃ P, P = textL (canR g) (canM g) := ⟨_, rfl⟩
  rw [← hPT]
  obtain ⟨va, hva⟩ : ∃ v, v = g.v := ⟨_, rfl⟩
  obtain ⟨A, N, a1, A2, M, a2, ea⟩ : ∃ A N a1 A2 M a2, va = .agg #[.slice A N a1, .slice A2 M a2] := ⟨_, _, _, _, _, _, hva⟩
  rw [← hva] at HCn ⊢
  subst ea
  clear hva hg hok htx ht
  go_enter Tryd.func14, Tryd.ntmps14
  go_wp2_with fail
  have hb0 : Below w.heap.size w (w.alloc (.cells #[.slice A N a1, .slice A2 M a2] 25)) := Gw.alloc w _
  obtain ⟨W0, hW0⟩ : ∃ W, W = w.alloc (.cells #[.slice A N a1, .slice A2 M a2] 25) := ⟨_, rfl⟩
  rw [← hW0] at hb0 ⊢
  have HB0 := Lib.hid hb0
  clear hb0
  refine Calls.mono (HCn.out W0 HB0.out) ?_
  rintro r w2 ⟨u, rfl, b2, c, rfl, hc, hcm, hcr⟩
  have hto := HTx.out c hcm hcr
  rw [← hcm, ← hcr] at hPT
  have HB2 := Lib.hid (HB0.out.trans (b2.mono HB0.out.size))
  have HTo := Lib.hid hto
  have HC := Lib.hid hc
  obtain ⟨CA, ca, C2, ca2, ns, rs⟩ := c
  obtain ⟨K, hK⟩ : ∃ K, K = ns.length := ⟨_, rfl⟩
  obtain ⟨L, hL⟩ : ∃ L, L = rs.length := ⟨_, rfl⟩
  have HN := Lib.hid (And.intro hK hL)
  have q0 : (K : Int) ≤ 90 := by have : ns.length ≤ 90 := hto.nl; omega
  have q1 : (L : Int) ≤ 100 := by have : rs.length ≤ 100 := hto.rl; omega
  unfold Gv.v Gv.vn Gv.vr
  simp only
  rw [← hK, ← hL]
  obtain ⟨MS, hMS⟩ : ∃ MS, MS = ns.map Nv.m := ⟨_, rfl⟩
  have HMS := Lib.hid hMS
  have HPT := Lib.hid (show PT = textL rs MS from by rw [hPT, hMS])
  clear b2 hc hcm hcr hto hK hL hW0 hMS hPT
  go_wp2_with fail
  obtain ⟨cb, hcb⟩ : ∃ s, s = w2.heap.size := ⟨_, rfl⟩
  obtain ⟨bd, hbd⟩ : ∃ s, s = cb + 1 := ⟨_, rfl⟩
  obtain ⟨wa, hwa⟩ : ∃ W, W = w2.alloc (.cells #[.slice CA K ca, .slice C2 L ca2] 25) := ⟨_, rfl⟩
  obtain ⟨wb, hwb⟩ : ∃ W, W = wa.alloc (.cells #[.pointer none, .slice none 0 0] 65) := ⟨_, rfl⟩
  rw [← hcb, ← hbd, ← hwa, ← hwb]
  have z1 : wa.heap.size = bd := by rw [hwa, hbd, hcb]; simp
  have k1 : Bk wa cb 25 #[.slice CA K ca, .slice C2 L ca2] := by rw [hwa, hcb]; exact Bk.new w2 _ _
  have k2 : Bk wb bd 65 #[.pointer none, .slice none 0 0] := by rw [hwb, ← z1]; exact Bk.new wa _ _
  have d1 : Below w2.heap.size w2 wa := by rw [hwa]; exact Gw.alloc w2 _
  have d2 : Below wa.heap.size wa wb := by rw [hwb]; exact Gw.alloc wa _
  have HS := Lib.hid (show BdS wb bd bd [] ∧ Bk wb cb 25 #[.slice CA K ca, .slice C2 L ca2] ∧ Below w2.heap.size w2 wb from
    ⟨⟨by rw [← z1]; exact d2.size, _, ⟨Nat.le_refl _, ⟨_, .inl rfl, k2⟩, Ow.nil_ _ _ _ _⟩⟩, k1.below d2 k1.lt, d1.trans (d2.mono d1.size)⟩)
  have HO := Lib.hid (And.intro hcb hbd)
  clear hcb hbd hwa hwb z1 k1 k2 d1 d2
  have HKeep := Lib.hid (fun (W W' : World) (h : Bk W cb 25 #[.slice CA K ca, .slice C2 L ca2]) (hb : Below w2.heap.size w2 W) (hk : Below bd W W') => show Bk W' cb 25 #[.slice CA K ca, .slice C2 L ca2] ∧ Below w2.heap.size w2 W' from
    ⟨(hk.block cb (by have := HO.out; omega)).trans h, hb.trans (hk.mono (by have := HO.out; omega))⟩)
  go_loopw [14] (fun i W => ∃ k : Nat, i = .int .i64 k ∧ k ≤ L ∧ Hid (BdS W bd bd (rootsT (rs.take k)) ∧ Bk W cb 25 #[.slice CA K ca, .slice C2 L ca2] ∧ Below w2.heap.size w2 W)) (fun i _ => L - (Go.RowKit.intOf i).toNat)
  case atStart => exact ⟨0, rfl, Nat.zero_le _, Lib.hid HS.out⟩
  case round =>
    obtain ⟨k, rfl, hk, hS⟩ := hrel
    by_cases hlt : k < L
    · have hkl : k < rs.length := by rw [← HN.out.2]; exact hlt
      obtain ⟨x, hx⟩ : ∃ x, x = rs[k] := ⟨_, rfl⟩
      obtain ⟨ad, rfl, hc2, hc3⟩ : ∃ ad, C2 = some ad ∧ wr.cell? (ad.add (k * 2)) = some (.string x.s) ∧ wr.cell? ⟨(ad.add (k * 2)).block, (ad.add (k * 2)).off + 1, none⟩ = some (.int .i64 x.t) := by
        obtain ⟨ad, e, _, h1, h2⟩ := (HC.out.r.below hS.out.2.2) k hkl
        exact ⟨ad, e, by rw [hx]; exact h1, by rw [hx]; exact h2⟩
      obtain ⟨r1, r2, r3⟩ := HTo.out.root x (by rw [hx]; exact List.getElem_mem _)
      have hnx : rootsT (rs.take (k + 1)) = rootsT (rs.take k) ++ rootT x := by
        rw [List.take_succ_eq_append_getElem hkl, rootsT_snoc, ← hx]
      have hl : (rootsT (rs.take k)).length ≤ 200000 := by
        have h1 := rootsT_len (rs.take k) (fun r hr => (HTo.out.root r (List.mem_of_mem_take hr)).1)
        rw [List.length_take] at h1
        omega
      obtain ⟨xs, xt⟩ := x
      simp only at r1 r2 r3 hc2 hc3
      have hrt : rootT ⟨xs, xt⟩ = sB xs ++ [32#8, 45#8, 62#8, 32#8] ++ decL xt.toNat ++ [10#8] := rfl
      obtain ⟨D, hD⟩ : ∃ D, D = decL xt.toNat := ⟨_, rfl⟩
      have HD := Lib.hid (fun W => show Calls Tryd.prog 30 #[.int .i64 xt] W (RetP (.string (strB D)) W) from by rw [hD]; exact itoaD xt r2 r3 W)
      have hDl : D.length ≤ 2 := by rw [hD]; exact decL_len _
      rw [← hD] at hrt
      obtain ⟨S1, hS1⟩ : ∃ S, S = sB xs ++ [32#8, 45#8, 62#8, 32#8] := ⟨_, rfl⟩
      obtain ⟨S2, hS2⟩ : ∃ S, S = S1 ++ D := ⟨_, rfl⟩
      obtain ⟨S3, hS3⟩ : ∃ S, S = S2 ++ [10#8] := ⟨_, rfl⟩
      have l1 : S1.length ≤ 1004 := by rw [hS1, List.length_append, sB_len]; simp; omega
      have l2 : S2.length ≤ 1006 := by rw [hS2, List.length_append]; omega
      have l3 : S3.length ≤ 1007 := by rw [hS3, List.length_append]; simp; omega
      have e1 : xs ++ ⟨#[32, 45, 62, 32]⟩ = strB S1 := by rw [hS1]; exact app_dd xs ⟨#[32, 45, 62, 32]⟩
      have e2 : strB S1 ++ strB D = strB S2 := by rw [hS2]; exact strB_app S1 D
      have e3 : strB S2 ++ ⟨#[10]⟩ = strB S3 := by rw [hS3]; exact app_sd S2 ⟨#[10]⟩
      have hr3 : rootT ⟨xs, xt⟩ = S3 := by rw [hrt, hS3, hS2, hS1]
      have HE := Lib.hid (And.intro e1 (And.intro e2 (And.intro e3 (And.intro l1 (And.intro l2 (And.intro l3 (And.intro hDl (And.intro r1 (And.intro hr3 (And.intro hnx hl))))))))))
      have p1 : (0 : Int) ≤ (k : Int) := by omega
      have p2 : (k : Int) < (L : Int) := by omega
      have hcl : (ad.add (k * 2)).block < wr.heap.size := cell_lt hc2
      clear hx r1 r2 r3 hnx hl hrt hD hDl hS1 hS2 hS3 l1 l2 l3 e1 e2 e3 hr3 hkl
      go_wp2_with fail
      obtain ⟨rb, hrb⟩ : ∃ s, s = wr.heap.size := ⟨_, rfl⟩
      obtain ⟨w3, hw3⟩ : ∃ W, W = wr.alloc (.cells #[.string xs, .int .i64 xt] 55) := ⟨_, rfl⟩
      have kb : Bk w3 rb 55 #[.string xs, .int .i64 xt] := by rw [hw3, hrb]; exact Bk.new wr _ _
      have kd : Below wr.heap.size wr w3 := by rw [hw3]; exact Gw.alloc wr _
      rw [← hrb, ← hw3]
      have H3 := Lib.hid (show BdS w3 bd bd (rootsT (rs.take k)) ∧ Bk w3 cb 25 #[.slice CA K ca, .slice (some ad) L ca2] ∧ Below w2.heap.size w2 w3 from ⟨hS.out.1.below kd, hS.out.2.1.below kd hS.out.2.1.lt, hS.out.2.2.trans (kd.mono hS.out.2.2.size)⟩)
      have hbx : Hid (∀ W, Below w3.heap.size w3 W → W.cell? ⟨rb, 0, none⟩ = some (.string xs) ∧ W.cell? ⟨rb, 1, none⟩ = some (.int .i64 xt)) := Lib.hid fun W b => (kb.below b kb.lt).two
      clear hrb hw3 kb kd hc2 hc3 hcl
      obtain ⟨g1, g2, g3, g4, g5, g6, g7, g8, g9, g10, g11⟩ := HE.out
      refine tx6_r _ _ _ rb bd xs xt D S1 S2 S3 xs.size D.length S1.length S2.length hbx HD rfl (strB_len _) (strB_len _) (strB_len _) g1 g2 g3 (by omega) (by omega) (by omega) (by omega) rfl ?_ ?_
      · rfl
      intro vals w4 hG h25
      unfold IsV at h25
      simp only [putD, Act.put, List.setIfInBounds_toArray, List.set_cons_zero, List.set_cons_succ, h25]
      have H4 := Lib.hid (show BdS w4 bd bd (rootsT (rs.take k)) ∧ Bk w4 cb 25 #[.slice CA K ca, .slice (some ad) L ca2] ∧ Below w2.heap.size w2 w4 from ⟨H3.out.1.below hG, H3.out.2.1.below hG H3.out.2.1.lt, H3.out.2.2.trans (hG.mono H3.out.2.2.size)⟩)
      clear hG h25 hbx g1 g2 g3 g4 g5 g6 g7 g8 g9 g10 g11 H3
      go_wp2_with fail
      refine Calls.mono (ws_s _ _ _ _ S3 H4.out.1 (by have := HE.out; omega)) ?_
      rintro r w5 ⟨n, rfl, h5, b5⟩
      have H5 := Lib.hid (show BdS w5 bd bd (rootsT (rs.take (k + 1))) ∧ Bk w5 cb 25 #[.slice CA K ca, .slice (some ad) L ca2] ∧ Below w2.heap.size w2 w5 from by
        rw [HE.out.2.2.2.2.2.2.2.2.2.1, HE.out.2.2.2.2.2.2.2.2.1]
        exact ⟨h5, HKeep.out _ _ H4.out.2.1 H4.out.2.2 b5⟩)
      clear h5 b5
      go_wp2_with fail
      go_roundw
      case rel => exact ⟨k + 1, by go_num, by omega, Lib.hid H5.out⟩
      case measure => simp [Go.RowKit.intOf]; omega
    · have hS1 : BdS wr bd bd (rootsT rs) := by
        have h := hS.out.1
        rwa [List.take_of_length_le (by rw [← HN.out.2]; omega)] at h
      have H1 := Lib.hid (And.intro hS1 hS.out.2)
      obtain ⟨c0, c1⟩ := hS.out.2.1.two
      have hbl := hS.out.2.1.lt
      have HRl := Lib.hid (show (rootsT rs).length ≤ 200000 from by
        have h1 := rootsT_len rs (fun r hr => (HTo.out.root r hr).1)
        have := HN.out.2
        omega)
      clear hS1 hS
      go_wp2_with fail
      clear c0 c1 hbl hlt hk
      go_loopw [31] (fun i W => ∃ k : Nat, i = .int .i64 k ∧ k ≤ K ∧ Hid (BdS W bd bd (rootsT rs ++ nodesT (MS.take k) 0) ∧ Bk W cb 25 #[.slice CA K ca, .slice C2 L ca2] ∧ Below w2.heap.size w2 W)) (fun i _ => K - (Go.RowKit.intOf i).toNat)
      case atStart => exact ⟨0, rfl, Nat.zero_le _, Lib.hid (by rw [List.take_zero]; show BdS wr bd bd (rootsT rs ++ []) ∧ _; rw [List.append_nil]; exact H1.out)⟩
      case round =>
        obtain ⟨k, rfl, hk, hS⟩ := hrel
        by_cases hlt : k < K
        · have hkl : k < ns.length := by rw [← HN.out.1]; exact hlt
          obtain ⟨x, hx⟩ : ∃ x, x = ns[k] := ⟨_, rfl⟩
          obtain ⟨ad, rfl, hc2, hc3, hxa⟩ : ∃ ad, CA = some ad ∧ wr.cell? (ad.add (k * 2)) = some x.vp ∧ wr.cell? ⟨(ad.add (k * 2)).block, (ad.add (k * 2)).off + 1, none⟩ = some x.vd ∧ x.At wr wr.heap.size := by
            obtain ⟨ad, e, _, h1, h2, h3⟩ := (HC.out.n.below hS.out.2.2) k hkl
            exact ⟨ad, e, by rw [hx]; exact h1, by rw [hx]; exact h2, by rw [hx]; exact h3.more hS.out.2.2.size⟩
          obtain ⟨r1, r2, r3⟩ := HTo.out.each x (by rw [hx]; exact List.getElem_mem _)
          have hkm : k < MS.length := by rw [HMS.out, List.length_map]; exact hkl
          have hxm : MS[k] = x.m := by simp only [HMS.out, List.getElem_map, hx]
          have hlen : (MS.take k).length = k := by rw [List.length_take]; omega
          have hnx : nodesT (MS.take (k + 1)) 0 = nodesT (MS.take k) 0 ++ nodeT k x.m := by
            rw [List.take_succ_eq_append_getElem hkm, nodesT_snoc, hxm, hlen, Nat.zero_add]
          have hl : (nodesT (MS.take k) 0).length ≤ 800000 := by
            have h1 := nodesT_len (MS.take k) 0 (fun m hm => by
              have h2 := List.mem_of_mem_take hm
              rw [HMS.out] at h2
              obtain ⟨y, hy, rfl⟩ := List.mem_map.1 h2
              have := HTo.out.each y hy
              exact ⟨this.1, this.2.1⟩)
            omega
          have HLn := Lib.hid (fun W (b : Below wr.heap.size wr W) => line_c W x (hxa.up b) r3 r1 r2 (HT.out W (HB2.out.trans ((hS.out.2.2.trans (b.mono hS.out.2.2.size)).mono HB2.out.size))))
          obtain ⟨LN, hLN⟩ : ∃ S, S = lineT x.m := ⟨_, rfl⟩
          have lLN : LN.length ≤ 7002 := by rw [hLN]; have := lineT_len x.m; have e1 : x.m.1 = x.ps := rfl; have e2 : x.m.2 = x.bs := rfl; rw [e1, e2] at this; omega
          have hnt : nodeT k x.m = decL (k + 1) ++ [58#8] ++ LN ++ [10#8] := by rw [hLN]; rfl
          rw [← hLN] at HLn
          obtain ⟨D, hD⟩ : ∃ D, D = decL (k + 1) := ⟨_, rfl⟩
          have HD := Lib.hid (fun W => show Calls Tryd.prog 30 #[.int .i64 ((k : Int) + 1)] W (RetP (.string (strB D)) W) from by
            have h := itoaD ((k : Int) + 1) (by omega) (by omega) W
            rw [hD]
            rw [show ((k : Int) + 1).toNat = k + 1 by omega] at h
            exact h)
          have hDl : D.length ≤ 2 := by rw [hD]; exact decL_len _
          rw [← hD] at hnt
          obtain ⟨S1, hS1⟩ : ∃ S, S = D ++ [58#8] := ⟨_, rfl⟩
          obtain ⟨S2, hS2⟩ : ∃ S, S = S1 ++ LN := ⟨_, rfl⟩
          obtain ⟨S3, hS3⟩ : ∃ S, S = S2 ++ [10#8] := ⟨_, rfl⟩
          have l1 : S1.length ≤ 3 := by rw [hS1, List.length_append]; simp; omega
          have l2 : S2.length ≤ 7005 := by rw [hS2, List.length_append]; omega
          have l3 : S3.length ≤ 7006 := by rw [hS3, List.length_append]; simp; omega
          have e1 : strB D ++ ⟨#[58]⟩ = strB S1 := by rw [hS1]; exact app_sd D ⟨#[58]⟩
          have e2 : strB S1 ++ strB LN = strB S2 := by rw [hS2]; exact strB_app S1 LN
          have e3 : strB S2 ++ ⟨#[10]⟩ = strB S3 := by rw [hS3]; exact app_sd S2 ⟨#[10]⟩
          have hr3 : nodeT k x.m = S3 := by rw [hnt, hS3, hS2, hS1]
          have HE := Lib.hid (And.intro e1 (And.intro e2 (And.intro e3 (And.intro l1 (And.intro l2 (And.intro l3 (And.intro hDl (And.intro lLN (And.intro hr3 (And.intro hnx hl))))))))))
          obtain ⟨vp, hvp⟩ : ∃ v, v = x.vp := ⟨_, rfl⟩
          obtain ⟨vd, hvd⟩ : ∃ v, v = x.vd := ⟨_, rfl⟩
          have hxv : x.v = .agg #[vp, vd] := by rw [hvp, hvd]; rfl
          rw [hxv] at HLn
          rw [← hvp] at hc2
          rw [← hvd] at hc3
          obtain ⟨pA, pn, pc, ep⟩ : ∃ A n c, vp = .slice A n c := ⟨_, _, _, hvp⟩
          obtain ⟨dA, dn, dc, ed⟩ : ∃ A n c, vd = .slice A n c := ⟨_, _, _, hvd⟩
          subst ep ed
          have p1 : (0 : Int) ≤ (k : Int) := by omega
          have p2 : (k : Int) < (K : Int) := by omega
          have p3 : (k : Int) ≤ 100 := by omega
          have hcl : (ad.add (k * 2)).block < wr.heap.size := cell_lt hc2
          clear hx hxa r1 r2 r3 hnx hl hnt hD hDl hS1 hS2 hS3 l1 l2 l3 e1 e2 e3 hr3 hkl hkm hxm hlen hLN lLN hvp hvd hxv
          go_wp2_with fail
          obtain ⟨nb, hnb⟩ : ∃ s, s = wr.heap.size := ⟨_, rfl⟩
          obtain ⟨w3, hw3⟩ : ∃ W, W = wr.alloc (.cells #[.slice pA pn pc, .slice dA dn dc] 52) := ⟨_, rfl⟩
          have kb : Bk w3 nb 52 #[.slice pA pn pc, .slice dA dn dc] := by rw [hw3, hnb]; exact Bk.new wr _ _
          have kd : Below wr.heap.size wr w3 := by rw [hw3]; exact Gw.alloc wr _
          rw [← hnb, ← hw3]
          have H3 := Lib.hid (show BdS w3 bd bd (rootsT rs ++ nodesT (MS.take k) 0) ∧ Bk w3 cb 25 #[.slice (some ad) K ca, .slice C2 L ca2] ∧ Below w2.heap.size w2 w3 from ⟨hS.out.1.below kd, hS.out.2.1.below kd hS.out.2.1.lt, hS.out.2.2.trans (kd.mono hS.out.2.2.size)⟩)
          have hbx : Hid (∀ W, Below w3.heap.size w3 W → W.cell? ⟨nb, 0, none⟩ = some (.slice pA pn pc) ∧ W.cell? ⟨nb, 1, none⟩ = some (.slice dA dn dc)) := Lib.hid fun W b => (kb.below b kb.lt).two
          have HL3 := Lib.hid (fun W (b : Below w3.heap.size w3 W) => HLn.out W (kd.trans (b.mono kd.size)))
          clear hnb hw3 kb kd hc2 hc3 hcl HLn
          obtain ⟨g1, g2, g3, g4, g5, g6, g7, g8, g9, g10, g11⟩ := HE.out
          refine tx11_r _ _ _ nb bd k (.slice pA pn pc) (.slice dA dn dc) D S1 LN S2 S3 D.length S1.length LN.length S2.length hbx HD HL3 (strB_len _) (strB_len _) (strB_len _) (strB_len _) g1 g2 g3 (by omega) (by omega) (by omega) (by omega) p3 rfl ?_ ?_ ?_
          · rfl
          · rfl
          intro vals w4 hG h43
          unfold IsV at h43
          simp only [putD, Act.put, List.setIfInBounds_toArray, List.set_cons_zero, List.set_cons_succ, h43]
          have H4 := Lib.hid (show BdS w4 bd bd (rootsT rs ++ nodesT (MS.take k) 0) ∧ Bk w4 cb 25 #[.slice (some ad) K ca, .slice C2 L ca2] ∧ Below w2.heap.size w2 w4 from ⟨H3.out.1.below hG, H3.out.2.1.below hG H3.out.2.1.lt, H3.out.2.2.trans (hG.mono H3.out.2.2.size)⟩)
          clear hG h43 hbx g1 g2 g3 g4 g5 g6 g7 g8 g9 g10 g11 H3 HL3
          go_wp2_with fail
          refine Calls.mono (ws_s _ _ _ _ S3 H4.out.1 (by have h1 := HE.out; have h2 := HRl.out; rw [List.length_append]; omega)) ?_
          rintro r w5 ⟨n, rfl, h5, b5⟩
          have H5 := Lib.hid (show BdS w5 bd bd (rootsT rs ++ nodesT (MS.take (k + 1)) 0) ∧ Bk w5 cb 25 #[.slice (some ad) K ca, .slice C2 L ca2] ∧ Below w2.heap.size w2 w5 from by
            rw [HE.out.2.2.2.2.2.2.2.2.2.1, HE.out.2.2.2.2.2.2.2.2.1, ← List.append_assoc]
            exact ⟨h5, HKeep.out _ _ H4.out.2.1 H4.out.2.2 b5⟩)
          clear h5 b5
          go_wp2_with fail
          go_roundw
          case rel => exact ⟨k + 1, by go_num, by omega, Lib.hid H5.out⟩
          case measure => simp [Go.RowKit.intOf]; omega
        · have hS1 : BdS wr bd bd PT := by
            rw [HPT.out]
            have h := hS.out.1
            rwa [List.take_of_length_le (by rw [HMS.out, List.length_map, ← HN.out.1]; omega)] at h
          have HE := Lib.hid (And.intro hS1 hS.out.2)
          clear hS1 hS
          go_wp2_with fail
          refine Calls.mono (BdS.str _ _ _ _ HE.out.1) ?_
          rintro r w5 ⟨rfl, b5⟩
          have H5 := Lib.hid (HB2.out.trans ((HKeep.out _ _ HE.out.2.1 HE.out.2.2 b5).2.mono HB2.out.size))
          clear b5
          go_wp2_with fail
          go_ret
          exact ⟨rfl, H5.out⟩
end Go.Proofs.YtdppnggchpchgaaDoor
/- canon.Order; the text of a graph of few nodes is short. Conditions: lengths. -/
namespace Go.Proofs.YtdppnggchpchgaaDoor
set_option linter.unusedVariables false
set_option linter.unusedSimpArgs false
open Go.RowKit Go.Maps
theorem text_ok {g : Gv} (hf : FewP g) (c : Gv) (h1 : c.n.map Nv.m = canM g) (h2 : c.r = canR g) : TextOk c := by
  have hw := walkL_len g.n (g.r.map (·.t))
  have hl := congrArg List.length h1
  unfold canM pickN at hl
  rw [List.length_map, List.length_map] at hl
  have h60 := hf.1
  have hnew : ∀ p, 0 ≤ newO (walkL g.n (g.r.map (·.t))) p ∧ newO (walkL g.n (g.r.map (·.t))) p < 100 := fun p => by
    have := newO_le (od := walkL g.n (g.r.map (·.t))) (p := p)
    omega
  refine ⟨by omega, by rw [h2]; unfold canR; rw [List.length_map]; have := hf.2.1; omega, fun x hx => ?_, fun r hr => ?_⟩
  · have hm : x.m ∈ c.n.map Nv.m := List.mem_map.2 ⟨x, hx, rfl⟩
    rw [h1] at hm
    unfold canM pickN at hm
    obtain ⟨p, hp, e⟩ := List.mem_map.1 hm
    unfold pick1 Nv.m at e
    cases ey : g.n[(p - 1).toNat]? with
    | none => rw [ey] at e; injection e with e1 e2; rw [← e1, ← e2]; exact ⟨by simp, by simp, fun q hq => by cases hq⟩
    | some y =>
      rw [ey] at e
      injection e with e1 e2
      have h3 := hf.2.2.1 y (List.mem_of_getElem? ey)
      rw [← e1, ← e2, List.length_map]
      refine ⟨by omega, by omega, fun q hq => ?_⟩
      obtain ⟨z, _, rfl⟩ := List.mem_map.1 hq
      exact hnew z
  · rw [h2] at hr
    unfold canR at hr
    obtain ⟨s, hs, rfl⟩ := List.mem_map.1 hr
    have h3 := hf.2.2.2 s hs
    exact ⟨by show s.s.size ≤ 1000; omega, hnew s.t⟩
set_option maxHeartbeats 4000000
set_option maxRecDepth 100000
theorem order_c (w : World) (g : Gv) (hg : g.At w w.heap.size) (hs : g.Small) :
    Calls Tryd.prog 17 #[g.v] w fun e w' => ∃ A n c, e = .returned (.slice A n c) ∧ n = (walkL g.n (g.r.map (·.t))).length ∧ Rd iV w' w'.heap.size A (walkL g.n (g.r.map (·.t))) ∧ Below w.heap.size w w' := by
  have HW := Lib.hid (fun W (b : Below w.heap.size w W) => cwalk_c W g (hg.up b) hs)
  obtain ⟨X, hX⟩ : ∃ X, X = walkL g.n (g.r.map (·.t)) := ⟨_, rfl⟩
  rw [← hX] at HW ⊢
  obtain ⟨va, hva⟩ : ∃ v, v = g.v := ⟨_, rfl⟩
  obtain ⟨A, N, a1, A2, M, a2, ea⟩ : ∃ A N a1 A2 M a2, va = .agg #[.slice A N a1, .slice A2 M a2] := ⟨_, _, _, _, _, _, hva⟩
  rw [← hva] at HW ⊢
  subst ea
  clear hva hg hs hX
  go_enter Tryd.func17, Tryd.ntmps17
  go_wp2_with fail
  refine Calls.mono (HW.out _ (Gw.alloc w _)) ?_
  rintro r w2 ⟨OA, oc, mb, l, rfl, ho, hm, hcm, b2⟩
  obtain ⟨n, hn⟩ : ∃ n, n = X.length := ⟨_, rfl⟩
  rw [← hn]
  have H2 := Lib.hid (And.intro hn (And.intro ho ((Gw.alloc w (.cells #[.slice A N a1, .slice A2 M a2] 25)).trans (b2.mono (Gw.alloc w _).size))))
  clear ho hm hcm b2 hn
  go_wp2_with fail
  go_ret
  exact ⟨OA, n, oc, rfl, H2.out.1, H2.out.2.1, H2.out.2.2⟩
end Go.Proofs.YtdppnggchpchgaaDoor
