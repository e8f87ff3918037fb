/- Texts joined: OfZ CaF GvD GuAz GuBz RegL GuCz MmB. -/
import Derived.Test.YtkkjnahjmomjgaaWc3
import Derived.Test.YtkkjnahjmomjgaaGvA
import Derived.Test.YtkkjnahjmomjgaaHeadB
import Derived.Lib.IndexLaws
import Derived.Test.YtkkjnahjmomjgaaRegT
import Derived.Test.YtkkjnahjmomjgaaGuE
import Derived.Test.YtkkjnahjmomjgaaMmA
/- A graph as the reference's; graphs in boxes. No conditions. -/
namespace Go.Proofs.Ytkkjnahjmomjgaa
set_option linter.unusedVariables false
set_option linter.unusedSimpArgs false
open Go.RowKit Go.Maps
theorem FewP.same {a c : Gv} (h : FewP a) (h1 : c.n.map Nv.m = a.n.map Nv.m) (h2 : c.r = a.r) : FewP c := by
  refine ⟨?_, by rw [h2]; exact h.2.1, fun x hx => ?_, by rw [h2]; exact h.2.2.2⟩
  · have := congrArg List.length h1
    rw [List.length_map, List.length_map] at this
    rw [this]; exact h.1
  · have hm : x.m ∈ c.n.map Nv.m := List.mem_map.2 ⟨x, hx, rfl⟩
    rw [h1] at hm
    obtain ⟨y, hy, e⟩ := List.mem_map.1 hm
    have := h.2.2.1 y hy
    unfold Nv.m at e
    injection e with e1 e2
    rw [← e1, ← e2]
    exact this
def OfV (g : Gv) (v : Value) (W : World) : Prop := ∃ g' : Gv, v = g'.v ∧ g'.At W W.heap.size ∧ g'.n = g.n ∧ g'.r = g.r
theorem OfV.mono {g : Gv} {v : Value} {a b : World} (h : OfV g v a) (hb : Below a.heap.size a b) : OfV g v b := by
  obtain ⟨g', e, h1, h2⟩ := h
  exact ⟨g', e, h1.up hb, h2⟩
/-- A graph in a box. -/
def GBx (w : World) (s : Nat) (g : Gv) (v0 v1 : Value) : Prop := ∀ W, Below w.heap.size w W → W.cell? ⟨s, 0, none⟩ = some v0 ∧ W.cell? ⟨s, 1, none⟩ = some v1 ∧ g.At W W.heap.size
theorem GBx.of {w : World} {s : Nat} {g : Gv} {v0 v1 : Value} (h : Bk w s 25 #[v0, v1]) (hg : g.At w w.heap.size) : GBx w s g v0 v1 := fun W b => ⟨(h.below b h.lt).cell 0, (h.below b h.lt).cell 1, hg.up b⟩
theorem GBx.up {w w' : World} {s : Nat} {g : Gv} {v0 v1 : Value} (h : GBx w s g v0 v1) (b : Below w.heap.size w w') : GBx w' s g v0 v1 := fun W b2 => h W (b.trans (b2.mono b.size))
end Go.Proofs.Ytkkjnahjmomjgaa
/- canon.Same: whether graphs are the same but for their numbers. Conditions: lengths; numbers of 64 bits. -/
namespace Go.Proofs.Ytkkjnahjmomjgaa
set_option linter.unusedVariables false
set_option linter.unusedSimpArgs false
open Go.RowKit Go.Maps
def canM (g : Gv) : List (List Int × List (BitVec 8)) := pickN g.n (walkL g.n (g.r.map (·.t))) (walkL g.n (g.r.map (·.t)))
def canR (g : Gv) : List Rv := g.r.map fun r => (⟨r.s, newO (walkL g.n (g.r.map (·.t))) r.t⟩ : Rv)
def sameC (a b : Gv) : Bool := sameR (canR a) (canR b) && decide (canM a = canM b)
theorem sameC_true {a b : Gv} (h : canM a = canM b) (h2 : canR a = canR b) : sameC a b = true := by
  unfold sameC
  rw [Bool.and_eq_true, sameR_iff, decide_eq_true_iff]
  exact ⟨h2, h⟩
structure CanOk (g : Gv) : Prop where
  small : g.Small
  rl : g.r.length ≤ 100000
  wp : ∀ x ∈ g.n, ∀ p ∈ x.ps, (Lit.int .i64 p).wf = true
  wr : ∀ r ∈ g.r, (Lit.int .i64 r.t).wf = true
/-- A value that stands for the canonical graph of g. -/
def CaV (g : Gv) (v : Value) (W : World) : Prop := ∃ g' : Gv, v = g'.v ∧ g'.At W W.heap.size ∧ g'.n.map Nv.m = canM g ∧ g'.r = canR g
theorem CaV.mono {g : Gv} {v : Value} {a b : World} (h : CaV g v a) (hb : Below a.heap.size a b) : CaV g v b := by
  obtain ⟨g', e, h1, h2⟩ := h
  exact ⟨g', e, h1.up hb, h2⟩
theorem can_small {g c : Gv} (h : g.Small) (h1 : c.n.map Nv.m = canM g) (h2 : c.r = canR g) : c.Small := by
  have hl := congrArg List.length h1
  unfold canM pickN at hl
  rw [List.length_map, List.length_map] at hl
  have hle := walkL_len g.n (g.r.map (·.t))
  refine ⟨by have := h.1; omega, by rw [h2]; unfold canR; rw [List.length_map]; exact h.2.1, fun x hx => ?_⟩
  have hm : x.m ∈ c.n.map Nv.m := List.mem_map.2 ⟨x, hx, rfl⟩
  rw [h1] at hm
  unfold canM pickN at hm
  obtain ⟨p, hp, e⟩ := List.mem_map.1 hm
  unfold pick1 Nv.m at e
  cases ey : g.n[(p - 1).toNat]? with
  | none => rw [ey] at e; injection e with e1 e2; rw [← e1, ← e2]; exact ⟨by simp, by simp⟩
  | some y =>
    rw [ey] at e
    injection e with e1 e2
    have := h.2.2 y (List.mem_of_getElem? ey)
    rw [← e1, ← e2, List.length_map]
    exact this
theorem can_v {W : World} {g : Gv} {v : Value} (hv : g.v = v) (hf : CanOk g) (h : g.At W W.heap.size) : Calls Try.prog 55 #[v] W fun e w2 => ∃ u, e = .returned u ∧ Below W.heap.size W w2 ∧ CaV g u w2 := by
  rw [← hv]
  refine (canon_g W g h hf.small hf.rl hf.wp hf.wr).mono ?_
  rintro e w' ⟨g', rfl, h1, h2, h3, hb⟩
  exact ⟨_, rfl, hb, g', rfl, h1, h2, h3⟩
theorem ceq_v {W : World} {a b : Gv} {u v : Value} {p : Bool} (hs : a.Small) (hp : sameC a b = p) (ha : CaV a u W) (hb : CaV b v W) : Calls Try.prog 17 #[u, v] W (RetP (.bool p) W) := by
  obtain ⟨g1, rfl, h1, m1, r1⟩ := ha
  obtain ⟨g2, rfl, h2, m2, r2⟩ := hb
  have k := equalG_c W g1 g2 h1 h2 (can_small hs m1 r1)
  unfold sameG sameNs at k
  rw [m1, m2, r1, r2] at k
  rw [← hp]
  exact k
set_option maxHeartbeats 4000000
set_option maxRecDepth 100000
theorem cs1_r (Q : Exit → Act → World → Prop) (a0 : Act) (w : World) (sa sb : Nat) (a b : Gv) (A A2 B B2 : Option Addr) (N M K L a1 a2 b1 b2 : Nat) (p : Bool) (hva : a.v = .agg #[.slice A N a1, .slice A2 M a2]) (hvb : b.v = .agg #[.slice B K b1, .slice B2 L b2]) (hfa : CanOk a) (hfb : CanOk b) (ha : Hid (GBx w sa a (.slice A N a1) (.slice A2 M a2))) (hb : Hid (GBx w sb b (.slice B K b1) (.slice B2 L b2))) (hp : Hid (sameC a b = p)) (hsz : a0.tmps.size = 10) (sl2 : a0.tmps.getD 2 undef = .pointer (some ⟨sa, 0, none⟩)) (sl3 : a0.tmps.getD 3 undef = .pointer (some ⟨sb, 0, none⟩))
    (fin : ∀ (vals : Nat → Value) (w1 : World), Below w.heap.size w w1 → (IsV (.bool p)) (vals 5) w1 → Q .normal (putD vals [5, 6, 7, 8, 9, 4] 0 a0) w1) :
    (Code.region 1 (regIn Try.f21 1) true).wp Try.prog Q a0 w := by
  refine region_by (G := fun w w1 => Below w.heap.size w w1) [IsV (.agg #[.slice A N a1, .slice A2 M a2]),
    CaV a,
    IsV (.agg #[.slice B K b1, .slice B2 L b2]),
    CaV b,
    IsV (.bool p),
    IsV (.bool p)]
    [5, 6, 7, 8, 9, 4] (by kernel_rfl) (Gw.drew _) Gw.trans (by rw [hsz]; kernel_rfl) (by kernel_rfl) ?_ ?_ ?_
  · intro f hf
    simp only [List.mem_cons, List.not_mem_nil, or_false] at hf
    rcases hf with rfl | rfl | rfl | rfl | rfl | rfl <;> intro v a b h g <;> first | exact IsV.mono h | exact CaV.mono h g
  · refine ⟨?_, ?_, ?_, ?_, ?_, ?_, trivial⟩
    · refine owes_v (Go.Op.load 25 (Go.Operand.tmp 2)) 25 [] (by kernel_rfl) (by kernel_rfl) (by kernel_rfl) rfl fun vals w1 ρ hG hF hρ hcst hfun => ?_
      have e2 : ρ (.tmp 2) = .pointer (some ⟨sa, 0, none⟩) := ((hρ 2).trans (slotO [] (by kernel_rfl))).trans sl2
      obtain ⟨d0, d1, _⟩ := ha.out w1 hG
      clear hρ hF hcst hfun sl2 sl3 fin
      exact opv_val (by go_simp <;> rfl) ⟨gw_self _, rfl⟩
    · refine owes_v (Go.Op.call { callee := Go.Callee.value (Go.Operand.func 55), args := #[Go.Operand.tmp 5], argTypes := #[25] }) 25 [0] (by kernel_rfl) (by kernel_rfl) (by kernel_rfl) rfl fun vals w1 ρ hG hF hρ hcst hfun => ?_
      have e5 : ρ (.tmp 5) = .agg #[.slice A N a1, .slice A2 M a2] := ((hρ 5).trans (slotJ [0] (by rw [hsz]; decide) (by kernel_rfl))).trans (hF 0 (by decide))
      clear hρ hF hcst sl2 sl3 fin
      exact opv_enter (by go_simp <;> rfl) (can_v hva hfa (ha.out w1 hG).2.2)
    · refine owes_v (Go.Op.load 25 (Go.Operand.tmp 3)) 25 [] (by kernel_rfl) (by kernel_rfl) (by kernel_rfl) rfl fun vals w1 ρ hG hF hρ hcst hfun => ?_
      have e3 : ρ (.tmp 3) = .pointer (some ⟨sb, 0, none⟩) := ((hρ 3).trans (slotO [] (by kernel_rfl))).trans sl3
      obtain ⟨d0, d1, _⟩ := hb.out w1 hG
      clear hρ hF hcst hfun sl2 sl3 fin
      exact opv_val (by go_simp <;> rfl) ⟨gw_self _, rfl⟩
    · refine owes_v (Go.Op.call { callee := Go.Callee.value (Go.Operand.func 55), args := #[Go.Operand.tmp 7], argTypes := #[25] }) 25 [2] (by kernel_rfl) (by kernel_rfl) (by kernel_rfl) rfl fun vals w1 ρ hG hF hρ hcst hfun => ?_
      have e7 : ρ (.tmp 7) = .agg #[.slice B K b1, .slice B2 L b2] := ((hρ 7).trans (slotJ [2] (by rw [hsz]; decide) (by kernel_rfl))).trans (hF 2 (by decide))
      clear hρ hF hcst sl2 sl3 fin
      exact opv_enter (by go_simp <;> rfl) (can_v hvb hfb (hb.out w1 hG).2.2)
    · refine owes_v (Go.Op.call { callee := Go.Callee.value (Go.Operand.func 17), args := #[Go.Operand.tmp 6, Go.Operand.tmp 8], argTypes := #[25, 25] }) 4 [1, 3] (by kernel_rfl) (by kernel_rfl) (by kernel_rfl) rfl fun vals w1 ρ hG hF hρ hcst hfun => ?_
      have f6 : (CaV a) (vals 1) w1 := hF 1 (by decide)
      have e6 : ρ (.tmp 6) = vals 1 := (hρ 6).trans (slotJ [1, 3] (by rw [hsz]; decide) (by kernel_rfl))
      have f8 : (CaV b) (vals 3) w1 := hF 3 (by decide)
      have e8 : ρ (.tmp 8) = vals 3 := (hρ 8).trans (slotJ [1, 3] (by rw [hsz]; decide) (by kernel_rfl))
      clear hρ hF hcst sl2 sl3 fin
      exact opv_enter (by go_simp <;> rfl) (of_ret (ceq_v hfa.small hp.out f6 f8))
    · exact owes_mvj 4 9 (by kernel_rfl) (by kernel_rfl) (by kernel_rfl) (by kernel_rfl) (by rw [hsz]; decide) (fun v w h => h)
  · intro vals w1 hG hF
    exact fin vals w1 hG (hF 5 (by decide +kernel))
theorem csame_c (w : World) (a b : Gv) (ha : a.At w w.heap.size) (hb : b.At w w.heap.size) (hfa : CanOk a) (hfb : CanOk b) : Calls Try.prog 21 #[a.v, b.v] w (RetP (.bool (sameC a b)) w) := by
  have HA := Lib.hid ha
  have HB := Lib.hid hb
  obtain ⟨N, M, hN, hM, hva⟩ := @gv_cut a
  obtain ⟨K, L, hK, hL, hvb⟩ := @gv_cut b
  obtain ⟨A, hA⟩ : ∃ A, A = a.A := ⟨_, rfl⟩
  obtain ⟨A2, hA2⟩ : ∃ A2, A2 = a.A2 := ⟨_, rfl⟩
  obtain ⟨a1, ha1⟩ : ∃ a1, a1 = a.c := ⟨_, rfl⟩
  obtain ⟨a2, ha2⟩ : ∃ a2, a2 = a.c2 := ⟨_, rfl⟩
  obtain ⟨B, hB⟩ : ∃ A, A = b.A := ⟨_, rfl⟩
  obtain ⟨B2, hB2⟩ : ∃ A2, A2 = b.A2 := ⟨_, rfl⟩
  obtain ⟨b1, hb1⟩ : ∃ a1, a1 = b.c := ⟨_, rfl⟩
  obtain ⟨b2, hb2⟩ : ∃ a2, a2 = b.c2 := ⟨_, rfl⟩
  rw [← hA, ← hA2, ← ha1, ← ha2] at hva
  rw [← hB, ← hB2, ← hb1, ← hb2] at hvb
  have HVa := Lib.hid hva
  have HVb := Lib.hid hvb
  rw [hva, hvb]
  obtain ⟨p, hp⟩ : ∃ p, p = sameC a b := ⟨_, rfl⟩
  rw [← hp]
  have HP := Lib.hid hp.symm
  have HF := Lib.hid (And.intro hfa hfb)
  clear ha hb hva hvb hN hM hK hL hA hA2 ha1 ha2 hB hB2 hb1 hb2 hp hfa hfb
  go_enter Try.func21, Try.ntmps21
  go_wp2_with fail
  obtain ⟨sa, hsa⟩ : ∃ s, s = w.heap.size := ⟨_, rfl⟩
  obtain ⟨sb, hsb⟩ : ∃ s, s = sa + 1 := ⟨_, rfl⟩
  obtain ⟨wa, hwa⟩ : ∃ W, W = w.alloc (.cells #[.slice A N a1, .slice A2 M a2] 25) := ⟨_, rfl⟩
  obtain ⟨wb, hwb⟩ : ∃ W, W = wa.alloc (.cells #[.slice B K b1, .slice B2 L b2] 25) := ⟨_, rfl⟩
  rw [← hsa, ← hsb, ← hwa, ← hwb]
  have z1 : wa.heap.size = sb := by rw [hwa, hsb, hsa]; simp
  have k1 : Bk wa sa 25 #[.slice A N a1, .slice A2 M a2] := by rw [hwa, hsa]; exact Bk.new w _ _
  have k2 : Bk wb sb 25 #[.slice B K b1, .slice B2 L b2] := by rw [hwb, ← z1]; exact Bk.new wa _ _
  have d1 : Below w.heap.size w wa := by rw [hwa]; exact Gw.alloc w _
  have d2 : Below wa.heap.size wa wb := by rw [hwb]; exact Gw.alloc wa _
  have d3 := d1.trans (d2.mono d1.size)
  have HX := Lib.hid (And.intro (GBx.of (k1.below d2 k1.lt) (HA.out.up d3)) (And.intro (GBx.of k2 (HB.out.up d3)) d3))
  clear hsa hsb hwa hwb z1 k1 k2 d1 d2 d3
  refine cs1_r _ _ _ sa sb a b A A2 B B2 N M K L a1 a2 b1 b2 p HVa.out HVb.out HF.out.1 HF.out.2 (Lib.hid HX.out.1) (Lib.hid HX.out.2.1) HP rfl ?_ ?_ ?_
  · rfl
  · rfl
  intro vals w4 hG h4
  unfold IsV at h4
  simp only [putD, Act.put, List.setIfInBounds_toArray, List.set_cons_zero, List.set_cons_succ, h4]
  have HG4 := Lib.hid (HX.out.2.2.trans (hG.mono HX.out.2.2.size))
  clear hG h4
  go_wp2_with fail
  go_ret
  exact ⟨rfl, HG4.out⟩
end Go.Proofs.Ytkkjnahjmomjgaa
/- What a trimmed graph is, and what it is trimmed again (pure). No conditions. -/
namespace Go.Proofs.Ytkkjnahjmomjgaa
set_option linter.unusedVariables false
set_option linter.unusedSimpArgs false
open Go.RowKit Go.Maps
theorem mem_ordB {p : Int} : ∀ (L : List Bool) (i : Nat), p ∈ ordB L i ↔ ∃ k : Nat, L[k]? = some true ∧ p = ((i + k : Nat) : Int) + 1
  | [], i => by simp [ordB]
  | b :: r, i => by
    have ih := mem_ordB (p := p) r (i + 1)
    have key : (∃ k : Nat, (b :: r)[k]? = some true ∧ p = ((i + k : Nat) : Int) + 1) ↔ (b = true ∧ p = (i : Int) + 1) ∨ ∃ k : Nat, r[k]? = some true ∧ p = ((i + 1 + k : Nat) : Int) + 1 := by
      constructor
      · rintro ⟨k, h1, h2⟩
        cases k with
        | zero => left; exact ⟨by simpa using h1, by simpa using h2⟩
        | succ k => right; exact ⟨k, by simpa using h1, by rw [h2]; congr 2; omega⟩
      · rintro (⟨h1, h2⟩ | ⟨k, h1, h2⟩)
        · exact ⟨0, by simp [h1], by simpa using h2⟩
        · exact ⟨k + 1, by simpa using h1, by rw [h2]; congr 2; omega⟩
    have e : ordB (b :: r) i = if b = true then ((i : Int) + 1) :: ordB r (i + 1) else ordB r (i + 1) := rfl
    rw [key, ← ih, e]
    cases b
    · rw [if_neg (by simp)]; simp
    · rw [if_pos rfl, List.mem_cons]; simp
theorem mem_ord {L : List Bool} {p : Int} : p ∈ ordB L 0 ↔ hasG L.length p = true ∧ seenG L p = true := by
  rw [mem_ordB, hasG_iff]
  constructor
  · rintro ⟨k, h1, h2⟩
    obtain ⟨hk, e⟩ := List.getElem?_eq_some_iff.1 h1
    refine ⟨by omega, ?_⟩
    unfold seenG
    rw [show (p - 1).toNat = k by omega, List.getD_eq_getElem?_getD, h1]; rfl
  · rintro ⟨h1, h2⟩
    unfold seenG at h2
    have hk : (p - 1).toNat < L.length := by omega
    rw [List.getD_eq_getElem?_getD, List.getElem?_eq_getElem hk] at h2
    exact ⟨(p - 1).toNat, by rw [List.getElem?_eq_getElem hk]; exact congrArg some h2, by omega⟩
theorem pk_of {ns tn : List Nv} {L : List Bool} {fr : List Int} (hl : L.length = ns.length) (hs : ∀ p, hasG ns.length p = true → (seenG L p = true ↔ Rch ns fr p)) (hok : ∀ x ∈ ns, ∀ p ∈ x.ps, okP ns.length p = true) (hm : tn.map Nv.m = trimN (pairsB L 0 0) ns L) : Pk ns (ordB L 0) tn := by
  have mem : ∀ p, p ∈ ordB L 0 ↔ Rch ns fr p := fun p => by
    rw [mem_ord, hl]
    constructor
    · rintro ⟨h1, h2⟩; exact (hs p h1).1 h2
    · intro h; exact ⟨h.has, (hs p h.has).2 h⟩
  refine ⟨fun p hp => ((mem p).1 hp).has, ordB_nodup _ _, fun p hp q hq => ?_, by rw [hm, pick_trim hl]⟩
  have hr := (mem p).1 hp
  have hqo : okP ns.length q = true := by
    unfold ptrsG at hq
    cases e : ns[(p - 1).toNat]? with
    | none => rw [e] at hq; cases hq
    | some x => rw [e] at hq; exact hok x (List.mem_of_getElem? e) q hq
  unfold okP at hqo
  rw [Bool.or_eq_true, beq_iff_eq] at hqo
  rcases hqo with h0 | h0
  · exact .inl h0
  · exact .inr ((mem q).2 (.step p q hr hq h0))
theorem pk_mem {ns : List Nv} {L : List Bool} {fr : List Int} (hl : L.length = ns.length) (hs : ∀ p, hasG ns.length p = true → (seenG L p = true ↔ Rch ns fr p)) (p : Int) : p ∈ ordB L 0 ↔ Rch ns fr p := by
  rw [mem_ord, hl]
  constructor
  · rintro ⟨h1, h2⟩; exact (hs p h1).1 h2
  · intro h; exact ⟨h.has, (hs p h.has).2 h⟩
theorem ckNodes_zero {N : Nat} : ∀ {l : List Nv}, (∀ x ∈ l, ckNode N x = 0) → ckNodes N l = 0
  | [], _ => rfl
  | x :: r, h => by
    unfold ckNodes
    rw [if_pos (h x List.mem_cons_self)]
    exact ckNodes_zero (fun y hy => h y (List.mem_cons_of_mem _ hy))
theorem ckNodes_each {N : Nat} : ∀ {l : List Nv}, ckNodes N l = 0 → ∀ x ∈ l, ckNode N x = 0
  | [], _, x, hx => by cases hx
  | y :: r, h, x, hx => by
    have h1 : ckNode N y = 0 := by
      unfold ckNodes at h
      by_cases c : ckNode N y = 0
      · exact c
      · rw [if_neg c] at h; exact h
    unfold ckNodes at h
    rw [if_pos h1] at h
    rcases List.mem_cons.1 hx with rfl | hx
    · exact h1
    · exact ckNodes_each h x hx
theorem ckRoots_map {N N' : Nat} {f : Int → Int} : ∀ {l : List Rv} {s : ByteArray}, ckRoots N s l = 0 → (∀ r ∈ l, okP N' (f r.t) = true) → ckRoots N' s (l.map fun r => (⟨r.s, f r.t⟩ : Rv)) = 0
  | [], _, _, _ => rfl
  | r :: l, s, h, h2 => by
    rw [List.map_cons]
    unfold ckRoots at h ⊢
    split at h
    · rename_i c
      rw [if_pos c, if_pos (h2 r List.mem_cons_self)]
      by_cases d : okP N r.t = true
      · rw [if_pos d] at h
        exact ckRoots_map h (fun q hq => h2 q (List.mem_cons_of_mem _ hq))
      · rw [if_neg d] at h; cases h
    · cases h
theorem ck_zero {g : Gv} (h : ckG g = 0) : ckNodes g.n.length g.n = 0 ∧ g.r.length ≤ 64 ∧ ckRoots g.n.length emptyS g.r = 0 := by
  unfold ckG at h
  by_cases c : ckNodes g.n.length g.n = 0
  · rw [if_pos c] at h
    by_cases d : 64 < g.r.length
    · rw [if_pos d] at h; cases h
    · rw [if_neg d] at h; exact ⟨c, by omega, h⟩
  · rw [if_neg c] at h; exact absurd h c
section
variable {ns tn : List Nv} {od : List Int}
theorem Pk.okp (h : Pk ns od tn) {q : Int} (hq : q = 0 ∨ q ∈ od) : okP tn.length (newO od q) = true := by
  unfold okP
  rw [Bool.or_eq_true, beq_iff_eq]
  rcases hq with rfl | hq
  · left; exact h.zero
  · right; exact h.hasN hq
theorem Pk.each (h : Pk ns od tn) {y : Nv} (hy : y ∈ tn) : ∃ p x, p ∈ od ∧ ns[(p - 1).toNat]? = some x ∧ y.ps = x.ps.map (newO od) ∧ y.bs = x.bs := by
  obtain ⟨i, hi, e⟩ := List.mem_iff_getElem.1 hy
  have hio : i < od.length := by rw [← h.len]; exact hi
  obtain ⟨x, z, h1, h2, h3, h4⟩ := h.node (List.getElem_mem hio)
  have e2 := newO_get h.nd (List.getElem?_eq_getElem hio)
  rw [e2, show ((i : Int) + 1 - 1).toNat = i by omega, List.getElem?_eq_getElem hi] at h2
  injection h2 with h2
  rw [← e, h2]
  exact ⟨_, x, List.getElem_mem hio, h1, h3, h4⟩
theorem Pk.okn (h : Pk ns od tn) : ∀ y ∈ tn, ∀ q ∈ y.ps, okP tn.length q = true := fun y hy q hq => by
  obtain ⟨p, x, hp, hx, e, _⟩ := h.each hy
  rw [e] at hq
  obtain ⟨r, hr, rfl⟩ := List.mem_map.1 hq
  exact h.okp (h.cl p hp r (by unfold ptrsG; rw [hx]; exact hr))
theorem Pk.ck (h : Pk ns od tn) (h0 : ckNodes ns.length ns = 0) : ckNodes tn.length tn = 0 := ckNodes_zero fun y hy => by
  obtain ⟨p, x, hp, hx, e1, e2⟩ := h.each hy
  have hc := ckNodes_each h0 x (List.mem_of_getElem? hx)
  unfold ckNode at hc ⊢
  rw [if_pos (List.all_eq_true.2 (fun q hq => h.okn y hy q hq)), e1, e2, List.length_map]
  split at hc
  · exact hc
  · cases hc
end
def wordsM : List (List Int × List (BitVec 8)) → Int
  | [] => 0
  | x :: r => sizeH x.1.length x.2.length false 0 + wordsM r
theorem words_m : ∀ l : List Nv, wordsL l = wordsM (l.map Nv.m)
  | [] => rfl
  | x :: r => by
    rw [List.map_cons]
    show szN x + wordsL r = _ + wordsM _
    rw [words_m r]; rfl
theorem words_trim (now : List (Int × Int)) : ∀ (ns : List Nv) (L : List Bool), wordsM (trimN now ns L) ≤ wordsL ns
  | [], _ => by unfold trimN; exact Int.le_refl _
  | x :: r, [] => by unfold trimN; exact (wordsL_le _).1
  | x :: r, b :: l => by
    have ih := words_trim now r l
    have hz := szN_le x
    unfold trimN
    cases b
    · rw [if_neg (by simp)]
      show _ ≤ szN x + wordsL r
      omega
    · rw [if_pos rfl]
      show sizeH (x.ps.map (newP now)).length x.bs.length false 0 + wordsM (trimN now r l) ≤ szN x + wordsL r
      rw [List.length_map]
      have : sizeH x.ps.length x.bs.length false 0 = szN x := rfl
      omega
end Go.Proofs.Ytkkjnahjmomjgaa
/- The reference's Good, Words, Named; Ints. Conditions: lengths. -/
namespace Go.Proofs.Ytkkjnahjmomjgaa
set_option linter.unusedVariables false
set_option linter.unusedSimpArgs false
open Go.RowKit
set_option maxHeartbeats 1000000
set_option maxRecDepth 100000
end Go.Proofs.Ytkkjnahjmomjgaa
/- The reference's Good at any string; Ints at equal rows. No conditions but lengths. -/
namespace Go.Proofs.Ytkkjnahjmomjgaa
set_option linter.unusedVariables false
set_option linter.unusedSimpArgs false
open Go.RowKit
set_option maxHeartbeats 1000000
set_option maxRecDepth 100000
theorem goodS_no {s : ByteArray} {k : Nat} (h : k < s.size) (e : s[k] = 0) : goodS s = false := by
  unfold goodS
  have hk : s.data.toList[k]? = some 0 := by
    rw [List.getElem?_eq_getElem (by simpa using h)]
    congr 1
  have hn : ¬ Lib.indexByte s.data.toList 0 < 0 := fun hlt => by
    have hge := Lib.indexByte_ge s.data.toList 0
    have : Lib.indexByte s.data.toList 0 = -1 := by omega
    exact Lib.indexByte_none this k hk
  simp [hn]
theorem goodS_yes {s : ByteArray} (h1 : 1 ≤ s.size) (h2 : s.size ≤ 32) (h : ∀ k (hk : k < s.size), s[k] ≠ 0) : goodS s = true := by
  unfold goodS
  have hn : Lib.indexByte s.data.toList 0 < 0 := by
    by_cases hc : Lib.indexByte s.data.toList 0 < 0
    · exact hc
    · exfalso
      obtain ⟨o, ho⟩ : ∃ o : Nat, Lib.indexByte s.data.toList 0 = o := ⟨(Lib.indexByte s.data.toList 0).toNat, by omega⟩
      have := (Lib.indexByte_some ho).1
      obtain ⟨ho2, e⟩ := List.getElem?_eq_some_iff.1 this
      have e2 : s.data[o]'(by simpa using ho2) = 0 := by simpa using e
      exact h o (by simpa using ho2) e2
  simp [h1, h2, hn]
theorem rgood_s (s : ByteArray) (w : World) : Calls Try.prog 35 #[.string s] w fun e w' => e = .returned (.bool (goodS s)) ∧ w' = w := by
  obtain ⟨r, hr⟩ : ∃ r, r = goodS s := ⟨_, rfl⟩
  rw [← hr]
  by_cases h1 : s.size < 1
  · obtain rfl : r = false := by rw [hr]; unfold goodS; rw [decide_eq_false (by omega)]; rfl
    have q1 : s.size = 0 := by omega
    have q2 : decide ((s.size : Int) < 1) = true := by rw [q1]; rfl
    clear hr h1 q1
    go_enter Try.func35, Try.ntmps35
    go_wp2_with fail
    go_ret
    exact ⟨rfl, rfl⟩
  · have q1 : decide ((s.size : Int) < 1) = false := by simp; omega
    by_cases h2 : 32 < s.size
    · obtain rfl : r = false := by rw [hr]; unfold goodS; rw [decide_eq_false (p := s.size ≤ 32) (by omega)]; simp
      have q2 : decide ((32 : Int) < (s.size : Int)) = true := by simp; omega
      clear hr h1 h2
      go_enter Try.func35, Try.ntmps35
      go_wp2_with fail
      go_ret
      exact ⟨rfl, rfl⟩
    · have q2 : decide ((32 : Int) < (s.size : Int)) = false := by simp; omega
      have hb : s.size ≤ 32 := by omega
      have HR := Lib.hid hr
      have H12 := Lib.hid (And.intro h1 h2)
      clear hr h1 h2
      go_enter Try.func35, Try.ntmps35
      go_wp2_with fail
      go_loop [3] (fun i => ∃ k : Nat, k ≤ s.size ∧ i = .int .i64 k ∧ Hid (∀ j (hj : j < s.size), j < k → s[j] ≠ 0)) (fun i => s.size - (Go.RowKit.intOf i).toNat)
      case atStart => exact ⟨0, Nat.zero_le _, rfl, Lib.hid (fun j _ hj => absurd hj (by omega))⟩
      case round =>
        obtain ⟨k, hk, rfl, hall⟩ := hrel
        by_cases hlt : k < s.size
        · have p1 : (0 : Int) ≤ (k : Int) := by omega
          have p2 : (k : Int) < (s.size : Int) := by omega
          by_cases hz0 : s[k] = 0
          · have e0 : ((s[k].toNat : Int) == 0) = true := by rw [hz0]; decide +kernel
            obtain rfl : r = false := by rw [HR.out]; exact goodS_no hlt hz0
            clear hz0
            go_wp2_with fail
            go_ret
            exact ⟨rfl, rfl⟩
          · have e0 : ((s[k].toNat : Int) == 0) = false := by
              have : ¬ s[k].toNat = 0 := fun e => hz0 (UInt8.toNat_inj.1 e)
              simp; omega
            have HZ0 := Lib.hid hz0
            clear hz0
            go_wp2_with fail
            go_round
            case rel => exact ⟨k + 1, by omega, by go_num, Lib.hid (fun j hjs hj => by
              rcases Nat.lt_or_ge j k with h | h
              · exact hall.out j hjs h
              · obtain rfl : j = k := by omega
                exact HZ0.out)⟩
            case measure => simp [Go.RowKit.intOf]; omega
        · obtain rfl : k = s.size := by omega
          obtain rfl : r = true := by
            rw [HR.out]
            have := H12.out
            exact goodS_yes (by omega) hb (fun j hj => hall.out j hj hj)
          go_wp2_with fail
          go_ret
          exact ⟨rfl, rfl⟩
end Go.Proofs.Ytkkjnahjmomjgaa
/- A region that keeps its order, by a fact for each of its operations. No conditions. -/
namespace Go.Proofs.Ytkkjnahjmomjgaa
set_option linter.unusedVariables false
set_option linter.unusedSimpArgs false
open Go.RowKit
section
variable {P : Program} {ops : Array Oper} {Q : Exit → Act → World → Prop} {G : World → World → Prop} {F : Nat → Value → World → Prop} {a0 : Act} {w0 : World}
end
section
variable {P : Program} {ops : Array Oper} {Q : Exit → Act → World → Prop} {F : Nat → Value → World → Prop} {a0 : Act} {w0 : World}
/-- An operation under a guard that itself was left out. -/
theorem owes_un {i : Nat} (k : Nat) (want : Bool) (hg : (ops[i]?).bind (·.guard) = some (k, want)) (hk : waitsB ops i k = true) (hc : ∀ v w, F k v w → v = undef)
    (hsz : ((dstOf ops k).map fun d => decide (d < a0.tmps.size)) = some true) (hF : ∀ w, F i undef w) : Owes P ops Q (fun w w' => Below w.heap.size w w') F a0 w0 i := by
  cases hi : ops[i]? with
  | none => rw [hi] at hg; cases hg
  | some o =>
    rw [hi] at hg
    intro a w hG hd hs hF' hR
    have hy : yielded ops a.tmps k = none := by
      have h1 := hc _ _ (hF' k hk)
      unfold valAt at h1
      unfold yielded
      cases hkd : dstOf ops k with
      | none => rw [hkd] at hsz; cases hsz
      | some d =>
        rw [hkd] at hsz h1
        have hl : d < a.tmps.size := by rw [hs]; simpa using hsz
        unfold dstOf at hkd
        rw [hkd]
        simp only [Option.bind_some] at h1 ⊢
        rw [Array.getD_eq_getD_getElem?, Array.getElem?_eq_getElem hl] at h1
        rw [Array.getElem?_eq_getElem hl]
        simp only [Option.getD_some] at h1
        rw [h1]
        rfl
    unfold wpOp
    rw [hi]
    have hw : Region.wanted o (yielded ops a.tmps) = false := by
      unfold Region.wanted
      rw [show o.guard = some (k, want) from hg]
      simp only [hy]
      cases want <;> rfl
    simp only [hw, Bool.false_eq_true, if_false]
    exact ⟨undef, by unfold dstOf; rw [hi]; rfl, Below.refl _ _, hF _⟩
end
/-- A region's operations from the k-th on, each of which waits for all that stand ahead of it. -/
def cutOps (k : Nat) (ops : Array Oper) : List Oper := ops.toList.drop k
def fullO (k : Nat) (p : Oper × Nat) : Oper := { p.1 with guard := p.1.guard.map fun g => (g.1 - k, g.2), after := ((List.range p.2).map fun j => ({ on := j, ground := .data } : Edge)).toArray }
def fullOps (k : Nat) (ops : Array Oper) : Array Oper := ((cutOps k ops).zipIdx.map (fullO k)).toArray
def cutB (k : Nat) (ops : Array Oper) : Bool := (cutOps k ops).all fun o => match o.guard with | none => true | some g => decide (k ≤ g.1)
end Go.Proofs.Ytkkjnahjmomjgaa
/- The reference's Check. Conditions: lengths. -/
namespace Go.Proofs.Ytkkjnahjmomjgaa
set_option linter.unusedVariables false
set_option linter.unusedSimpArgs false
open Go.RowKit
set_option maxHeartbeats 4000000
set_option maxRecDepth 100000
theorem leS_empty {s : ByteArray} (h : goodS s = true) : leS s emptyS = false := by
  have hs : 1 ≤ s.size := by
    unfold goodS at h
    simp only [Bool.and_eq_true, decide_eq_true_eq] at h
    exact h.1
  have hl : s.toList.length = s.size := by rw [ByteArray.toList_eq]; simp
  have e0 : emptyS.toList = [] := by rw [ByteArray.toList_eq]; rfl
  unfold leS
  rw [e0]
  cases hc : s.toList with
  | nil => rw [hc] at hl; simp at hl; omega
  | cons a l => rfl
theorem less_tri : ∀ x y : List UInt8, Op.bytesLess y x = !(Op.bytesLess x y || x == y)
  | [], [] => rfl
  | [], b :: y => by simp [Op.bytesLess]
  | a :: x, [] => by simp [Op.bytesLess]
  | a :: x, b :: y => by
    have ih := less_tri x y
    simp only [Op.bytesLess]
    rw [ih]
    rcases Nat.lt_trichotomy a.toNat b.toNat with h | h | h
    · have h1 : a < b := UInt8.lt_iff_toNat_lt.2 h
      have h2 : ¬ b < a := fun e => by have := UInt8.lt_iff_toNat_lt.1 e; omega
      have h3 : ¬ b = a := fun e => by subst e; omega
      have h4 : (b == a) = false := by simpa using h3
      simp [h1, h2, h4]
    · have h1 : a = b := UInt8.toNat_inj.1 h
      subst h1
      have h2 : ¬ a < a := fun e => by have := UInt8.lt_iff_toNat_lt.1 e; omega
      simp [h2]
    · have h1 : b < a := UInt8.lt_iff_toNat_lt.2 h
      have h2 : ¬ a < b := fun e => by have := UInt8.lt_iff_toNat_lt.1 e; omega
      have h3 : ¬ a = b := fun e => by subst e; omega
      have h4 : (a == b) = false := by simpa using h3
      simp [h1, h2, h4, h3]
theorem of_ret17 {P : Program} {f : FuncId} {args : Array Value} {v : Value} {w : World} (h : Calls P f args w fun e w' => e = .returned v ∧ w' = w) : Calls P f args w fun e w2 => ∃ u, e = .returned u ∧ Below w.heap.size w w2 ∧ IsV v u w2 :=
  h.mono fun _ _ h => ⟨_, h.1, by rw [h.2]; exact Below.refl _ _, rfl⟩
def prevS (rs : List Rv) : Nat → ByteArray
  | 0 => emptyS
  | k + 1 => ((rs[k]?).map (·.s)).getD emptyS
theorem rcka_r (Q : Exit → Act → World → Prop) (a0 : Act) (w : World) (bx : Nat) (s : ByteArray) (i : Int) (hs : Hid (∀ W, Below w.heap.size w W → W.cell? ⟨bx, 0, none⟩ = some (.string s))) (hg : goodS s = false) (hsz : a0.tmps.size = 99) (sl8 : a0.tmps.getD 8 undef = .pointer (some ⟨bx, 0, none⟩))
    (fin : ∀ (vals : Nat → Value) (w1 : World), Below w.heap.size w w1 → (IsV (.bool true)) (vals 19) w1 → Q .normal (putD vals [70, 71, 72, 73, 74, 75, 76, 77, 78, 79, 80, 81, 82, 83, 84, 85, 86, 87, 88, 89] 0 a0) w1) :
    (Code.region 19 (regIn Try.f13 19) true).wp Try.prog Q a0 w := by
  refine region_by (G := fun w w1 => Below w.heap.size w w1) [IsV (.pointer (some ⟨bx, 0, none⟩)),
    IsV (.string s),
    IsV (.bool false),
    IsV (.bool true),
    IsV (.bool true),
    IsV undef,
    IsV undef,
    IsV undef,
    IsV undef,
    IsV undef,
    IsV undef,
    IsV undef,
    IsV undef,
    IsV undef,
    IsV undef,
    IsV undef,
    IsV undef,
    IsV undef,
    IsV undef,
    IsV (.bool true)]
    [70, 71, 72, 73, 74, 75, 76, 77, 78, 79, 80, 81, 82, 83, 84, 85, 86, 87, 88, 89] (by kernel_rfl) (Gw.drew _) Gw.trans (by rw [hsz]; kernel_rfl) (by kernel_rfl) ?_ ?_ ?_
  · intro f hf
    simp only [List.mem_cons, List.not_mem_nil, or_false] at hf
    rcases hf with rfl | rfl | rfl | rfl | rfl | rfl | rfl | rfl | rfl | rfl | rfl | rfl | rfl | rfl | rfl | rfl | rfl | rfl | rfl | rfl <;> intro v a b h g <;> first | exact IsV.mono h
  · refine ⟨?_, ?_, ?_, ?_, ?_, ?_, ?_, ?_, ?_, ?_, ?_, ?_, ?_, ?_, ?_, ?_, ?_, ?_, ?_, ?_, trivial⟩
    · refine owes_v (Go.Op.fieldAddr 59 (Go.Operand.tmp 8) 0) 0 [] (by kernel_rfl) (by kernel_rfl) (by kernel_rfl) rfl fun vals w1 ρ hG hF hρ hcst hfun => ?_
      have e8 : ρ (.tmp 8) = .pointer (some ⟨bx, 0, none⟩) := ((hρ 8).trans (slotO [] (by kernel_rfl))).trans sl8
      clear hρ hF hcst hfun sl8 fin
      exact opv_val (by go_simp <;> rfl) ⟨gw_self _, rfl⟩
    · refine owes_v (Go.Op.load 9 (Go.Operand.tmp 70)) 9 [0] (by kernel_rfl) (by kernel_rfl) (by kernel_rfl) rfl fun vals w1 ρ hG hF hρ hcst hfun => ?_
      have e70 : ρ (.tmp 70) = .pointer (some ⟨bx, 0, none⟩) := ((hρ 70).trans (slotJ [0] (by rw [hsz]; decide) (by kernel_rfl))).trans (hF 0 (by decide))
      have k := hs.out w1 hG
      clear hρ hF hcst hfun sl8 fin
      exact opv_val (by go_simp <;> rfl) ⟨gw_self _, rfl⟩
    · refine owes_v (Go.Op.call { callee := Go.Callee.value (Go.Operand.func 35), args := #[Go.Operand.tmp 71], argTypes := #[9] }) 4 [1] (by kernel_rfl) (by kernel_rfl) (by kernel_rfl) rfl fun vals w1 ρ hG hF hρ hcst hfun => ?_
      have e71 : ρ (.tmp 71) = .string s := ((hρ 71).trans (slotJ [1] (by rw [hsz]; decide) (by kernel_rfl))).trans (hF 1 (by decide))
      clear hρ hF hcst sl8 fin
      exact opv_enter (by go_simp <;> rfl) (of_ret17 (hg ▸ rgood_s s w1))
    · refine owes_v (Go.Op.unOp Go.UnOp.not 4 (Go.Operand.tmp 72)) 4 [2] (by kernel_rfl) (by kernel_rfl) (by kernel_rfl) rfl fun vals w1 ρ hG hF hρ hcst hfun => ?_
      have e72 : ρ (.tmp 72) = .bool false := ((hρ 72).trans (slotJ [2] (by rw [hsz]; decide) (by kernel_rfl))).trans (hF 2 (by decide))
      clear hρ hF hcst hfun sl8 fin
      exact opv_val (by go_simp <;> rfl) ⟨gw_self _, rfl⟩
    · exact owes_mvj 3 73 (by kernel_rfl) (by kernel_rfl) (by kernel_rfl) (by kernel_rfl) (by rw [hsz]; decide) (fun v w h => h)
    · exact owes_no 4 true false (by decide) (by kernel_rfl) (by kernel_rfl) (fun _ _ h => h) (by rw [hsz]; kernel_rfl) (fun _ => rfl)
    · exact owes_no 4 true false (by decide) (by kernel_rfl) (by kernel_rfl) (fun _ _ h => h) (by rw [hsz]; kernel_rfl) (fun _ => rfl)
    · exact owes_no 4 true false (by decide) (by kernel_rfl) (by kernel_rfl) (fun _ _ h => h) (by rw [hsz]; kernel_rfl) (fun _ => rfl)
    · exact owes_un 7 true (by kernel_rfl) (by kernel_rfl) (fun _ _ h => h) (by rw [hsz]; kernel_rfl) (fun _ => rfl)
    · exact owes_un 7 true (by kernel_rfl) (by kernel_rfl) (fun _ _ h => h) (by rw [hsz]; kernel_rfl) (fun _ => rfl)
    · exact owes_un 7 true (by kernel_rfl) (by kernel_rfl) (fun _ _ h => h) (by rw [hsz]; kernel_rfl) (fun _ => rfl)
    · exact owes_un 7 true (by kernel_rfl) (by kernel_rfl) (fun _ _ h => h) (by rw [hsz]; kernel_rfl) (fun _ => rfl)
    · exact owes_un 7 true (by kernel_rfl) (by kernel_rfl) (fun _ _ h => h) (by rw [hsz]; kernel_rfl) (fun _ => rfl)
    · exact owes_un 7 true (by kernel_rfl) (by kernel_rfl) (fun _ _ h => h) (by rw [hsz]; kernel_rfl) (fun _ => rfl)
    · exact owes_un 7 true (by kernel_rfl) (by kernel_rfl) (fun _ _ h => h) (by rw [hsz]; kernel_rfl) (fun _ => rfl)
    · exact owes_un 7 true (by kernel_rfl) (by kernel_rfl) (fun _ _ h => h) (by rw [hsz]; kernel_rfl) (fun _ => rfl)
    · exact owes_un 7 true (by kernel_rfl) (by kernel_rfl) (fun _ _ h => h) (by rw [hsz]; kernel_rfl) (fun _ => rfl)
    · exact owes_un 7 true (by kernel_rfl) (by kernel_rfl) (fun _ _ h => h) (by rw [hsz]; kernel_rfl) (fun _ => rfl)
    · exact owes_no 4 true false (by decide) (by kernel_rfl) (by kernel_rfl) (fun _ _ h => h) (by rw [hsz]; kernel_rfl) (fun _ => rfl)
    · refine owes_v (Go.Op.pick (Go.Operand.tmp 74) (Go.Operand.const (Go.Value.bool true)) (Go.Operand.tmp 88)) 4 [4, 18] (by kernel_rfl) (by kernel_rfl) (by kernel_rfl) rfl fun vals w1 ρ hG hF hρ hcst hfun => ?_
      have e74 : ρ (.tmp 74) = .bool true := ((hρ 74).trans (slotJ [4, 18] (by rw [hsz]; decide) (by kernel_rfl))).trans (hF 4 (by decide))
      have e88 : ρ (.tmp 88) = undef := ((hρ 88).trans (slotJ [4, 18] (by rw [hsz]; decide) (by kernel_rfl))).trans (hF 18 (by decide))
      clear hρ hF hfun sl8 fin
      exact opv_val (by go_simp <;> rfl) ⟨gw_self _, rfl⟩
  · intro vals w1 hG hF
    exact fin vals w1 hG (hF 19 (by decide +kernel))
theorem rckb_r (Q : Exit → Act → World → Prop) (a0 : Act) (w : World) (bx : Nat) (s : ByteArray) (hs : Hid (∀ W, Below w.heap.size w W → W.cell? ⟨bx, 0, none⟩ = some (.string s))) (hg : goodS s = true) (hsz : a0.tmps.size = 99) (sl7 : a0.tmps.getD 7 undef = .int .i64 0) (sl8 : a0.tmps.getD 8 undef = .pointer (some ⟨bx, 0, none⟩))
    (fin : ∀ (vals : Nat → Value) (w1 : World), Below w.heap.size w w1 → (IsV (.bool false)) (vals 19) w1 → Q .normal (putD vals [70, 71, 72, 73, 74, 75, 76, 77, 78, 79, 80, 81, 82, 83, 84, 85, 86, 87, 88, 89] 0 a0) w1) :
    (Code.region 19 (regIn Try.f13 19) true).wp Try.prog Q a0 w := by
  refine region_by (G := fun w w1 => Below w.heap.size w w1) [IsV (.pointer (some ⟨bx, 0, none⟩)),
    IsV (.string s),
    IsV (.bool true),
    IsV (.bool false),
    IsV (.bool false),
    IsV (.int .i64 0),
    IsV (.bool false),
    IsV (.bool false),
    IsV undef,
    IsV undef,
    IsV undef,
    IsV undef,
    IsV undef,
    IsV undef,
    IsV undef,
    IsV undef,
    IsV undef,
    IsV undef,
    IsV (.bool false),
    IsV (.bool false)]
    [70, 71, 72, 73, 74, 75, 76, 77, 78, 79, 80, 81, 82, 83, 84, 85, 86, 87, 88, 89] (by kernel_rfl) (Gw.drew _) Gw.trans (by rw [hsz]; kernel_rfl) (by kernel_rfl) ?_ ?_ ?_
  · intro f hf
    simp only [List.mem_cons, List.not_mem_nil, or_false] at hf
    rcases hf with rfl | rfl | rfl | rfl | rfl | rfl | rfl | rfl | rfl | rfl | rfl | rfl | rfl | rfl | rfl | rfl | rfl | rfl | rfl | rfl <;> intro v a b h g <;> first | exact IsV.mono h
  · refine ⟨?_, ?_, ?_, ?_, ?_, ?_, ?_, ?_, ?_, ?_, ?_, ?_, ?_, ?_, ?_, ?_, ?_, ?_, ?_, ?_, trivial⟩
    · refine owes_v (Go.Op.fieldAddr 59 (Go.Operand.tmp 8) 0) 0 [] (by kernel_rfl) (by kernel_rfl) (by kernel_rfl) rfl fun vals w1 ρ hG hF hρ hcst hfun => ?_
      have e8 : ρ (.tmp 8) = .pointer (some ⟨bx, 0, none⟩) := ((hρ 8).trans (slotO [] (by kernel_rfl))).trans sl8
      clear hρ hF hcst hfun sl7 sl8 fin
      exact opv_val (by go_simp <;> rfl) ⟨gw_self _, rfl⟩
    · refine owes_v (Go.Op.load 9 (Go.Operand.tmp 70)) 9 [0] (by kernel_rfl) (by kernel_rfl) (by kernel_rfl) rfl fun vals w1 ρ hG hF hρ hcst hfun => ?_
      have e70 : ρ (.tmp 70) = .pointer (some ⟨bx, 0, none⟩) := ((hρ 70).trans (slotJ [0] (by rw [hsz]; decide) (by kernel_rfl))).trans (hF 0 (by decide))
      have k := hs.out w1 hG
      clear hρ hF hcst hfun sl7 sl8 fin
      exact opv_val (by go_simp <;> rfl) ⟨gw_self _, rfl⟩
    · refine owes_v (Go.Op.call { callee := Go.Callee.value (Go.Operand.func 35), args := #[Go.Operand.tmp 71], argTypes := #[9] }) 4 [1] (by kernel_rfl) (by kernel_rfl) (by kernel_rfl) rfl fun vals w1 ρ hG hF hρ hcst hfun => ?_
      have e71 : ρ (.tmp 71) = .string s := ((hρ 71).trans (slotJ [1] (by rw [hsz]; decide) (by kernel_rfl))).trans (hF 1 (by decide))
      clear hρ hF hcst sl7 sl8 fin
      exact opv_enter (by go_simp <;> rfl) (of_ret17 (hg ▸ rgood_s s w1))
    · refine owes_v (Go.Op.unOp Go.UnOp.not 4 (Go.Operand.tmp 72)) 4 [2] (by kernel_rfl) (by kernel_rfl) (by kernel_rfl) rfl fun vals w1 ρ hG hF hρ hcst hfun => ?_
      have e72 : ρ (.tmp 72) = .bool true := ((hρ 72).trans (slotJ [2] (by rw [hsz]; decide) (by kernel_rfl))).trans (hF 2 (by decide))
      clear hρ hF hcst hfun sl7 sl8 fin
      exact opv_val (by go_simp <;> rfl) ⟨gw_self _, rfl⟩
    · exact owes_mvj 3 73 (by kernel_rfl) (by kernel_rfl) (by kernel_rfl) (by kernel_rfl) (by rw [hsz]; decide) (fun v w h => h)
    · refine owes_vt 4 false (Go.Op.move (Go.Operand.tmp 7)) 3 [] (by kernel_rfl) (by kernel_rfl) (by kernel_rfl) (fun _ _ h => h) (by rw [hsz]; kernel_rfl) (by kernel_rfl) rfl fun vals w1 ρ hG hF hρ hcst hfun => ?_
      have e7 : ρ (.tmp 7) = .int .i64 0 := ((hρ 7).trans (slotO [] (by kernel_rfl))).trans sl7
      clear hρ hF hcst hfun sl7 sl8 fin
      exact opv_val (by go_simp <;> rfl) ⟨gw_self _, rfl⟩
    · refine owes_vt 4 false (Go.Op.binOp Go.BinOp.gtr 3 (Go.Operand.tmp 75) (Go.Operand.const (Go.Value.int Go.IntKind.i64 0)) 3) 4 [5] (by kernel_rfl) (by kernel_rfl) (by kernel_rfl) (fun _ _ h => h) (by rw [hsz]; kernel_rfl) (by kernel_rfl) rfl fun vals w1 ρ hG hF hρ hcst hfun => ?_
      have e75 : ρ (.tmp 75) = .int .i64 0 := ((hρ 75).trans (slotJ [5] (by rw [hsz]; decide) (by kernel_rfl))).trans (hF 5 (by decide))
      clear hρ hF hfun sl7 sl8 fin
      exact opv_val (by go_simp <;> rfl) ⟨gw_self _, rfl⟩
    · refine owes_vt 4 false (Go.Op.move (Go.Operand.tmp 76)) 4 [6] (by kernel_rfl) (by kernel_rfl) (by kernel_rfl) (fun _ _ h => h) (by rw [hsz]; kernel_rfl) (by kernel_rfl) rfl fun vals w1 ρ hG hF hρ hcst hfun => ?_
      have e76 : ρ (.tmp 76) = .bool false := ((hρ 76).trans (slotJ [6] (by rw [hsz]; decide) (by kernel_rfl))).trans (hF 6 (by decide))
      clear hρ hF hcst hfun sl7 sl8 fin
      exact opv_val (by go_simp <;> rfl) ⟨gw_self _, rfl⟩
    · exact owes_no 7 false true (by decide) (by kernel_rfl) (by kernel_rfl) (fun _ _ h => h) (by rw [hsz]; kernel_rfl) (fun _ => rfl)
    · exact owes_no 7 false true (by decide) (by kernel_rfl) (by kernel_rfl) (fun _ _ h => h) (by rw [hsz]; kernel_rfl) (fun _ => rfl)
    · exact owes_no 7 false true (by decide) (by kernel_rfl) (by kernel_rfl) (fun _ _ h => h) (by rw [hsz]; kernel_rfl) (fun _ => rfl)
    · exact owes_no 7 false true (by decide) (by kernel_rfl) (by kernel_rfl) (fun _ _ h => h) (by rw [hsz]; kernel_rfl) (fun _ => rfl)
    · exact owes_no 7 false true (by decide) (by kernel_rfl) (by kernel_rfl) (fun _ _ h => h) (by rw [hsz]; kernel_rfl) (fun _ => rfl)
    · exact owes_no 7 false true (by decide) (by kernel_rfl) (by kernel_rfl) (fun _ _ h => h) (by rw [hsz]; kernel_rfl) (fun _ => rfl)
    · exact owes_no 7 false true (by decide) (by kernel_rfl) (by kernel_rfl) (fun _ _ h => h) (by rw [hsz]; kernel_rfl) (fun _ => rfl)
    · exact owes_no 7 false true (by decide) (by kernel_rfl) (by kernel_rfl) (fun _ _ h => h) (by rw [hsz]; kernel_rfl) (fun _ => rfl)
    · exact owes_no 7 false true (by decide) (by kernel_rfl) (by kernel_rfl) (fun _ _ h => h) (by rw [hsz]; kernel_rfl) (fun _ => rfl)
    · exact owes_no 7 false true (by decide) (by kernel_rfl) (by kernel_rfl) (fun _ _ h => h) (by rw [hsz]; kernel_rfl) (fun _ => rfl)
    · refine owes_vt 4 false (Go.Op.pick (Go.Operand.tmp 77) (Go.Operand.tmp 87) (Go.Operand.const (Go.Value.bool false))) 4 [7, 17] (by kernel_rfl) (by kernel_rfl) (by kernel_rfl) (fun _ _ h => h) (by rw [hsz]; kernel_rfl) (by kernel_rfl) rfl fun vals w1 ρ hG hF hρ hcst hfun => ?_
      have e77 : ρ (.tmp 77) = .bool false := ((hρ 77).trans (slotJ [7, 17] (by rw [hsz]; decide) (by kernel_rfl))).trans (hF 7 (by decide))
      have e87 : ρ (.tmp 87) = undef := ((hρ 87).trans (slotJ [7, 17] (by rw [hsz]; decide) (by kernel_rfl))).trans (hF 17 (by decide))
      clear hρ hF hfun sl7 sl8 fin
      exact opv_val (by go_simp <;> rfl) ⟨gw_self _, rfl⟩
    · refine owes_v (Go.Op.pick (Go.Operand.tmp 74) (Go.Operand.const (Go.Value.bool true)) (Go.Operand.tmp 88)) 4 [4, 18] (by kernel_rfl) (by kernel_rfl) (by kernel_rfl) rfl fun vals w1 ρ hG hF hρ hcst hfun => ?_
      have e74 : ρ (.tmp 74) = .bool false := ((hρ 74).trans (slotJ [4, 18] (by rw [hsz]; decide) (by kernel_rfl))).trans (hF 4 (by decide))
      have e88 : ρ (.tmp 88) = .bool false := ((hρ 88).trans (slotJ [4, 18] (by rw [hsz]; decide) (by kernel_rfl))).trans (hF 18 (by decide))
      clear hρ hF hfun sl7 sl8 fin
      exact opv_val (by go_simp <;> rfl) ⟨gw_self _, rfl⟩
  · intro vals w1 hG hF
    exact fin vals w1 hG (hF 19 (by decide +kernel))
theorem rckc_r (Q : Exit → Act → World → Prop) (a0 : Act) (w : World) (bx bg M c j : Nat) (ad : Addr) (s u : ByteArray) (r : Bool) (hs : Hid (∀ W, Below w.heap.size w W → W.cell? ⟨bx, 0, none⟩ = some (.string s) ∧ W.cell? ⟨bg, 1, none⟩ = some (.slice (some ad) M c) ∧ W.cell? (ad.add (j * 2)) = some (.string u))) (hg : goodS s = true) (hr : leS s u = r) (p1 : (0 : Int) ≤ (j : Int)) (p2 : (j : Int) + 1 < (M : Int)) (p3 : (M : Int) ≤ 100) (hsz : a0.tmps.size = 99) (sl1 : a0.tmps.getD 1 undef = .pointer (some ⟨bg, 0, none⟩)) (sl7 : a0.tmps.getD 7 undef = .int .i64 ((j : Int) + 1)) (sl8 : a0.tmps.getD 8 undef = .pointer (some ⟨bx, 0, none⟩))
    (fin : ∀ (vals : Nat → Value) (w1 : World), Below w.heap.size w w1 → (IsV (.bool r)) (vals 19) w1 → Q .normal (putD vals [70, 71, 72, 73, 74, 75, 76, 77, 78, 79, 80, 81, 82, 83, 84, 85, 86, 87, 88, 89] 0 a0) w1) :
    (Code.region 19 (regIn Try.f13 19) true).wp Try.prog Q a0 w := by
  refine region_by (G := fun w w1 => Below w.heap.size w w1) [IsV (.pointer (some ⟨bx, 0, none⟩)),
    IsV (.string s),
    IsV (.bool true),
    IsV (.bool false),
    IsV (.bool false),
    IsV (.int .i64 ((j : Int) + 1)),
    IsV (.bool true),
    IsV (.bool true),
    IsV (.pointer (some ⟨bg, 1, none⟩)),
    IsV (.slice (some ad) M c),
    IsV (.int .i64 ((j : Int) + 1)),
    IsV (.int .i64 j),
    IsV (.pointer (some (ad.add (j * 2)))),
    IsV (.pointer (some (ad.add (j * 2)))),
    IsV (.string u),
    IsV (.pointer (some ⟨bx, 0, none⟩)),
    IsV (.string s),
    IsV (.bool r),
    IsV (.bool r),
    IsV (.bool r)]
    [70, 71, 72, 73, 74, 75, 76, 77, 78, 79, 80, 81, 82, 83, 84, 85, 86, 87, 88, 89] (by kernel_rfl) (Gw.drew _) Gw.trans (by rw [hsz]; kernel_rfl) (by kernel_rfl) ?_ ?_ ?_
  · intro f hf
    simp only [List.mem_cons, List.not_mem_nil, or_false] at hf
    rcases hf with rfl | rfl | rfl | rfl | rfl | rfl | rfl | rfl | rfl | rfl | rfl | rfl | rfl | rfl | rfl | rfl | rfl | rfl | rfl | rfl <;> intro v a b h g <;> first | exact IsV.mono h
  · refine ⟨?_, ?_, ?_, ?_, ?_, ?_, ?_, ?_, ?_, ?_, ?_, ?_, ?_, ?_, ?_, ?_, ?_, ?_, ?_, ?_, trivial⟩
    · refine owes_v (Go.Op.fieldAddr 59 (Go.Operand.tmp 8) 0) 0 [] (by kernel_rfl) (by kernel_rfl) (by kernel_rfl) rfl fun vals w1 ρ hG hF hρ hcst hfun => ?_
      have e8 : ρ (.tmp 8) = .pointer (some ⟨bx, 0, none⟩) := ((hρ 8).trans (slotO [] (by kernel_rfl))).trans sl8
      clear hρ hF hcst hfun sl1 sl7 sl8 fin
      exact opv_val (by go_simp <;> rfl) ⟨gw_self _, rfl⟩
    · refine owes_v (Go.Op.load 9 (Go.Operand.tmp 70)) 9 [0] (by kernel_rfl) (by kernel_rfl) (by kernel_rfl) rfl fun vals w1 ρ hG hF hρ hcst hfun => ?_
      have e70 : ρ (.tmp 70) = .pointer (some ⟨bx, 0, none⟩) := ((hρ 70).trans (slotJ [0] (by rw [hsz]; decide) (by kernel_rfl))).trans (hF 0 (by decide))
      have k := (hs.out w1 hG).1
      clear hρ hF hcst hfun sl1 sl7 sl8 fin
      exact opv_val (by go_simp <;> rfl) ⟨gw_self _, rfl⟩
    · refine owes_v (Go.Op.call { callee := Go.Callee.value (Go.Operand.func 35), args := #[Go.Operand.tmp 71], argTypes := #[9] }) 4 [1] (by kernel_rfl) (by kernel_rfl) (by kernel_rfl) rfl fun vals w1 ρ hG hF hρ hcst hfun => ?_
      have e71 : ρ (.tmp 71) = .string s := ((hρ 71).trans (slotJ [1] (by rw [hsz]; decide) (by kernel_rfl))).trans (hF 1 (by decide))
      clear hρ hF hcst sl1 sl7 sl8 fin
      exact opv_enter (by go_simp <;> rfl) (of_ret17 (hg ▸ rgood_s s w1))
    · refine owes_v (Go.Op.unOp Go.UnOp.not 4 (Go.Operand.tmp 72)) 4 [2] (by kernel_rfl) (by kernel_rfl) (by kernel_rfl) rfl fun vals w1 ρ hG hF hρ hcst hfun => ?_
      have e72 : ρ (.tmp 72) = .bool true := ((hρ 72).trans (slotJ [2] (by rw [hsz]; decide) (by kernel_rfl))).trans (hF 2 (by decide))
      clear hρ hF hcst hfun sl1 sl7 sl8 fin
      exact opv_val (by go_simp <;> rfl) ⟨gw_self _, rfl⟩
    · exact owes_mvj 3 73 (by kernel_rfl) (by kernel_rfl) (by kernel_rfl) (by kernel_rfl) (by rw [hsz]; decide) (fun v w h => h)
    · refine owes_vt 4 false (Go.Op.move (Go.Operand.tmp 7)) 3 [] (by kernel_rfl) (by kernel_rfl) (by kernel_rfl) (fun _ _ h => h) (by rw [hsz]; kernel_rfl) (by kernel_rfl) rfl fun vals w1 ρ hG hF hρ hcst hfun => ?_
      have e7 : ρ (.tmp 7) = .int .i64 ((j : Int) + 1) := ((hρ 7).trans (slotO [] (by kernel_rfl))).trans sl7
      clear hρ hF hcst hfun sl1 sl7 sl8 fin
      exact opv_val (by go_simp <;> rfl) ⟨gw_self _, rfl⟩
    · refine owes_vt 4 false (Go.Op.binOp Go.BinOp.gtr 3 (Go.Operand.tmp 75) (Go.Operand.const (Go.Value.int Go.IntKind.i64 0)) 3) 4 [5] (by kernel_rfl) (by kernel_rfl) (by kernel_rfl) (fun _ _ h => h) (by rw [hsz]; kernel_rfl) (by kernel_rfl) rfl fun vals w1 ρ hG hF hρ hcst hfun => ?_
      have e75 : ρ (.tmp 75) = .int .i64 ((j : Int) + 1) := ((hρ 75).trans (slotJ [5] (by rw [hsz]; decide) (by kernel_rfl))).trans (hF 5 (by decide))
      have q : (0 : Int) < (j : Int) + 1 := by omega
      clear hρ hF hfun sl1 sl7 sl8 fin
      exact opv_val (by go_simp <;> rfl) ⟨gw_self _, rfl⟩
    · refine owes_vt 4 false (Go.Op.move (Go.Operand.tmp 76)) 4 [6] (by kernel_rfl) (by kernel_rfl) (by kernel_rfl) (fun _ _ h => h) (by rw [hsz]; kernel_rfl) (by kernel_rfl) rfl fun vals w1 ρ hG hF hρ hcst hfun => ?_
      have e76 : ρ (.tmp 76) = .bool true := ((hρ 76).trans (slotJ [6] (by rw [hsz]; decide) (by kernel_rfl))).trans (hF 6 (by decide))
      clear hρ hF hcst hfun sl1 sl7 sl8 fin
      exact opv_val (by go_simp <;> rfl) ⟨gw_self _, rfl⟩
    · refine owes_vt 7 true (Go.Op.fieldAddr 31 (Go.Operand.tmp 1) 1) 0 [] (by kernel_rfl) (by kernel_rfl) (by kernel_rfl) (fun _ _ h => h) (by rw [hsz]; kernel_rfl) (by kernel_rfl) rfl fun vals w1 ρ hG hF hρ hcst hfun => ?_
      have e1 : ρ (.tmp 1) = .pointer (some ⟨bg, 0, none⟩) := ((hρ 1).trans (slotO [] (by kernel_rfl))).trans sl1
      clear hρ hF hcst hfun sl1 sl7 sl8 fin
      exact opv_val (by go_simp <;> rfl) ⟨gw_self _, rfl⟩
    · refine owes_vt 7 true (Go.Op.load 29 (Go.Operand.tmp 78)) 29 [8] (by kernel_rfl) (by kernel_rfl) (by kernel_rfl) (fun _ _ h => h) (by rw [hsz]; kernel_rfl) (by kernel_rfl) rfl fun vals w1 ρ hG hF hρ hcst hfun => ?_
      have e78 : ρ (.tmp 78) = .pointer (some ⟨bg, 1, none⟩) := ((hρ 78).trans (slotJ [8] (by rw [hsz]; decide) (by kernel_rfl))).trans (hF 8 (by decide))
      have k := (hs.out w1 hG).2.1
      clear hρ hF hcst hfun sl1 sl7 sl8 fin
      exact opv_val (by go_simp <;> rfl) ⟨gw_self _, rfl⟩
    · refine owes_vt 7 true (Go.Op.move (Go.Operand.tmp 7)) 3 [] (by kernel_rfl) (by kernel_rfl) (by kernel_rfl) (fun _ _ h => h) (by rw [hsz]; kernel_rfl) (by kernel_rfl) rfl fun vals w1 ρ hG hF hρ hcst hfun => ?_
      have e7 : ρ (.tmp 7) = .int .i64 ((j : Int) + 1) := ((hρ 7).trans (slotO [] (by kernel_rfl))).trans sl7
      clear hρ hF hcst hfun sl1 sl7 sl8 fin
      exact opv_val (by go_simp <;> rfl) ⟨gw_self _, rfl⟩
    · refine owes_vt 7 true (Go.Op.binOp Go.BinOp.sub 3 (Go.Operand.tmp 80) (Go.Operand.const (Go.Value.int Go.IntKind.i64 1)) 3) 3 [10] (by kernel_rfl) (by kernel_rfl) (by kernel_rfl) (fun _ _ h => h) (by rw [hsz]; kernel_rfl) (by kernel_rfl) rfl fun vals w1 ρ hG hF hρ hcst hfun => ?_
      have e80 : ρ (.tmp 80) = .int .i64 ((j : Int) + 1) := ((hρ 80).trans (slotJ [10] (by rw [hsz]; decide) (by kernel_rfl))).trans (hF 10 (by decide))
      have kw : IntKind.i64.wrap (j : Int) = (j : Int) := wrapIn (by omega) (by omega)
      clear hρ hF hfun sl1 sl7 sl8 fin
      exact opv_val (by go_simp <;> rfl) ⟨gw_self _, rfl⟩
    · refine owes_vt 7 true (Go.Op.indexAddr 29 (Go.Operand.tmp 79) (Go.Operand.tmp 81)) 0 [9, 11] (by kernel_rfl) (by kernel_rfl) (by kernel_rfl) (fun _ _ h => h) (by rw [hsz]; kernel_rfl) (by kernel_rfl) rfl fun vals w1 ρ hG hF hρ hcst hfun => ?_
      have e79 : ρ (.tmp 79) = .slice (some ad) M c := ((hρ 79).trans (slotJ [9, 11] (by rw [hsz]; decide) (by kernel_rfl))).trans (hF 9 (by decide))
      have e81 : ρ (.tmp 81) = .int .i64 j := ((hρ 81).trans (slotJ [9, 11] (by rw [hsz]; decide) (by kernel_rfl))).trans (hF 11 (by decide))
      have q : (j : Int) < (M : Int) := by omega
      clear hρ hF hcst hfun sl1 sl7 sl8 fin
      exact opv_val (by go_simp <;> rfl) ⟨gw_self _, rfl⟩
    · refine owes_vt 7 true (Go.Op.fieldAddr 59 (Go.Operand.tmp 82) 0) 0 [12] (by kernel_rfl) (by kernel_rfl) (by kernel_rfl) (fun _ _ h => h) (by rw [hsz]; kernel_rfl) (by kernel_rfl) rfl fun vals w1 ρ hG hF hρ hcst hfun => ?_
      have e82 : ρ (.tmp 82) = .pointer (some (ad.add (j * 2))) := ((hρ 82).trans (slotJ [12] (by rw [hsz]; decide) (by kernel_rfl))).trans (hF 12 (by decide))
      clear hρ hF hcst hfun sl1 sl7 sl8 fin
      exact opv_val (by go_simp <;> rfl) ⟨gw_self _, rfl⟩
    · refine owes_vt 7 true (Go.Op.load 9 (Go.Operand.tmp 83)) 9 [13] (by kernel_rfl) (by kernel_rfl) (by kernel_rfl) (fun _ _ h => h) (by rw [hsz]; kernel_rfl) (by kernel_rfl) rfl fun vals w1 ρ hG hF hρ hcst hfun => ?_
      have e83 : ρ (.tmp 83) = .pointer (some (ad.add (j * 2))) := ((hρ 83).trans (slotJ [13] (by rw [hsz]; decide) (by kernel_rfl))).trans (hF 13 (by decide))
      have k := (hs.out w1 hG).2.2
      clear hρ hF hcst hfun sl1 sl7 sl8 fin
      exact opv_val (by go_simp <;> rfl) ⟨gw_self _, rfl⟩
    · refine owes_vt 7 true (Go.Op.fieldAddr 59 (Go.Operand.tmp 8) 0) 0 [] (by kernel_rfl) (by kernel_rfl) (by kernel_rfl) (fun _ _ h => h) (by rw [hsz]; kernel_rfl) (by kernel_rfl) rfl fun vals w1 ρ hG hF hρ hcst hfun => ?_
      have e8 : ρ (.tmp 8) = .pointer (some ⟨bx, 0, none⟩) := ((hρ 8).trans (slotO [] (by kernel_rfl))).trans sl8
      clear hρ hF hcst hfun sl1 sl7 sl8 fin
      exact opv_val (by go_simp <;> rfl) ⟨gw_self _, rfl⟩
    · refine owes_vt 7 true (Go.Op.load 9 (Go.Operand.tmp 85)) 9 [15] (by kernel_rfl) (by kernel_rfl) (by kernel_rfl) (fun _ _ h => h) (by rw [hsz]; kernel_rfl) (by kernel_rfl) rfl fun vals w1 ρ hG hF hρ hcst hfun => ?_
      have e85 : ρ (.tmp 85) = .pointer (some ⟨bx, 0, none⟩) := ((hρ 85).trans (slotJ [15] (by rw [hsz]; decide) (by kernel_rfl))).trans (hF 15 (by decide))
      have k := (hs.out w1 hG).1
      clear hρ hF hcst hfun sl1 sl7 sl8 fin
      exact opv_val (by go_simp <;> rfl) ⟨gw_self _, rfl⟩
    · refine owes_vt 7 true (Go.Op.binOp Go.BinOp.geq 9 (Go.Operand.tmp 84) (Go.Operand.tmp 86) 9) 4 [14, 16] (by kernel_rfl) (by kernel_rfl) (by kernel_rfl) (fun _ _ h => h) (by rw [hsz]; kernel_rfl) (by kernel_rfl) rfl fun vals w1 ρ hG hF hρ hcst hfun => ?_
      have e84 : ρ (.tmp 84) = .string u := ((hρ 84).trans (slotJ [14, 16] (by rw [hsz]; decide) (by kernel_rfl))).trans (hF 14 (by decide))
      have e86 : ρ (.tmp 86) = .string s := ((hρ 86).trans (slotJ [14, 16] (by rw [hsz]; decide) (by kernel_rfl))).trans (hF 16 (by decide))
      have q := hr
      unfold leS at q
      clear hρ hF hcst hfun sl1 sl7 sl8 fin
      exact opv_val (by go_simp <;> first | rfl | exact q | (rw [← q]; exact less_tri _ _) | exact less_tri _ _) ⟨gw_self _, rfl⟩
    · refine owes_vt 4 false (Go.Op.pick (Go.Operand.tmp 77) (Go.Operand.tmp 87) (Go.Operand.const (Go.Value.bool false))) 4 [7, 17] (by kernel_rfl) (by kernel_rfl) (by kernel_rfl) (fun _ _ h => h) (by rw [hsz]; kernel_rfl) (by kernel_rfl) rfl fun vals w1 ρ hG hF hρ hcst hfun => ?_
      have e77 : ρ (.tmp 77) = .bool true := ((hρ 77).trans (slotJ [7, 17] (by rw [hsz]; decide) (by kernel_rfl))).trans (hF 7 (by decide))
      have e87 : ρ (.tmp 87) = .bool r := ((hρ 87).trans (slotJ [7, 17] (by rw [hsz]; decide) (by kernel_rfl))).trans (hF 17 (by decide))
      clear hρ hF hfun sl1 sl7 sl8 fin
      exact opv_val (by go_simp <;> rfl) ⟨gw_self _, rfl⟩
    · refine owes_v (Go.Op.pick (Go.Operand.tmp 74) (Go.Operand.const (Go.Value.bool true)) (Go.Operand.tmp 88)) 4 [4, 18] (by kernel_rfl) (by kernel_rfl) (by kernel_rfl) rfl fun vals w1 ρ hG hF hρ hcst hfun => ?_
      have e74 : ρ (.tmp 74) = .bool false := ((hρ 74).trans (slotJ [4, 18] (by rw [hsz]; decide) (by kernel_rfl))).trans (hF 4 (by decide))
      have e88 : ρ (.tmp 88) = .bool r := ((hρ 88).trans (slotJ [4, 18] (by rw [hsz]; decide) (by kernel_rfl))).trans (hF 18 (by decide))
      clear hρ hF hfun sl1 sl7 sl8 fin
      exact opv_val (by go_simp <;> rfl) ⟨gw_self _, rfl⟩
  · intro vals w1 hG hF
    exact fin vals w1 hG (hF 19 (by decide +kernel))
theorem all_snoc {N : Nat} {l : List Int} {n : Nat} (h : n < l.length) (h1 : (l.take n).all (okP N) = true) (h2 : okP N l[n] = true) : (l.take (n + 1)).all (okP N) = true := by
  rw [List.take_succ_eq_append_getElem h, List.all_append, h1]
  simp [h2]
theorem all_bad {N : Nat} {l : List Int} {n : Nat} (h : n < l.length) (h2 : ¬ okP N l[n] = true) : ¬ l.all (okP N) = true := fun e => by
  rw [List.all_eq_true] at e
  exact h2 (e _ (List.getElem_mem h))
theorem rcheck_c (w : World) (g : Gv) (hg : g.At w w.heap.size) (hs : FewP g) : Calls Try.prog 13 #[g.v] w (RetP (.int .i64 (ckG g)) w) := by
  obtain ⟨R, hR⟩ : ∃ R, R = ckG g := ⟨_, rfl⟩
  rw [← hR]
  have HR := Lib.hid hR
  have HG := Lib.hid hg
  have HP := Lib.hid hs.2.2.1
  have hsn := hs.1
  have hsr := hs.2.1
  obtain ⟨A, ca, A2, ca2, ns, rs⟩ := g
  obtain ⟨N, hN⟩ : ∃ N, N = ns.length := ⟨_, rfl⟩
  obtain ⟨M, hM⟩ : ∃ M, M = rs.length := ⟨_, rfl⟩
  have q0 : (N : Int) ≤ 60 := by rw [hN]; exact Int.ofNat_le.2 hsn
  have q1 : (M : Int) ≤ 80 := by rw [hM]; exact Int.ofNat_le.2 hsr
  have HN := Lib.hid (And.intro hN hM)
  have HR2 := Lib.hid (show R = if ckNodes N ns = 0 then (if 64 < M then 3 else ckRoots N emptyS rs) else ckNodes N ns from by rw [hR, hN, hM]; rfl)
  unfold Gv.v Gv.vn Gv.vr
  simp only at HP ⊢
  rw [← hN, ← hM]
  clear hg hs hsn hsr hN hM hR
  go_enter Try.func13, Try.ntmps13
  go_wp2_with fail
  obtain ⟨W1, hW1⟩ : ∃ W1, W1 = w.alloc (.cells #[.slice A N ca, .slice A2 M ca2] 31) := ⟨_, rfl⟩
  have HW1 := Lib.hid (show Bk W1 w.heap.size 31 #[.slice A N ca, .slice A2 M ca2] ∧ Below w.heap.size w W1 from by
    rw [hW1]
    exact ⟨Bk.new w _ _, Gw.alloc w _⟩)
  rw [← hW1]
  clear hW1
  go_loopw [4] (fun i W => ∃ k : Nat, i = .int .i64 k ∧ k ≤ N ∧ Hid (ckNodes N (ns.drop k) = ckNodes N ns) ∧ Below W1.heap.size W1 W) (fun i _ => N - (Go.RowKit.intOf i).toNat)
  case atStart => exact ⟨0, rfl, Nat.zero_le _, Lib.hid rfl, Below.refl _ _⟩
  case round =>
    obtain ⟨k, rfl, hk, hck, hB⟩ := hrel
    have HBk := Lib.hid hB
    have hb1 := HW1.out.1.below hB HW1.out.1.lt
    have c0 := hb1.two.1
    have hl1 := hb1.lt
    have HBw := Lib.hid (show Below w.heap.size w wr from HW1.out.2.trans (hB.mono HW1.out.2.size))
    by_cases hlt : k < N
    · have hkn : k < ns.length := by rw [← HN.out.1]; exact hlt
      obtain ⟨x, hx⟩ : ∃ x, x = ns[k] := ⟨_, rfl⟩
      obtain ⟨ad, rfl, hc2, hc3, hxa⟩ : ∃ ad, A = some ad ∧ wr.cell? (ad.add (k * 2)) = some x.vp ∧ wr.cell? ⟨(ad.add (k * 2)).block, (ad.add (k * 2)).off + 1, none⟩ = some x.vd ∧ x.At wr wr.heap.size := by
        obtain ⟨ad, e, _, h1, h2, h3⟩ := (HG.out.n.below HBw.out) k hkn
        exact ⟨ad, e, by rw [hx]; exact h1, by rw [hx]; exact h2, by rw [hx]; exact h3.more HBw.out.size⟩
      have hsz := HP.out x (by rw [hx]; exact List.getElem_mem _)
      have HS := Lib.hid (ckNodes_drop N ns k hkn)
      rw [← hx] at HS
      have HZ := Lib.hid (show ∀ z, ckNode N x = z → z ≠ 0 → R = z from fun z hz h0 => by
        have e : ckNodes N ns = z := by rw [← hck.out, HS.out, if_neg (by rw [hz]; exact h0), hz]
        rw [HR2.out, e, if_neg h0])
      have HO := Lib.hid (show ckNode N x = 0 → ckNodes N (ns.drop (k + 1)) = ckNodes N ns from fun h0 => by rw [← hck.out, HS.out, if_pos h0])
      have p1 : (0 : Int) ≤ (k : Int) := by omega
      have p2 : (k : Int) < (N : Int) := by omega
      clear hx hkn hB hck hb1 HS
      obtain ⟨xA, xc, xD, xd, xps, xbs⟩ := x
      obtain ⟨xn, hxn⟩ : ∃ n, n = xps.length := ⟨_, rfl⟩
      obtain ⟨xm, hxm⟩ : ∃ n, n = xbs.length := ⟨_, rfl⟩
      unfold Nv.vp at hc2
      unfold Nv.vd at hc3
      simp only at hc2 hc3 hsz
      rw [← hxn] at hc2 hsz
      rw [← hxm] at hc3 hsz
      have HX := Lib.hid (show ∀ b, xps.all (okP N) = b → ckNode N ⟨xA, xc, xD, xd, xps, xbs⟩ = if b = true then (if 64 < xn ∨ 1024 < xm then 3 else 0) else 1 from fun b hb => by unfold ckNode; rw [hb, hxn, hxm])
      have hcl := cell_lt hc2
      have hcl' : (ad.add (k * 2)).block < wr.heap.size := hcl
      obtain ⟨W2, hW2⟩ : ∃ W2, W2 = wr.alloc (.cells #[.slice xA xn xc, .slice xD xm xd] 58) := ⟨_, rfl⟩
      have HW2 := Lib.hid (show Bk W2 wr.heap.size 58 #[.slice xA xn xc, .slice xD xm xd] ∧ Below wr.heap.size wr W2 from by
        rw [hW2]
        exact ⟨Bk.new wr _ _, Gw.alloc wr _⟩)
      have HXY := Lib.hid (hxa.up HW2.out.2)
      have hW2' := Lib.hid hW2
      have HL := Lib.hid hxn
      have hq1 : (xn : Int) ≤ 70 := by have := hsz.1; omega
      have hq2 : (xm : Int) ≤ 1100 := by have := hsz.2; omega
      clear hxa hcl hW2 hxn hxm hsz
      go_wp2_with fail
      rw [← hW2'.out]
      clear hc2 hc3 hcl' c0
      have HBo := Lib.hid (show Below W1.heap.size W1 W2 from HBk.out.trans (HW2.out.2.mono HBk.out.size))
      have HBz := Lib.hid (show Below w.heap.size w W2 from HBw.out.trans (HW2.out.2.mono HBw.out.size))
      obtain ⟨bx, hbx⟩ : ∃ bx, bx = wr.heap.size := ⟨_, rfl⟩
      rw [← hbx] at HW2 ⊢
      clear hbx
      go_loopw [6] (fun i W => ∃ n : Nat, i = .int .i64 n ∧ n ≤ xn ∧ Hid ((xps.take n).all (okP N) = true) ∧ Below W2.heap.size W2 W) (fun i _ => xn - (Go.RowKit.intOf i).toNat)
      case atStart => exact ⟨0, rfl, Nat.zero_le _, Lib.hid rfl, Below.refl _ _⟩
      case round =>
        obtain ⟨n, rfl, hn, ht, hB⟩ := hrel
        have hb1 := HW2.out.1.below hB HW2.out.1.lt
        have HBn := Lib.hid hB
        have d0 := hb1.two.1
        have d1 := hb1.two.2
        by_cases hln : n < xn
        · have h1 : n < xps.length := by rw [← HL.out]; exact hln
          obtain ⟨x, hx⟩ : ∃ y, y = xps[n] := ⟨_, rfl⟩
          obtain ⟨aa, rfl, haa, hca⟩ := (HXY.out.p.below hB) n h1
          rw [← hx] at hca
          unfold iV at hca
          have p3 : (0 : Int) ≤ (n : Int) := by omega
          have p4 : (n : Int) < (xn : Int) := by omega
          have HBd := Lib.hid (show ¬ okP N x = true → R = 1 from fun e => by
            have ha : xps.all (okP N) = false := by
              cases hc : xps.all (okP N) with
              | false => rfl
              | true => exact absurd hc (all_bad h1 (by rw [← hx]; exact e))
            have := HX.out false ha
            exact HZ.out 1 (by rw [this]; rfl) (by decide))
          have HGd := Lib.hid (show okP N x = true → (xps.take (n + 1)).all (okP N) = true from fun e => all_snoc h1 ht.out (by rw [← hx]; exact e))
          clear hx haa h1 ht hB hb1
          by_cases h0 : x < 0
          · have HRf := Lib.hid (HBd.out (fun e => by have := okP_iff.1 e; omega))
            go_wp2_with fail
            go_ret
            rw [HRf.out]
            exact ⟨rfl, HBz.out.trans (HBn.out.mono HBz.out.size)⟩
          · by_cases h2 : (N : Int) < x
            · have HRf := Lib.hid (HBd.out (fun e => by have := okP_iff.1 e; omega))
              go_wp2_with fail
              go_ret
              rw [HRf.out]
              exact ⟨rfl, HBz.out.trans (HBn.out.mono HBz.out.size)⟩
            · have HT := Lib.hid (HGd.out (okP_iff.2 (by omega)))
              go_wp2_with fail
              go_roundw
              case rel => exact ⟨n + 1, by go_num, by omega, HT, HBn.out⟩
              case measure => simp [Go.RowKit.intOf]; omega
        · have hnx : n = xn := by omega
          have HC := Lib.hid (HX.out true (by
            have := ht.out
            rwa [hnx, List.take_of_length_le (by rw [← HL.out]; exact Nat.le_refl _)] at this))
          clear hnx ht hb1 hB
          by_cases g1 : 64 < xn
          · have t1 : (64 : Int) < (xn : Int) := by omega
            have HRf := Lib.hid (HZ.out 3 (by rw [HC.out, if_pos rfl, if_pos (.inl g1)]) (by decide))
            go_wp2_with fail
            go_ret
            rw [HRf.out]
            exact ⟨rfl, HBz.out.trans (HBn.out.mono HBz.out.size)⟩
          · have t1 : ¬ (64 : Int) < (xn : Int) := by omega
            by_cases g2 : 1024 < xm
            · have t2 : (1024 : Int) < (xm : Int) := by omega
              have HRf := Lib.hid (HZ.out 3 (by rw [HC.out, if_pos rfl, if_pos (.inr g2)]) (by decide))
              go_wp2_with fail
              go_ret
              rw [HRf.out]
              exact ⟨rfl, HBz.out.trans (HBn.out.mono HBz.out.size)⟩
            · have t2 : ¬ (1024 : Int) < (xm : Int) := by omega
              have HK := Lib.hid (HO.out (by rw [HC.out, if_pos rfl, if_neg (by omega)]))
              have HBy := Lib.hid (HBo.out.trans (HBn.out.mono HBo.out.size))
              go_wp2_with fail
              go_roundw
              case rel => exact ⟨k + 1, by go_num, by omega, HK, HBy.out⟩
              case measure => simp [Go.RowKit.intOf]; omega
    · have hkN : k = N := by omega
      have hck0 : ckNodes N ns = 0 := by rw [← hck.out, hkN, HN.out.1, List.drop_length]; rfl
      have hR3 : R = if 64 < M then 3 else ckRoots N emptyS rs := by rw [HR2.out, if_pos hck0]
      have c1 := hb1.two.2
      clear hkN hck hck0 hb1 c0
      by_cases h64 : 64 < M
      · have t1 : (64 : Int) < (M : Int) := by omega
        have HRf := Lib.hid (hR3.trans (if_pos h64))
        clear hR3 hB
        go_wp2_with fail
        go_ret
        rw [HRf.out]
        exact ⟨rfl, HBw.out⟩
      · have t1 : ¬ (64 : Int) < (M : Int) := by omega
        have HR3 := Lib.hid (hR3.trans (if_neg h64))
        clear hR3
        go_wp2_with fail
        clear c1 hl1 hlt hk h64 t1
        obtain ⟨W0, hW0⟩ : ∃ W0, W0 = wr := ⟨_, rfl⟩
        rw [← hW0] at hB ⊢
        clear hW0
        go_loopw [7] (fun i W => ∃ k : Nat, i = .int .i64 k ∧ k ≤ M ∧ Hid (R = ckRoots N (prevS rs k) (rs.drop k)) ∧ Below W1.heap.size W1 W) (fun i _ => M - (Go.RowKit.intOf i).toNat)
        case atStart => exact ⟨0, rfl, Nat.zero_le _, Lib.hid HR3.out, hB⟩
        case round =>
          obtain ⟨k, rfl, hk, hck, hB⟩ := hrel
          have HBk := Lib.hid hB
          have hb1 := HW1.out.1.below hB HW1.out.1.lt
          have c1 := hb1.two.2
          have hl1 := hb1.lt
          have HBw := Lib.hid (show Below w.heap.size w wr from HW1.out.2.trans (hB.mono HW1.out.2.size))
          by_cases hlt : k < M
          · have hkn : k < rs.length := by rw [← HN.out.2]; exact hlt
            obtain ⟨x, hx⟩ : ∃ x, x = rs[k] := ⟨_, rfl⟩
            obtain ⟨ad, rfl, hc2, hc3, hprev⟩ : ∃ ad, A2 = some ad ∧ wr.cell? (ad.add (k * 2)) = some (.string x.s) ∧ wr.cell? ⟨(ad.add (k * 2)).block, (ad.add (k * 2)).off + 1, none⟩ = some (.int .i64 x.t) ∧ ∀ j, k = j + 1 → wr.cell? (ad.add (j * 2)) = some (.string (prevS rs k)) := by
              obtain ⟨ad, e, _, h1, h2⟩ := (HG.out.r.below HBw.out) k hkn
              refine ⟨ad, e, by rw [hx]; exact h1, by rw [hx]; exact h2, fun j hj => ?_⟩
              have hjn : j < rs.length := by omega
              obtain ⟨ad', e', _, h3, _⟩ := (HG.out.r.below HBw.out) j hjn
              have he : ad = ad' := by rw [e] at e'; injection e'
              subst he
              rw [h3, hj]
              show some (Value.string _) = some (Value.string (((rs[j]?).map (·.s)).getD emptyS))
              rw [List.getElem?_eq_getElem hjn]; rfl
            have HS := Lib.hid (hck.out.trans (ckRoots_drop N (prevS rs k) rs k hkn))
            rw [← hx] at HS
            have HPn := Lib.hid (show prevS rs (k + 1) = x.s from by show ((rs[k]?).map (·.s)).getD emptyS = _; rw [List.getElem?_eq_getElem hkn, hx]; rfl)
            have p1 : (0 : Int) ≤ (k : Int) := by omega
            have p2 : (k : Int) < (M : Int) := by omega
            obtain ⟨s, t⟩ := x
            simp only at hc2 hc3 HS HPn
            have hcl := cell_lt hc2
            have hcl' : (ad.add (k * 2)).block < wr.heap.size := hcl
            obtain ⟨W2, hW2⟩ : ∃ W2, W2 = wr.alloc (.cells #[.string s, .int .i64 t] 59) := ⟨_, rfl⟩
            have HW2 := Lib.hid (show Bk W2 wr.heap.size 59 #[.string s, .int .i64 t] ∧ Below wr.heap.size wr W2 from by
              rw [hW2]
              exact ⟨Bk.new wr _ _, Gw.alloc wr _⟩)
            have hW2' := Lib.hid hW2
            have HBo := Lib.hid (show Below W1.heap.size W1 W2 from HBk.out.trans (HW2.out.2.mono HBk.out.size))
            have HBz := Lib.hid (show Below w.heap.size w W2 from HBw.out.trans (HW2.out.2.mono HBw.out.size))
            have HQ := Lib.hid (show ∀ W, Below W2.heap.size W2 W → W.cell? ⟨wr.heap.size, 0, none⟩ = some (.string s) from fun W b => (HW2.out.1.below b HW2.out.1.lt).cell 0)
            have HQ3 := Lib.hid (show ∀ j, k = j + 1 → ∀ W, Below W2.heap.size W2 W → W.cell? ⟨wr.heap.size, 0, none⟩ = some (.string s) ∧ W.cell? ⟨w.heap.size, 1, none⟩ = some (.slice (some ad) M ca2) ∧ W.cell? (ad.add (j * 2)) = some (.string (prevS rs k)) from fun j hj W b =>
              ⟨HQ.out W b, ((hb1.below HW2.out.2 hb1.lt).below b (hb1.below HW2.out.2 hb1.lt).lt).cell 1, ((HW2.out.2.trans (b.mono HW2.out.2.size)).cell (cell_lt (hprev j hj))).trans (hprev j hj)⟩)
            clear hx hkn hB hck hb1 hcl hW2 hprev
            by_cases hg : goodS s = true
            · go_wp2_with fail
              rw [← hW2'.out]
              clear hc2 hc3 hcl' c1 hl1
              cases hle : leS s (prevS rs k) with
              | true =>
                have HRf := Lib.hid (show R = 4 from by rw [HS.out, if_neg (by rw [hle]; simp)])
                cases k with
                | zero => exact absurd (leS_empty hg) (by rw [show emptyS = prevS rs 0 from rfl, hle]; simp)
                | succ j =>
                  have p3 : (0 : Int) ≤ (j : Int) := by omega
                  have p4 : (j : Int) + 1 < (M : Int) := by omega
                  have p5 : (M : Int) ≤ 100 := by omega
                  refine rckc_r _ _ _ wr.heap.size w.heap.size M ca2 j ad s (prevS rs (j + 1)) true (Lib.hid (HQ3.out j rfl)) hg hle p3 p4 p5 rfl rfl rfl rfl ?_
                  intro vals w7 hG h89
                  unfold IsV at h89
                  simp only [putD, Act.put, List.setIfInBounds_toArray, List.set_cons_zero, List.set_cons_succ, h89]
                  have HB7 := Lib.hid (HBz.out.trans (hG.mono HBz.out.size))
                  clear hG h89
                  go_wp2_with fail
                  go_ret
                  rw [HRf.out]
                  exact ⟨rfl, HB7.out⟩
              | false =>
                have HS2 := Lib.hid (show R = if okP N t = true then ckRoots N s (rs.drop (k + 1)) else 1 from by rw [HS.out, if_pos ⟨hg, hle⟩])
                cases k with
                | zero =>
                  refine rckb_r _ _ _ wr.heap.size s HQ hg rfl rfl rfl ?_
                  intro vals w7 hG h89
                  unfold IsV at h89
                  simp only [putD, Act.put, List.setIfInBounds_toArray, List.set_cons_zero, List.set_cons_succ, h89]
                  have HB7 := Lib.hid (HBz.out.trans (hG.mono HBz.out.size))
                  have HBy := Lib.hid (HBo.out.trans (hG.mono HBo.out.size))
                  have d1 := (HW2.out.1.below hG HW2.out.1.lt).cell 1
                  have d1 : w7.cell? ⟨wr.heap.size, 1, none⟩ = some (.int .i64 t) := d1
                  clear hG h89
                  by_cases h0 : t < 0
                  · have HRf := Lib.hid (show R = 1 from by rw [HS2.out, if_neg (fun e => by have := okP_iff.1 e; omega)])
                    go_wp2_with fail
                    go_ret
                    rw [HRf.out]
                    exact ⟨rfl, HB7.out⟩
                  · by_cases h2 : (N : Int) < t
                    · have HRf := Lib.hid (show R = 1 from by rw [HS2.out, if_neg (fun e => by have := okP_iff.1 e; omega)])
                      go_wp2_with fail
                      go_ret
                      rw [HRf.out]
                      exact ⟨rfl, HB7.out⟩
                    · have HRn := Lib.hid (show R = ckRoots N (prevS rs (0 + 1)) (rs.drop (0 + 1)) from by rw [HPn.out, HS2.out, if_pos (okP_iff.2 (by omega))])
                      go_wp2_with fail
                      go_roundw
                      case rel => exact ⟨0 + 1, by go_num, by omega, HRn, HBy.out⟩
                      case measure => simp [Go.RowKit.intOf] <;> omega
                | succ j =>
                  have p3 : (0 : Int) ≤ (j : Int) := by omega
                  have p4 : (j : Int) + 1 < (M : Int) := by omega
                  have p5 : (M : Int) ≤ 100 := by omega
                  refine rckc_r _ _ _ wr.heap.size w.heap.size M ca2 j ad s (prevS rs (j + 1)) false (Lib.hid (HQ3.out j rfl)) hg hle p3 p4 p5 rfl rfl rfl rfl ?_
                  intro vals w7 hG h89
                  unfold IsV at h89
                  simp only [putD, Act.put, List.setIfInBounds_toArray, List.set_cons_zero, List.set_cons_succ, h89]
                  have HB7 := Lib.hid (HBz.out.trans (hG.mono HBz.out.size))
                  have HBy := Lib.hid (HBo.out.trans (hG.mono HBo.out.size))
                  have d1 := (HW2.out.1.below hG HW2.out.1.lt).cell 1
                  have d1 : w7.cell? ⟨wr.heap.size, 1, none⟩ = some (.int .i64 t) := d1
                  clear hG h89
                  by_cases h0 : t < 0
                  · have HRf := Lib.hid (show R = 1 from by rw [HS2.out, if_neg (fun e => by have := okP_iff.1 e; omega)])
                    go_wp2_with fail
                    go_ret
                    rw [HRf.out]
                    exact ⟨rfl, HB7.out⟩
                  · by_cases h2 : (N : Int) < t
                    · have HRf := Lib.hid (show R = 1 from by rw [HS2.out, if_neg (fun e => by have := okP_iff.1 e; omega)])
                      go_wp2_with fail
                      go_ret
                      rw [HRf.out]
                      exact ⟨rfl, HB7.out⟩
                    · have HRn := Lib.hid (show R = ckRoots N (prevS rs ((j + 1) + 1)) (rs.drop ((j + 1) + 1)) from by rw [HPn.out, HS2.out, if_pos (okP_iff.2 (by omega))])
                      go_wp2_with fail
                      go_roundw
                      case rel => exact ⟨(j + 1) + 1, by go_num, by omega, HRn, HBy.out⟩
                      case measure => simp [Go.RowKit.intOf] <;> omega
            · have hg0 : goodS s = false := by simpa using hg
              have HRf := Lib.hid (show R = 4 from by rw [HS.out, if_neg (by rw [hg0]; simp)])
              go_wp2_with fail
              rw [← hW2'.out]
              refine rcka_r _ _ _ wr.heap.size s (k : Int) HQ hg0 rfl rfl ?_
              intro vals w7 hG h89
              unfold IsV at h89
              simp only [putD, Act.put, List.setIfInBounds_toArray, List.set_cons_zero, List.set_cons_succ, h89]
              have HB7 := Lib.hid (HBz.out.trans (hG.mono HBz.out.size))
              clear hG h89
              go_wp2_with fail
              go_ret
              rw [HRf.out]
              exact ⟨rfl, HB7.out⟩
          · have hkM : k = M := by omega
            have HRf := Lib.hid (show R = 0 from by rw [hck.out, hkM, HN.out.2, List.drop_length]; rfl)
            clear hkM hck hb1 hB
            go_wp2_with fail
            go_ret
            rw [HRf.out]
            exact ⟨rfl, HBw.out⟩
end Go.Proofs.Ytkkjnahjmomjgaa
/- mem.Set. Conditions: lengths. -/
namespace Go.Proofs.Ytkkjnahjmomjgaa
set_option linter.unusedVariables false
set_option linter.unusedSimpArgs false
open Go.RowKit
set_option maxHeartbeats 400000
/-- Set at a place of theirs. -/
theorem set_in (w : World) (B g : Nat) (v : Value) (ws : List (BitVec 64)) (i : Nat) (x : BitVec 64) (hi : i < ws.length) (hl : ws.length ≤ 100000) (h : MemAt w B g v ws) :
    Calls Try.prog 27 #[.pointer (some ⟨g, 0, none⟩), .int .i64 i, .int .u64 (U64 x)] w fun e w' => e = .returned (.int .i64 0) ∧ MemAt w' B g v (ws.set i x) ∧ w.grownBy w' v.ownBlock := by
  have HL := Lib.hid (len_c w B g v ws h)
  have HI := Lib.hid (insideM_c w (ws.length : Int) (i : Int) 1 (by omega) (by omega) (by omega) (by omega) (by decide) (by decide))
  rw [show inM (ws.length : Int) (i : Int) 1 = true from by unfold inM; simp; omega] at HI
  obtain ⟨A, c, e, hc⟩ := h.row.form
  subst e
  have c0 := h.blk.cell 0
  obtain ⟨q, rfl⟩ : ∃ q, A = some ⟨q, 0, none⟩ := by
    rcases h.row.2 with ⟨e, hn⟩ | ⟨q, _, _, e, _⟩
    · have hn' : ws.length = 0 := hn
      omega
    · injection e with e
      exact ⟨q, e⟩
  have hset := h.row.set hi x
  have hge := h.row.ge
  have hcell := h.row.cell hi
  have hfz := h.row.free i
  have hne : q ≠ g := fun e => h.ne (by rw [e]; rfl)
  have hfar := h.blk.far (p := ⟨q, i, none⟩) hne.symm (.int .u64 (U64 x))
  have hbel : w.grownBy (w.setCell ⟨q, i, none⟩ (.int .u64 (U64 x))) (some q) := grown_set w ⟨q, i, none⟩ _
  obtain ⟨y, hy⟩ : ∃ y, y = ws[i] := ⟨_, rfl⟩
  rw [← hy] at hcell
  unfold u64v at hcell
  have HR := Lib.hid (show MemAt (w.setCell ⟨q, i, none⟩ (.int .u64 (U64 x))) B g (.slice (some ⟨q, 0, none⟩) ws.length c) (ws.set i x) from ⟨hfar, h.ge, hset, h.ne⟩)
  have HC := Lib.hid hcell
  have HZ := Lib.hid hfz
  obtain ⟨N, hN⟩ : ∃ N, N = ws.length := ⟨_, rfl⟩
  rw [← hN] at c0 hi HL HI HR
  have p1 : (0 : Int) ≤ (i : Int) := by omega
  have p2 : (i : Int) < (N : Int) := by omega
  have HB := Lib.hid hbel
  have HN := Lib.hid hN
  clear hc hy hset hfar hbel hge hne h hcell hfz hN hi hl
  go_enter Try.func27, Try.ntmps27
  go_wp2_with fail
  refine Calls.mono HL.out ?_
  rintro e w1 ⟨rfl, rfl⟩
  go_wp2_with fail
  refine Calls.mono HI.out ?_
  rintro e w2 ⟨rfl, rfl⟩
  have hcell := HC.out
  have hfz := HZ.out
  have hN := HN.out
  have HF := Lib.hid (show ∀ w', w' = w2.setCell ⟨q, i, none⟩ (.int .u64 (U64 x)) → MemAt w' B g (.slice (some ⟨q, 0, none⟩) ws.length c) (ws.set i x) ∧ w2.grownBy w' (some q) from fun w' e => by rw [e, ← hN]; exact ⟨HR.out, HB.out⟩)
  clear HR HB HL HI hN HN HC HZ
  go_wp2_with fail
  go_ret
  exact ⟨rfl, HF.out _ rfl⟩
end Go.Proofs.Ytkkjnahjmomjgaa
