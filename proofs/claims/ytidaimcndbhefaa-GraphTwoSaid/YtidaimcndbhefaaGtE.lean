/- GraphTwo: its regions, and what it works on. No conditions. -/
import Derived.Test.YtidaimcndbhefaaGtD
import Derived.Test.YtidaimcndbhefaaGrK
import Derived.Test.YtidaimcndbhefaaOpenG
namespace Go.Proofs.Ytidaimcndbhefaa
set_option linter.unusedVariables false
set_option linter.unusedSimpArgs false
open Go.RowKit Go.Maps
theorem type_ne2 {W : World} {q k E F : Nat} {cs ds : Array Value} {m n : Nat × Nat} (h : W.heap[q]? = some (.cells cs E m)) (h2 : W.heap[k]? = some (.cells ds F n)) (hne : E ≠ F) : q ≠ k := fun e => by
  subst e
  rw [h] at h2
  injection h2 with h2
  injection h2 with _ h3
  exact hne h3
theorem ow_blk2 {α : Type} {f : α → Value} {E : TypeId} {W : World} {base q n c : Nat} {xs : List α} (h : Ow f E W base (.slice (some ⟨q, 0, none⟩) n c) xs) : ∃ cs m, W.heap[q]? = some (.cells cs E m) := by
  rcases h.2 with ⟨e, _⟩ | ⟨g, cap, cur, e, _, hh, _⟩
  · cases e
  · injection e with e
    injection e with e
    injection e with e
    subst e
    exact ⟨_, _, hh⟩
theorem FewP.same {a c : Gv} (h : FewP a) (h1 : c.n.map Nv.m = a.n.map Nv.m) (h2 : c.r = a.r) : FewP c := by
  refine ⟨?_, by rw [h2]; exact h.2.1, fun x hx => ?_, by rw [h2]; exact h.2.2.2⟩
  · have := congrArg List.length h1
    rw [List.length_map, List.length_map] at this
    rw [this]; exact h.1
  · have hm : x.m ∈ c.n.map Nv.m := List.mem_map.2 ⟨x, hx, rfl⟩
    rw [h1] at hm
    obtain ⟨y, hy, e⟩ := List.mem_map.1 hm
    have := h.2.2.1 y hy
    unfold Nv.m at e
    injection e with e1 e2
    rw [← e1, ← e2]
    exact this
theorem same_sym (a b : Gv) : sameG b a = sameG a b := by
  by_cases h : a.r = b.r ∧ a.n.map Nv.m = b.n.map Nv.m
  · rw [same_true h.1 h.2, same_true h.1.symm h.2.symm]
  · rw [same_false h, same_false (fun e => h ⟨e.1.symm, e.2.symm⟩)]
theorem same_n {a b c d : Gv} (h1 : a.n = c.n) (h2 : a.r = c.r) (h3 : b.n = d.n) (h4 : b.r = d.r) : sameG a b = sameG c d := by unfold sameG; rw [h1, h2, h3, h4]
def OfV (g : Gv) (v : Value) (W : World) : Prop := ∃ g' : Gv, v = g'.v ∧ g'.At W W.heap.size ∧ g'.n = g.n ∧ g'.r = g.r
theorem OfV.mono {g : Gv} {v : Value} {a b : World} (h : OfV g v a) (hb : Below a.heap.size a b) : OfV g v b := by
  obtain ⟨g', e, h1, h2⟩ := h
  exact ⟨g', e, h1.up hb, h2⟩
theorem of_k {W : World} {g : Gv} {v : Value} (hv : g.v = v) (hf : FewP g) (h : g.At W W.heap.size) : Calls Try.prog 10 #[v] W fun e w2 => ∃ u, e = .returned u ∧ Below W.heap.size W w2 ∧ OfV g u w2 := by
  rw [← hv]
  refine (of_c W g h hf).mono ?_
  rintro e w' ⟨g', rfl, h1, h2, h3, hb⟩
  exact ⟨_, rfl, hb, g', rfl, h1, h2, h3⟩
theorem req_k {W : World} {a b : Gv} {u v : Value} {p : Bool} (hf : FewP a) (hp : sameG a b = p) (ha : OfV a u W) (hb : OfV b v W) : Calls Try.prog 17 #[u, v] W (RetP (.bool p) W) := by
  obtain ⟨g1, rfl, h1, n1, r1⟩ := ha
  obtain ⟨g2, rfl, h2, n2, r2⟩ := hb
  have k := req_c W g1 g2 h1 h2 (hf.same (by rw [n1]) r1)
  rw [same_n n1 r1 n2 r2, hp] at k
  exact k
theorem eq_k {W : World} {a b : Gv} {u v : Value} {p : Bool} (ea : a.v = u) (eb : b.v = v) (hf : FewP a) (hp : sameG a b = p) (ha : a.At W W.heap.size) (hb : b.At W W.heap.size) : Calls Try.prog 24 #[u, v] W (RetP (.bool p) W) := by
  have k := equalG_c W a b ha hb hf.small
  rw [hp, ea, eb] at k
  exact k
/-- A graph in a box. -/
def GBx (w : World) (s : Nat) (g : Gv) (v0 v1 : Value) : Prop := ∀ W, Below w.heap.size w W → W.cell? ⟨s, 0, none⟩ = some v0 ∧ W.cell? ⟨s, 1, none⟩ = some v1 ∧ g.At W W.heap.size
theorem GBx.of {w : World} {s : Nat} {g : Gv} {v0 v1 : Value} (h : Bk w s 25 #[v0, v1]) (hg : g.At w w.heap.size) : GBx w s g v0 v1 := fun W b => ⟨(h.below b h.lt).cell 0, (h.below b h.lt).cell 1, hg.up b⟩
theorem GBx.up {w w' : World} {s : Nat} {g : Gv} {v0 v1 : Value} (h : GBx w s g v0 v1) (b : Below w.heap.size w w') : GBx w' s g v0 v1 := fun W b2 => h W (b.trans (b2.mono b.size))
set_option maxHeartbeats 4000000
set_option maxRecDepth 100000
theorem two6_r (Q : Exit → Act → World → Prop) (a0 : Act) (w : World) (sa sc : Nat) (ga gc : Gv) (A A2 C C2 : Option Addr) (N M K L a1 a2 c1 c2 : Nat) (hga : ga.v = .agg #[.slice A N a1, .slice A2 M a2]) (hgc : gc.v = .agg #[.slice C K c1, .slice C2 L c2]) (hfa : FewP ga) (hfc : FewP gc) (ha : Hid (GBx w sa ga (.slice A N a1) (.slice A2 M a2))) (hc : Hid (GBx w sc gc (.slice C K c1) (.slice C2 L c2))) (hsame : sameG ga gc = true) (hsz : a0.tmps.size = 116) (sl2 : a0.tmps.getD 2 undef = .pointer (some ⟨sa, 0, none⟩)) (sl5 : a0.tmps.getD 5 undef = .pointer (some ⟨sc, 0, none⟩))
    (fin : ∀ (vals : Nat → Value) (w1 : World), Below w.heap.size w w1 → (IsV (.bool true)) (vals 5) w1 → Q .normal (putD vals [23, 24, 25, 26, 27, 6] 0 a0) w1) :
    (Code.region 6 (regIn Try.f4 6) true).wp Try.prog Q a0 w := by
  refine region_by (G := fun w w1 => Below w.heap.size w w1) [IsV (.agg #[.slice A N a1, .slice A2 M a2]),
    OfV ga,
    IsV (.agg #[.slice C K c1, .slice C2 L c2]),
    OfV gc,
    IsV (.bool true),
    IsV (.bool true)]
    [23, 24, 25, 26, 27, 6] (by kernel_rfl) (Gw.drew _) Gw.trans (by rw [hsz]; kernel_rfl) (by kernel_rfl) ?_ ?_ ?_
  · intro f hf
    simp only [List.mem_cons, List.not_mem_nil, or_false] at hf
    rcases hf with rfl | rfl | rfl | rfl | rfl | rfl <;> intro v a b h g <;> first | exact IsV.mono h | exact OfV.mono h g
  · refine ⟨?_, ?_, ?_, ?_, ?_, ?_, trivial⟩
    · refine owes_v (Go.Op.load 25 (Go.Operand.tmp 2)) 25 [] (by kernel_rfl) (by kernel_rfl) (by kernel_rfl) rfl fun vals w1 ρ hG hF hρ hcst hfun => ?_
      have e2 : ρ (.tmp 2) = .pointer (some ⟨sa, 0, none⟩) := ((hρ 2).trans (slotO [] (by kernel_rfl))).trans sl2
      obtain ⟨d0, d1, _⟩ := ha.out w1 hG
      clear hρ hF hcst hfun sl2 sl5 fin
      exact opv_val (by go_simp <;> rfl) ⟨gw_self _, rfl⟩
    · refine owes_v (Go.Op.call { callee := Go.Callee.value (Go.Operand.func 10), args := #[Go.Operand.tmp 23], argTypes := #[25] }) 32 [0] (by kernel_rfl) (by kernel_rfl) (by kernel_rfl) rfl fun vals w1 ρ hG hF hρ hcst hfun => ?_
      have e23 : ρ (.tmp 23) = .agg #[.slice A N a1, .slice A2 M a2] := ((hρ 23).trans (slotJ [0] (by rw [hsz]; decide) (by kernel_rfl))).trans (hF 0 (by decide))
      clear hρ hF hcst sl2 sl5 fin
      exact opv_enter (by go_simp <;> rfl) (of_k hga hfa (ha.out w1 hG).2.2)
    · refine owes_v (Go.Op.load 25 (Go.Operand.tmp 5)) 25 [] (by kernel_rfl) (by kernel_rfl) (by kernel_rfl) rfl fun vals w1 ρ hG hF hρ hcst hfun => ?_
      have e5 : ρ (.tmp 5) = .pointer (some ⟨sc, 0, none⟩) := ((hρ 5).trans (slotO [] (by kernel_rfl))).trans sl5
      obtain ⟨d0, d1, _⟩ := hc.out w1 hG
      clear hρ hF hcst hfun sl2 sl5 fin
      exact opv_val (by go_simp <;> rfl) ⟨gw_self _, rfl⟩
    · refine owes_v (Go.Op.call { callee := Go.Callee.value (Go.Operand.func 10), args := #[Go.Operand.tmp 25], argTypes := #[25] }) 32 [2] (by kernel_rfl) (by kernel_rfl) (by kernel_rfl) rfl fun vals w1 ρ hG hF hρ hcst hfun => ?_
      have e25 : ρ (.tmp 25) = .agg #[.slice C K c1, .slice C2 L c2] := ((hρ 25).trans (slotJ [2] (by rw [hsz]; decide) (by kernel_rfl))).trans (hF 2 (by decide))
      clear hρ hF hcst sl2 sl5 fin
      exact opv_enter (by go_simp <;> rfl) (of_k hgc hfc (hc.out w1 hG).2.2)
    · refine owes_v (Go.Op.call { callee := Go.Callee.value (Go.Operand.func 17), args := #[Go.Operand.tmp 24, Go.Operand.tmp 26], argTypes := #[32, 32] }) 4 [1, 3] (by kernel_rfl) (by kernel_rfl) (by kernel_rfl) rfl fun vals w1 ρ hG hF hρ hcst hfun => ?_
      have f24 : (OfV ga) (vals 1) w1 := hF 1 (by decide)
      have e24 : ρ (.tmp 24) = vals 1 := (hρ 24).trans (slotJ [1, 3] (by rw [hsz]; decide) (by kernel_rfl))
      have f26 : (OfV gc) (vals 3) w1 := hF 3 (by decide)
      have e26 : ρ (.tmp 26) = vals 3 := (hρ 26).trans (slotJ [1, 3] (by rw [hsz]; decide) (by kernel_rfl))
      clear hρ hF hcst sl2 sl5 fin
      exact opv_enter (by go_simp <;> rfl) (of_retK (req_k hfa hsame f24 f26))
    · exact owes_mvj 4 27 (by kernel_rfl) (by kernel_rfl) (by kernel_rfl) (by kernel_rfl) (by rw [hsz]; decide) (fun v w h => h)
  · intro vals w1 hG hF
    exact fin vals w1 hG (hF 5 (by decide +kernel))
theorem two13_r (Q : Exit → Act → World → Prop) (a0 : Act) (w : World) (sc q k j K c1 n d : Nat) (ad : Addr) (y : BitVec 8) (hs : Hid (∀ W, Below w.heap.size w W → W.cell? ⟨sc, 0, none⟩ = some (.slice (some ad) K c1) ∧ W.cell? ⟨(ad.add (k * 2)).block, (ad.add (k * 2)).off + 1, none⟩ = some (.slice (some ⟨q, 0, none⟩) n d) ∧ W.cell? ⟨q, j, none⟩ = some (.int .u8 (U8 y)))) (p1 : (0 : Int) ≤ (k : Int)) (p2 : (k : Int) < (K : Int)) (p3 : (0 : Int) ≤ (j : Int)) (p4 : (j : Int) < (n : Int)) (hsz : a0.tmps.size = 116) (sl5 : a0.tmps.getD 5 undef = .pointer (some ⟨sc, 0, none⟩)) (sl7 : a0.tmps.getD 7 undef = .int .i64 k) (sl8 : a0.tmps.getD 8 undef = .int .i64 j)
    (fin : ∀ (vals : Nat → Value) (w1 : World), Below w.heap.size w w1 → (IsV (.int .u8 (U8 (y + 1#8)))) (vals 16) w1 → (IsV (.pointer (some ⟨q, j, none⟩))) (vals 17) w1 → wpList Try.prog #[{ dst := none, op := Go.Op.store 5 (Go.Operand.tmp 63) (Go.Operand.tmp 62), type := 0, pos := "", after := #[], guard := none }] Q [{ dst := none, op := Go.Op.store 5 (Go.Operand.tmp 63) (Go.Operand.tmp 62), type := 0, pos := "", after := #[], guard := none }] (putD vals [46, 47, 48, 49, 50, 51, 52, 53, 54, 55, 56, 57, 58, 59, 60, 61, 62, 63] 0 a0) w1) :
    (Code.region 13 (regIn Try.f4 13) true).wp Try.prog Q a0 w := by
  refine region_by_tail (m := 18) (G := fun w w1 => Below w.heap.size w w1) [IsV (.pointer (some ⟨sc, 0, none⟩)),
    IsV (.slice (some ad) K c1),
    IsV (.int .i64 k),
    IsV (.pointer (some (ad.add (k * 2)))),
    IsV (.pointer (some ⟨(ad.add (k * 2)).block, (ad.add (k * 2)).off + 1, none⟩)),
    IsV (.slice (some ⟨q, 0, none⟩) n d),
    IsV (.int .i64 j),
    IsV (.pointer (some ⟨sc, 0, none⟩)),
    IsV (.slice (some ad) K c1),
    IsV (.int .i64 k),
    IsV (.pointer (some (ad.add (k * 2)))),
    IsV (.pointer (some ⟨(ad.add (k * 2)).block, (ad.add (k * 2)).off + 1, none⟩)),
    IsV (.slice (some ⟨q, 0, none⟩) n d),
    IsV (.int .i64 j),
    IsV (.pointer (some ⟨q, j, none⟩)),
    IsV (.int .u8 (U8 y)),
    IsV (.int .u8 (U8 (y + 1#8))),
    IsV (.pointer (some ⟨q, j, none⟩))]
    [46, 47, 48, 49, 50, 51, 52, 53, 54, 55, 56, 57, 58, 59, 60, 61, 62, 63] (by kernel_rfl) (Gw.drew _) Gw.trans (by rw [hsz]; kernel_rfl) (by kernel_rfl) ?_ ?_ ?_
  · intro f hf
    simp only [List.mem_cons, List.not_mem_nil, or_false] at hf
    rcases hf with rfl | rfl | rfl | rfl | rfl | rfl | rfl | rfl | rfl | rfl | rfl | rfl | rfl | rfl | rfl | rfl | rfl | rfl <;> intro v a b h g <;> first | exact IsV.mono h
  · refine ⟨?_, ?_, ?_, ?_, ?_, ?_, ?_, ?_, ?_, ?_, ?_, ?_, ?_, ?_, ?_, ?_, ?_, ?_, trivial⟩
    · refine owes_v (Go.Op.fieldAddr 25 (Go.Operand.tmp 5) 0) 0 [] (by kernel_rfl) (by kernel_rfl) (by kernel_rfl) rfl fun vals w1 ρ hG hF hρ hcst hfun => ?_
      have e5 : ρ (.tmp 5) = .pointer (some ⟨sc, 0, none⟩) := ((hρ 5).trans (slotO [] (by kernel_rfl))).trans sl5
      clear hρ hF hcst hfun sl5 sl7 sl8 fin
      exact opv_val (by go_simp <;> rfl) ⟨gw_self _, rfl⟩
    · refine owes_v (Go.Op.load 22 (Go.Operand.tmp 46)) 22 [0] (by kernel_rfl) (by kernel_rfl) (by kernel_rfl) rfl fun vals w1 ρ hG hF hρ hcst hfun => ?_
      have e46 : ρ (.tmp 46) = .pointer (some ⟨sc, 0, none⟩) := ((hρ 46).trans (slotJ [0] (by rw [hsz]; decide) (by kernel_rfl))).trans (hF 0 (by decide))
      have d0 := (hs.out w1 hG).1
      clear hρ hF hcst hfun sl5 sl7 sl8 fin
      exact opv_val (by go_simp <;> rfl) ⟨gw_self _, rfl⟩
    · exact owes_mv 7 (by kernel_rfl) (by kernel_rfl) (by kernel_rfl) sl7 (fun _ => rfl)
    · refine owes_v (Go.Op.indexAddr 22 (Go.Operand.tmp 47) (Go.Operand.tmp 48)) 0 [1, 2] (by kernel_rfl) (by kernel_rfl) (by kernel_rfl) rfl fun vals w1 ρ hG hF hρ hcst hfun => ?_
      have e47 : ρ (.tmp 47) = .slice (some ad) K c1 := ((hρ 47).trans (slotJ [1, 2] (by rw [hsz]; decide) (by kernel_rfl))).trans (hF 1 (by decide))
      have e48 : ρ (.tmp 48) = .int .i64 k := ((hρ 48).trans (slotJ [1, 2] (by rw [hsz]; decide) (by kernel_rfl))).trans (hF 2 (by decide))
      clear hρ hF hcst hfun sl5 sl7 sl8 fin
      exact opv_val (by go_simp <;> rfl) ⟨gw_self _, rfl⟩
    · refine owes_v (Go.Op.fieldAddr 53 (Go.Operand.tmp 49) 1) 0 [3] (by kernel_rfl) (by kernel_rfl) (by kernel_rfl) rfl fun vals w1 ρ hG hF hρ hcst hfun => ?_
      have e49 : ρ (.tmp 49) = .pointer (some (ad.add (k * 2))) := ((hρ 49).trans (slotJ [3] (by rw [hsz]; decide) (by kernel_rfl))).trans (hF 3 (by decide))
      clear hρ hF hcst hfun sl5 sl7 sl8 fin
      exact opv_val (by go_simp <;> rfl) ⟨gw_self _, rfl⟩
    · refine owes_v (Go.Op.load 51 (Go.Operand.tmp 50)) 51 [4] (by kernel_rfl) (by kernel_rfl) (by kernel_rfl) rfl fun vals w1 ρ hG hF hρ hcst hfun => ?_
      have e50 : ρ (.tmp 50) = .pointer (some ⟨(ad.add (k * 2)).block, (ad.add (k * 2)).off + 1, none⟩) := ((hρ 50).trans (slotJ [4] (by rw [hsz]; decide) (by kernel_rfl))).trans (hF 4 (by decide))
      have d0 := (hs.out w1 hG).2.1
      clear hρ hF hcst hfun sl5 sl7 sl8 fin
      exact opv_val (by go_simp <;> rfl) ⟨gw_self _, rfl⟩
    · exact owes_mv 8 (by kernel_rfl) (by kernel_rfl) (by kernel_rfl) sl8 (fun _ => rfl)
    · refine owes_v (Go.Op.fieldAddr 25 (Go.Operand.tmp 5) 0) 0 [] (by kernel_rfl) (by kernel_rfl) (by kernel_rfl) rfl fun vals w1 ρ hG hF hρ hcst hfun => ?_
      have e5 : ρ (.tmp 5) = .pointer (some ⟨sc, 0, none⟩) := ((hρ 5).trans (slotO [] (by kernel_rfl))).trans sl5
      clear hρ hF hcst hfun sl5 sl7 sl8 fin
      exact opv_val (by go_simp <;> rfl) ⟨gw_self _, rfl⟩
    · refine owes_v (Go.Op.load 22 (Go.Operand.tmp 53)) 22 [7] (by kernel_rfl) (by kernel_rfl) (by kernel_rfl) rfl fun vals w1 ρ hG hF hρ hcst hfun => ?_
      have e53 : ρ (.tmp 53) = .pointer (some ⟨sc, 0, none⟩) := ((hρ 53).trans (slotJ [7] (by rw [hsz]; decide) (by kernel_rfl))).trans (hF 7 (by decide))
      have d0 := (hs.out w1 hG).1
      clear hρ hF hcst hfun sl5 sl7 sl8 fin
      exact opv_val (by go_simp <;> rfl) ⟨gw_self _, rfl⟩
    · exact owes_mv 7 (by kernel_rfl) (by kernel_rfl) (by kernel_rfl) sl7 (fun _ => rfl)
    · refine owes_v (Go.Op.indexAddr 22 (Go.Operand.tmp 54) (Go.Operand.tmp 55)) 0 [8, 9] (by kernel_rfl) (by kernel_rfl) (by kernel_rfl) rfl fun vals w1 ρ hG hF hρ hcst hfun => ?_
      have e54 : ρ (.tmp 54) = .slice (some ad) K c1 := ((hρ 54).trans (slotJ [8, 9] (by rw [hsz]; decide) (by kernel_rfl))).trans (hF 8 (by decide))
      have e55 : ρ (.tmp 55) = .int .i64 k := ((hρ 55).trans (slotJ [8, 9] (by rw [hsz]; decide) (by kernel_rfl))).trans (hF 9 (by decide))
      clear hρ hF hcst hfun sl5 sl7 sl8 fin
      exact opv_val (by go_simp <;> rfl) ⟨gw_self _, rfl⟩
    · refine owes_v (Go.Op.fieldAddr 53 (Go.Operand.tmp 56) 1) 0 [10] (by kernel_rfl) (by kernel_rfl) (by kernel_rfl) rfl fun vals w1 ρ hG hF hρ hcst hfun => ?_
      have e56 : ρ (.tmp 56) = .pointer (some (ad.add (k * 2))) := ((hρ 56).trans (slotJ [10] (by rw [hsz]; decide) (by kernel_rfl))).trans (hF 10 (by decide))
      clear hρ hF hcst hfun sl5 sl7 sl8 fin
      exact opv_val (by go_simp <;> rfl) ⟨gw_self _, rfl⟩
    · refine owes_v (Go.Op.load 51 (Go.Operand.tmp 57)) 51 [11] (by kernel_rfl) (by kernel_rfl) (by kernel_rfl) rfl fun vals w1 ρ hG hF hρ hcst hfun => ?_
      have e57 : ρ (.tmp 57) = .pointer (some ⟨(ad.add (k * 2)).block, (ad.add (k * 2)).off + 1, none⟩) := ((hρ 57).trans (slotJ [11] (by rw [hsz]; decide) (by kernel_rfl))).trans (hF 11 (by decide))
      have d0 := (hs.out w1 hG).2.1
      clear hρ hF hcst hfun sl5 sl7 sl8 fin
      exact opv_val (by go_simp <;> rfl) ⟨gw_self _, rfl⟩
    · exact owes_mv 8 (by kernel_rfl) (by kernel_rfl) (by kernel_rfl) sl8 (fun _ => rfl)
    · refine owes_v (Go.Op.indexAddr 51 (Go.Operand.tmp 58) (Go.Operand.tmp 59)) 0 [12, 13] (by kernel_rfl) (by kernel_rfl) (by kernel_rfl) rfl fun vals w1 ρ hG hF hρ hcst hfun => ?_
      have e58 : ρ (.tmp 58) = .slice (some ⟨q, 0, none⟩) n d := ((hρ 58).trans (slotJ [12, 13] (by rw [hsz]; decide) (by kernel_rfl))).trans (hF 12 (by decide))
      have e59 : ρ (.tmp 59) = .int .i64 j := ((hρ 59).trans (slotJ [12, 13] (by rw [hsz]; decide) (by kernel_rfl))).trans (hF 13 (by decide))
      clear hρ hF hcst hfun sl5 sl7 sl8 fin
      exact opv_val (by go_simp <;> rfl) ⟨gw_self _, rfl⟩
    · refine owes_v (Go.Op.load 5 (Go.Operand.tmp 60)) 5 [14] (by kernel_rfl) (by kernel_rfl) (by kernel_rfl) rfl fun vals w1 ρ hG hF hρ hcst hfun => ?_
      have e60 : ρ (.tmp 60) = .pointer (some ⟨q, j, none⟩) := ((hρ 60).trans (slotJ [14] (by rw [hsz]; decide) (by kernel_rfl))).trans (hF 14 (by decide))
      have d0 := (hs.out w1 hG).2.2
      clear hρ hF hcst hfun sl5 sl7 sl8 fin
      exact opv_val (by go_simp <;> rfl) ⟨gw_self _, rfl⟩
    · refine owes_v (Go.Op.binOp Go.BinOp.add 5 (Go.Operand.tmp 61) (Go.Operand.const (Go.Value.int Go.IntKind.u8 1)) 5) 5 [15] (by kernel_rfl) (by kernel_rfl) (by kernel_rfl) rfl fun vals w1 ρ hG hF hρ hcst hfun => ?_
      have e61 : ρ (.tmp 61) = .int .u8 (U8 y) := ((hρ 61).trans (slotJ [15] (by rw [hsz]; decide) (by kernel_rfl))).trans (hF 15 (by decide))
      have kk := u8_succ y
      clear hρ hF hfun sl5 sl7 sl8 fin
      exact opv_val (by go_simp <;> rfl) ⟨gw_self _, rfl⟩
    · refine owes_v (Go.Op.indexAddr 51 (Go.Operand.tmp 51) (Go.Operand.tmp 52)) 0 [5, 6] (by kernel_rfl) (by kernel_rfl) (by kernel_rfl) rfl fun vals w1 ρ hG hF hρ hcst hfun => ?_
      have e51 : ρ (.tmp 51) = .slice (some ⟨q, 0, none⟩) n d := ((hρ 51).trans (slotJ [5, 6] (by rw [hsz]; decide) (by kernel_rfl))).trans (hF 5 (by decide))
      have e52 : ρ (.tmp 52) = .int .i64 j := ((hρ 52).trans (slotJ [5, 6] (by rw [hsz]; decide) (by kernel_rfl))).trans (hF 6 (by decide))
      clear hρ hF hcst hfun sl5 sl7 sl8 fin
      exact opv_val (by go_simp <;> rfl) ⟨gw_self _, rfl⟩
  · intro vals w1 hG hF
    exact last_list (by kernel_rfl) (by kernel_rfl) (by kernel_rfl) (fin vals w1 hG (hF 16 (by decide +kernel)) (hF 17 (by decide +kernel)))
theorem two19_r (Q : Exit → Act → World → Prop) (a0 : Act) (w : World) (sa sb sd : Nat) (ga gb gd : Gv) (A A2 B B2 D D2 : Option Addr) (N M K L X Y a1 a2 b1 b2 d1 d2 : Nat) (p : Bool) (hga : ga.v = .agg #[.slice A N a1, .slice A2 M a2]) (hgb : gb.v = .agg #[.slice B K b1, .slice B2 L b2]) (hgd : gd.v = .agg #[.slice D X d1, .slice D2 Y d2]) (hfa : FewP ga) (hfb : FewP gb) (hfd : FewP gd) (ha : Hid (GBx w sa ga (.slice A N a1) (.slice A2 M a2))) (hb : Hid (GBx w sb gb (.slice B K b1) (.slice B2 L b2))) (hd : Hid (GBx w sd gd (.slice D X d1) (.slice D2 Y d2))) (hp1 : sameG ga gb = p) (hp2 : sameG gb ga = p) (hp3 : sameG gd ga = true) (hp4 : sameG ga ga = true) (hsz : a0.tmps.size = 116) (sl2 : a0.tmps.getD 2 undef = .pointer (some ⟨sa, 0, none⟩)) (sl3 : a0.tmps.getD 3 undef = .pointer (some ⟨sb, 0, none⟩)) (sl6 : a0.tmps.getD 6 undef = .bool true) (sl10 : a0.tmps.getD 10 undef = .pointer (some ⟨sd, 0, none⟩))
    (fin : ∀ (vals : Nat → Value) (w1 : World), Below w.heap.size w w1 → (IsV (.bool true)) (vals 31) w1 → Q .normal (putD vals [85, 86, 87, 88, 89, 90, 91, 92, 93, 94, 95, 96, 97, 98, 99, 100, 101, 102, 103, 104, 105, 106, 107, 108, 109, 110, 111, 112, 113, 114, 115, 4] 0 a0) w1) :
    (Code.region 19 (regIn Try.f4 19) true).wp Try.prog Q a0 w := by
  refine region_by (G := fun w w1 => Below w.heap.size w w1) [IsV (.bool true),
    IsV (.bool true),
    IsV (.agg #[.slice A N a1, .slice A2 M a2]),
    IsV (.agg #[.slice B K b1, .slice B2 L b2]),
    IsV (.bool p),
    IsV (.agg #[.slice A N a1, .slice A2 M a2]),
    OfV ga,
    IsV (.agg #[.slice B K b1, .slice B2 L b2]),
    OfV gb,
    IsV (.bool p),
    IsV (.bool true),
    IsV (.bool true),
    IsV (.bool true),
    IsV (.agg #[.slice B K b1, .slice B2 L b2]),
    IsV (.agg #[.slice A N a1, .slice A2 M a2]),
    IsV (.bool p),
    IsV (.agg #[.slice A N a1, .slice A2 M a2]),
    IsV (.agg #[.slice B K b1, .slice B2 L b2]),
    IsV (.bool p),
    IsV (.bool true),
    IsV (.bool true),
    IsV (.bool true),
    IsV (.agg #[.slice D X d1, .slice D2 Y d2]),
    IsV (.agg #[.slice A N a1, .slice A2 M a2]),
    IsV (.bool true),
    IsV (.bool true),
    IsV (.bool true),
    IsV (.agg #[.slice A N a1, .slice A2 M a2]),
    IsV (.agg #[.slice A N a1, .slice A2 M a2]),
    IsV (.bool true),
    IsV (.bool true),
    IsV (.bool true)]
    [85, 86, 87, 88, 89, 90, 91, 92, 93, 94, 95, 96, 97, 98, 99, 100, 101, 102, 103, 104, 105, 106, 107, 108, 109, 110, 111, 112, 113, 114, 115, 4] (by kernel_rfl) (Gw.drew _) Gw.trans (by rw [hsz]; kernel_rfl) (by kernel_rfl) ?_ ?_ ?_
  · intro f hf
    simp only [List.mem_cons, List.not_mem_nil, or_false] at hf
    rcases hf with rfl | rfl | rfl | rfl | rfl | rfl | rfl | rfl | rfl | rfl | rfl | rfl | rfl | rfl | rfl | rfl | rfl | rfl | rfl | rfl | rfl | rfl | rfl | rfl | rfl | rfl | rfl | rfl | rfl | rfl | rfl | rfl <;> intro v a b h g <;> first | exact IsV.mono h | exact OfV.mono h g
  · refine ⟨?_, ?_, ?_, ?_, ?_, ?_, ?_, ?_, ?_, ?_, ?_, ?_, ?_, ?_, ?_, ?_, ?_, ?_, ?_, ?_, ?_, ?_, ?_, ?_, ?_, ?_, ?_, ?_, ?_, ?_, ?_, ?_, trivial⟩
    · exact owes_mv 6 (by kernel_rfl) (by kernel_rfl) (by kernel_rfl) sl6 (fun _ => rfl)
    · exact owes_mvj 0 85 (by kernel_rfl) (by kernel_rfl) (by kernel_rfl) (by kernel_rfl) (by rw [hsz]; decide) (fun v w h => h)
    · refine owes_vt 1 true (Go.Op.load 25 (Go.Operand.tmp 2)) 25 [] (by kernel_rfl) (by kernel_rfl) (by kernel_rfl) (fun _ _ h => h) (by rw [hsz]; kernel_rfl) (by kernel_rfl) rfl fun vals w1 ρ hG hF hρ hcst hfun => ?_
      have e2 : ρ (.tmp 2) = .pointer (some ⟨sa, 0, none⟩) := ((hρ 2).trans (slotO [] (by kernel_rfl))).trans sl2
      obtain ⟨d0, d1, _⟩ := ha.out w1 hG
      clear hρ hF hcst hfun sl2 sl3 sl6 sl10 fin
      exact opv_val (by go_simp <;> rfl) ⟨gw_self _, rfl⟩
    · refine owes_vt 1 true (Go.Op.load 25 (Go.Operand.tmp 3)) 25 [] (by kernel_rfl) (by kernel_rfl) (by kernel_rfl) (fun _ _ h => h) (by rw [hsz]; kernel_rfl) (by kernel_rfl) rfl fun vals w1 ρ hG hF hρ hcst hfun => ?_
      have e3 : ρ (.tmp 3) = .pointer (some ⟨sb, 0, none⟩) := ((hρ 3).trans (slotO [] (by kernel_rfl))).trans sl3
      obtain ⟨d0, d1, _⟩ := hb.out w1 hG
      clear hρ hF hcst hfun sl2 sl3 sl6 sl10 fin
      exact opv_val (by go_simp <;> rfl) ⟨gw_self _, rfl⟩
    · refine owes_vt 1 true (Go.Op.call { callee := Go.Callee.value (Go.Operand.func 24), args := #[Go.Operand.tmp 87, Go.Operand.tmp 88], argTypes := #[25, 25] }) 4 [2, 3] (by kernel_rfl) (by kernel_rfl) (by kernel_rfl) (fun _ _ h => h) (by rw [hsz]; kernel_rfl) (by kernel_rfl) rfl fun vals w1 ρ hG hF hρ hcst hfun => ?_
      have e87 : ρ (.tmp 87) = .agg #[.slice A N a1, .slice A2 M a2] := ((hρ 87).trans (slotJ [2, 3] (by rw [hsz]; decide) (by kernel_rfl))).trans (hF 2 (by decide))
      have e88 : ρ (.tmp 88) = .agg #[.slice B K b1, .slice B2 L b2] := ((hρ 88).trans (slotJ [2, 3] (by rw [hsz]; decide) (by kernel_rfl))).trans (hF 3 (by decide))
      clear hρ hF hcst sl2 sl3 sl6 sl10 fin
      exact opv_enter (by go_simp <;> rfl) (of_retK (eq_k hga hgb hfa hp1 (ha.out w1 hG).2.2 (hb.out w1 hG).2.2))
    · refine owes_vt 1 true (Go.Op.load 25 (Go.Operand.tmp 2)) 25 [] (by kernel_rfl) (by kernel_rfl) (by kernel_rfl) (fun _ _ h => h) (by rw [hsz]; kernel_rfl) (by kernel_rfl) rfl fun vals w1 ρ hG hF hρ hcst hfun => ?_
      have e2 : ρ (.tmp 2) = .pointer (some ⟨sa, 0, none⟩) := ((hρ 2).trans (slotO [] (by kernel_rfl))).trans sl2
      obtain ⟨d0, d1, _⟩ := ha.out w1 hG
      clear hρ hF hcst hfun sl2 sl3 sl6 sl10 fin
      exact opv_val (by go_simp <;> rfl) ⟨gw_self _, rfl⟩
    · refine owes_vt 1 true (Go.Op.call { callee := Go.Callee.value (Go.Operand.func 10), args := #[Go.Operand.tmp 90], argTypes := #[25] }) 32 [5] (by kernel_rfl) (by kernel_rfl) (by kernel_rfl) (fun _ _ h => h) (by rw [hsz]; kernel_rfl) (by kernel_rfl) rfl fun vals w1 ρ hG hF hρ hcst hfun => ?_
      have e90 : ρ (.tmp 90) = .agg #[.slice A N a1, .slice A2 M a2] := ((hρ 90).trans (slotJ [5] (by rw [hsz]; decide) (by kernel_rfl))).trans (hF 5 (by decide))
      clear hρ hF hcst sl2 sl3 sl6 sl10 fin
      exact opv_enter (by go_simp <;> rfl) (of_k hga hfa (ha.out w1 hG).2.2)
    · refine owes_vt 1 true (Go.Op.load 25 (Go.Operand.tmp 3)) 25 [] (by kernel_rfl) (by kernel_rfl) (by kernel_rfl) (fun _ _ h => h) (by rw [hsz]; kernel_rfl) (by kernel_rfl) rfl fun vals w1 ρ hG hF hρ hcst hfun => ?_
      have e3 : ρ (.tmp 3) = .pointer (some ⟨sb, 0, none⟩) := ((hρ 3).trans (slotO [] (by kernel_rfl))).trans sl3
      obtain ⟨d0, d1, _⟩ := hb.out w1 hG
      clear hρ hF hcst hfun sl2 sl3 sl6 sl10 fin
      exact opv_val (by go_simp <;> rfl) ⟨gw_self _, rfl⟩
    · refine owes_vt 1 true (Go.Op.call { callee := Go.Callee.value (Go.Operand.func 10), args := #[Go.Operand.tmp 92], argTypes := #[25] }) 32 [7] (by kernel_rfl) (by kernel_rfl) (by kernel_rfl) (fun _ _ h => h) (by rw [hsz]; kernel_rfl) (by kernel_rfl) rfl fun vals w1 ρ hG hF hρ hcst hfun => ?_
      have e92 : ρ (.tmp 92) = .agg #[.slice B K b1, .slice B2 L b2] := ((hρ 92).trans (slotJ [7] (by rw [hsz]; decide) (by kernel_rfl))).trans (hF 7 (by decide))
      clear hρ hF hcst sl2 sl3 sl6 sl10 fin
      exact opv_enter (by go_simp <;> rfl) (of_k hgb hfb (hb.out w1 hG).2.2)
    · refine owes_vt 1 true (Go.Op.call { callee := Go.Callee.value (Go.Operand.func 17), args := #[Go.Operand.tmp 91, Go.Operand.tmp 93], argTypes := #[32, 32] }) 4 [6, 8] (by kernel_rfl) (by kernel_rfl) (by kernel_rfl) (fun _ _ h => h) (by rw [hsz]; kernel_rfl) (by kernel_rfl) rfl fun vals w1 ρ hG hF hρ hcst hfun => ?_
      have f91 : (OfV ga) (vals 6) w1 := hF 6 (by decide)
      have e91 : ρ (.tmp 91) = vals 6 := (hρ 91).trans (slotJ [6, 8] (by rw [hsz]; decide) (by kernel_rfl))
      have f93 : (OfV gb) (vals 8) w1 := hF 8 (by decide)
      have e93 : ρ (.tmp 93) = vals 8 := (hρ 93).trans (slotJ [6, 8] (by rw [hsz]; decide) (by kernel_rfl))
      clear hρ hF hcst sl2 sl3 sl6 sl10 fin
      exact opv_enter (by go_simp <;> rfl) (of_retK (req_k hfa hp1 f91 f93))
    · refine owes_vt 1 true (Go.Op.binOp Go.BinOp.eql 4 (Go.Operand.tmp 89) (Go.Operand.tmp 94) 4) 4 [4, 9] (by kernel_rfl) (by kernel_rfl) (by kernel_rfl) (fun _ _ h => h) (by rw [hsz]; kernel_rfl) (by kernel_rfl) rfl fun vals w1 ρ hG hF hρ hcst hfun => ?_
      have e89 : ρ (.tmp 89) = .bool p := ((hρ 89).trans (slotJ [4, 9] (by rw [hsz]; decide) (by kernel_rfl))).trans (hF 4 (by decide))
      have e94 : ρ (.tmp 94) = .bool p := ((hρ 94).trans (slotJ [4, 9] (by rw [hsz]; decide) (by kernel_rfl))).trans (hF 9 (by decide))
      clear hρ hF hcst hfun sl2 sl3 sl6 sl10 fin
      exact opv_val (by go_simp <;> rfl) ⟨gw_self _, rfl⟩
    · refine owes_v (Go.Op.pick (Go.Operand.tmp 86) (Go.Operand.tmp 95) (Go.Operand.const (Go.Value.bool false))) 4 [1, 10] (by kernel_rfl) (by kernel_rfl) (by kernel_rfl) rfl fun vals w1 ρ hG hF hρ hcst hfun => ?_
      have e86 : ρ (.tmp 86) = .bool true := ((hρ 86).trans (slotJ [1, 10] (by rw [hsz]; decide) (by kernel_rfl))).trans (hF 1 (by decide))
      have e95 : ρ (.tmp 95) = .bool true := ((hρ 95).trans (slotJ [1, 10] (by rw [hsz]; decide) (by kernel_rfl))).trans (hF 10 (by decide))
      clear hρ hF hfun sl2 sl3 sl6 sl10 fin
      exact opv_val (by go_simp <;> rfl) ⟨gw_self _, rfl⟩
    · exact owes_mvj 11 96 (by kernel_rfl) (by kernel_rfl) (by kernel_rfl) (by kernel_rfl) (by rw [hsz]; decide) (fun v w h => h)
    · refine owes_vt 12 true (Go.Op.load 25 (Go.Operand.tmp 3)) 25 [] (by kernel_rfl) (by kernel_rfl) (by kernel_rfl) (fun _ _ h => h) (by rw [hsz]; kernel_rfl) (by kernel_rfl) rfl fun vals w1 ρ hG hF hρ hcst hfun => ?_
      have e3 : ρ (.tmp 3) = .pointer (some ⟨sb, 0, none⟩) := ((hρ 3).trans (slotO [] (by kernel_rfl))).trans sl3
      obtain ⟨d0, d1, _⟩ := hb.out w1 hG
      clear hρ hF hcst hfun sl2 sl3 sl6 sl10 fin
      exact opv_val (by go_simp <;> rfl) ⟨gw_self _, rfl⟩
    · refine owes_vt 12 true (Go.Op.load 25 (Go.Operand.tmp 2)) 25 [] (by kernel_rfl) (by kernel_rfl) (by kernel_rfl) (fun _ _ h => h) (by rw [hsz]; kernel_rfl) (by kernel_rfl) rfl fun vals w1 ρ hG hF hρ hcst hfun => ?_
      have e2 : ρ (.tmp 2) = .pointer (some ⟨sa, 0, none⟩) := ((hρ 2).trans (slotO [] (by kernel_rfl))).trans sl2
      obtain ⟨d0, d1, _⟩ := ha.out w1 hG
      clear hρ hF hcst hfun sl2 sl3 sl6 sl10 fin
      exact opv_val (by go_simp <;> rfl) ⟨gw_self _, rfl⟩
    · refine owes_vt 12 true (Go.Op.call { callee := Go.Callee.value (Go.Operand.func 24), args := #[Go.Operand.tmp 98, Go.Operand.tmp 99], argTypes := #[25, 25] }) 4 [13, 14] (by kernel_rfl) (by kernel_rfl) (by kernel_rfl) (fun _ _ h => h) (by rw [hsz]; kernel_rfl) (by kernel_rfl) rfl fun vals w1 ρ hG hF hρ hcst hfun => ?_
      have e98 : ρ (.tmp 98) = .agg #[.slice B K b1, .slice B2 L b2] := ((hρ 98).trans (slotJ [13, 14] (by rw [hsz]; decide) (by kernel_rfl))).trans (hF 13 (by decide))
      have e99 : ρ (.tmp 99) = .agg #[.slice A N a1, .slice A2 M a2] := ((hρ 99).trans (slotJ [13, 14] (by rw [hsz]; decide) (by kernel_rfl))).trans (hF 14 (by decide))
      clear hρ hF hcst sl2 sl3 sl6 sl10 fin
      exact opv_enter (by go_simp <;> rfl) (of_retK (eq_k hgb hga hfb hp2 (hb.out w1 hG).2.2 (ha.out w1 hG).2.2))
    · refine owes_vt 12 true (Go.Op.load 25 (Go.Operand.tmp 2)) 25 [] (by kernel_rfl) (by kernel_rfl) (by kernel_rfl) (fun _ _ h => h) (by rw [hsz]; kernel_rfl) (by kernel_rfl) rfl fun vals w1 ρ hG hF hρ hcst hfun => ?_
      have e2 : ρ (.tmp 2) = .pointer (some ⟨sa, 0, none⟩) := ((hρ 2).trans (slotO [] (by kernel_rfl))).trans sl2
      obtain ⟨d0, d1, _⟩ := ha.out w1 hG
      clear hρ hF hcst hfun sl2 sl3 sl6 sl10 fin
      exact opv_val (by go_simp <;> rfl) ⟨gw_self _, rfl⟩
    · refine owes_vt 12 true (Go.Op.load 25 (Go.Operand.tmp 3)) 25 [] (by kernel_rfl) (by kernel_rfl) (by kernel_rfl) (fun _ _ h => h) (by rw [hsz]; kernel_rfl) (by kernel_rfl) rfl fun vals w1 ρ hG hF hρ hcst hfun => ?_
      have e3 : ρ (.tmp 3) = .pointer (some ⟨sb, 0, none⟩) := ((hρ 3).trans (slotO [] (by kernel_rfl))).trans sl3
      obtain ⟨d0, d1, _⟩ := hb.out w1 hG
      clear hρ hF hcst hfun sl2 sl3 sl6 sl10 fin
      exact opv_val (by go_simp <;> rfl) ⟨gw_self _, rfl⟩
    · refine owes_vt 12 true (Go.Op.call { callee := Go.Callee.value (Go.Operand.func 24), args := #[Go.Operand.tmp 101, Go.Operand.tmp 102], argTypes := #[25, 25] }) 4 [16, 17] (by kernel_rfl) (by kernel_rfl) (by kernel_rfl) (fun _ _ h => h) (by rw [hsz]; kernel_rfl) (by kernel_rfl) rfl fun vals w1 ρ hG hF hρ hcst hfun => ?_
      have e101 : ρ (.tmp 101) = .agg #[.slice A N a1, .slice A2 M a2] := ((hρ 101).trans (slotJ [16, 17] (by rw [hsz]; decide) (by kernel_rfl))).trans (hF 16 (by decide))
      have e102 : ρ (.tmp 102) = .agg #[.slice B K b1, .slice B2 L b2] := ((hρ 102).trans (slotJ [16, 17] (by rw [hsz]; decide) (by kernel_rfl))).trans (hF 17 (by decide))
      clear hρ hF hcst sl2 sl3 sl6 sl10 fin
      exact opv_enter (by go_simp <;> rfl) (of_retK (eq_k hga hgb hfa hp1 (ha.out w1 hG).2.2 (hb.out w1 hG).2.2))
    · refine owes_vt 12 true (Go.Op.binOp Go.BinOp.eql 4 (Go.Operand.tmp 100) (Go.Operand.tmp 103) 4) 4 [15, 18] (by kernel_rfl) (by kernel_rfl) (by kernel_rfl) (fun _ _ h => h) (by rw [hsz]; kernel_rfl) (by kernel_rfl) rfl fun vals w1 ρ hG hF hρ hcst hfun => ?_
      have e100 : ρ (.tmp 100) = .bool p := ((hρ 100).trans (slotJ [15, 18] (by rw [hsz]; decide) (by kernel_rfl))).trans (hF 15 (by decide))
      have e103 : ρ (.tmp 103) = .bool p := ((hρ 103).trans (slotJ [15, 18] (by rw [hsz]; decide) (by kernel_rfl))).trans (hF 18 (by decide))
      clear hρ hF hcst hfun sl2 sl3 sl6 sl10 fin
      exact opv_val (by go_simp <;> rfl) ⟨gw_self _, rfl⟩
    · refine owes_v (Go.Op.pick (Go.Operand.tmp 97) (Go.Operand.tmp 104) (Go.Operand.const (Go.Value.bool false))) 4 [12, 19] (by kernel_rfl) (by kernel_rfl) (by kernel_rfl) rfl fun vals w1 ρ hG hF hρ hcst hfun => ?_
      have e97 : ρ (.tmp 97) = .bool true := ((hρ 97).trans (slotJ [12, 19] (by rw [hsz]; decide) (by kernel_rfl))).trans (hF 12 (by decide))
      have e104 : ρ (.tmp 104) = .bool true := ((hρ 104).trans (slotJ [12, 19] (by rw [hsz]; decide) (by kernel_rfl))).trans (hF 19 (by decide))
      clear hρ hF hfun sl2 sl3 sl6 sl10 fin
      exact opv_val (by go_simp <;> rfl) ⟨gw_self _, rfl⟩
    · exact owes_mvj 20 105 (by kernel_rfl) (by kernel_rfl) (by kernel_rfl) (by kernel_rfl) (by rw [hsz]; decide) (fun v w h => h)
    · refine owes_vt 21 true (Go.Op.load 25 (Go.Operand.tmp 10)) 25 [] (by kernel_rfl) (by kernel_rfl) (by kernel_rfl) (fun _ _ h => h) (by rw [hsz]; kernel_rfl) (by kernel_rfl) rfl fun vals w1 ρ hG hF hρ hcst hfun => ?_
      have e10 : ρ (.tmp 10) = .pointer (some ⟨sd, 0, none⟩) := ((hρ 10).trans (slotO [] (by kernel_rfl))).trans sl10
      obtain ⟨d0, d1, _⟩ := hd.out w1 hG
      clear hρ hF hcst hfun sl2 sl3 sl6 sl10 fin
      exact opv_val (by go_simp <;> rfl) ⟨gw_self _, rfl⟩
    · refine owes_vt 21 true (Go.Op.load 25 (Go.Operand.tmp 2)) 25 [] (by kernel_rfl) (by kernel_rfl) (by kernel_rfl) (fun _ _ h => h) (by rw [hsz]; kernel_rfl) (by kernel_rfl) rfl fun vals w1 ρ hG hF hρ hcst hfun => ?_
      have e2 : ρ (.tmp 2) = .pointer (some ⟨sa, 0, none⟩) := ((hρ 2).trans (slotO [] (by kernel_rfl))).trans sl2
      obtain ⟨d0, d1, _⟩ := ha.out w1 hG
      clear hρ hF hcst hfun sl2 sl3 sl6 sl10 fin
      exact opv_val (by go_simp <;> rfl) ⟨gw_self _, rfl⟩
    · refine owes_vt 21 true (Go.Op.call { callee := Go.Callee.value (Go.Operand.func 24), args := #[Go.Operand.tmp 107, Go.Operand.tmp 108], argTypes := #[25, 25] }) 4 [22, 23] (by kernel_rfl) (by kernel_rfl) (by kernel_rfl) (fun _ _ h => h) (by rw [hsz]; kernel_rfl) (by kernel_rfl) rfl fun vals w1 ρ hG hF hρ hcst hfun => ?_
      have e107 : ρ (.tmp 107) = .agg #[.slice D X d1, .slice D2 Y d2] := ((hρ 107).trans (slotJ [22, 23] (by rw [hsz]; decide) (by kernel_rfl))).trans (hF 22 (by decide))
      have e108 : ρ (.tmp 108) = .agg #[.slice A N a1, .slice A2 M a2] := ((hρ 108).trans (slotJ [22, 23] (by rw [hsz]; decide) (by kernel_rfl))).trans (hF 23 (by decide))
      clear hρ hF hcst sl2 sl3 sl6 sl10 fin
      exact opv_enter (by go_simp <;> rfl) (of_retK (eq_k hgd hga hfd hp3 (hd.out w1 hG).2.2 (ha.out w1 hG).2.2))
    · refine owes_v (Go.Op.pick (Go.Operand.tmp 106) (Go.Operand.tmp 109) (Go.Operand.const (Go.Value.bool false))) 4 [21, 24] (by kernel_rfl) (by kernel_rfl) (by kernel_rfl) rfl fun vals w1 ρ hG hF hρ hcst hfun => ?_
      have e106 : ρ (.tmp 106) = .bool true := ((hρ 106).trans (slotJ [21, 24] (by rw [hsz]; decide) (by kernel_rfl))).trans (hF 21 (by decide))
      have e109 : ρ (.tmp 109) = .bool true := ((hρ 109).trans (slotJ [21, 24] (by rw [hsz]; decide) (by kernel_rfl))).trans (hF 24 (by decide))
      clear hρ hF hfun sl2 sl3 sl6 sl10 fin
      exact opv_val (by go_simp <;> rfl) ⟨gw_self _, rfl⟩
    · exact owes_mvj 25 110 (by kernel_rfl) (by kernel_rfl) (by kernel_rfl) (by kernel_rfl) (by rw [hsz]; decide) (fun v w h => h)
    · refine owes_vt 26 true (Go.Op.load 25 (Go.Operand.tmp 2)) 25 [] (by kernel_rfl) (by kernel_rfl) (by kernel_rfl) (fun _ _ h => h) (by rw [hsz]; kernel_rfl) (by kernel_rfl) rfl fun vals w1 ρ hG hF hρ hcst hfun => ?_
      have e2 : ρ (.tmp 2) = .pointer (some ⟨sa, 0, none⟩) := ((hρ 2).trans (slotO [] (by kernel_rfl))).trans sl2
      obtain ⟨d0, d1, _⟩ := ha.out w1 hG
      clear hρ hF hcst hfun sl2 sl3 sl6 sl10 fin
      exact opv_val (by go_simp <;> rfl) ⟨gw_self _, rfl⟩
    · refine owes_vt 26 true (Go.Op.load 25 (Go.Operand.tmp 2)) 25 [] (by kernel_rfl) (by kernel_rfl) (by kernel_rfl) (fun _ _ h => h) (by rw [hsz]; kernel_rfl) (by kernel_rfl) rfl fun vals w1 ρ hG hF hρ hcst hfun => ?_
      have e2 : ρ (.tmp 2) = .pointer (some ⟨sa, 0, none⟩) := ((hρ 2).trans (slotO [] (by kernel_rfl))).trans sl2
      obtain ⟨d0, d1, _⟩ := ha.out w1 hG
      clear hρ hF hcst hfun sl2 sl3 sl6 sl10 fin
      exact opv_val (by go_simp <;> rfl) ⟨gw_self _, rfl⟩
    · refine owes_vt 26 true (Go.Op.call { callee := Go.Callee.value (Go.Operand.func 24), args := #[Go.Operand.tmp 112, Go.Operand.tmp 113], argTypes := #[25, 25] }) 4 [27, 28] (by kernel_rfl) (by kernel_rfl) (by kernel_rfl) (fun _ _ h => h) (by rw [hsz]; kernel_rfl) (by kernel_rfl) rfl fun vals w1 ρ hG hF hρ hcst hfun => ?_
      have e112 : ρ (.tmp 112) = .agg #[.slice A N a1, .slice A2 M a2] := ((hρ 112).trans (slotJ [27, 28] (by rw [hsz]; decide) (by kernel_rfl))).trans (hF 27 (by decide))
      have e113 : ρ (.tmp 113) = .agg #[.slice A N a1, .slice A2 M a2] := ((hρ 113).trans (slotJ [27, 28] (by rw [hsz]; decide) (by kernel_rfl))).trans (hF 28 (by decide))
      clear hρ hF hcst sl2 sl3 sl6 sl10 fin
      exact opv_enter (by go_simp <;> rfl) (of_retK (eq_k hga hga hfa hp4 (ha.out w1 hG).2.2 (ha.out w1 hG).2.2))
    · refine owes_v (Go.Op.pick (Go.Operand.tmp 111) (Go.Operand.tmp 114) (Go.Operand.const (Go.Value.bool false))) 4 [26, 29] (by kernel_rfl) (by kernel_rfl) (by kernel_rfl) rfl fun vals w1 ρ hG hF hρ hcst hfun => ?_
      have e111 : ρ (.tmp 111) = .bool true := ((hρ 111).trans (slotJ [26, 29] (by rw [hsz]; decide) (by kernel_rfl))).trans (hF 26 (by decide))
      have e114 : ρ (.tmp 114) = .bool true := ((hρ 114).trans (slotJ [26, 29] (by rw [hsz]; decide) (by kernel_rfl))).trans (hF 29 (by decide))
      clear hρ hF hfun sl2 sl3 sl6 sl10 fin
      exact opv_val (by go_simp <;> rfl) ⟨gw_self _, rfl⟩
    · exact owes_mvj 30 115 (by kernel_rfl) (by kernel_rfl) (by kernel_rfl) (by kernel_rfl) (by rw [hsz]; decide) (fun v w h => h)
  · intro vals w1 hG hF
    exact fin vals w1 hG (hF 31 (by decide +kernel))
/-- The twin that is written to. -/
structure TwoS (B sc : Nat) (w3 W : World) (C : Option Addr) (K c1 : Nat) (vr : Value) (xs : List Nv) : Prop where
  own : NOwn W B (.slice C K c1) xs
  len : xs.length = K
  sm : ∀ x ∈ xs, x.ps.length ≤ 70 ∧ x.bs.length ≤ 1100
  bk : Bk W sc 25 #[.slice C K c1, vr]
  bl : Below B w3 W
section
variable {B sc : Nat} {w3 W : World} {C : Option Addr} {K c1 : Nat} {vr : Value} {xs : List Nv} {i : Nat} {x : Nv} {q : Nat}
theorem TwoS.below {W' : World} (h : TwoS B sc w3 W C K c1 vr xs) (hB : B ≤ W.heap.size) (hb : Below W.heap.size W W') : TwoS B sc w3 W' C K c1 vr xs :=
  ⟨h.own.below hb, h.len, h.sm, h.bk.below hb h.bk.lt, h.bl.trans (hb.mono hB)⟩
theorem TwoS.setB (h : TwoS B sc w3 W C K c1 vr xs) (hx : xs[i]? = some x) {j : Nat} (hj : j < x.bs.length) (hA : x.D = some ⟨q, 0, none⟩) (z : BitVec 8) : TwoS B sc w3 (W.setCell ⟨q, j, none⟩ (b8 z)) C K c1 vr (xs.set i { x with bs := x.bs.set j z }) := by
  obtain ⟨hi, e⟩ := List.getElem?_eq_some_iff.1 hx
  have ho := (h.own.each x (by rw [← e]; exact List.getElem_mem hi)).2
  have hox := ho
  unfold Nv.vd at ho
  rw [hA] at ho
  obtain ⟨cs, m, hq⟩ := ow_blk2 ho
  have hne : q ≠ sc := type_ne2 hq h.bk (by decide)
  refine ⟨h.own.setB hx hj hA z, by rw [List.length_set]; exact h.len, fun y hy => ?_, h.bk.far (p := ⟨q, j, none⟩) (fun e2 => hne e2.symm) _, h.bl.setCell (p := ⟨q, j, none⟩) (ho.lt q rfl).1 _⟩
  rcases List.mem_or_eq_of_mem_set hy with hy | rfl
  · exact h.sm y hy
  · have := h.sm x (by rw [← e]; exact List.getElem_mem hi)
    simp only [List.length_set]
    exact this
theorem TwoS.setP (h : TwoS B sc w3 W C K c1 vr xs) (hx : xs[i]? = some x) {j : Nat} (hj : j < x.ps.length) (hA : x.A = some ⟨q, 0, none⟩) (z : Int) : TwoS B sc w3 (W.setCell ⟨q, j, none⟩ (iV z)) C K c1 vr (xs.set i { x with ps := x.ps.set j z }) := by
  obtain ⟨hi, e⟩ := List.getElem?_eq_some_iff.1 hx
  have ho := (h.own.each x (by rw [← e]; exact List.getElem_mem hi)).1
  unfold Nv.vp at ho
  rw [hA] at ho
  obtain ⟨cs, m, hq⟩ := ow_blk2 ho
  have hne : q ≠ sc := type_ne2 hq h.bk (by decide)
  refine ⟨h.own.setP hx hj hA z, by rw [List.length_set]; exact h.len, fun y hy => ?_, h.bk.far (p := ⟨q, j, none⟩) (fun e2 => hne e2.symm) _, h.bl.setCell (p := ⟨q, j, none⟩) (ho.lt q rfl).1 _⟩
  rcases List.mem_or_eq_of_mem_set hy with hy | rfl
  · exact h.sm y hy
  · have := h.sm x (by rw [← e]; exact List.getElem_mem hi)
    simp only [List.length_set]
    exact this
/-- A node of it, as it is read. -/
theorem TwoS.spot (h : TwoS B sc w3 W C K c1 vr xs) (hx : xs[i]? = some x) : ∃ ad, C = some ad ∧ (ad.add (i * 2)).block < W.heap.size ∧ W.cell? ⟨sc, 0, none⟩ = some (.slice C K c1) ∧ W.cell? (ad.add (i * 2)) = some x.vp ∧ W.cell? ⟨(ad.add (i * 2)).block, (ad.add (i * 2)).off + 1, none⟩ = some x.vd := by
  obtain ⟨hi, rfl⟩ := List.getElem?_eq_some_iff.1 hx
  obtain ⟨ad, e, h1, h2, h3, _⟩ := h.own.rows.1 i hi
  exact ⟨ad, e, cell_lt h2, h.bk.cell 0, h2, h3⟩
end
end Go.Proofs.Ytidaimcndbhefaa
