/- Texts joined: OpenR OpenG OfZ ImL PwB OpenW. -/
import Derived.Test.YtkkjnahjmomjgaaWb11
import Derived.Test.YtkkjnahjmomjgaaFrame
import Derived.Deep.Slices
import Derived.Deep.Fields
import Derived.Test.YtkkjnahjmomjgaaGrA
import Derived.Test.YtkkjnahjmomjgaaMmA
/- How an argument that is a row of structs is opened. No conditions. -/
namespace Go.Proofs.Ytkkjnahjmomjgaa
set_option linter.unusedVariables false
set_option linter.unusedSimpArgs false
open Go.ChangeShapes Go.WideShapes Go.ChangeAt Go.RowKit
section
variable {H : Type} {enc : TypeId × Value → H} {P : Program} {w : World} {base : Nat} {spare : Nat → Bool} {held : Bool} {r : Reach} {b0 : Nat}
end
set_option maxRecDepth 100000
/-- One of CodeBack's items. -/
structure Itm where
  op : Int
  u : BitVec 64
  i : BitVec 64
  ba : Option Addr
  bb : List (BitVec 8)
  bc : Nat
  wa : Option Addr
  ww : List (BitVec 64)
  wc : Nat
structure ItmAt (W : World) (B : Nat) (ad : Addr) (k : Nat) (x : Itm) : Prop where
  blk : ad.block < B
  op : W.cell? (ad.add (k * 5)) = some (.int .i64 x.op)
  u : W.cell? ⟨(ad.add (k * 5)).block, (ad.add (k * 5)).off + 1, none⟩ = some (.int .u64 (U64 x.u))
  i : W.cell? ⟨(ad.add (k * 5)).block, (ad.add (k * 5)).off + 2, none⟩ = some (.int .i64 (I64 x.i))
  b : W.cell? ⟨(ad.add (k * 5)).block, (ad.add (k * 5)).off + 3, none⟩ = some (.slice x.ba x.bb.length x.bc)
  w : W.cell? ⟨(ad.add (k * 5)).block, (ad.add (k * 5)).off + 4, none⟩ = some (.slice x.wa x.ww.length x.wc)
  bbc : x.bb.length ≤ x.bc
  wwc : x.ww.length ≤ x.wc
  br : Rd b8 W B x.ba x.bb
  wr : Rd (fun a => Value.int .u64 (U64 a)) W B x.wa x.ww
def Its (W : World) (B : Nat) (A : Option Addr) (l : List Itm) : Prop := ∀ k (h : k < l.length), ∃ ad, A = some ad ∧ ItmAt W B ad k l[k]
/-- One of MemPlays' acts. -/
structure Ac where
  op : Int
  at_ : Int
  fr : Int
  n : Int
  u : BitVec 64
  ba : Option Addr
  bb : List (BitVec 8)
  bc : Nat
structure AcAt (W : World) (B : Nat) (ad : Addr) (k : Nat) (x : Ac) : Prop where
  blk : ad.block < B
  op : W.cell? (ad.add (k * 6)) = some (.int .i64 x.op)
  at_ : W.cell? ⟨(ad.add (k * 6)).block, (ad.add (k * 6)).off + 1, none⟩ = some (.int .i64 x.at_)
  fr : W.cell? ⟨(ad.add (k * 6)).block, (ad.add (k * 6)).off + 2, none⟩ = some (.int .i64 x.fr)
  n : W.cell? ⟨(ad.add (k * 6)).block, (ad.add (k * 6)).off + 3, none⟩ = some (.int .i64 x.n)
  u : W.cell? ⟨(ad.add (k * 6)).block, (ad.add (k * 6)).off + 4, none⟩ = some (.int .u64 (U64 x.u))
  b : W.cell? ⟨(ad.add (k * 6)).block, (ad.add (k * 6)).off + 5, none⟩ = some (.slice x.ba x.bb.length x.bc)
  w0 : (Lit.int .i64 x.op).wf = true
  w1 : (Lit.int .i64 x.at_).wf = true
  w2 : (Lit.int .i64 x.fr).wf = true
  w3 : (Lit.int .i64 x.n).wf = true
  bbc : x.bb.length ≤ x.bc
  bcm : x.bc ≤ maxLen
  br : Rd b8 W B x.ba x.bb
def Acs (W : World) (B : Nat) (A : Option Addr) (l : List Ac) : Prop := ∀ k (h : k < l.length), ∃ ad, A = some ad ∧ AcAt W B ad k l[k]
theorem Acs.below {W W' : World} {B : Nat} {A : Option Addr} {l : List Ac} (h : Acs W B A l) (hb : Below B W W') : Acs W' B A l := fun k hk => by
  obtain ⟨ad, e, m⟩ := h k hk
  have hbk : (ad.add (k * 6)).block < B := by rw [add_block]; exact m.blk
  have c : ∀ j, W'.cell? ⟨(ad.add (k * 6)).block, (ad.add (k * 6)).off + j, none⟩ = W.cell? ⟨(ad.add (k * 6)).block, (ad.add (k * 6)).off + j, none⟩ := fun j => hb.cell (p := ⟨(ad.add (k * 6)).block, (ad.add (k * 6)).off + j, none⟩) hbk
  exact ⟨ad, e, m.blk, (hb.cell hbk).trans m.op, (c _).trans m.at_, (c _).trans m.fr, (c _).trans m.n, (c _).trans m.u, (c _).trans m.b, m.w0, m.w1, m.w2, m.w3, m.bbc, m.bcm, m.br.below hb⟩
end Go.Proofs.Ytkkjnahjmomjgaa
/- How an argument that is a graph is opened. No conditions. -/
namespace Go.Proofs.Ytkkjnahjmomjgaa
set_option linter.unusedVariables false
set_option linter.unusedSimpArgs false
open Go.ChangeShapes Go.WideShapes Go.ChangeAt Go.RowKit
set_option maxRecDepth 100000
section
variable {H : Type} {enc : TypeId × Value → H} {P : Program} {w : World} {base : Nat} {spare : Nat → Bool} {held : Bool}
end
/-- A graph that came in. -/
structure GvOk (W : World) (g : Gv) : Prop where
  at_ : g.At W W.heap.size
  cn : g.c ≤ maxLen
  cr : g.c2 ≤ maxLen
  nd : ∀ x ∈ g.n, x.c ≤ maxLen ∧ x.d ≤ maxLen
  st : ∀ r ∈ g.r, r.s.size ≤ maxLen ∧ (Lit.int .i64 r.t).wf = true
theorem GvOk.up {W W' : World} {g : Gv} (h : GvOk W g) (hb : Below W.heap.size W W') : GvOk W' g := ⟨h.at_.up hb, h.cn, h.cr, h.nd, h.st⟩
section
variable {H : Type} {enc : TypeId × Value → H} {W : World} {base : Nat} {sp : Nat → Bool} {hd : Bool}
end
end Go.Proofs.Ytkkjnahjmomjgaa
/- A graph as the reference's; graphs in boxes. No conditions. -/
namespace Go.Proofs.Ytkkjnahjmomjgaa
set_option linter.unusedVariables false
set_option linter.unusedSimpArgs false
open Go.RowKit Go.Maps
theorem FewP.same {a c : Gv} (h : FewP a) (h1 : c.n.map Nv.m = a.n.map Nv.m) (h2 : c.r = a.r) : FewP c := by
  refine ⟨?_, by rw [h2]; exact h.2.1, fun x hx => ?_, by rw [h2]; exact h.2.2.2⟩
  · have := congrArg List.length h1
    rw [List.length_map, List.length_map] at this
    rw [this]; exact h.1
  · have hm : x.m ∈ c.n.map Nv.m := List.mem_map.2 ⟨x, hx, rfl⟩
    rw [h1] at hm
    obtain ⟨y, hy, e⟩ := List.mem_map.1 hm
    have := h.2.2.1 y hy
    unfold Nv.m at e
    injection e with e1 e2
    rw [← e1, ← e2]
    exact this
theorem same_n {a b c d : Gv} (h1 : a.n = c.n) (h2 : a.r = c.r) (h3 : b.n = d.n) (h4 : b.r = d.r) : sameG a b = sameG c d := by unfold sameG; rw [h1, h2, h3, h4]
def OfV (g : Gv) (v : Value) (W : World) : Prop := ∃ g' : Gv, v = g'.v ∧ g'.At W W.heap.size ∧ g'.n = g.n ∧ g'.r = g.r
theorem OfV.mono {g : Gv} {v : Value} {a b : World} (h : OfV g v a) (hb : Below a.heap.size a b) : OfV g v b := by
  obtain ⟨g', e, h1, h2⟩ := h
  exact ⟨g', e, h1.up hb, h2⟩
/-- A graph in a box. -/
def GBx (w : World) (s : Nat) (g : Gv) (v0 v1 : Value) : Prop := ∀ W, Below w.heap.size w W → W.cell? ⟨s, 0, none⟩ = some v0 ∧ W.cell? ⟨s, 1, none⟩ = some v1 ∧ g.At W W.heap.size
theorem GBx.of {w : World} {s : Nat} {g : Gv} {v0 v1 : Value} (h : Bk w s 25 #[v0, v1]) (hg : g.At w w.heap.size) : GBx w s g v0 v1 := fun W b => ⟨(h.below b h.lt).cell 0, (h.below b h.lt).cell 1, hg.up b⟩
theorem GBx.up {w w' : World} {s : Nat} {g : Gv} {v0 v1 : Value} (h : GBx w s g v0 v1) (b : Below w.heap.size w w') : GBx w' s g v0 v1 := fun W b2 => h W (b.trans (b2.mono b.size))
theorem of_kS {W : World} {g : Gv} {v : Value} (hv : g.v = v) (hf : g.Small) (h : g.At W W.heap.size) : Calls Try.prog 9 #[v] W fun e w2 => ∃ u, e = .returned u ∧ Below W.heap.size W w2 ∧ OfV g u w2 := by
  rw [← hv]
  refine (of_cS W g h hf).mono ?_
  rintro e w' ⟨g', rfl, h1, h2, h3, hb⟩
  exact ⟨_, rfl, hb, g', rfl, h1, h2, h3⟩
theorem req_kS {W : World} {a b : Gv} {u v : Value} {p : Bool} (hf : a.Small) (hp : sameG a b = p) (ha : OfV a u W) (hb : OfV b v W) : Calls Try.prog 19 #[u, v] W (RetP (.bool p) W) := by
  obtain ⟨g1, rfl, h1, n1, r1⟩ := ha
  obtain ⟨g2, rfl, h2, n2, r2⟩ := hb
  have k := req_cS W g1 g2 h1 h2 (by unfold Gv.Small at hf ⊢; rw [n1, r1]; exact hf)
  rw [same_n n1 r1 n2 r2, hp] at k
  exact k
end Go.Proofs.Ytkkjnahjmomjgaa
/- Encode's answer told by its error; ImageBack's regions. No conditions. -/
namespace Go.Proofs.Ytkkjnahjmomjgaa
set_option linter.unusedVariables false
set_option linter.unusedSimpArgs false
open Go.RowKit Go.Maps
set_option maxHeartbeats 8000000
set_option maxRecDepth 100000
/-- Encode's answer, told by its error. -/
def EncE (g : Gv) (w : World) (r : Ending) (w' : World) : Prop :=
  ∃ A n c, r = .returned (.tuple #[.slice A n c, .int .i64 (errG g)]) ∧ Below w.heap.size w w' ∧ (errG g = 0 → ckG g = 0 ∧ endL g.n (2 + 5 * g.r.length) ≤ 8192 ∧ n = (encW g.n g.r).length ∧ n ≤ c ∧ Rd u64v w' w'.heap.size A (encW g.n g.r)) ∧ (errG g ≠ 0 → A = none ∧ n = 0 ∧ c = 0)
theorem encX_e {g : Gv} {w w' : World} {r : Ending} (h : EncX g w r w') : EncE g w r w' := by
  rcases h with ⟨hne, rfl, b⟩ | ⟨hck, hend, v, rfl, how, b⟩
  · exact ⟨none, 0, 0, rfl, b, fun h => absurd h hne, fun _ => ⟨rfl, rfl, rfl⟩⟩
  · have e0 : errG g = 0 := by
      unfold errG
      rw [if_pos hck, if_neg (by omega)]
    obtain ⟨A, c, rfl, hc⟩ := how.form
    exact ⟨A, _, c, by rw [e0], b, fun _ => ⟨hck, hend, rfl, hc, how.rd⟩, fun h => absurd e0 h⟩
end Go.Proofs.Ytkkjnahjmomjgaa
/- How much can be wrong of words (pure); check.Right of any words. Conditions: lengths. -/
namespace Go.Proofs.Ytkkjnahjmomjgaa
set_option linter.unusedVariables false
set_option linter.unusedSimpArgs false
open Go.RowKit Go.Maps
set_option maxHeartbeats 1000000
theorem ptrF_leB (ws : List (BitVec 64)) (p : List Nat) (a : Nat) : ∀ n k, (ptrF ws p a n k).length ≤ n
  | 0, k => Nat.le_refl _
  | n + 1, k => by
    have h := ptrF_leB ws p a n (k + 1)
    unfold ptrF
    split
    · omega
    · rw [List.length_cons]; omega
theorem padF_leB (ws : List (BitVec 64)) (a : Nat) : (padF ws a).length ≤ 1 := by
  unfold padF
  split
  · exact Nat.zero_le _
  · exact Nat.le_refl _
theorem allE_leB (ws : List (BitVec 64)) (t : Nat) (p : List Nat) : ∀ (n a : Nat), (allE ws p (foundN ws t n a).1).length ≤ t - a
  | 0, a => Nat.zero_le _
  | n + 1, a => by
    unfold foundN
    by_cases h1 : a < t
    · rw [if_pos h1]
      by_cases h2 : goodX (ws.getD a 0#64) (t - a) = true
      · rw [if_pos h2]
        have h3 := allE_leB ws t p n (a + szX (ws.getD a 0#64))
        obtain ⟨_, _, _, hs, _, hm⟩ := head_of h2
        have h4 := ptrF_leB ws p a (P0 (ws.getD a 0#64)) 0
        have h5 := padF_leB ws a
        show (objE ws p a ++ allE ws p (foundN ws t n (a + szX (ws.getD a 0#64))).1).length ≤ _
        unfold objE
        rw [List.length_append, List.length_append]
        omega
      · rw [if_neg h2]
        exact Nat.zero_le _
    · rw [if_neg h1]
      exact Nat.zero_le _
theorem rootF_leB (ws : List (BitVec 64)) (p : List Nat) : ∀ (n i : Nat) (ab : ByteArray), (rootF ws p n i ab).length ≤ 2 * n
  | 0, _, _ => Nat.le_refl _
  | n + 1, i, ab => by
    have h := rootF_leB ws p n (i + 1) (if nmOk (nmAt ws i) = true then nmS ws i else ab)
    unfold rootF rootE
    rw [List.length_append, List.length_append]
    have h1 : (if nmOk (nmAt ws i) = true ∧ lessS (nmS ws i) ab = false then [] else [(2 + 5 * i, nameS)]).length ≤ 1 := by split <;> simp
    have h2 : (if leadB ws p (2 + 5 * i + 4) = true then [] else [(2 + 5 * i + 4, rootS)]).length ≤ 1 := by split <;> simp
    omega
theorem imgF_leB {ws : List (BitVec 64)} (h : ws.length ≤ 300) : (imgF ws).length ≤ 5000 := by
  unfold imgF
  rw [List.length_append]
  have h1 : (magF ws).length ≤ 1 := by unfold magF; split <;> simp
  by_cases hok : szOk ws = true
  · rw [if_pos hok]
    obtain ⟨_, _, _, s4, _⟩ := of_decide_eq_true hok
    unfold insF
    rw [List.length_append, List.length_append]
    have h2 := allE_leB ws ws.length (foundN ws ws.length (ws.length + 1) (2 + 5 * nRt ws)).1 (ws.length + 1) (2 + 5 * nRt ws)
    have h3 := rootF_leB ws (foundN ws ws.length (ws.length + 1) (2 + 5 * nRt ws)).1 (nRt ws) 0 ⟨#[]⟩
    have h4 : ∀ o : Option Nat, (badF o).length ≤ 1 := fun o => by cases o <;> simp [badF]
    have h5 := h4 (foundN ws ws.length (ws.length + 1) (2 + 5 * nRt ws)).2
    omega
  · rw [if_neg hok]
    simp
    omega
end Go.Proofs.Ytkkjnahjmomjgaa
/- How an argument of type []uint64 is opened. No conditions. -/
namespace Go.Proofs.Ytkkjnahjmomjgaa
set_option linter.unusedVariables false
set_option linter.unusedSimpArgs false
open Go.ChangeShapes Go.WideShapes Go.ChangeAt Go.RowKit
theorem open_words {H : Type} {enc : TypeId × Value → H} {P : Program} {W : World} {base : Nat} {sp : Nat → Bool} {hd : Bool} {r : Reach} {b0 : Nat} {t e : TypeId} {v : Value} {d : DataW H} {p : List MemPlace}
    (ht : P.underlying t = some (.slice e)) (he : P.underlying e = some (.int .u64)) (hc : P.cellsOf e = 1)
    (hv : Value.okWide P W r b0 t v) (h : DataW.Trod enc P W base sp hd t v d p) :
    ∃ (A : Option Addr) (bs : List (BitVec 64)) (c : Nat), v = .slice A bs.length c ∧ bs.length ≤ c ∧ c ≤ maxLen ∧ Rd u64v W W.heap.size A bs := by
  obtain ⟨a0, len, cap, rfl⟩ := okWide_slice ht hv
  obtain ⟨fuel, hf⟩ := h
  rcases open_ints ht he hc hf with ⟨hcs, _⟩ | ⟨x, l, c, zs, hcs, _, hl, hm, hz, _, hcell, hwz⟩
  · simp [Value.cells] at hcs
    obtain ⟨rfl, rfl, rfl⟩ := hcs
    exact ⟨none, [], 0, rfl, Nat.le_refl _, by simp [maxLen], Rd.nil⟩
  · simp [Value.cells] at hcs
    obtain ⟨rfl, rfl, rfl⟩ := hcs
    have hlen : len ≤ zs.length := by rw [hz]; split <;> omega
    refine ⟨some x, (zs.take len).map (BitVec.ofInt 64), cap, by simp; omega, by simp; omega, hm, fun j hj => ?_⟩
    have hj' : j < len := by simp at hj; omega
    have hc1 := hcell j (by omega)
    have hb := cell_lt hc1
    rw [add_block] at hb
    refine ⟨x, rfl, hb, ?_⟩
    rw [hc1]
    have hw := hwz (zs.getD j 0) (by rw [List.getD_eq_getElem?_getD, List.getElem?_eq_getElem (by omega)]; exact List.getElem_mem _)
    rw [wfu64 hw]
    have e : zs.getD j 0 = zs[j]'(by omega) := by rw [List.getD_eq_getElem?_getD, List.getElem?_eq_getElem (by omega)]; rfl
    rw [e]
    simp [u64v]
end Go.Proofs.Ytkkjnahjmomjgaa
