/- Texts joined: GtD GrJ GrK OpenR OpenG GtE GuD GuF. -/
import Derived.Test.YtdppnggchpchgaaDoorCe4
import Derived.Test.YtdppnggchpchgaaDoorFrame
import Derived.Deep.Slices
import Derived.Deep.Fields
import Derived.Test.YtdppnggchpchgaaDoorGrA
/- Stores into the rows of nodes of one's own. No conditions. -/
namespace Go.Proofs.YtdppnggchpchgaaDoor
set_option linter.unusedVariables false
set_option linter.unusedSimpArgs false
open Go.RowKit Go.Maps
def Nv.bl (x : Nv) : List Nat := x.vp.ownBlock.toList ++ x.vd.ownBlock.toList
theorem blksN_cons (x : Nv) (xs : List Nv) : blksN (x :: xs) = x.bl ++ blksN xs := rfl
theorem bl_mem {xs : List Nv} {i : Nat} {x : Nv} (h : xs[i]? = some x) {c : Nat} (hc : c ∈ x.bl) : c ∈ blksN xs := by
  obtain ⟨hi, rfl⟩ := List.getElem?_eq_some_iff.1 h
  exact List.mem_flatMap.2 ⟨_, List.getElem_mem _, hc⟩
theorem bl_ne : ∀ {xs : List Nv} {i j : Nat} {x y : Nv} {c : Nat}, (blksN xs).Nodup → xs[i]? = some x → xs[j]? = some y → i ≠ j → c ∈ x.bl → c ∉ y.bl
  | [], i, j, x, y, c, _, h, _, _, _ => by simp at h
  | a :: l, 0, 0, x, y, c, _, _, _, hn, _ => absurd rfl hn
  | a :: l, 0, j + 1, x, y, c, hd, hx, hy, _, hc => fun hc2 => by
    rw [blksN_cons, List.nodup_append] at hd
    obtain rfl : a = x := by simpa using hx
    exact hd.2.2 c hc c (bl_mem (by simpa using hy) hc2) rfl
  | a :: l, i + 1, 0, x, y, c, hd, hx, hy, _, hc => fun hc2 => by
    rw [blksN_cons, List.nodup_append] at hd
    obtain rfl : a = y := by simpa using hy
    exact hd.2.2 c hc2 c (bl_mem (by simpa using hx) hc) rfl
  | a :: l, i + 1, j + 1, x, y, c, hd, hx, hy, hn, hc => by
    rw [blksN_cons, List.nodup_append] at hd
    exact bl_ne hd.2.1 (by simpa using hx) (by simpa using hy) (by omega) hc
theorem set_flat {β : Type} (f : Nv → List β) : ∀ (xs : List Nv) (i : Nat) (x y : Nv), xs[i]? = some x → f y = f x → (xs.set i y).flatMap f = xs.flatMap f
  | [], i, x, y, h, _ => by simp at h
  | a :: l, 0, x, y, h, e => by
    obtain rfl : a = x := by simpa using h
    simp [e]
  | a :: l, i + 1, x, y, h, e => by
    rw [List.set_cons_succ, List.flatMap_cons, List.flatMap_cons, set_flat f l i x y (by simpa using h) e]
section
variable {W W' : World} {base : Nat} {v : Value} {xs : List Nv} {i : Nat} {x y : Nv} {q : Nat}
/-- One of a node's two rows turns in place: its block is no other row's. -/
theorem NOwn.turn (h : NOwn W base v xs) (hx : xs[i]? = some x) (hp : y.vp = x.vp) (hd : y.vd = x.vd) (hq : q ∈ x.bl) (hg : W.grownBy W' (some q))
    (he : Ow iV 3 W' base y.vp y.ps ∧ Ow b8 5 W' base y.vd y.bs) : NOwn W' base v (xs.set i y) := by
  have hnd := List.nodup_append.1 h.dist
  have hqv : ∀ c, v.ownBlock = some c → c ≠ q := fun c e e2 => hnd.2.2 c (by simp [e]) q (bl_mem hx hq) e2
  have key : ∀ u : Value, (∀ c, u.ownBlock = some c → c ≠ q) → u.ownBlock = none ∨ u.ownBlock ≠ some q := fun u hu => by
    cases e : u.ownBlock with
    | none => exact .inl rfl
    | some k => exact .inr (fun e2 => hu k e (by injection e2))
  refine ⟨?_, fun z hz => ?_, ?_⟩
  · rw [List.length_set, set_flat Nv.cs xs i x y hx (by unfold Nv.cs; rw [hp, hd])]
    exact World.ownsRow.kept h.row hg (key _ hqv)
  · obtain ⟨j, hj, rfl⟩ := List.mem_iff_getElem.1 hz
    rw [List.length_set] at hj
    by_cases e : i = j
    · subst e
      rw [List.getElem_set_self]
      exact he
    · rw [List.getElem_set_ne e]
      obtain ⟨g1, g2⟩ := h.each _ (List.getElem_mem hj)
      have hno := fun c (hc : c ∈ (xs[j]).bl) => bl_ne hnd.2.1 (List.getElem?_eq_getElem hj) hx (fun e2 => e e2.symm) hc
      refine ⟨g1.kept hg (key _ fun c hc e2 => hno c (by unfold Nv.bl; simp [hc]) (by rw [e2]; exact hq)), g2.kept hg (key _ fun c hc e2 => hno c (by unfold Nv.bl; simp [hc]) (by rw [e2]; exact hq))⟩
  · have : blksN (xs.set i y) = blksN xs := set_flat _ xs i x y hx (by rw [hp, hd])
    rw [this]; exact h.dist
theorem NOwn.setB (h : NOwn W base v xs) (hx : xs[i]? = some x) {j : Nat} (hj : j < x.bs.length) (hA : x.D = some ⟨q, 0, none⟩) (z : BitVec 8) : NOwn (W.setCell ⟨q, j, none⟩ (b8 z)) base v (xs.set i { x with bs := x.bs.set j z }) := by
  obtain ⟨hi, rfl⟩ := List.getElem?_eq_some_iff.1 hx
  obtain ⟨g1, g2⟩ := h.each _ (List.getElem_mem hi)
  have hnd := List.nodup_append.1 h.dist
  have hqd : (xs[i]).vd.ownBlock = some q := by unfold Nv.vd; rw [hA]; rfl
  have hqp : ∀ c, (xs[i]).vp.ownBlock = some c → c ≠ q := fun c e e2 => by
    obtain ⟨a, b, ha⟩ : ∃ a b, xs = a ++ xs[i] :: b := ⟨xs.take i, xs.drop (i + 1), by rw [List.getElem_cons_drop, List.take_append_drop]⟩
    have h2 := hnd.2.1
    rw [ha, blks_app, blksN_cons] at h2
    have h3 := (List.nodup_append.1 (List.nodup_append.1 (List.nodup_append.1 h2).2.1).1).2.2
    exact h3 c (by simp [e]) q (by simp [hqd]) e2
  have e1 : (xs[i]).vd = .slice (some ⟨q, 0, none⟩) (xs[i]).bs.length (xs[i]).d := by unfold Nv.vd; rw [hA]
  refine h.turn hx rfl (by unfold Nv.vd; simp) (q := q) (by unfold Nv.bl; simp [hqd]) (grown_set W ⟨q, j, none⟩ _) ⟨?_, ?_⟩
  · refine g1.kept (grown_set W ⟨q, j, none⟩ _) ?_
    cases e : (xs[i]).vp.ownBlock with
    | none => exact .inl rfl
    | some c => exact .inr (fun e2 => hqp c e (by injection e2))
  · rw [e1] at g2
    have := g2.set hj z
    unfold Nv.vd
    simp only [List.length_set]
    rw [hA]
    exact this
theorem NOwn.setP (h : NOwn W base v xs) (hx : xs[i]? = some x) {j : Nat} (hj : j < x.ps.length) (hA : x.A = some ⟨q, 0, none⟩) (z : Int) : NOwn (W.setCell ⟨q, j, none⟩ (iV z)) base v (xs.set i { x with ps := x.ps.set j z }) := by
  obtain ⟨hi, rfl⟩ := List.getElem?_eq_some_iff.1 hx
  obtain ⟨g1, g2⟩ := h.each _ (List.getElem_mem hi)
  have hnd := List.nodup_append.1 h.dist
  have hqp : (xs[i]).vp.ownBlock = some q := by unfold Nv.vp; rw [hA]; rfl
  have hqd : ∀ c, (xs[i]).vd.ownBlock = some c → c ≠ q := fun c e e2 => by
    obtain ⟨a, b, ha⟩ : ∃ a b, xs = a ++ xs[i] :: b := ⟨xs.take i, xs.drop (i + 1), by rw [List.getElem_cons_drop, List.take_append_drop]⟩
    have h2 := hnd.2.1
    rw [ha, blks_app, blksN_cons] at h2
    have h3 := (List.nodup_append.1 (List.nodup_append.1 (List.nodup_append.1 h2).2.1).1).2.2
    exact h3 q (by simp [hqp]) c (by simp [e]) e2.symm
  have e1 : (xs[i]).vp = .slice (some ⟨q, 0, none⟩) (xs[i]).ps.length (xs[i]).c := by unfold Nv.vp; rw [hA]
  refine h.turn hx (by unfold Nv.vp; simp) rfl (q := q) (by unfold Nv.bl; simp [hqp]) (grown_set W ⟨q, j, none⟩ _) ⟨?_, ?_⟩
  · rw [e1] at g1
    have := g1.set hj z
    unfold Nv.vp
    simp only [List.length_set]
    rw [hA]
    exact this
  · refine g2.kept (grown_set W ⟨q, j, none⟩ _) ?_
    cases e : (xs[i]).vd.ownBlock with
    | none => exact .inl rfl
    | some c => exact .inr (fun e2 => hqd c e (by injection e2))
end
end Go.Proofs.YtdppnggchpchgaaDoor
/- The graph of loamlaw17.known: three nodes, one that nobody reaches. No conditions. -/
namespace Go.Proofs.YtdppnggchpchgaaDoor
set_option linter.unusedVariables false
set_option linter.unusedSimpArgs false
open Go.RowKit Go.Maps
def kN (s : Nat) : List Nv := [⟨some ⟨s, 0, none⟩, 1, none, 0, [2], []⟩, ⟨none, 0, some ⟨s + 1, 0, none⟩, 1, [], [120#8]⟩, ⟨none, 0, none, 0, [], []⟩]
def kR : List Rv := [⟨⟨#[97]⟩, 1⟩]
def kG (s : Nat) : Gv := ⟨some ⟨s + 1 + 1, 0, none⟩, 3, some ⟨s + 1 + 1 + 1, 0, none⟩, 1, kN s, kR⟩
/-- Behind the literal. -/
def kW (w : World) : World := (((((w.alloc (.cells #[.int .i64 2] 3)).alloc (.cells #[.int .u8 120] 5 (1, 2))).alloc
              (.cells #[.slice (some ⟨w.heap.size, 0, none⟩) 1 1, .slice none 0 0, .slice none 0 0, .slice (some ⟨w.heap.size + 1, 0, none⟩) 1 1, .slice none 0 0, .slice none 0 0] 52)).alloc
          (.cells #[.string ⟨#[97]⟩, .int .i64 1] 55)).alloc
      (.cells #[.slice (some ⟨w.heap.size + 1 + 1, 0, none⟩) 3 3, .slice (some ⟨w.heap.size + 1 + 1 + 1, 0, none⟩) 1 1] 25))
end Go.Proofs.YtdppnggchpchgaaDoor
/- What loamlaw17.known answers. No conditions. -/
namespace Go.Proofs.YtdppnggchpchgaaDoor
set_option linter.unusedVariables false
set_option linter.unusedSimpArgs false
open Go.RowKit Go.Maps
set_option maxHeartbeats 4000000
set_option maxRecDepth 100000
/-- What known holds, behind Trim and Reach. -/
structure KS (w W : World) (b2 q qr : Nat) (t : Gv) (M : Nat) : Prop where
  ga : (kG w.heap.size).At W W.heap.size
  ta : t.At W W.heap.size
  bx : Bk W (w.heap.size + 1 + 1 + 1 + 1) 25 #[.slice (some ⟨w.heap.size + 1 + 1, 0, none⟩) 3 3, .slice (some ⟨w.heap.size + 1 + 1 + 1, 0, none⟩) 1 1]
  by_ : Bk W b2 25 #[.slice t.A 2 t.c, .slice t.A2 M t.c2]
  to : Ow iV 3 W 0 (.slice (some ⟨q, 0, none⟩) 3 3) [1, 2, 0]
  re : Ow tV 4 W 0 (.slice (some ⟨qr, 0, none⟩) 3 3) [false, true, false]
  bl : Below w.heap.size w W
theorem KS.below {w W W' : World} {b2 q qr : Nat} {t : Gv} {M : Nat} (h : KS w W b2 q qr t M) (hb : Below W.heap.size W W') : KS w W' b2 q qr t M :=
  ⟨h.ga.up hb, h.ta.up hb, h.bx.below hb h.bx.lt, h.by_.below hb h.by_.lt, h.to.below hb, h.re.below hb, h.bl.trans (hb.mono h.bl.size)⟩
theorem KS.cells {w W : World} {b2 q qr : Nat} {t : Gv} {M : Nat} (h : KS w W b2 q qr t M) : W.cell? ⟨w.heap.size + 1 + 1 + 1 + 1, 0, none⟩ = some (.slice (some ⟨w.heap.size + 1 + 1, 0, none⟩) 3 3) ∧ W.cell? ⟨w.heap.size + 1 + 1 + 1 + 1, 1, none⟩ = some (.slice (some ⟨w.heap.size + 1 + 1 + 1, 0, none⟩) 1 1) ∧
    W.cell? ⟨b2, 0, none⟩ = some (.slice t.A 2 t.c) ∧ W.cell? ⟨b2, 1, none⟩ = some (.slice t.A2 M t.c2) ∧ W.cell? ⟨q, 1, none⟩ = some (.int .i64 2) ∧ W.cell? ⟨q, 2, none⟩ = some (.int .i64 0) ∧ W.cell? ⟨qr, 0, none⟩ = some (.bool false) ∧ W.cell? ⟨qr, 1, none⟩ = some (.bool true) :=
  ⟨h.bx.two.1, h.bx.two.2, h.by_.two.1, h.by_.two.2, h.to.cell (j := 1) (by decide), h.to.cell (j := 2) (by decide), h.re.cell (j := 0) (by decide), h.re.cell (j := 1) (by decide)⟩
theorem of_retK {P : Program} {f : FuncId} {args : Array Value} {v : Value} {w : World} (h : Calls P f args w (RetP v w)) : Calls P f args w fun e w2 => ∃ u, e = .returned u ∧ Below w.heap.size w w2 ∧ IsV v u w2 :=
  h.mono fun _ _ h => ⟨_, h.1, h.2, rfl⟩
def kA (w : World) : Value := .agg #[.slice (some ⟨w.heap.size + 1 + 1, 0, none⟩) 3 3, .slice (some ⟨w.heap.size + 1 + 1 + 1, 0, none⟩) 1 1]
def LenV (n : Nat) (v : Value) (_ : World) : Prop := ∃ A c, v = .slice A n c
theorem LenV.mono {n : Nat} {v : Value} {a b : World} (h : LenV n v a) (_ : Below a.heap.size a b) : LenV n v b := h
def TwV (w : World) (v : Value) (W : World) : Prop := ∃ g : Gv, v = .agg #[g.vn, g.vr] ∧ g.At W W.heap.size ∧ g.Small ∧ sameG g (kG w.heap.size) = true
theorem TwV.mono {w : World} {v : Value} {a b : World} (h : TwV w v a) (hb : Below a.heap.size a b) : TwV w v b := by
  obtain ⟨g, e, h1, h2⟩ := h
  exact ⟨g, e, h1.up hb, h2⟩
end Go.Proofs.YtdppnggchpchgaaDoor
/- How an argument that is a row of structs is opened. No conditions. -/
namespace Go.Proofs.YtdppnggchpchgaaDoor
set_option linter.unusedVariables false
set_option linter.unusedSimpArgs false
open Go.ChangeShapes Go.WideShapes Go.ChangeAt Go.RowKit
section
variable {H : Type} {enc : TypeId × Value → H} {P : Program} {w : World} {base : Nat} {spare : Nat → Bool} {held : Bool} {r : Reach} {b0 : Nat}
theorem cell_int {k : IntKind} {n : Nat} {t : TypeId} {u : Value} {y : DataW H × List MemPlace} (ht : P.underlying t = some (.int k)) (h : DataW.trod enc P w base spare held n t [u] = some y) : ∃ a, u = .int k a ∧ (Lit.int k a).wf = true := by
  obtain ⟨a, h, _, hw⟩ := DataW.trod_int ht h
  exact ⟨a, by simpa using h, hw⟩
/-- A cell that is a slice of numbers. -/
theorem cell_nums {α : Type} (f : α → Value) {k : IntKind} {n : Nat} {t e : TypeId} {u : Value} {y : DataW H × List MemPlace} (hf : ∀ z : Int, (Lit.int k z).wf = true → ∃ a, f a = .int k z) (ht : P.underlying t = some (.slice e)) (he : P.underlying e = some (.int k)) (hc : P.cellsOf e = 1) (h : DataW.trod enc P w base spare held n t [u] = some y) :
    ∃ (A : Option Addr) (bs : List α) (c : Nat), u = .slice A bs.length c ∧ bs.length ≤ c ∧ c ≤ maxLen ∧ Rd f w w.heap.size A bs := by
  rcases open_ints ht he hc h with ⟨hcs, _⟩ | ⟨x, l, c, zs, hcs, _, hl, hm, hz, _, hcell, hwz⟩
  · have hu : u = .slice none 0 0 := by simpa using hcs
    exact ⟨none, [], 0, hu, Nat.le_refl _, by simp [maxLen], Rd.nil⟩
  · have hu : u = .slice (some x) l c := by simpa using hcs
    have hlen : l ≤ zs.length := by rw [hz]; split <;> omega
    have : ∃ bs : List α, bs.length = l ∧ ∀ j (h : j < bs.length), f bs[j] = .int k (zs.getD j 0) := by
      have hk : ∀ m, m ≤ l → ∃ bs : List α, bs.length = m ∧ ∀ j (h : j < bs.length), f bs[j] = .int k (zs.getD j 0) := by
        intro m
        induction m with
        | zero => intro _; exact ⟨[], rfl, fun j h => absurd h (by simp)⟩
        | succ m ih =>
          intro hm
          obtain ⟨bs, hb, hp⟩ := ih (by omega)
          obtain ⟨a, ha⟩ := hf (zs.getD m 0) (hwz _ (by rw [List.getD_eq_getElem?_getD, List.getElem?_eq_getElem (by omega)]; exact List.getElem_mem _))
          refine ⟨bs ++ [a], by simp [hb], fun j hj => ?_⟩
          rw [List.getElem_append]
          split
          · exact hp j _
          · have : j = m := by simp at hj; omega
            subst this
            simpa using ha
      exact hk l (Nat.le_refl _)
    obtain ⟨bs, hb, hp⟩ := this
    refine ⟨some x, bs, c, by rw [hb]; exact hu, by omega, hm, fun j hj => ?_⟩
    have hc1 := hcell j (by omega)
    have hbk := cell_lt hc1
    rw [add_block] at hbk
    exact ⟨x, rfl, hbk, by rw [hc1, hp j hj]⟩
end
theorem choose_lst {α : Type} {p : Nat → α → Prop} : ∀ n : Nat, (∀ r, r < n → ∃ x, p r x) → ∃ l : List α, l.length = n ∧ ∀ r (h : r < l.length), p r l[r]
  | 0, _ => ⟨[], rfl, fun r h => absurd h (by simp)⟩
  | n + 1, h => by
    obtain ⟨l, hl, hp⟩ := choose_lst n fun r hr => h r (by omega)
    obtain ⟨x, hx⟩ := h n (by omega)
    refine ⟨l ++ [x], by simp [hl], fun r hr => ?_⟩
    rw [List.getElem_append]
    split
    · exact hp r _
    · have : r = n := by simp at hr; omega
      subst this
      simpa using hx
theorem num8 : ∀ z : Int, (Lit.int .u8 z).wf = true → ∃ a : BitVec 8, b8 a = .int .u8 z := fun z h => ⟨_, by unfold b8; rw [← wfu8 h]⟩
set_option maxRecDepth 100000
theorem add_far (a : Addr) (m j : Nat) : a.add (m + (j + 1)) = ⟨(a.add m).block, (a.add m).off + (j + 1), none⟩ := by
  rw [← add_add']
  rfl
/-- One of CodeBack's items. -/
structure Itm where
  op : Int
  u : BitVec 64
  i : BitVec 64
  ba : Option Addr
  bb : List (BitVec 8)
  bc : Nat
  wa : Option Addr
  ww : List (BitVec 64)
  wc : Nat
structure ItmAt (W : World) (B : Nat) (ad : Addr) (k : Nat) (x : Itm) : Prop where
  blk : ad.block < B
  op : W.cell? (ad.add (k * 5)) = some (.int .i64 x.op)
  u : W.cell? ⟨(ad.add (k * 5)).block, (ad.add (k * 5)).off + 1, none⟩ = some (.int .u64 (U64 x.u))
  i : W.cell? ⟨(ad.add (k * 5)).block, (ad.add (k * 5)).off + 2, none⟩ = some (.int .i64 (I64 x.i))
  b : W.cell? ⟨(ad.add (k * 5)).block, (ad.add (k * 5)).off + 3, none⟩ = some (.slice x.ba x.bb.length x.bc)
  w : W.cell? ⟨(ad.add (k * 5)).block, (ad.add (k * 5)).off + 4, none⟩ = some (.slice x.wa x.ww.length x.wc)
  bbc : x.bb.length ≤ x.bc
  wwc : x.ww.length ≤ x.wc
  br : Rd b8 W B x.ba x.bb
  wr : Rd (fun a => Value.int .u64 (U64 a)) W B x.wa x.ww
def Its (W : World) (B : Nat) (A : Option Addr) (l : List Itm) : Prop := ∀ k (h : k < l.length), ∃ ad, A = some ad ∧ ItmAt W B ad k l[k]
/-- One of MemPlays' acts. -/
structure Ac where
  op : Int
  at_ : Int
  fr : Int
  n : Int
  u : BitVec 64
  ba : Option Addr
  bb : List (BitVec 8)
  bc : Nat
structure AcAt (W : World) (B : Nat) (ad : Addr) (k : Nat) (x : Ac) : Prop where
  blk : ad.block < B
  op : W.cell? (ad.add (k * 6)) = some (.int .i64 x.op)
  at_ : W.cell? ⟨(ad.add (k * 6)).block, (ad.add (k * 6)).off + 1, none⟩ = some (.int .i64 x.at_)
  fr : W.cell? ⟨(ad.add (k * 6)).block, (ad.add (k * 6)).off + 2, none⟩ = some (.int .i64 x.fr)
  n : W.cell? ⟨(ad.add (k * 6)).block, (ad.add (k * 6)).off + 3, none⟩ = some (.int .i64 x.n)
  u : W.cell? ⟨(ad.add (k * 6)).block, (ad.add (k * 6)).off + 4, none⟩ = some (.int .u64 (U64 x.u))
  b : W.cell? ⟨(ad.add (k * 6)).block, (ad.add (k * 6)).off + 5, none⟩ = some (.slice x.ba x.bb.length x.bc)
  w0 : (Lit.int .i64 x.op).wf = true
  w1 : (Lit.int .i64 x.at_).wf = true
  w2 : (Lit.int .i64 x.fr).wf = true
  w3 : (Lit.int .i64 x.n).wf = true
  bbc : x.bb.length ≤ x.bc
  bcm : x.bc ≤ maxLen
  br : Rd b8 W B x.ba x.bb
def Acs (W : World) (B : Nat) (A : Option Addr) (l : List Ac) : Prop := ∀ k (h : k < l.length), ∃ ad, A = some ad ∧ AcAt W B ad k l[k]
theorem Acs.below {W W' : World} {B : Nat} {A : Option Addr} {l : List Ac} (h : Acs W B A l) (hb : Below B W W') : Acs W' B A l := fun k hk => by
  obtain ⟨ad, e, m⟩ := h k hk
  have hbk : (ad.add (k * 6)).block < B := by rw [add_block]; exact m.blk
  have c : ∀ j, W'.cell? ⟨(ad.add (k * 6)).block, (ad.add (k * 6)).off + j, none⟩ = W.cell? ⟨(ad.add (k * 6)).block, (ad.add (k * 6)).off + j, none⟩ := fun j => hb.cell (p := ⟨(ad.add (k * 6)).block, (ad.add (k * 6)).off + j, none⟩) hbk
  exact ⟨ad, e, m.blk, (hb.cell hbk).trans m.op, (c _).trans m.at_, (c _).trans m.fr, (c _).trans m.n, (c _).trans m.u, (c _).trans m.b, m.w0, m.w1, m.w2, m.w3, m.bbc, m.bcm, m.br.below hb⟩
end Go.Proofs.YtdppnggchpchgaaDoor
/- How an argument that is a graph is opened. No conditions. -/
namespace Go.Proofs.YtdppnggchpchgaaDoor
set_option linter.unusedVariables false
set_option linter.unusedSimpArgs false
open Go.ChangeShapes Go.WideShapes Go.ChangeAt Go.RowKit
set_option maxRecDepth 100000
section
variable {H : Type} {enc : TypeId × Value → H} {P : Program} {w : World} {base : Nat} {spare : Nat → Bool} {held : Bool}
/-- A cell that is a slice of structs of one-cell fields. -/
theorem cell_rows {t e : TypeId} {fs : Array Field} {K n0 : Nat} {u : Value} {y : DataW H × List MemPlace} (ht : P.underlying t = some (.slice e)) (he : P.underlying e = some (.struct fs)) (hone : Go.Deep.oneCellFields P fs = true) (hC : P.cellsOf e = K) (hK : fs.size = K)
    (hf : DataW.trod enc P w base spare held n0 t [u] = some y) :
    ∃ (A : Option Addr) (n c : Nat), u = .slice A n c ∧ n ≤ c ∧ c ≤ maxLen ∧ ∀ i, i < n → ∃ ad m, A = some ad ∧ ∀ j f, fs[j]? = some f → ∃ u y, w.cell? (ad.add (i * K + j)) = some u ∧ DataW.trod enc P w base spare held m f.type [u] = some y := by
  rcases Go.Deep.open_slice ht hf with ⟨hcs, _⟩ | ⟨a, len', cap', m, n', D, Pl, hcs, hb, hl, hm, hmm, hx, hrow⟩
  · have hu : u = .slice none 0 0 := by simpa using hcs
    exact ⟨none, 0, 0, hu, Nat.le_refl _, by simp [maxLen], fun i hi => absurd hi (by omega)⟩
  · have hu : u = .slice (some a) len' cap' := by simpa using hcs
    refine ⟨some a, len', cap', hu, hl, hm, fun i hi => ?_⟩
    obtain ⟨cs', h1, h2⟩ := hrow i (by rw [hmm]; split <;> omega)
    obtain ⟨_, hlen, hcell⟩ := World.cells?_some h1
    obtain ⟨xs, n2, _, _, hl2, hlen2, hfs⟩ := DataW.trod_struct he h2
    refine ⟨a, n2, rfl, fun j f hj => ?_⟩
    obtain ⟨ho, h1c⟩ := Go.Deep.hone_of hone j f hj
    have hjk : j < fs.size := (Array.getElem?_eq_some_iff.1 hj).1
    have hjl : j < cs'.length := by omega
    have hfj := hfs j f hj
    have e1 : (cs'.drop f.offset).take (P.cellsOf f.type) = [cs'[j]] := by
      rw [ho, h1c, List.drop_eq_getElem_cons hjl]
      rfl
    rw [e1, List.getElem?_eq_getElem (by omega)] at hfj
    refine ⟨cs'[j], _, ?_, hfj⟩
    have := hcell j (by omega)
    rw [List.getElem?_eq_getElem hjl, add_add', hC] at this
    exact this
theorem cell_str {n : Nat} {t : TypeId} {u : Value} {y : DataW H × List MemPlace} (ht : P.underlying t = some .string) (h : DataW.trod enc P w base spare held n t [u] = some y) : ∃ s : ByteArray, u = .string s ∧ s.size ≤ maxLen := by
  obtain ⟨s, h, _, hw⟩ := DataW.trod_string ht h
  exact ⟨s, by simpa using h, hw⟩
end
theorem numI : ∀ z : Int, (Lit.int .i64 z).wf = true → ∃ a : Int, iV a = .int .i64 z := fun z _ => ⟨z, rfl⟩
/-- A graph that came in. -/
structure GvOk (W : World) (g : Gv) : Prop where
  at_ : g.At W W.heap.size
  cn : g.c ≤ maxLen
  cr : g.c2 ≤ maxLen
  nd : ∀ x ∈ g.n, x.c ≤ maxLen ∧ x.d ≤ maxLen
  st : ∀ r ∈ g.r, r.s.size ≤ maxLen ∧ (Lit.int .i64 r.t).wf = true
theorem GvOk.up {W W' : World} {g : Gv} (h : GvOk W g) (hb : Below W.heap.size W W') : GvOk W' g := ⟨h.at_.up hb, h.cn, h.cr, h.nd, h.st⟩
section
variable {H : Type} {enc : TypeId × Value → H} {W : World} {base : Nat} {sp : Nat → Bool} {hd : Bool}
theorem cell_nodes {n0 : Nat} {u : Value} {y : DataW H × List MemPlace} (h : DataW.trod enc Tryd.prog W base sp hd n0 22 [u] = some y) : ∃ (A : Option Addr) (xs : List Nv) (c : Nat), u = .slice A xs.length c ∧ xs.length ≤ c ∧ c ≤ maxLen ∧ NRow W W.heap.size A xs ∧ ∀ x ∈ xs, x.c ≤ maxLen ∧ x.d ≤ maxLen := by
  have he := Tryd.underlying52
  obtain ⟨A, n, c, rfl, hn, hm, hrow⟩ := cell_rows (K := 2) Tryd.underlying22 he (by kernel_rfl) (by kernel_rfl) rfl h
  obtain ⟨l, hl, hp⟩ := choose_lst (α := Nv) (p := fun i x => ∃ ad, A = some ad ∧ ad.block < W.heap.size ∧ W.cell? (ad.add (i * 2)) = some x.vp ∧ W.cell? ⟨(ad.add (i * 2)).block, (ad.add (i * 2)).off + 1, none⟩ = some x.vd ∧ x.At W W.heap.size ∧ x.c ≤ maxLen ∧ x.d ≤ maxLen) n (fun k hk => by
    obtain ⟨ad, m, e, hf⟩ := hrow k hk
    obtain ⟨u0, y0, c0, t0⟩ := hf 0 _ rfl
    obtain ⟨u1, y1, c1, t1⟩ := hf 1 _ rfl
    obtain ⟨A0, b0, n0, rfl, h0, hm0, r0⟩ := cell_nums iV (k := .i64) (e := 3) numI (by kernel_rfl) (by kernel_rfl) (by kernel_rfl) t0
    obtain ⟨A1, b1, n1, rfl, h1, hm1, r1⟩ := cell_nums b8 (k := .u8) (e := 5) num8 (by kernel_rfl) (by kernel_rfl) (by kernel_rfl) t1
    have hb := cell_lt c0
    rw [add_block] at hb
    exact ⟨⟨A0, n0, A1, n1, b0, b1⟩, ad, e, hb, c0, (congrArg W.cell? (add_far ad (k * 2) 0)).symm.trans c1, ⟨r0, r1, h0, h1⟩, hm0, hm1⟩)
  subst hl
  refine ⟨A, l, c, rfl, hn, hm, fun i hi => ?_, fun x hx => ?_⟩
  · obtain ⟨ad, h1, h2, h3, h4, h5, _⟩ := hp i hi
    exact ⟨ad, h1, h2, h3, h4, h5⟩
  · obtain ⟨i, hi, rfl⟩ := List.mem_iff_getElem.1 hx
    obtain ⟨ad, h1, h2, h3, h4, h5, h6⟩ := hp i hi
    exact h6
theorem cell_roots {n0 : Nat} {u : Value} {y : DataW H × List MemPlace} (h : DataW.trod enc Tryd.prog W base sp hd n0 23 [u] = some y) : ∃ (A : Option Addr) (xs : List Rv) (c : Nat), u = .slice A xs.length c ∧ xs.length ≤ c ∧ c ≤ maxLen ∧ RoRow W W.heap.size A xs ∧ ∀ x ∈ xs, x.s.size ≤ maxLen ∧ (Lit.int .i64 x.t).wf = true := by
  have he := Tryd.underlying55
  obtain ⟨A, n, c, rfl, hn, hm, hrow⟩ := cell_rows (K := 2) Tryd.underlying23 he (by kernel_rfl) (by kernel_rfl) rfl h
  obtain ⟨l, hl, hp⟩ := choose_lst (α := Rv) (p := fun i x => ∃ ad, A = some ad ∧ ad.block < W.heap.size ∧ W.cell? (ad.add (i * 2)) = some (.string x.s) ∧ W.cell? ⟨(ad.add (i * 2)).block, (ad.add (i * 2)).off + 1, none⟩ = some (.int .i64 x.t) ∧ x.s.size ≤ maxLen ∧ (Lit.int .i64 x.t).wf = true) n (fun k hk => by
    obtain ⟨ad, m, e, hf⟩ := hrow k hk
    obtain ⟨u0, y0, c0, t0⟩ := hf 0 _ rfl
    obtain ⟨u1, y1, c1, t1⟩ := hf 1 _ rfl
    obtain ⟨s, rfl, hs⟩ := cell_str (by kernel_rfl) t0
    obtain ⟨z, rfl, hz⟩ := cell_int (k := .i64) (by kernel_rfl) t1
    have hb := cell_lt c0
    rw [add_block] at hb
    exact ⟨⟨s, z⟩, ad, e, hb, c0, (congrArg W.cell? (add_far ad (k * 2) 0)).symm.trans c1, hs, hz⟩)
  subst hl
  refine ⟨A, l, c, rfl, hn, hm, fun i hi => ?_, fun x hx => ?_⟩
  · obtain ⟨ad, h1, h2, h3, h4, _⟩ := hp i hi
    exact ⟨ad, h1, h2, h3, h4⟩
  · obtain ⟨i, hi, rfl⟩ := List.mem_iff_getElem.1 hx
    obtain ⟨ad, h1, h2, h3, h4, h6⟩ := hp i hi
    exact h6
theorem open_str_Graph {r : Reach} {b0 : Nat} {v : Value} {d : DataW H} {p : List MemPlace}
    (hv : Value.okWide Tryd.prog W r b0 25 v) (h : DataW.Trod enc Tryd.prog W base sp hd 25 v d p) : ∃ g : Gv, v = g.v ∧ GvOk W g := by
  obtain ⟨cs, rfl, hsz⟩ := okWide_struct Tryd.underlying25 hv
  obtain ⟨l⟩ := cs
  obtain ⟨fuel, hf⟩ := h
  have k2 : Tryd.prog.cellsOf 25 = 2 := by kernel_rfl
  have kN : Tryd.prog.cellsOf 22 = 1 := by kernel_rfl
  have kR : Tryd.prog.cellsOf 23 = 1 := by kernel_rfl
  obtain ⟨xs, m, _, hx, hl, hlen, hg⟩ := DataW.trod_struct Tryd.underlying25 hf
  have hl2 : l.length = 2 := by
    have := hl.trans k2
    simpa [Value.cells] using this
  match l, hl2 with
  | [c0, c1], _ =>
    match xs, hlen with
    | [y0, y1], _ =>
      have g0 := hg 0 _ rfl
      have g1 := hg 1 _ rfl
      simp only [Value.cells, kN, kR, List.drop_zero, List.drop_succ_cons, List.take_succ_cons, List.take_zero, List.getElem?_cons_zero, List.getElem?_cons_succ] at g0 g1
      obtain ⟨A0, x0, n0, rfl, h0, hm0, r0, w0⟩ := cell_nodes g0
      obtain ⟨A1, x1, n1, rfl, h1, hm1, r1, w1⟩ := cell_roots g1
      exact ⟨⟨A0, n0, A1, n1, x0, x1⟩, rfl, ⟨⟨r0, r1, h0, h1⟩, hm0, hm1, w0, w1⟩⟩
end
end Go.Proofs.YtdppnggchpchgaaDoor
/- GraphTwo: its regions, and what it works on. No conditions. -/
namespace Go.Proofs.YtdppnggchpchgaaDoor
set_option linter.unusedVariables false
set_option linter.unusedSimpArgs false
open Go.RowKit Go.Maps
theorem type_ne2 {W : World} {q k E F : Nat} {cs ds : Array Value} {m n : Nat × Nat} (h : W.heap[q]? = some (.cells cs E m)) (h2 : W.heap[k]? = some (.cells ds F n)) (hne : E ≠ F) : q ≠ k := fun e => by
  subst e
  rw [h] at h2
  injection h2 with h2
  injection h2 with _ h3
  exact hne h3
theorem ow_blk2 {α : Type} {f : α → Value} {E : TypeId} {W : World} {base q n c : Nat} {xs : List α} (h : Ow f E W base (.slice (some ⟨q, 0, none⟩) n c) xs) : ∃ cs m, W.heap[q]? = some (.cells cs E m) := by
  rcases h.2 with ⟨e, _⟩ | ⟨g, cap, cur, e, _, hh, _⟩
  · cases e
  · injection e with e
    injection e with e
    injection e with e
    subst e
    exact ⟨_, _, hh⟩
theorem FewP.same {a c : Gv} (h : FewP a) (h1 : c.n.map Nv.m = a.n.map Nv.m) (h2 : c.r = a.r) : FewP c := by
  refine ⟨?_, by rw [h2]; exact h.2.1, fun x hx => ?_, by rw [h2]; exact h.2.2.2⟩
  · have := congrArg List.length h1
    rw [List.length_map, List.length_map] at this
    rw [this]; exact h.1
  · have hm : x.m ∈ c.n.map Nv.m := List.mem_map.2 ⟨x, hx, rfl⟩
    rw [h1] at hm
    obtain ⟨y, hy, e⟩ := List.mem_map.1 hm
    have := h.2.2.1 y hy
    unfold Nv.m at e
    injection e with e1 e2
    rw [← e1, ← e2]
    exact this
def OfV (g : Gv) (v : Value) (W : World) : Prop := ∃ g' : Gv, v = g'.v ∧ g'.At W W.heap.size ∧ g'.n = g.n ∧ g'.r = g.r
theorem OfV.mono {g : Gv} {v : Value} {a b : World} (h : OfV g v a) (hb : Below a.heap.size a b) : OfV g v b := by
  obtain ⟨g', e, h1, h2⟩ := h
  exact ⟨g', e, h1.up hb, h2⟩
theorem of_k {W : World} {g : Gv} {v : Value} (hv : g.v = v) (hf : FewP g) (h : g.At W W.heap.size) : Calls Tryd.prog 10 #[v] W fun e w2 => ∃ u, e = .returned u ∧ Below W.heap.size W w2 ∧ OfV g u w2 := by
  rw [← hv]
  refine (of_c W g h hf).mono ?_
  rintro e w' ⟨g', rfl, h1, h2, h3, hb⟩
  exact ⟨_, rfl, hb, g', rfl, h1, h2, h3⟩
/-- A graph in a box. -/
def GBx (w : World) (s : Nat) (g : Gv) (v0 v1 : Value) : Prop := ∀ W, Below w.heap.size w W → W.cell? ⟨s, 0, none⟩ = some v0 ∧ W.cell? ⟨s, 1, none⟩ = some v1 ∧ g.At W W.heap.size
theorem GBx.of {w : World} {s : Nat} {g : Gv} {v0 v1 : Value} (h : Bk w s 25 #[v0, v1]) (hg : g.At w w.heap.size) : GBx w s g v0 v1 := fun W b => ⟨(h.below b h.lt).cell 0, (h.below b h.lt).cell 1, hg.up b⟩
theorem GBx.up {w w' : World} {s : Nat} {g : Gv} {v0 v1 : Value} (h : GBx w s g v0 v1) (b : Below w.heap.size w w') : GBx w' s g v0 v1 := fun W b2 => h W (b.trans (b2.mono b.size))
set_option maxHeartbeats 4000000
set_option maxRecDepth 100000
/-- The twin that is written to. -/
structure TwoS (B sc : Nat) (w3 W : World) (C : Option Addr) (K c1 : Nat) (vr : Value) (xs : List Nv) : Prop where
  own : NOwn W B (.slice C K c1) xs
  len : xs.length = K
  sm : ∀ x ∈ xs, x.ps.length ≤ 70 ∧ x.bs.length ≤ 1100
  bk : Bk W sc 25 #[.slice C K c1, vr]
  bl : Below B w3 W
section
variable {B sc : Nat} {w3 W : World} {C : Option Addr} {K c1 : Nat} {vr : Value} {xs : List Nv} {i : Nat} {x : Nv} {q : Nat}
theorem TwoS.below {W' : World} (h : TwoS B sc w3 W C K c1 vr xs) (hB : B ≤ W.heap.size) (hb : Below W.heap.size W W') : TwoS B sc w3 W' C K c1 vr xs :=
  ⟨h.own.below hb, h.len, h.sm, h.bk.below hb h.bk.lt, h.bl.trans (hb.mono hB)⟩
theorem TwoS.setB (h : TwoS B sc w3 W C K c1 vr xs) (hx : xs[i]? = some x) {j : Nat} (hj : j < x.bs.length) (hA : x.D = some ⟨q, 0, none⟩) (z : BitVec 8) : TwoS B sc w3 (W.setCell ⟨q, j, none⟩ (b8 z)) C K c1 vr (xs.set i { x with bs := x.bs.set j z }) := by
  obtain ⟨hi, e⟩ := List.getElem?_eq_some_iff.1 hx
  have ho := (h.own.each x (by rw [← e]; exact List.getElem_mem hi)).2
  have hox := ho
  unfold Nv.vd at ho
  rw [hA] at ho
  obtain ⟨cs, m, hq⟩ := ow_blk2 ho
  have hne : q ≠ sc := type_ne2 hq h.bk (by decide)
  refine ⟨h.own.setB hx hj hA z, by rw [List.length_set]; exact h.len, fun y hy => ?_, h.bk.far (p := ⟨q, j, none⟩) (fun e2 => hne e2.symm) _, h.bl.setCell (p := ⟨q, j, none⟩) (ho.lt q rfl).1 _⟩
  rcases List.mem_or_eq_of_mem_set hy with hy | rfl
  · exact h.sm y hy
  · have := h.sm x (by rw [← e]; exact List.getElem_mem hi)
    simp only [List.length_set]
    exact this
theorem TwoS.setP (h : TwoS B sc w3 W C K c1 vr xs) (hx : xs[i]? = some x) {j : Nat} (hj : j < x.ps.length) (hA : x.A = some ⟨q, 0, none⟩) (z : Int) : TwoS B sc w3 (W.setCell ⟨q, j, none⟩ (iV z)) C K c1 vr (xs.set i { x with ps := x.ps.set j z }) := by
  obtain ⟨hi, e⟩ := List.getElem?_eq_some_iff.1 hx
  have ho := (h.own.each x (by rw [← e]; exact List.getElem_mem hi)).1
  unfold Nv.vp at ho
  rw [hA] at ho
  obtain ⟨cs, m, hq⟩ := ow_blk2 ho
  have hne : q ≠ sc := type_ne2 hq h.bk (by decide)
  refine ⟨h.own.setP hx hj hA z, by rw [List.length_set]; exact h.len, fun y hy => ?_, h.bk.far (p := ⟨q, j, none⟩) (fun e2 => hne e2.symm) _, h.bl.setCell (p := ⟨q, j, none⟩) (ho.lt q rfl).1 _⟩
  rcases List.mem_or_eq_of_mem_set hy with hy | rfl
  · exact h.sm y hy
  · have := h.sm x (by rw [← e]; exact List.getElem_mem hi)
    simp only [List.length_set]
    exact this
end
end Go.Proofs.YtdppnggchpchgaaDoor
/- The reference's Walk. Conditions: lengths; all pointers are some node's or 0. -/
namespace Go.Proofs.YtdppnggchpchgaaDoor
set_option linter.unusedVariables false
set_option linter.unusedSimpArgs false
open Go.RowKit Go.Maps
/-- What the walk has: what is seen is what it listed. -/
structure Wk (ns : List Nv) (fr : List Int) (seen : List Bool) (out : List Int) : Prop where
  len : seen.length = ns.length + 1
  iff : ∀ p : Nat, p ≤ ns.length → (seen[p]? = some true ↔ (p : Int) ∈ out)
  nd : out.Nodup
  ok : ∀ p ∈ out, Rch ns fr p
  cnt : seen.count false + out.length = ns.length + 1
section
variable {ns : List Nv} {fr : List Int} {seen : List Bool} {out : List Int}
theorem Wk.push (h : Wk ns fr seen out) {n : Nat} (hn : n ≤ ns.length) (hs : seen[n]? = some false) (hr : Rch ns fr (n : Int)) : Wk ns fr (seen.set n true) (out ++ [(n : Int)]) := by
  have hno : (n : Int) ∉ out := fun e => by have := (h.iff n hn).2 e; rw [hs] at this; cases this
  refine ⟨by rw [List.length_set]; exact h.len, fun p hp => ?_, ?_, fun p hp => ?_, ?_⟩
  · rw [List.getElem?_set, List.mem_append, List.mem_singleton]
    by_cases e : n = p
    · subst e
      rw [if_pos rfl, if_pos (by rw [h.len]; omega)]; simp
    · rw [if_neg e, h.iff p hp]
      constructor
      · exact .inl
      · rintro (h1 | h1)
        · exact h1
        · exact absurd (by omega) e
  · rw [List.nodup_append]
    exact ⟨h.nd, by simp, fun a ha b hb e => by rw [List.mem_singleton] at hb; subst hb; subst e; exact hno ha⟩
  · rcases List.mem_append.1 hp with hp | hp
    · exact h.ok p hp
    · rw [List.mem_singleton.1 hp]; exact hr
  · have h1 := count_set seen n hs
    have h2 := h.cnt
    rw [List.length_append, List.length_singleton]
    omega
/-- All that is listed is done: it is all that is reached. -/
theorem Wk.done (h : Wk ns fr seen out) (h1 : ∀ q ∈ fr, hasG ns.length q = true → q ∈ out) (h2 : ∀ p ∈ out, ∀ q ∈ ptrsG ns p, hasG ns.length q = true → q ∈ out) : ∀ p, p ∈ out ↔ Rch ns fr p := fun p => by
  refine ⟨h.ok p, fun hr => ?_⟩
  induction hr with
  | base p h3 h4 => exact h1 p h3 h4
  | step p q h3 h4 h5 ih => exact h2 p ih q h4 h5
end
theorem own_ne {W : World} {b b2 q n c : Nat} {L : List Bool} {v : Value} {xs : List Int} (h1 : Ow tV 4 W b (.slice (some ⟨q, 0, none⟩) n c) L) (h2 : Ow iV 3 W b2 v xs) : v.ownBlock ≠ some q := by
  intro e
  rcases h2.2 with ⟨e2, _⟩ | ⟨g, cap, cur, e2, _, hh, _⟩
  · rw [e2] at e; cases e
  · rw [e2] at e
    injection e with e
    have e3 : g = q := e
    obtain ⟨cs, m, hq⟩ := ow_blk2 h1
    exact type_ne2 hq hh (by decide) e3.symm
set_option maxHeartbeats 4000000
set_option maxRecDepth 100000
def Cov (ns : List Nv) (out : List Int) (i : Nat) : Prop := ∀ (j : Nat) (p : Int), j < i → out[j]? = some p → ∀ q ∈ ptrsG ns p, hasG ns.length q = true → q ∈ out
theorem Cov.push {ns : List Nv} {out : List Int} {i : Nat} (h : Cov ns out i) (hi : i ≤ out.length) (x : Int) : Cov ns (out ++ [x]) i := fun j p hj hp q hq hh => by
  rw [List.getElem?_append_left (by omega)] at hp
  exact List.mem_append.2 (.inl (h j p hj hp q hq hh))
/-- What Walk works on. -/
structure WS (w W : World) (q N1 : Nat) (vn vr : Value) (seen : List Bool) (out : List Int) (v : Value) : Prop where
  gb : Bk W w.heap.size 32 #[vn, vr]
  sn : Ow tV 4 W (w.heap.size + 1) (.slice (some ⟨q, 0, none⟩) N1 N1) seen
  wk : Ow iV 3 W (w.heap.size + 1) v out
  bl : Below w.heap.size w W
section
variable {w W W' : World} {q N1 : Nat} {vn vr v v' : Value} {seen : List Bool} {out : List Int}
theorem WS.below (h : WS w W q N1 vn vr seen out v) (hb : Below W.heap.size W W') : WS w W' q N1 vn vr seen out v := ⟨h.gb.below hb h.gb.lt, h.sn.below hb, h.wk.below hb, h.bl.trans (hb.mono h.bl.size)⟩
theorem WS.mark (h : WS w W q N1 vn vr seen out v) {n : Nat} (hn : n < seen.length) : WS w (W.setCell ⟨q, n, none⟩ (.bool true)) q N1 vn vr (seen.set n true) out v := by
  have hq := h.sn.ge.1
  refine ⟨h.gb.far (p := ⟨q, n, none⟩) (show w.heap.size ≠ q by omega) _, h.sn.set hn true, h.wk.kept (grown_set W ⟨q, n, none⟩ _) ?_, h.bl.setCell (p := ⟨q, n, none⟩) (show w.heap.size ≤ q by omega) _⟩
  exact .inr (own_ne h.sn h.wk)
theorem WS.app (h : WS w W q N1 vn vr seen out v) {x : Int} (ho : Ow iV 3 W' (w.heap.size + 1) v' (out ++ [x])) (hb : Below (w.heap.size + 1) W W') (hg : W.grownBy W' v.ownBlock) : WS w W' q N1 vn vr seen (out ++ [x]) v' := by
  refine ⟨h.gb.below hb (by omega), h.sn.kept hg (.inr (fun e => own_ne h.sn h.wk e.symm)), ho, h.bl.trans (hb.mono (by omega))⟩
end
end Go.Proofs.YtdppnggchpchgaaDoor
/- The reference's Pick. Conditions: lengths; the order's numbers are nodes', each once; pointers are some node's or 0. -/
namespace Go.Proofs.YtdppnggchpchgaaDoor
set_option linter.unusedVariables false
set_option linter.unusedSimpArgs false
open Go.RowKit Go.Maps
/-- A row of the reference's nodes of one's own. -/
structure NO2 (W : World) (base : Nat) (v : Value) (xs : List Nv) : Prop where
  row : W.ownsRow base 49 2 v xs.length (xs.flatMap Nv.cs)
  each : ∀ x ∈ xs, Ow iV 3 W base x.vp x.ps ∧ Ow b8 5 W base x.vd x.bs
section
variable {W W' : World} {base : Nat} {v v' : Value} {xs : List Nv} {x : Nv}
theorem NO2.below (h : NO2 W base v xs) (hb : Below W.heap.size W W') : NO2 W' base v xs := ⟨ownsRow_below h.row hb, fun x hx => ⟨(h.each x hx).1.below hb, (h.each x hx).2.below hb⟩⟩
theorem ow_ne_row {α : Type} {f : α → Value} {E F : TypeId} {b b2 n : Nat} {u : Value} {l : List α} {cs : List Value} (h1 : Ow f E W b u l) (h2 : W.ownsRow b2 F 2 v n cs) (hne : E ≠ F) : u.ownBlock = none ∨ u.ownBlock ≠ v.ownBlock := by
  rcases h1.2 with ⟨e, _⟩ | ⟨g, cap, cur, e, _, hh, _⟩
  · left; rw [e]; rfl
  · right
    rw [e]
    rcases h2.2 with ⟨e2, _⟩ | ⟨g2, cap2, cur2, e2, _, hh2, _⟩
    · rw [e2]; intro e3; cases e3
    · rw [e2]
      intro e3
      injection e3 with e3
      have e4 : g = g2 := e3
      exact type_ne2 hh hh2 hne e4
theorem NO2.app (h : NO2 W base v xs) (hx : Ow iV 3 W base x.vp x.ps ∧ Ow b8 5 W base x.vd x.bs) (ho : W'.ownsRow base 49 2 v' (xs.length + 1) (xs.flatMap Nv.cs ++ x.cs)) (hg : W.grownBy W' v.ownBlock) : NO2 W' base v' (xs ++ [x]) := by
  refine ⟨by rw [List.length_append, List.flatMap_append]; simpa using ho, fun y hy => ?_⟩
  rcases List.mem_append.1 hy with hy | hy
  · obtain ⟨g1, g2⟩ := h.each y hy
    exact ⟨g1.kept hg (ow_ne_row g1 h.row (by decide)), g2.kept hg (ow_ne_row g2 h.row (by decide))⟩
  · obtain rfl : y = x := by simpa using hy
    exact ⟨hx.1.kept hg (ow_ne_row hx.1 h.row (by decide)), hx.2.kept hg (ow_ne_row hx.2 h.row (by decide))⟩
/-- A box of another type is written to. -/
theorem NO2.far {q F : Nat} {cs : Array Value} {m : Nat × Nat} (h : NO2 W base v xs) (hg : W.grownBy W' (some q)) (hq : W.heap[q]? = some (.cells cs F m)) (h1 : 49 ≠ F) (h2 : 3 ≠ F) (h3 : 5 ≠ F) : NO2 W' base v xs := by
  have key : ∀ {α : Type} {f : α → Value} {E : TypeId} {u : Value} {l : List α}, Ow f E W base u l → E ≠ F → u.ownBlock = none ∨ u.ownBlock ≠ some q := fun {α f E u l} ho hne => by
    rcases ho.2 with ⟨e, _⟩ | ⟨g, cap, cur, e, _, hh, _⟩
    · left; rw [e]; rfl
    · right; rw [e]; intro e3; injection e3 with e3; exact type_ne2 hh hq hne e3
  refine ⟨World.ownsRow.kept h.row hg ?_, fun x hx => ⟨(h.each x hx).1.kept hg (key (h.each x hx).1 h2), (h.each x hx).2.kept hg (key (h.each x hx).2 h3)⟩⟩
  rcases h.row.2 with ⟨e, _⟩ | ⟨g, cap, cur, e, _, hh, _⟩
  · left; rw [e]; rfl
  · right; rw [e]; intro e3; injection e3 with e3; exact type_ne2 hh hq h1 e3
end
/-- What Pick works on. -/
structure PS (w W : World) (q : Nat) (vn vr : Value) (N : Nat) (T : List Int) : Prop where
  gb : Bk W w.heap.size 32 #[vn, vr]
  rb : Bk W (w.heap.size + 1) 32 #[.slice none 0 0, .slice none 0 0]
  to : Ow iV 3 W (w.heap.size + 2) (.slice (some ⟨q, 0, none⟩) N N) T
  bl : Below w.heap.size w W
section
variable {w W W' : World} {q N : Nat} {vn vr : Value} {T : List Int}
theorem PS.below (h : PS w W q vn vr N T) (hb : Below W.heap.size W W') : PS w W' q vn vr N T := ⟨h.gb.below hb h.gb.lt, h.rb.below hb h.rb.lt, h.to.below hb, h.bl.trans (hb.mono h.bl.size)⟩
theorem PS.store (h : PS w W q vn vr N T) {k : Nat} (hk : k < T.length) (z : Int) : PS w (W.setCell ⟨q, k, none⟩ (.int .i64 z)) q vn vr N (T.set k z) := by
  have hq := h.to.ge.1
  exact ⟨h.gb.far (p := ⟨q, k, none⟩) (show w.heap.size ≠ q by omega) _, h.rb.far (p := ⟨q, k, none⟩) (show w.heap.size + 1 ≠ q by omega) _, h.to.set hk z, h.bl.setCell (p := ⟨q, k, none⟩) (show w.heap.size ≤ q by omega) _⟩
end
theorem PS.grown {w W W' : World} {q N : Nat} {vn vr : Value} {T : List Int} {o : Option Nat} (h : PS w W q vn vr N T) (hg : W.grownBy W' o) (ho : ∀ c, o = some c → w.heap.size + 2 ≤ c ∧ c ≠ q) : PS w W' q vn vr N T := by
  refine ⟨(hg.block _ h.gb.lt (fun e => by have := (ho _ e.symm).1; omega)).trans h.gb, (hg.block _ h.rb.lt (fun e => by have := (ho _ e.symm).1; omega)).trans h.rb, h.to.kept hg (.inr (fun e => ?_)), h.bl.trans ((Below.refl _ _).grown hg h.bl.size (fun c e => by have := (ho c e).1; omega))⟩
  have := (ho q e.symm).2
  exact this rfl
theorem ow_ne_bk {α : Type} {f : α → Value} {E F : TypeId} {W : World} {b y : Nat} {u : Value} {l : List α} {cs : Array Value} (h1 : Ow f E W b u l) (h2 : Bk W y F cs) (hne : E ≠ F) : ∀ c, u.ownBlock = some c → ¬ c = y := fun c e e2 => by
  rcases h1.2 with ⟨e3, _⟩ | ⟨g, cap, cur, e3, _, hh, _⟩
  · rw [e3] at e; cases e
  · rw [e3] at e
    injection e with e
    have e4 : g = c := e
    exact type_ne2 hh h2 hne (e4.trans e2)
theorem nv_at {W : World} {base : Nat} {x : Nv} (h1 : Ow iV 3 W base x.vp x.ps) (h2 : Ow b8 5 W base x.vd x.bs) : x.At W W.heap.size := by
  obtain ⟨_, _, e1, hc1⟩ := h1.form
  obtain ⟨_, _, e2, hc2⟩ := h2.form
  unfold Nv.vp at e1 h1
  unfold Nv.vd at e2 h2
  injection e1 with _ _ e1
  injection e2 with _ _ e2
  exact ⟨h1.rd, h2.rd, by omega, by omega⟩
theorem own_le {W : World} {B B' n : Nat} {E : TypeId} {v : Value} {cs : List Value} (h : W.ownsRow B E 2 v n cs) (hb : B' ≤ B) : W.ownsRow B' E 2 v n cs := by
  obtain ⟨h1, h2⟩ := h
  refine ⟨h1, ?_⟩
  rcases h2 with h2 | ⟨g, cap, cur, e, hg, r⟩
  · exact .inl h2
  · exact .inr ⟨g, cap, cur, e, by omega, r⟩
/-- A graph of the reference's of one's own. -/
structure GO2 (W : World) (B : Nat) (g : Gv) : Prop where
  nd : NO2 W B g.vn g.n
  rt : W.ownsRow B 56 2 g.vr g.r.length (g.r.flatMap Rv.cs)
section
variable {W W' : World} {B B' : Nat} {g : Gv} {S : Nat → Prop}
theorem GO2.at_ (h : GO2 W B g) : g.At W W.heap.size := ⟨nrow_of h.nd.row (fun x hx => nv_at (h.nd.each x hx).1 (h.nd.each x hx).2), rrow_of h.rt, (own_len h.nd.row).2, (own_len h.rt).2⟩
theorem GO2.mono (h : GO2 W B g) (hb : B' ≤ B) : GO2 W B' g := ⟨⟨own_le h.nd.row hb, fun x hx => ⟨(h.nd.each x hx).1.mono hb, (h.nd.each x hx).2.mono hb⟩⟩, own_le h.rt hb⟩
theorem GO2.kept (h : GO2 W B g) (hK : Kept S W W') (hS : ∀ k, S k → k < B) : GO2 W' B g := ⟨⟨row_kept hK h.nd.row hS, fun x hx => ⟨hK.ow (h.nd.each x hx).1 (fun c e e2 => by have := ((h.nd.each x hx).1.lt c e).1; have := hS c e2; omega), hK.ow (h.nd.each x hx).2 (fun c e e2 => by have := ((h.nd.each x hx).2.lt c e).1; have := hS c e2; omega)⟩⟩, row_kept hK h.rt hS⟩
theorem GO2.below (h : GO2 W B g) (hb : Below W.heap.size W W') : GO2 W' B g := ⟨h.nd.below hb, ownsRow_below h.rt hb⟩
end
theorem pick_res {tmps : Array Value} {W : World} {g : Nat} {a b y : Value} (hb : Bk W g 32 #[a, b]) (h2 : tmps.getD 4 undef = .pointer (some ⟨g, 0, none⟩)) (h3 : tmps.getD 5 undef = y) :
    (results Tryd.f22 tmps).run Tryd.prog W = .ok (.tuple #[.agg #[a, b], y]) W := by
  have hl := run_loadVar_row (P := Tryd.prog) W g 32 32 #[a, b] (0, 0) _ hb Tryd.underlying32 rfl (by kernel_rfl)
  have h2' : tmps[4]?.getD undef = .pointer (some ⟨g, 0, none⟩) := by simpa using h2
  have h3' : tmps[5]?.getD undef = y := by simpa using h3
  simp [results, Tryd.results22, h2', h3', asAddr, hl]
def PkV (B0 : Nat) (v : Value) (w : World) : Prop := ∃ k, v = .pointer (some ⟨k, 0, none⟩) ∧ B0 ≤ k ∧ Bk w k 49 #[.slice none 0 0, .slice none 0 0]
theorem PkV.mono {B0 : Nat} {v : Value} {a b : World} (h : PkV B0 v a) (g : Below a.heap.size a b) : PkV B0 v b := by
  obtain ⟨k, e, h0, h⟩ := h
  exact ⟨k, e, h0, h.below g h.lt⟩
set_option maxHeartbeats 4000000
set_option maxRecDepth 100000
theorem pka_r (Q : Exit → Act → World → Prop) (a0 : Act) (w : World) (gb N cn k F c n xn xc xm xd : Nat) (xA xD : Option Addr) (a ad : Addr) (hs : Hid (∀ W, Below w.heap.size w W → W.cell? ⟨gb, 0, none⟩ = some (.slice (some ad) N cn) ∧ W.cell? (a.add k) = some (.int .i64 ((n : Int) + 1)) ∧ W.cell? (ad.add (n * 2)) = some (.slice xA xn xc) ∧ W.cell? ⟨(ad.add (n * 2)).block, (ad.add (n * 2)).off + 1, none⟩ = some (.slice xD xm xd))) (hn : (n : Int) < (N : Int)) (hN : (N : Int) ≤ 60) (p0 : (0 : Int) ≤ (n : Int)) (p1 : (0 : Int) ≤ (k : Int)) (p2 : (k : Int) < (F : Int)) (hsz : a0.tmps.size = 123) (sl1 : a0.tmps.getD 1 undef = .slice (some a) F c) (sl2 : a0.tmps.getD 2 undef = .pointer (some ⟨gb, 0, none⟩)) (sl9 : a0.tmps.getD 9 undef = .int .i64 k)
    (fin : ∀ (vals : Nat → Value) (w1 : World), Below w.heap.size w w1 → (IsV (.agg #[.slice xA xn xc, .slice xD xm xd])) (vals 8) w1 → (PkV w.heap.size) (vals 9) w1 → wpList Tryd.prog #[{ dst := none, op := Go.Op.store 49 (Go.Operand.tmp 10) (Go.Operand.tmp 51), type := 0, pos := "", after := #[], guard := none }] Q [{ dst := none, op := Go.Op.store 49 (Go.Operand.tmp 10) (Go.Operand.tmp 51), type := 0, pos := "", after := #[], guard := none }] (putD vals [43, 44, 45, 46, 47, 48, 49, 50, 51, 10] 0 a0) w1) :
    (Code.region 10 (regIn Tryd.f22 10) true).wp Tryd.prog Q a0 w := by
  refine region_by_tail (m := 10) (G := fun w w1 => Below w.heap.size w w1) [IsV (.pointer (some ⟨gb, 0, none⟩)),
    IsV (.slice (some ad) N cn),
    IsV (.slice (some a) F c),
    IsV (.int .i64 k),
    IsV (.pointer (some (a.add k))),
    IsV (.int .i64 ((n : Int) + 1)),
    IsV (.int .i64 n),
    IsV (.pointer (some (ad.add (n * 2)))),
    IsV (.agg #[.slice xA xn xc, .slice xD xm xd]),
    PkV w.heap.size]
    [43, 44, 45, 46, 47, 48, 49, 50, 51, 10] (by kernel_rfl) (Gw.drew _) Gw.trans (by rw [hsz]; kernel_rfl) (by kernel_rfl) ?_ ?_ ?_
  · intro f hf
    simp only [List.mem_cons, List.not_mem_nil, or_false] at hf
    rcases hf with rfl | rfl | rfl | rfl | rfl | rfl | rfl | rfl | rfl | rfl <;> intro v a b h g <;> first | exact IsV.mono h | exact PkV.mono h g
  · refine ⟨?_, ?_, ?_, ?_, ?_, ?_, ?_, ?_, ?_, ?_, trivial⟩
    · refine owes_v (Go.Op.fieldAddr 32 (Go.Operand.tmp 2) 0) 0 [] (by kernel_rfl) (by kernel_rfl) (by kernel_rfl) rfl fun vals w1 ρ hG hF hρ hcst hfun => ?_
      have e2 : ρ (.tmp 2) = .pointer (some ⟨gb, 0, none⟩) := ((hρ 2).trans (slotO [] (by kernel_rfl))).trans sl2
      clear hρ hF hcst hfun sl1 sl2 sl9 fin
      exact opv_val (by go_simp <;> rfl) ⟨gw_self _, rfl⟩
    · refine owes_v (Go.Op.load 29 (Go.Operand.tmp 43)) 29 [0] (by kernel_rfl) (by kernel_rfl) (by kernel_rfl) rfl fun vals w1 ρ hG hF hρ hcst hfun => ?_
      have e43 : ρ (.tmp 43) = .pointer (some ⟨gb, 0, none⟩) := ((hρ 43).trans (slotJ [0] (by rw [hsz]; decide) (by kernel_rfl))).trans (hF 0 (by decide))
      have k := (hs.out w1 hG).1
      clear hρ hF hcst hfun sl1 sl2 sl9 fin
      exact opv_val (by go_simp <;> rfl) ⟨gw_self _, rfl⟩
    · exact owes_mv 1 (by kernel_rfl) (by kernel_rfl) (by kernel_rfl) sl1 (fun _ => rfl)
    · exact owes_mv 9 (by kernel_rfl) (by kernel_rfl) (by kernel_rfl) sl9 (fun _ => rfl)
    · refine owes_v (Go.Op.indexAddr 40 (Go.Operand.tmp 45) (Go.Operand.tmp 46)) 0 [2, 3] (by kernel_rfl) (by kernel_rfl) (by kernel_rfl) rfl fun vals w1 ρ hG hF hρ hcst hfun => ?_
      have e45 : ρ (.tmp 45) = .slice (some a) F c := ((hρ 45).trans (slotJ [2, 3] (by rw [hsz]; decide) (by kernel_rfl))).trans (hF 2 (by decide))
      have e46 : ρ (.tmp 46) = .int .i64 k := ((hρ 46).trans (slotJ [2, 3] (by rw [hsz]; decide) (by kernel_rfl))).trans (hF 3 (by decide))
      clear hρ hF hcst hfun sl1 sl2 sl9 fin
      exact opv_val (by go_simp <;> rfl) ⟨gw_self _, rfl⟩
    · refine owes_v (Go.Op.load 3 (Go.Operand.tmp 47)) 3 [4] (by kernel_rfl) (by kernel_rfl) (by kernel_rfl) rfl fun vals w1 ρ hG hF hρ hcst hfun => ?_
      have e47 : ρ (.tmp 47) = .pointer (some (a.add k)) := ((hρ 47).trans (slotJ [4] (by rw [hsz]; decide) (by kernel_rfl))).trans (hF 4 (by decide))
      have k := (hs.out w1 hG).2.1
      clear hρ hF hcst hfun sl1 sl2 sl9 fin
      exact opv_val (by go_simp <;> rfl) ⟨gw_self _, rfl⟩
    · refine owes_v (Go.Op.binOp Go.BinOp.sub 3 (Go.Operand.tmp 48) (Go.Operand.const (Go.Value.int Go.IntKind.i64 1)) 3) 3 [5] (by kernel_rfl) (by kernel_rfl) (by kernel_rfl) rfl fun vals w1 ρ hG hF hρ hcst hfun => ?_
      have e48 : ρ (.tmp 48) = .int .i64 ((n : Int) + 1) := ((hρ 48).trans (slotJ [5] (by rw [hsz]; decide) (by kernel_rfl))).trans (hF 5 (by decide))
      have kw : IntKind.i64.wrap (n : Int) = (n : Int) := wrapIn (by omega) (by omega)
      clear hρ hF hfun sl1 sl2 sl9 fin
      exact opv_val (by go_simp <;> rfl) ⟨gw_self _, rfl⟩
    · refine owes_v (Go.Op.indexAddr 29 (Go.Operand.tmp 44) (Go.Operand.tmp 49)) 0 [1, 6] (by kernel_rfl) (by kernel_rfl) (by kernel_rfl) rfl fun vals w1 ρ hG hF hρ hcst hfun => ?_
      have e44 : ρ (.tmp 44) = .slice (some ad) N cn := ((hρ 44).trans (slotJ [1, 6] (by rw [hsz]; decide) (by kernel_rfl))).trans (hF 1 (by decide))
      have e49 : ρ (.tmp 49) = .int .i64 n := ((hρ 49).trans (slotJ [1, 6] (by rw [hsz]; decide) (by kernel_rfl))).trans (hF 6 (by decide))
      clear hρ hF hcst hfun sl1 sl2 sl9 fin
      exact opv_val (by go_simp <;> rfl) ⟨gw_self _, rfl⟩
    · refine owes_v (Go.Op.load 49 (Go.Operand.tmp 50)) 49 [7] (by kernel_rfl) (by kernel_rfl) (by kernel_rfl) rfl fun vals w1 ρ hG hF hρ hcst hfun => ?_
      have e50 : ρ (.tmp 50) = .pointer (some (ad.add (n * 2))) := ((hρ 50).trans (slotJ [7] (by rw [hsz]; decide) (by kernel_rfl))).trans (hF 7 (by decide))
      have k1 := (hs.out w1 hG).2.2.1
      have k2 := (hs.out w1 hG).2.2.2
      clear hρ hF hcst hfun sl1 sl2 sl9 fin
      exact opv_val (by go_simp <;> rfl) ⟨gw_self _, rfl⟩
    · refine owes_v (Go.Op.alloc 49) 0 [] (by kernel_rfl) (by kernel_rfl) (by kernel_rfl) rfl fun vals w1 ρ hG hF hρ hcst hfun => ?_
      clear hρ hF hcst hfun sl1 sl2 sl9 fin
      exact opv_val (by go_simp <;> rfl) ⟨Gw.alloc _ _, ⟨_, rfl, hG.size, Bk.new w1 _ _⟩⟩
  · intro vals w1 hG hF
    exact last_list (by kernel_rfl) (by kernel_rfl) (by kernel_rfl) (fin vals w1 hG (hF 8 (by decide +kernel)) (hF 9 (by decide +kernel)))
theorem pick_c (w : World) (g : Gv) (hg : g.At w w.heap.size) (hs : FewP g) (hok : ∀ x ∈ g.n, ∀ p ∈ x.ps, okP g.n.length p = true) (hrt : ∀ r ∈ g.r, okP g.n.length r.t = true) (A : Option Addr) (c : Nat) (od : List Int) (hr : Rd iV w w.heap.size A od) (hod : ∀ p ∈ od, hasG g.n.length p = true) (hnd : od.Nodup) (hl : od.length ≤ 1000) :
    Calls Tryd.prog 22 #[g.v, .slice A od.length c] w fun e w' => ∃ (g' : Gv) (q : Nat), e = .returned (.tuple #[g'.v, .slice (some ⟨q, 0, none⟩) g.n.length g.n.length]) ∧ GO2 w' w.heap.size g' ∧ Ow iV 3 w' w.heap.size (.slice (some ⟨q, 0, none⟩) g.n.length g.n.length) (toO g.n.length od) ∧ g'.n.map Nv.m = pickN g.n od od ∧ g'.r = g.r.map (fun r => ⟨r.s, newO od r.t⟩) ∧ Below w.heap.size w w' := by
  have HG := Lib.hid hg
  have HOk := Lib.hid hok
  have HRt := Lib.hid hrt
  have HP := Lib.hid hs.2.2.1
  have hsn := hs.1
  have hsr := hs.2.1
  have HR := Lib.hid hr
  have HOd := Lib.hid (And.intro hod hnd)
  obtain ⟨GA, ca, A2, ca2, ns, rs⟩ := g
  obtain ⟨N, hN⟩ : ∃ N, N = ns.length := ⟨_, rfl⟩
  obtain ⟨M, hM⟩ : ∃ M, M = rs.length := ⟨_, rfl⟩
  obtain ⟨F, hF⟩ : ∃ F, F = od.length := ⟨_, rfl⟩
  have q0 : (N : Int) ≤ 60 := by rw [hN]; exact Int.ofNat_le.2 hsn
  have q1 : (M : Int) ≤ 80 := by rw [hM]; exact Int.ofNat_le.2 hsr
  have q2 : (F : Int) ≤ 1000 := by omega
  have HN := Lib.hid (And.intro hN (And.intro hF hM))
  unfold Gv.v Gv.vn Gv.vr
  simp only at HP HOk HRt HOd ⊢
  rw [← hN, ← hM, ← hF]
  rw [← hN] at HOk HRt HOd
  clear hg hs hok hrt hsn hsr hr hod hnd hl hN hM hF
  go_enter Tryd.func22, Tryd.ntmps22
  go_wp2_with (at_make; refine wp_make (f := iV) oneI rfl _ _ rfl 0 rfl (w.heap.size + 2) N _ _ _ _ rfl rfl rfl rfl (by omega) (by decide) (by simp) ?_; rintro q w2 hq ho2 hb2 _; have H2 := Lib.hid (And.intro ho2 hb2); have HQ := Lib.hid (show q = w.heap.size + 2 from by rw [hq]; simp); clear ho2 hb2 hq)
  have hS0 : PS w w2 q (.slice GA N ca) (.slice A2 M ca2) N (toO N []) := by
    obtain ⟨o1, o2⟩ := H2.out
    have hg0 := ((Bk.new w 32 #[.slice GA N ca, .slice A2 M ca2]).alloc (.cells #[.slice none 0 0, .slice none 0 0] 32)).below o2 (by omega)
    have hg1 : Bk ((w.alloc (.cells #[.slice GA N ca, .slice A2 M ca2] 32)).alloc (.cells #[.slice none 0 0, .slice none 0 0] 32)) (w.heap.size + 1) 32 #[.slice none 0 0, .slice none 0 0] := by
      have := Bk.new (w.alloc (.cells #[.slice GA N ca, .slice A2 M ca2] 32)) 32 #[.slice none 0 0, .slice none 0 0]
      simpa using this
    refine ⟨hg0, hg1.below o2 (by omega), by rw [toO_nil]; exact o1, (((Below.refl _ _).alloc (Nat.le_refl _) _).alloc (by simp) _).trans (o2.mono (by omega))⟩
  have HS0 := Lib.hid hS0
  clear hS0 H2
  go_loopw [7] (fun i W => ∃ k : Nat, i = .int .i64 k ∧ k ≤ F ∧ Hid (PS w W q (.slice GA N ca) (.slice A2 M ca2) N (toO N (od.take k)))) (fun i _ => F - (Go.RowKit.intOf i).toNat)
  case atStart => exact ⟨0, rfl, Nat.zero_le _, Lib.hid HS0.out⟩
  case round =>
    obtain ⟨k, rfl, hk, hS⟩ := hrel
    by_cases hlt : k < F
    · have hko : k < od.length := by rw [← HN.out.2.1]; exact hlt
      obtain ⟨p, hp⟩ : ∃ p, p = od[k] := ⟨_, rfl⟩
      have hpg := hasG_iff.1 (HOd.out.1 p (by rw [hp]; exact List.getElem_mem _))
      obtain ⟨n, rfl, hnN⟩ : ∃ n : Nat, p = (n : Int) + 1 ∧ n < N := ⟨(p - 1).toNat, by omega, by omega⟩
      obtain ⟨a, rfl, ha, hca⟩ := (HR.out.below hS.out.bl) k hko
      rw [← hp] at hca
      unfold iV at hca
      have hno : ((n : Int) + 1) ∉ od.take k := fun e => by
        obtain ⟨i, hi, e2⟩ := List.mem_iff_getElem.1 e
        rw [List.length_take] at hi
        rw [List.getElem_take, hp] at e2
        exact (List.pairwise_iff_getElem.1 HOd.out.2) i k (by omega) hko (by omega) e2
      have hstep := toO_step hnN hno
      rw [hp, ← take_snoc od k hko, List.length_take, Nat.min_eq_left (by omega)] at hstep
      have hst := hS.out.store (k := n) (by rw [toO_len]; exact hnN) ((k : Int) + 1)
      rw [hstep] at hst
      have HSt := Lib.hid hst
      have hcn := hS.out.to.cell (j := n) (by rw [toO_len]; exact hnN)
      have hfn := hS.out.to.free n
      obtain ⟨u, hu⟩ : ∃ u, u = (toO N (od.take k))[n]'(by rw [toO_len]; exact hnN) := ⟨_, rfl⟩
      rw [← hu] at hcn
      unfold iV at hcn
      have p0 : (0 : Int) ≤ (n : Int) := by omega
      have p1 : (0 : Int) ≤ (k : Int) := by omega
      have p2 : (k : Int) < (F : Int) := by omega
      have p3 : (n : Int) < (N : Int) := by omega
      clear hp hpg ha hno hstep hst hu hko
      go_wp2_with fail
      clear hca hcn hfn
      go_roundw
      case rel => first | exact ⟨k + 1, by go_num, by omega, HSt⟩ | exact ⟨_, ⟨k + 1, by go_num, by omega, HSt⟩, rfl⟩
      case measure => simp [Go.RowKit.intOf]; omega
    · have hkF : k = F := by omega
      have hS2 := hS.out
      rw [hkF, List.take_of_length_le (by rw [← HN.out.2.1]; exact Nat.le_refl _)] at hS2
      have HS2 := Lib.hid hS2
      clear hS2 hS hkF
      go_wp2_with fail
      clear hlt hk
      obtain ⟨sb, hsb⟩ : ∃ sb, sb = wr.heap.size := ⟨_, rfl⟩
      obtain ⟨w4, hw4⟩ : ∃ w4, w4 = wr.alloc (.cells #[.slice none 0 0, .slice none 0 0] 32) := ⟨_, rfl⟩
      have H4 := Lib.hid (show Bk w4 sb 32 #[.slice none 0 0, .slice none 0 0] ∧ PS w w4 q (.slice GA N ca) (.slice A2 M ca2) N (toO N od) ∧ w.heap.size + 2 ≤ sb from by
        rw [hw4, hsb]
        exact ⟨Bk.new wr _ _, HS2.out.below (Gw.alloc wr _), by have := HS2.out.to.ge.2; have := HQ.out; omega⟩)
      rw [← hsb, ← hw4]
      clear hsb hw4
      go_loopw [9] (fun i W => ∃ (k : Nat) (VA : Option Addr) (vc : Nat) (xs : List Nv), i = .int .i64 k ∧ k ≤ F ∧ Hid (xs.map Nv.m = pickN ns od (od.take k)) ∧ Hid (NO2 W w4.heap.size (.slice VA k vc) xs) ∧ Bk W sb 32 #[.slice VA k vc, .slice none 0 0] ∧ Hid (PS w W q (.slice GA N ca) (.slice A2 M ca2) N (toO N od)) ∧ Hid (w4.heap.size ≤ W.heap.size)) (fun i _ => F - (Go.RowKit.intOf i).toNat)
      case atStart => exact ⟨0, none, 0, [], rfl, Nat.zero_le _, Lib.hid rfl, Lib.hid ⟨⟨by simp, .inl ⟨rfl, rfl⟩⟩, fun x hx => by cases hx⟩, H4.out.1, Lib.hid H4.out.2.1, Lib.hid (Nat.le_refl _)⟩
      case round =>
        obtain ⟨k, VA, vc, xs, rfl, hk, hm, hno, hb1, hS, hwz⟩ := hrel
        have hxl : xs.length = k := by
          have := congrArg List.length hm.out
          unfold pickN at this
          rw [List.length_map, List.length_map, List.length_take, ← HN.out.2.1] at this
          omega
        have hsbl := hb1.lt
        by_cases hlt : k < F
        · have hko : k < od.length := by rw [← HN.out.2.1]; exact hlt
          obtain ⟨p, hp⟩ : ∃ p, p = od[k] := ⟨_, rfl⟩
          have hpg := hasG_iff.1 (HOd.out.1 p (by rw [hp]; exact List.getElem_mem _))
          obtain ⟨n, rfl, hnN⟩ : ∃ n : Nat, p = (n : Int) + 1 ∧ n < N := ⟨(p - 1).toNat, by omega, by omega⟩
          obtain ⟨a, rfl, ha, hca⟩ := HR.out k hko
          rw [← hp] at hca
          unfold iV at hca
          have hnn : n < ns.length := by rw [← HN.out.1]; exact hnN
          obtain ⟨x, hx⟩ : ∃ x, x = ns[n] := ⟨_, rfl⟩
          obtain ⟨ad, rfl, hc2, hc3, hxa⟩ : ∃ ad, GA = some ad ∧ w.cell? (ad.add (n * 2)) = some x.vp ∧ w.cell? ⟨(ad.add (n * 2)).block, (ad.add (n * 2)).off + 1, none⟩ = some x.vd ∧ x.At w w.heap.size := by
            obtain ⟨ad, e, _, h1, h2, h3⟩ := HG.out.n n hnn
            exact ⟨ad, e, by rw [hx]; exact h1, by rw [hx]; exact h2, by rw [hx]; exact h3⟩
          have hokx := HOk.out x (by rw [hx]; exact List.getElem_mem _)
          have hszx := HP.out x (by rw [hx]; exact List.getElem_mem _)
          have HNx := Lib.hid (show ∀ y : Nv, y.m = (x.ps.map (newO od), x.bs) → (xs ++ [y]).map Nv.m = pickN ns od (od.take (k + 1)) from fun y hy => by
            rw [take_snoc od k hko, List.map_append, hm.out]
            unfold pickN
            rw [List.map_append, ← hp, List.map_singleton, List.map_singleton, hy, pick1_at hnn, ← hx])
          have HXa := Lib.hid hxa
          obtain ⟨xA, xc, xD, xd, xps, xbs⟩ := x
          unfold Nv.vp at hc2
          unfold Nv.vd at hc3
          simp only at hc2 hc3 hokx hszx HNx
          obtain ⟨xn, hxn⟩ : ∃ n, n = xps.length := ⟨_, rfl⟩
          obtain ⟨xm, hxm⟩ : ∃ n, n = xbs.length := ⟨_, rfl⟩
          rw [← hxn] at hc2 hszx
          rw [← hxm] at hc3 hszx
          have HX := Lib.hid (And.intro hxn hxm)
          have HOx := Lib.hid hokx
          have HC := Lib.hid (fun (W : World) (bb : Below wr.heap.size wr W) => show W.cell? ⟨w.heap.size, 0, none⟩ = some (.slice (some ad) N ca) ∧ W.cell? (a.add k) = some (.int .i64 ((n : Int) + 1)) ∧ W.cell? (ad.add (n * 2)) = some (.slice xA xn xc) ∧ W.cell? ⟨(ad.add (n * 2)).block, (ad.add (n * 2)).off + 1, none⟩ = some (.slice xD xm xd) from by
            have bw : Below w.heap.size w W := hS.out.bl.trans (bb.mono hS.out.bl.size)
            exact ⟨(hS.out.gb.below bb hS.out.gb.lt).cell 0, (bw.cell (cell_lt hca)).trans hca, (bw.cell (cell_lt hc2)).trans hc2, (bw.cell (cell_lt hc3)).trans hc3⟩)
          have p0 : (0 : Int) ≤ (n : Int) := by omega
          have p1 : (0 : Int) ≤ (k : Int) := by omega
          have p2 : (k : Int) < (F : Int) := by omega
          have p3 : (n : Int) < (N : Int) := by omega
          have q3 : (xn : Int) ≤ 70 := by omega
          have q4 : (xm : Int) ≤ 1100 := by omega
          have HXl := Lib.hid hxl
          clear hp hpg ha hca hx hxa hc2 hc3 hokx hszx hxn hxm hko hnn hxl hm
          go_wp2_with fail
          refine pka_r _ _ _ w.heap.size N ca k F c n xn xc xm xd xA xD a ad HC p3 q0 p0 p1 p2 rfl rfl rfl rfl ?_
          intro vals w5 hG h51 h10
          unfold IsV at h51
          obtain ⟨xb, h10, hxb, hbx⟩ := h10
          simp only [putD, Act.put, List.setIfInBounds_toArray, List.set_cons_zero, List.set_cons_succ, h51, h10]
          have d0 := hbx.two.1
          have d1 := hbx.two.2
          have f0 := hbx.free 0
          have f1 := hbx.free 1
          have hxbl := hbx.lt
          have H6 := Lib.hid (show Bk ((w5.setCell ⟨xb, 0, none⟩ (.slice xA xn xc)).setCell ⟨xb, 1, none⟩ (.slice xD xm xd)) xb 49 #[.slice xA xn xc, .slice xD xm xd] ∧ Below wr.heap.size wr ((w5.setCell ⟨xb, 0, none⟩ (.slice xA xn xc)).setCell ⟨xb, 1, none⟩ (.slice xD xm xd)) ∧ wr.heap.size ≤ xb from by
            refine ⟨?_, (hG.setCell (p := ⟨xb, 0, none⟩) hxb _).setCell (p := ⟨xb, 1, none⟩) hxb _, hxb⟩
            have h := (hbx.set 0 (.slice xA xn xc)).set 1 (.slice xD xm xd)
            simpa using h)
          have HE := Lib.hid (show Ow b8 5 (((w5.setCell ⟨xb, 0, none⟩ (.slice xA xn xc)).setCell ⟨xb, 1, none⟩ (.slice xD xm xd)).alloc (.cells #[] 5)) wr.heap.size (.slice (some ⟨w5.heap.size, 0, none⟩) 0 0) [] from by
            have := ow_empty b8 5 ((w5.setCell ⟨xb, 0, none⟩ (.slice xA xn xc)).setCell ⟨xb, 1, none⟩ (.slice xD xm xd)) wr.heap.size H6.out.2.1.size
            simpa [World.setCell] using this)
          have HRb := Lib.hid (show Rd b8 (((w5.setCell ⟨xb, 0, none⟩ (.slice xA xn xc)).setCell ⟨xb, 1, none⟩ (.slice xD xm xd)).alloc (.cells #[] 5)) w.heap.size xD xbs ∧ wr.heap.size ≤ (((w5.setCell ⟨xb, 0, none⟩ (.slice xA xn xc)).setCell ⟨xb, 1, none⟩ (.slice xD xm xd)).alloc (.cells #[] 5)).heap.size from ⟨HXa.out.b.below (hS.out.bl.trans ((H6.out.2.1.trans ((Gw.alloc _ _).mono H6.out.2.1.size)).mono hS.out.bl.size)), (H6.out.2.1.trans ((Gw.alloc _ _).mono H6.out.2.1.size)).size⟩)
          have hml : ([] : List (BitVec 8)).length + xbs.length ≤ 4294967296 := by rw [← HX.out.2]; simp; omega
          clear h51 h10 hbx hxb hG HC
          go_wp2_with (at_builtin; refine wp_app one8 b8_one rfl (.tmp 52) (.tmp 54) rfl wr.heap.size _ [] rfl HE.out xD xm xd xbs rfl HX.out.2 w.heap.size HRb.out.1 hml (by decide) HRb.out.2 ?_; intro v7 w7 ho7 hb7 hg7 hv7; rw [List.nil_append] at ho7; obtain ⟨DA, dc, rfl, _⟩ := ho7.form; rw [← HX.out.2] at ho7 ⊢; have H7 := Lib.hid (And.intro ho7 (show Below wr.heap.size wr w7 ∧ Bk w7 xb 49 #[.slice xA xn xc, .slice xD xm xd] from ⟨(H6.out.2.1.trans ((Gw.alloc _ _).mono H6.out.2.1.size)).trans hb7, (by have h := H6.out.1.alloc (.cells #[] 5); exact (hg7.block xb h.lt (fun e => by have e2 : xb = w5.heap.size := (by injection e); omega)).trans h)⟩)); clear ho7 hb7 hg7 hv7)
          clear d0 d1 f0 f1 hxbl hml HE HRb H6
          obtain ⟨yb, hyb⟩ : ∃ yb, yb = w7.heap.size := ⟨_, rfl⟩
          obtain ⟨W8, hW8⟩ : ∃ W8, W8 = w7.alloc (.cells #[.slice none 0 0, .slice DA xm dc] 49) := ⟨_, rfl⟩
          have H8 := Lib.hid (show Bk W8 yb 49 #[.slice none 0 0, .slice DA xm dc] ∧ Bk W8 xb 49 #[.slice xA xn xc, .slice xD xm xd] ∧ Ow b8 5 W8 wr.heap.size (.slice DA xm dc) xbs ∧ Below wr.heap.size wr W8 ∧ xb < yb ∧ wr.heap.size ≤ yb ∧ yb < W8.heap.size from by
            obtain ⟨h1, h2, h3⟩ := H7.out
            rw [hW8, hyb]
            exact ⟨Bk.new w7 _ _, h3.alloc _, h1.alloc _, h2.trans ((Gw.alloc w7 _).mono h2.size), h3.lt, h2.size, by simp⟩)
          rw [← hyb, ← hW8]
          clear hyb hW8 H7
          obtain ⟨V0, hV0⟩ : ∃ V0, V0 = wr := ⟨_, rfl⟩
          rw [← hV0] at hno hb1 hS hwz hsbl H8
          clear hV0
          have HYl := Lib.hid H8.out.2.2.2.2.2.2
          go_loopw [12] (fun i W => ∃ (j : Nat) (PA : Option Addr) (pc : Nat), i = .int .i64 j ∧ j ≤ xn ∧ Hid (Ow iV 3 W W8.heap.size (.slice PA j pc) ((xps.take j).map (newO od))) ∧ Bk W yb 49 #[.slice PA j pc, .slice DA xm dc] ∧ Hid (Kept (fun b => b = yb) W8 W)) (fun i _ => xn - (Go.RowKit.intOf i).toNat)
          case atStart => exact ⟨0, none, 0, rfl, Nat.zero_le _, Lib.hid (Ow.nil_ _ _ _ _), H8.out.1, Lib.hid (Kept.refl _ _)⟩
          case round =>
            obtain ⟨j, PA, pc, rfl, hj, ho, hb2, hK⟩ := hrel
            have hxk := hK.out.bk H8.out.2.1 (show ¬ (xb = yb) from by have := H8.out.2.2.2.2.1; omega)
            have x0 := hxk.two.1
            have x1 := hxk.two.2
            have hxl := hxk.lt
            clear hxk
            by_cases hlj : j < xn
            · have hjl : j < xps.length := by rw [← HX.out.1]; exact hlj
              obtain ⟨z, hz⟩ : ∃ z, z = xps[j] := ⟨_, rfl⟩
              have hzo := okP_iff.1 (HOx.out z (by rw [hz]; exact List.getElem_mem _))
              have hbw : Below w.heap.size w wr := by
                have h1 := hS.out.bl.trans (H8.out.2.2.2.1.mono hS.out.bl.size)
                exact h1.trans (hK.out.below h1.size (fun c e => by rw [e]; have := H8.out.2.2.2.2.2.1; have := hS.out.bl.size; omega))
              obtain ⟨ax, rfl, hax, hca⟩ := (HXa.out.p.below hbw) j hjl
              rw [← hz] at hca
              unfold iV at hca
              have HTk := Lib.hid (show (xps.take (j + 1)).map (newO od) = (xps.take j).map (newO od) ++ [newO od z] from by rw [take_snoc xps j hjl, List.map_append, ← hz]; rfl)
              have p4 : (0 : Int) ≤ (j : Int) := by omega
              have p5 : (j : Int) < (xn : Int) := by omega
              have hto : Ow iV 3 wr (w.heap.size + 2) (.slice (some ⟨q, 0, none⟩) N N) (toO N od) := hK.out.ow (hS.out.to.below H8.out.2.2.2.1) (fun c e e2 => by injection e with e; have e3 : q = c := e; have h1 := hS.out.to.ge.2; have h2 := H8.out.2.2.2.2.2.1; omega)
              clear hz hjl hbw hax
              by_cases hz0 : z = 0
              · subst hz0
                have hn0 : newO od 0 = 0 := newO_zero (fun p hp => by have := hasG_iff.1 (HOd.out.1 p hp); omega)
                rw [hn0] at HTk
                clear hn0 hto
                have e0 := hb2.two.1
                have f0 := hb2.free 0
                have hyl := hb2.lt
                have hln9 : ((xps.take j).map (newO od) ++ [0]).length = j + 1 := by rw [List.length_append, List.length_map, List.length_take, ← HX.out.1]; simp; omega
                have hml : ((xps.take j).map (newO od)).length + 1 ≤ 4294967296 := by rw [List.length_map, List.length_take, ← HX.out.1]; omega
                have HL9 := Lib.hid (And.intro hln9 hml)
                have HB2 := Lib.hid hb2
                clear hb2 hln9 hml
                go_wp2_with (at_builtin; refine wp_app oneI iV_one rfl (.tmp 80) (.tmp 82) rfl W8.heap.size _ ((xps.take j).map (newO od)) rfl (ho.out.alloc _) (some ⟨wr.heap.size, 0, none⟩) 1 1 [0] rfl rfl (wr.heap.size + 1) (rd1_new (f := iV) rfl) HL9.out.2 (by decide) (Nat.le_trans hK.out.size (Gw.alloc _ _).size) ?_; intro v9 w9 ho9 hb9 hg9 _; obtain ⟨PA9, pc9, rfl, _⟩ := ho9.form; rw [HL9.out.1] at ho9 ⊢; have hQ9 := (HB2.out.alloc (.cells #[.int .i64 0] 3)).below hb9 HYl.out; have q90 := hQ9.two.1; have q9f := hQ9.free 0; have H9 := Lib.hid (And.intro ho9 (And.intro hb9 hQ9)); clear ho9 hb9 hg9 hQ9)
                have X : ∃ (j' : Nat) (PA' : Option Addr) (pc' : Nat), (Value.int .i64 ((j : Int) + 1)) = .int .i64 j' ∧ j' ≤ xn ∧ Hid (Ow iV 3 (w9.setCell ⟨yb, 0, none⟩ (.slice PA9 (j + 1) pc9)) W8.heap.size (.slice PA' j' pc') ((xps.take j').map (newO od))) ∧ Bk (w9.setCell ⟨yb, 0, none⟩ (.slice PA9 (j + 1) pc9)) yb 49 #[.slice PA' j' pc', .slice DA xm dc] ∧ Hid (Kept (fun b => b = yb) W8 (w9.setCell ⟨yb, 0, none⟩ (.slice PA9 (j + 1) pc9))) := by
                  obtain ⟨h1, h2, h3⟩ := H9.out
                  refine ⟨j + 1, PA9, pc9, by go_num, by omega, Lib.hid ?_, h3.set 0 _, Lib.hid (((hK.out.trans (Kept.of_below (Gw.alloc wr _) _)).bel h2).trans (Kept.set w9 yb 0 _))⟩
                  rw [HTk.out]
                  refine h1.kept (grown_set w9 ⟨yb, 0, none⟩ _) ?_
                  cases e : (Value.slice PA9 (j + 1) pc9).ownBlock with
                  | none => exact .inl rfl
                  | some c => exact .inr (fun e2 => by injection e2 with e2; have e3 : c = yb := e2; have := (h1.lt c e).1; have := HYl.out; omega)
                clear q90 q9f H9 e0 f0 hyl
                go_roundw
                case rel => first | exact X | (obtain ⟨j', PA', pc', x1, x2, x3, x4, x5⟩ := X; exact ⟨_, _, _, _, _, _, _, _, _, _, _, _, _, ⟨j', PA', pc', x1, x2, x3, x4, x5⟩, rfl⟩)
                case measure => simp [Go.RowKit.intOf]; omega
              · obtain ⟨n', rfl, hn'⟩ : ∃ n' : Nat, z = (n' : Int) + 1 ∧ n' < N := ⟨(z - 1).toNat, by omega, by omega⟩
                have hcn := hto.cell (j := n') (by rw [toO_len]; exact hn')
                have hu : (toO N od)[n']'(by rw [toO_len]; exact hn') = newO od ((n' : Int) + 1) := by
                  have := toO_get (l := od) hn'
                  rw [List.getElem?_eq_getElem (by rw [toO_len]; exact hn')] at this
                  injection this
                rw [hu] at hcn
                unfold iV at hcn
                obtain ⟨y, hy⟩ : ∃ y, y = newO od ((n' : Int) + 1) := ⟨_, rfl⟩
                rw [← hy] at hcn HTk
                have p6 : (0 : Int) ≤ (n' : Int) := by omega
                have p7 : (n' : Int) < (N : Int) := by omega
                have hnz : ¬ (n' : Int) + 1 = 0 := by omega
                clear hto hu hy hz0 hzo
                have e0 := hb2.two.1
                have f0 := hb2.free 0
                have hyl := hb2.lt
                have hln9 : ((xps.take j).map (newO od) ++ [y]).length = j + 1 := by rw [List.length_append, List.length_map, List.length_take, ← HX.out.1]; simp; omega
                have hml : ((xps.take j).map (newO od)).length + 1 ≤ 4294967296 := by rw [List.length_map, List.length_take, ← HX.out.1]; omega
                have HL9 := Lib.hid (And.intro hln9 hml)
                have HB2 := Lib.hid hb2
                clear hb2 hln9 hml
                go_wp2_with (at_builtin; refine wp_app oneI iV_one rfl (.tmp 80) (.tmp 82) rfl W8.heap.size _ ((xps.take j).map (newO od)) rfl (ho.out.alloc _) (some ⟨wr.heap.size, 0, none⟩) 1 1 [y] rfl rfl (wr.heap.size + 1) (rd1_new (f := iV) rfl) HL9.out.2 (by decide) (Nat.le_trans hK.out.size (Gw.alloc _ _).size) ?_; intro v9 w9 ho9 hb9 hg9 _; obtain ⟨PA9, pc9, rfl, _⟩ := ho9.form; rw [HL9.out.1] at ho9 ⊢; have hQ9 := (HB2.out.alloc (.cells #[.int .i64 y] 3)).below hb9 HYl.out; have q90 := hQ9.two.1; have q9f := hQ9.free 0; have H9 := Lib.hid (And.intro ho9 (And.intro hb9 hQ9)); clear ho9 hb9 hg9 hQ9)
                have X : ∃ (j' : Nat) (PA' : Option Addr) (pc' : Nat), (Value.int .i64 ((j : Int) + 1)) = .int .i64 j' ∧ j' ≤ xn ∧ Hid (Ow iV 3 (w9.setCell ⟨yb, 0, none⟩ (.slice PA9 (j + 1) pc9)) W8.heap.size (.slice PA' j' pc') ((xps.take j').map (newO od))) ∧ Bk (w9.setCell ⟨yb, 0, none⟩ (.slice PA9 (j + 1) pc9)) yb 49 #[.slice PA' j' pc', .slice DA xm dc] ∧ Hid (Kept (fun b => b = yb) W8 (w9.setCell ⟨yb, 0, none⟩ (.slice PA9 (j + 1) pc9))) := by
                  obtain ⟨h1, h2, h3⟩ := H9.out
                  refine ⟨j + 1, PA9, pc9, by go_num, by omega, Lib.hid ?_, h3.set 0 _, Lib.hid (((hK.out.trans (Kept.of_below (Gw.alloc wr _) _)).bel h2).trans (Kept.set w9 yb 0 _))⟩
                  rw [HTk.out]
                  refine h1.kept (grown_set w9 ⟨yb, 0, none⟩ _) ?_
                  cases e : (Value.slice PA9 (j + 1) pc9).ownBlock with
                  | none => exact .inl rfl
                  | some c => exact .inr (fun e2 => by injection e2 with e2; have e3 : c = yb := e2; have := (h1.lt c e).1; have := HYl.out; omega)
                clear q90 q9f H9 e0 f0 hyl
                go_roundw
                case rel => first | exact X | (obtain ⟨j', PA', pc', x1, x2, x3, x4, x5⟩ := X; exact ⟨_, _, _, _, _, _, _, _, _, _, _, _, _, ⟨j', PA', pc', x1, x2, x3, x4, x5⟩, rfl⟩)
                case measure => simp [Go.RowKit.intOf]; omega
            · have hjx : j = xn := by omega
              subst hjx
              have hps := ho.out
              rw [List.take_of_length_le (by rw [← HX.out.1]; exact Nat.le_refl _)] at hps
              have hVw : Below V0.heap.size V0 wr := H8.out.2.2.2.1.trans (hK.out.below H8.out.2.2.2.1.size (fun c e => by rw [e]; exact H8.out.2.2.2.2.2.1))
              have hbs := hK.out.ow H8.out.2.2.1 (fun c e => ow_ne_bk H8.out.2.2.1 H8.out.1 (by decide) c e)
              have hsb := hb1.below hVw hb1.lt
              have hn2 := hno.out.below hVw
              have hp2 := hS.out.below hVw
              have hrow := hn2.row
              rw [HXl.out] at hrow
              have s0 := hsb.two.1
              have y0 := hb2.two.1
              have y1 := hb2.two.2
              have hsl := hsb.lt
              have hyl := hb2.lt
              have hz8 : w4.heap.size ≤ W8.heap.size := Nat.le_trans hwz.out H8.out.2.2.2.1.size
              have hz9 : w4.heap.size ≤ wr.heap.size := Nat.le_trans hz8 hK.out.size
              have HN2 := Lib.hid (And.intro hn2 (And.intro hp2 (And.intro hsb (And.intro (hps.mono hz8) (hbs.mono hwz.out)))))
              obtain ⟨i0, hi, hz0, hz1, hz2⟩ := info_parts infoN7
              have HI := Lib.hid (And.intro hi (And.intro hz0 (And.intro hz1 hz2)))
              have HRow := Lib.hid (And.intro (ownsRow_below hrow (Gw.alloc wr (.cells #[.slice PA j pc, .slice DA xm dc] 49))) (Nat.le_trans hz9 (Gw.alloc wr (.cells #[.slice PA j pc, .slice DA xm dc] 49)).size))
              have HOne := Lib.hid (show ∀ u ∈ [Value.slice PA j pc, .slice DA xm dc], u.oneCell' = true from fun u hu => by
                simp only [List.mem_cons, List.not_mem_nil, or_false] at hu
                rcases hu with rfl | rfl <;> rfl)
              have hkF : (k : Int) ≤ 1000 := by omega
              clear hps hVw hbs hsb hn2 hp2 hrow hz8 hz9 hi hz0 hz1 hz2 hb1 ho hb2
              go_wp2_with (at_builtin; refine wp_appR 2 i0 Tryd.underlying29 HI.out.1 HI.out.2.1 HI.out.2.2.1 HI.out.2.2.2 (by rfl) (by decide) rfl (.tmp 86) (.tmp 88) rfl w4.heap.size _ k _ rfl HRow.out.1 ⟨wr.heap.size, 0, none⟩ 1 1 [.slice PA j pc, .slice DA xm dc] rfl rfl (two_news (Bk.new wr _ _)) HOne.out (by unfold maxLen; omega) (by omega) HRow.out.2 ?_; intro v5 w9 ho5 hb5 hg5 hv5; obtain ⟨A5, c5, rfl⟩ := own_form ho5; have hQ5 := (HN2.out.2.2.1.alloc (.cells #[.slice PA j pc, .slice DA xm dc] 49)).below hb5 H4.out.1.lt; have q50 := hQ5.two.1; have q5f := hQ5.free 0; have H9 := Lib.hid (And.intro ho5 (And.intro hb5 (And.intro hg5 hQ5))); clear ho5 hb5 hg5 hv5 hQ5)
              have X : ∃ (k' : Nat) (VA' : Option Addr) (vc' : Nat) (xs' : List Nv), (Value.int .i64 ((k : Int) + 1)) = .int .i64 k' ∧ k' ≤ F ∧ Hid (xs'.map Nv.m = pickN ns od (od.take k')) ∧ Hid (NO2 (w9.setCell ⟨sb, 0, none⟩ (.slice A5 (k + 1) c5)) w4.heap.size (.slice VA' k' vc') xs') ∧ Bk (w9.setCell ⟨sb, 0, none⟩ (.slice A5 (k + 1) c5)) sb 32 #[.slice VA' k' vc', .slice none 0 0] ∧ Hid (PS w (w9.setCell ⟨sb, 0, none⟩ (.slice A5 (k + 1) c5)) q (.slice (some ad) N ca) (.slice A2 M ca2) N (toO N od)) ∧ Hid (w4.heap.size ≤ (w9.setCell ⟨sb, 0, none⟩ (.slice A5 (k + 1) c5)).heap.size) := by
                obtain ⟨h1, h2, h3, h4⟩ := H9.out
                obtain ⟨n1, n2, n3, n4, n5⟩ := HN2.out
                have hcs : (⟨PA, pc, DA, dc, xps.map (newO od), xbs⟩ : Nv).cs = [.slice PA j pc, .slice DA xm dc] := by
                  show [Value.slice PA (xps.map (newO od)).length pc, Value.slice DA xbs.length dc] = _
                  rw [List.length_map, ← HX.out.1, ← HX.out.2]
                have hvp : (⟨PA, pc, DA, dc, xps.map (newO od), xbs⟩ : Nv).vp = .slice PA j pc := by injection hcs
                have hvd : (⟨PA, pc, DA, dc, xps.map (newO od), xbs⟩ : Nv).vd = .slice DA xm dc := by injection hcs with _ h; injection h
                have hN9 : NO2 w9 w4.heap.size (.slice A5 (k + 1) c5) (xs ++ [⟨PA, pc, DA, dc, xps.map (newO od), xbs⟩]) := by
                  refine (n1.below (Gw.alloc wr (.cells #[.slice PA j pc, .slice DA xm dc] 49))).app ⟨?_, ?_⟩ ?_ h3
                  · rw [hvp]; exact n4.alloc _
                  · rw [hvd]; exact n5.alloc _
                  · rw [hcs, HXl.out]; exact h1
                refine ⟨k + 1, A5, c5, _, by go_num, by omega, Lib.hid (HNx.out _ rfl), Lib.hid (hN9.far (grown_set w9 ⟨sb, 0, none⟩ _) h4 (by decide) (by decide) (by decide)), h4.set 0 _, Lib.hid ?_, Lib.hid ?_⟩
                · have hq4 := H4.out.2.1.to.ge.2
                  have hp9 := (n2.below (Gw.alloc wr (.cells #[.slice PA j pc, .slice DA xm dc] 49))).grown h3 (fun c e => by
                    have h := (World.ownsRow.lt HRow.out.1 c e).1
                    have := H4.out.2.2
                    have := H4.out.1.lt
                    omega)
                  refine hp9.grown (grown_set w9 ⟨sb, 0, none⟩ _) (fun c e => ?_)
                  have e3 : sb = c := by injection e
                  have := H4.out.2.2
                  refine ⟨by omega, fun e4 => ?_⟩
                  have := ow_ne_bk hp9.to h4 (by decide) q rfl
                  omega
                · have := h2.size
                  have h9 := HRow.out.2
                  simp only [World.setCell]
                  have e : ∀ (W : World) (p : Addr) (v : Value), (W.setCell p v).heap.size = W.heap.size := fun W p v => by simp [World.setCell]
                  have := e w9 ⟨sb, 0, none⟩ (.slice A5 (k + 1) c5)
                  simp only [World.setCell] at this
                  omega
              clear q50 q5f H9 s0 y0 y1
              go_wp2_with fail
              go_roundw
              case rel => exact X
              case measure => simp [Go.RowKit.intOf]; omega
        · have hkF : k = F := by omega
          have hmf := hm.out
          rw [hkF, List.take_of_length_le (by rw [← HN.out.2.1]; exact Nat.le_refl _)] at hmf
          have HSb := Lib.hid hsbl
          have HF1 := Lib.hid (And.intro hno.out (And.intro hmf (And.intro hS.out (And.intro hxl (And.intro hwz.out hb1)))))
          have g0 := hS.out.gb.two.2
          clear hm hno hS hxl hmf hwz
          obtain ⟨N0, hN0⟩ : ∃ N0, N0 = k := ⟨_, rfl⟩
          rw [← hN0] at HF1 hb1
          clear hN0
          go_wp2_with fail
          clear g0 hlt hk hkF
          obtain ⟨V1, hV1⟩ : ∃ V1, V1 = wr := ⟨_, rfl⟩
          rw [← hV1] at HF1 HSb hb1 ⊢
          clear hV1 hsbl
          go_loopw [14] (fun i W => ∃ (k : Nat) (RA : Option Addr) (rc : Nat), i = .int .i64 k ∧ k ≤ M ∧ Hid (W.ownsRow V1.heap.size 56 2 (.slice RA k rc) k (((rs.take k).map fun r => (⟨r.s, newO od r.t⟩ : Rv)).flatMap Rv.cs)) ∧ Bk W sb 32 #[.slice VA N0 vc, .slice RA k rc] ∧ Hid (Kept (fun b => b = sb) V1 W)) (fun i _ => M - (Go.RowKit.intOf i).toNat)
          case atStart => exact ⟨0, none, 0, rfl, Nat.zero_le _, Lib.hid ⟨by simp, .inl ⟨rfl, rfl⟩⟩, hb1, Lib.hid (Kept.refl _ _)⟩
          case round =>
            clear hb1
            obtain ⟨k, RA, rc, rfl, hk, hro, hb1, hK⟩ := hrel
            have hsl := hb1.lt
            have hsb2 := H4.out.2.2
            have HPS := Lib.hid (show PS w wr q (.slice GA N ca) (.slice A2 M ca2) N (toO N od) from by
              obtain ⟨_, _, h3, _, _, h6⟩ := HF1.out
              have hne : ∀ b, ¬ b = sb → ¬ (b = sb) := fun _ h => h
              refine ⟨hK.out.bk h3.gb (by omega), hK.out.bk h3.rb (by omega), hK.out.ow h3.to (ow_ne_bk h3.to h6 (by decide)), h3.bl.trans (hK.out.below h3.bl.size (fun c e => by rw [e]; omega))⟩)
            have g1 := HPS.out.gb.two.2
            have hgl := HPS.out.gb.lt
            by_cases hlt : k < M
            · have hkl : k < rs.length := by rw [← HN.out.2.2]; exact hlt
              obtain ⟨x, hx⟩ : ∃ x, x = rs[k] := ⟨_, rfl⟩
              obtain ⟨ad, rfl, hc2, hc3⟩ : ∃ ad, A2 = some ad ∧ wr.cell? (ad.add (k * 2)) = some (.string x.s) ∧ wr.cell? ⟨(ad.add (k * 2)).block, (ad.add (k * 2)).off + 1, none⟩ = some (.int .i64 x.t) := by
                obtain ⟨ad, e, _, h1, h2⟩ := (HG.out.r.below HPS.out.bl) k hkl
                exact ⟨ad, e, by rw [hx]; exact h1, by rw [hx]; exact h2⟩
              have hto := okP_iff.1 (HRt.out x (by rw [hx]; exact List.getElem_mem _))
              have HTk := Lib.hid (show ((rs.take (k + 1)).map fun r => (⟨r.s, newO od r.t⟩ : Rv)).flatMap Rv.cs = ((rs.take k).map fun r => (⟨r.s, newO od r.t⟩ : Rv)).flatMap Rv.cs ++ [.string x.s, .int .i64 (newO od x.t)] from by
                rw [take_snoc rs k hkl, List.map_append, List.flatMap_append, ← hx]; simp [Rv.cs])
              obtain ⟨s, tt⟩ := x
              simp only at hc2 hc3 hto HTk
              have hcl := cell_lt hc2
              have hcl' : (ad.add (k * 2)).block < wr.heap.size := hcl
              have p1 : (0 : Int) ≤ (k : Int) := by omega
              have p2 : (k : Int) < (M : Int) := by omega
              have e1 := hb1.two.2
              have e1f := hb1.free 1
              obtain ⟨i0, hi, hz0, hz1, hz2⟩ := info_parts infoR7
              have HI := Lib.hid (And.intro hi (And.intro hz0 (And.intro hz1 hz2)))
              clear hx hkl hcl hi hz0 hz1 hz2
              by_cases ht0 : tt = 0
              · subst ht0
                have hn0 : newO od 0 = 0 := newO_zero (fun p hp => by have := hasG_iff.1 (HOd.out.1 p hp); omega)
                rw [hn0] at HTk
                clear hn0 hto
                have b5 : Below wr.heap.size wr ((wr.alloc (.cells #[.string s, .int .i64 0] 56)).alloc (.cells #[.string s, .int .i64 0] 56)) := (Gw.alloc wr _).trans ((Gw.alloc _ _).mono (by simp))
                have n5 : Bk ((wr.alloc (.cells #[.string s, .int .i64 0] 56)).alloc (.cells #[.string s, .int .i64 0] 56)) (wr.heap.size + 1) 56 #[.string s, .int .i64 0] := by
                  have := Bk.new (wr.alloc (.cells #[.string s, .int .i64 0] 56)) 56 #[.string s, .int .i64 0]
                  simpa using this
                have HB5 := Lib.hid b5
                have HRow := Lib.hid (And.intro (ownsRow_below hro.out b5) (And.intro (two_news n5) (show V1.heap.size ≤ ((wr.alloc (.cells #[.string s, .int .i64 0] 56)).alloc (.cells #[.string s, .int .i64 0] 56)).heap.size from Nat.le_trans hK.out.size b5.size)))
                have HOne := Lib.hid (show ∀ u ∈ [Value.string s, .int .i64 0], u.oneCell' = true from fun u hu => by
                  simp only [List.mem_cons, List.not_mem_nil, or_false] at hu
                  rcases hu with rfl | rfl <;> rfl)
                have HB1 := Lib.hid hb1
                clear b5 n5 hb1
                go_wp2_with (at_builtin; refine wp_appR 2 i0 Tryd.underlying30 HI.out.1 HI.out.2.1 HI.out.2.2.1 HI.out.2.2.2 (by rfl) (by decide) rfl (.tmp 113) (.tmp 118) rfl V1.heap.size _ k _ rfl HRow.out.1 ⟨wr.heap.size + 1, 0, none⟩ 1 1 [.string s, .int .i64 0] rfl rfl HRow.out.2.1 HOne.out (by unfold maxLen; omega) (by omega) HRow.out.2.2 ?_; intro v5 w9 ho5 hb5 hg5 hv5; obtain ⟨A5, c5, rfl⟩ := own_form ho5; have hQ5 := (HB1.out.below HB5.out hsl).below hb5 HSb.out; have q50 := hQ5.two.2; have q5f := hQ5.free 1; have H9 := Lib.hid (And.intro ho5 (And.intro hb5 hQ5)); clear ho5 hb5 hg5 hv5 hQ5)
                have X : ∃ (k' : Nat) (RA' : Option Addr) (rc' : Nat), (Value.int .i64 ((k : Int) + 1)) = .int .i64 k' ∧ k' ≤ M ∧ Hid ((w9.setCell ⟨sb, 1, none⟩ (.slice A5 (k + 1) c5)).ownsRow V1.heap.size 56 2 (.slice RA' k' rc') k' (((rs.take k').map fun r => (⟨r.s, newO od r.t⟩ : Rv)).flatMap Rv.cs)) ∧ Bk (w9.setCell ⟨sb, 1, none⟩ (.slice A5 (k + 1) c5)) sb 32 #[.slice VA N0 vc, .slice RA' k' rc'] ∧ Hid (Kept (fun b => b = sb) V1 (w9.setCell ⟨sb, 1, none⟩ (.slice A5 (k + 1) c5))) := by
                  obtain ⟨h1, h2, h3⟩ := H9.out
                  refine ⟨k + 1, A5, c5, by go_num, by omega, Lib.hid ?_, h3.set 1 _, Lib.hid (((hK.out.trans (Kept.of_below HB5.out _)).bel h2).trans (Kept.set w9 sb 1 _))⟩
                  rw [HTk.out]
                  refine World.ownsRow.kept h1 (grown_set w9 ⟨sb, 1, none⟩ _) ?_
                  cases e : (Value.slice A5 (k + 1) c5).ownBlock with
                  | none => exact .inl rfl
                  | some c => exact .inr (fun e2 => by injection e2 with e2; have e3 : c = sb := e2; have := (World.ownsRow.lt h1 c e).1; have := HSb.out; omega)
                clear q50 q5f H9
                go_wp2_with fail
                go_roundw
                case rel => first | exact X | exact ⟨_, _, _, _, _, _, _, _, _, _, _, _, _, _, _, _, _, _, _, _, _, _, _, X, rfl⟩
                case measure => simp [Go.RowKit.intOf]; omega
              · obtain ⟨n', rfl, hn'⟩ : ∃ n' : Nat, tt = (n' : Int) + 1 ∧ n' < N := ⟨(tt - 1).toNat, by omega, by omega⟩
                have hcn := HPS.out.to.cell (j := n') (by rw [toO_len]; exact hn')
                have hu : (toO N od)[n']'(by rw [toO_len]; exact hn') = newO od ((n' : Int) + 1) := by
                  have := toO_get (l := od) hn'
                  rw [List.getElem?_eq_getElem (by rw [toO_len]; exact hn')] at this
                  injection this
                rw [hu] at hcn
                unfold iV at hcn
                obtain ⟨y, hy⟩ : ∃ y, y = newO od ((n' : Int) + 1) := ⟨_, rfl⟩
                rw [← hy] at hcn HTk
                have p6 : (0 : Int) ≤ (n' : Int) := by omega
                have p7 : (n' : Int) < (N : Int) := by omega
                have hnz : ¬ (n' : Int) + 1 = 0 := by omega
                have hql := HPS.out.to.ge.2
                clear hu hy ht0 hto
                have b5 : Below wr.heap.size wr ((wr.alloc (.cells #[.string s, .int .i64 ((n' : Int) + 1)] 56)).alloc (.cells #[.string s, .int .i64 y] 56)) := (Gw.alloc wr _).trans ((Gw.alloc _ _).mono (by simp))
                have n5 : Bk ((wr.alloc (.cells #[.string s, .int .i64 ((n' : Int) + 1)] 56)).alloc (.cells #[.string s, .int .i64 y] 56)) (wr.heap.size + 1) 56 #[.string s, .int .i64 y] := by
                  have := Bk.new (wr.alloc (.cells #[.string s, .int .i64 ((n' : Int) + 1)] 56)) 56 #[.string s, .int .i64 y]
                  simpa using this
                have HB5 := Lib.hid b5
                have HRow := Lib.hid (And.intro (ownsRow_below hro.out b5) (And.intro (two_news n5) (show V1.heap.size ≤ ((wr.alloc (.cells #[.string s, .int .i64 ((n' : Int) + 1)] 56)).alloc (.cells #[.string s, .int .i64 y] 56)).heap.size from Nat.le_trans hK.out.size b5.size)))
                have HOne := Lib.hid (show ∀ u ∈ [Value.string s, .int .i64 y], u.oneCell' = true from fun u hu => by
                  simp only [List.mem_cons, List.not_mem_nil, or_false] at hu
                  rcases hu with rfl | rfl <;> rfl)
                have HB1 := Lib.hid hb1
                clear b5 n5 hb1
                go_wp2_with (at_builtin; refine wp_appR 2 i0 Tryd.underlying30 HI.out.1 HI.out.2.1 HI.out.2.2.1 HI.out.2.2.2 (by rfl) (by decide) rfl (.tmp 113) (.tmp 118) rfl V1.heap.size _ k _ rfl HRow.out.1 ⟨wr.heap.size + 1, 0, none⟩ 1 1 [.string s, .int .i64 y] rfl rfl HRow.out.2.1 HOne.out (by unfold maxLen; omega) (by omega) HRow.out.2.2 ?_; intro v5 w9 ho5 hb5 hg5 hv5; obtain ⟨A5, c5, rfl⟩ := own_form ho5; have hQ5 := (HB1.out.below HB5.out hsl).below hb5 HSb.out; have q50 := hQ5.two.2; have q5f := hQ5.free 1; have H9 := Lib.hid (And.intro ho5 (And.intro hb5 hQ5)); clear ho5 hb5 hg5 hv5 hQ5)
                have X : ∃ (k' : Nat) (RA' : Option Addr) (rc' : Nat), (Value.int .i64 ((k : Int) + 1)) = .int .i64 k' ∧ k' ≤ M ∧ Hid ((w9.setCell ⟨sb, 1, none⟩ (.slice A5 (k + 1) c5)).ownsRow V1.heap.size 56 2 (.slice RA' k' rc') k' (((rs.take k').map fun r => (⟨r.s, newO od r.t⟩ : Rv)).flatMap Rv.cs)) ∧ Bk (w9.setCell ⟨sb, 1, none⟩ (.slice A5 (k + 1) c5)) sb 32 #[.slice VA N0 vc, .slice RA' k' rc'] ∧ Hid (Kept (fun b => b = sb) V1 (w9.setCell ⟨sb, 1, none⟩ (.slice A5 (k + 1) c5))) := by
                  obtain ⟨h1, h2, h3⟩ := H9.out
                  refine ⟨k + 1, A5, c5, by go_num, by omega, Lib.hid ?_, h3.set 1 _, Lib.hid (((hK.out.trans (Kept.of_below HB5.out _)).bel h2).trans (Kept.set w9 sb 1 _))⟩
                  rw [HTk.out]
                  refine World.ownsRow.kept h1 (grown_set w9 ⟨sb, 1, none⟩ _) ?_
                  cases e : (Value.slice A5 (k + 1) c5).ownBlock with
                  | none => exact .inl rfl
                  | some c => exact .inr (fun e2 => by injection e2 with e2; have e3 : c = sb := e2; have := (World.ownsRow.lt h1 c e).1; have := HSb.out; omega)
                clear q50 q5f H9
                go_wp2_with fail
                go_roundw
                case rel => first | exact X | exact ⟨_, _, _, _, _, _, _, _, _, _, _, _, _, _, _, _, _, _, _, _, _, _, _, X, rfl⟩
                case measure => simp [Go.RowKit.intOf]; omega
            · have hkM : k = M := by omega
              have hr9 := hro.out
              rw [hkM, List.take_of_length_le (by rw [← HN.out.2.2]; exact Nat.le_refl _)] at hr9
              rw [hkM] at hb1
              have d0 := HPS.out.rb.two.1
              have d1 := HPS.out.rb.two.2
              have d2 := HPS.out.rb.free 0
              have d3 := HPS.out.rb.free 1
              have e0 := hb1.two.1
              have e1 := hb1.two.2
              have HR9 := Lib.hid (And.intro hr9 hb1)
              clear hr9 hb1 hro hkM
              go_wp2_with fail
              have o1 := HPS.out.rb
              have hbz : Bk ((wr.setCell ⟨w.heap.size + 1, 0, none⟩ (.slice VA N0 vc)).setCell ⟨w.heap.size + 1, 1, none⟩ (.slice RA M rc)) (w.heap.size + 1) 32 #[.slice VA N0 vc, .slice RA M rc] := by
                have h := (o1.set 0 (.slice VA N0 vc)).set 1 (.slice RA M rc)
                simpa using h
              refine bodyPost_ret (v := .tuple #[.agg #[.slice VA N0 vc, .slice RA M rc], .slice (some ⟨q, 0, none⟩) N N]) (pick_res hbz rfl rfl) rfl ?_
              have hKf : Kept (fun b => b = w.heap.size + 1) wr ((wr.setCell ⟨w.heap.size + 1, 0, none⟩ (.slice VA N0 vc)).setCell ⟨w.heap.size + 1, 1, none⟩ (.slice RA M rc)) := (Kept.set wr _ 0 _).trans (Kept.set _ _ 1 _)
              have hbf : Below w.heap.size w ((wr.setCell ⟨w.heap.size + 1, 0, none⟩ (.slice VA N0 vc)).setCell ⟨w.heap.size + 1, 1, none⟩ (.slice RA M rc)) := HPS.out.bl.trans (hKf.below HPS.out.bl.size (fun c e => by rw [e]; omega))
              obtain ⟨n1, n2, n3, n4, n5, n6⟩ := HF1.out
              have h4 := H4.out.1.lt
              have h5 := H4.out.2.2
              have r1 := row_kept hKf (row_kept hK.out n1.row (fun c e => by rw [e]; exact h4)) (fun c e => by rw [e]; omega)
              have r2 : ((wr.setCell ⟨w.heap.size + 1, 0, none⟩ (.slice VA N0 vc)).setCell ⟨w.heap.size + 1, 1, none⟩ (.slice RA M rc)).ownsRow V1.heap.size 56 2 (.slice RA M rc) (rs.map fun r => (⟨r.s, newO od r.t⟩ : Rv)).length ((rs.map fun r => (⟨r.s, newO od r.t⟩ : Rv)).flatMap Rv.cs) := by
                rw [List.length_map, ← HN.out.2.2]
                exact row_kept hKf HR9.out.1 (fun c e => by rw [e]; omega)
              have r1' : ((wr.setCell ⟨w.heap.size + 1, 0, none⟩ (.slice VA N0 vc)).setCell ⟨w.heap.size + 1, 1, none⟩ (.slice RA M rc)).ownsRow w.heap.size 49 2 (.slice VA xs.length vc) xs.length (xs.flatMap Nv.cs) := by
                rw [n4]; rw [n4] at r1; exact own_le r1 (by omega)
              have r2' : ((wr.setCell ⟨w.heap.size + 1, 0, none⟩ (.slice VA N0 vc)).setCell ⟨w.heap.size + 1, 1, none⟩ (.slice RA M rc)).ownsRow w.heap.size 56 2 (.slice RA (rs.map fun r => (⟨r.s, newO od r.t⟩ : Rv)).length rc) (rs.map fun r => (⟨r.s, newO od r.t⟩ : Rv)).length ((rs.map fun r => (⟨r.s, newO od r.t⟩ : Rv)).flatMap Rv.cs) := by
                rw [List.length_map, ← HN.out.2.2]
                rw [List.length_map, ← HN.out.2.2] at r2
                exact own_le r2 (by omega)
              have hGO : GO2 ((wr.setCell ⟨w.heap.size + 1, 0, none⟩ (.slice VA N0 vc)).setCell ⟨w.heap.size + 1, 1, none⟩ (.slice RA M rc)) w.heap.size (Gv.mk VA vc RA rc xs (rs.map fun r => (⟨r.s, newO od r.t⟩ : Rv))) := by
                refine ⟨⟨r1', fun x hx => ?_⟩, r2'⟩
                obtain ⟨x1, x2⟩ := n1.each x hx
                refine ⟨?_, ?_⟩
                · exact (hKf.ow (hK.out.ow x1 (ow_ne_bk x1 n6 (by decide))) (fun c e e2 => by have := (x1.lt c e).1; omega)).mono (by omega)
                · exact (hKf.ow (hK.out.ow x2 (ow_ne_bk x2 n6 (by decide))) (fun c e e2 => by have := (x2.lt c e).1; omega)).mono (by omega)
              refine ⟨_, q, ?_, hGO, ?_, n2, rfl, hbf⟩
              · show Ending.returned _ = Ending.returned (Value.tuple #[.agg #[.slice VA xs.length vc, .slice RA (rs.map fun r => (⟨r.s, newO od r.t⟩ : Rv)).length rc], _])
                rw [List.length_map, ← HN.out.2.2, n4]
              · have h7 := HPS.out.to.ge.1
                exact (hKf.ow HPS.out.to (fun c e e2 => by injection e with e; have e3 : q = c := e; omega)).mono (by omega)
end Go.Proofs.YtdppnggchpchgaaDoor
