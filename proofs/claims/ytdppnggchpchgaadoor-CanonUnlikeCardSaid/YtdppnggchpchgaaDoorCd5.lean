/- Texts joined: GtD GrJ GrK OpenR OpenG GtE GuD GuF. -/
import Derived.Test.YtdppnggchpchgaaDoorCd4
import Derived.Test.YtdppnggchpchgaaDoorFrame
import Derived.Deep.Slices
import Derived.Deep.Fields
import Derived.Test.YtdppnggchpchgaaDoorGrA
/- Stores into the rows of nodes of one's own. No conditions. -/
namespace Go.Proofs.YtdppnggchpchgaaDoor
set_option linter.unusedVariables false
set_option linter.unusedSimpArgs false
open Go.RowKit Go.Maps
def Nv.bl (x : Nv) : List Nat := x.vp.ownBlock.toList ++ x.vd.ownBlock.toList
theorem blksN_cons (x : Nv) (xs : List Nv) : blksN (x :: xs) = x.bl ++ blksN xs := rfl
theorem bl_mem {xs : List Nv} {i : Nat} {x : Nv} (h : xs[i]? = some x) {c : Nat} (hc : c ∈ x.bl) : c ∈ blksN xs := by
  obtain ⟨hi, rfl⟩ := List.getElem?_eq_some_iff.1 h
  exact List.mem_flatMap.2 ⟨_, List.getElem_mem _, hc⟩
theorem bl_ne : ∀ {xs : List Nv} {i j : Nat} {x y : Nv} {c : Nat}, (blksN xs).Nodup → xs[i]? = some x → xs[j]? = some y → i ≠ j → c ∈ x.bl → c ∉ y.bl
  | [], i, j, x, y, c, _, h, _, _, _ => by simp at h
  | a :: l, 0, 0, x, y, c, _, _, _, hn, _ => absurd rfl hn
  | a :: l, 0, j + 1, x, y, c, hd, hx, hy, _, hc => fun hc2 => by
    rw [blksN_cons, List.nodup_append] at hd
    obtain rfl : a = x := by simpa using hx
    exact hd.2.2 c hc c (bl_mem (by simpa using hy) hc2) rfl
  | a :: l, i + 1, 0, x, y, c, hd, hx, hy, _, hc => fun hc2 => by
    rw [blksN_cons, List.nodup_append] at hd
    obtain rfl : a = y := by simpa using hy
    exact hd.2.2 c hc2 c (bl_mem (by simpa using hx) hc) rfl
  | a :: l, i + 1, j + 1, x, y, c, hd, hx, hy, hn, hc => by
    rw [blksN_cons, List.nodup_append] at hd
    exact bl_ne hd.2.1 (by simpa using hx) (by simpa using hy) (by omega) hc
theorem set_flat {β : Type} (f : Nv → List β) : ∀ (xs : List Nv) (i : Nat) (x y : Nv), xs[i]? = some x → f y = f x → (xs.set i y).flatMap f = xs.flatMap f
  | [], i, x, y, h, _ => by simp at h
  | a :: l, 0, x, y, h, e => by
    obtain rfl : a = x := by simpa using h
    simp [e]
  | a :: l, i + 1, x, y, h, e => by
    rw [List.set_cons_succ, List.flatMap_cons, List.flatMap_cons, set_flat f l i x y (by simpa using h) e]
section
variable {W W' : World} {base : Nat} {v : Value} {xs : List Nv} {i : Nat} {x y : Nv} {q : Nat}
/-- One of a node's two rows turns in place: its block is no other row's. -/
theorem NOwn.turn (h : NOwn W base v xs) (hx : xs[i]? = some x) (hp : y.vp = x.vp) (hd : y.vd = x.vd) (hq : q ∈ x.bl) (hg : W.grownBy W' (some q))
    (he : Ow iV 3 W' base y.vp y.ps ∧ Ow b8 5 W' base y.vd y.bs) : NOwn W' base v (xs.set i y) := by
  have hnd := List.nodup_append.1 h.dist
  have hqv : ∀ c, v.ownBlock = some c → c ≠ q := fun c e e2 => hnd.2.2 c (by simp [e]) q (bl_mem hx hq) e2
  have key : ∀ u : Value, (∀ c, u.ownBlock = some c → c ≠ q) → u.ownBlock = none ∨ u.ownBlock ≠ some q := fun u hu => by
    cases e : u.ownBlock with
    | none => exact .inl rfl
    | some k => exact .inr (fun e2 => hu k e (by injection e2))
  refine ⟨?_, fun z hz => ?_, ?_⟩
  · rw [List.length_set, set_flat Nv.cs xs i x y hx (by unfold Nv.cs; rw [hp, hd])]
    exact World.ownsRow.kept h.row hg (key _ hqv)
  · obtain ⟨j, hj, rfl⟩ := List.mem_iff_getElem.1 hz
    rw [List.length_set] at hj
    by_cases e : i = j
    · subst e
      rw [List.getElem_set_self]
      exact he
    · rw [List.getElem_set_ne e]
      obtain ⟨g1, g2⟩ := h.each _ (List.getElem_mem hj)
      have hno := fun c (hc : c ∈ (xs[j]).bl) => bl_ne hnd.2.1 (List.getElem?_eq_getElem hj) hx (fun e2 => e e2.symm) hc
      refine ⟨g1.kept hg (key _ fun c hc e2 => hno c (by unfold Nv.bl; simp [hc]) (by rw [e2]; exact hq)), g2.kept hg (key _ fun c hc e2 => hno c (by unfold Nv.bl; simp [hc]) (by rw [e2]; exact hq))⟩
  · have : blksN (xs.set i y) = blksN xs := set_flat _ xs i x y hx (by rw [hp, hd])
    rw [this]; exact h.dist
/-- Where a row's element lies that is one's own. -/
theorem ow_spot {α : Type} {f : α → Value} {E : TypeId} {A : Option Addr} {n c j : Nat} {l : List α} (h : Ow f E W base (.slice A n c) l) (hj : j < l.length) : ∃ q, A = some ⟨q, 0, none⟩ ∧ W.cell? ⟨q, j, none⟩ = some (f l[j]) ∧ W.frozen? ⟨q, j, none⟩ = false ∧ base ≤ q ∧ q < W.heap.size := by
  rcases h.2 with ⟨e, hn⟩ | ⟨g, cap, cur, e, hb, hh, _⟩
  · have : l = [] := by simpa using hn
    subst this
    exact absurd hj (by simp)
  · injection e with e1 e2 e3
    subst e1
    exact ⟨g, rfl, h.cell hj, h.free j, hb, (Array.getElem?_eq_some_iff.1 hh).1⟩
theorem NOwn.setB (h : NOwn W base v xs) (hx : xs[i]? = some x) {j : Nat} (hj : j < x.bs.length) (hA : x.D = some ⟨q, 0, none⟩) (z : BitVec 8) : NOwn (W.setCell ⟨q, j, none⟩ (b8 z)) base v (xs.set i { x with bs := x.bs.set j z }) := by
  obtain ⟨hi, rfl⟩ := List.getElem?_eq_some_iff.1 hx
  obtain ⟨g1, g2⟩ := h.each _ (List.getElem_mem hi)
  have hnd := List.nodup_append.1 h.dist
  have hqd : (xs[i]).vd.ownBlock = some q := by unfold Nv.vd; rw [hA]; rfl
  have hqp : ∀ c, (xs[i]).vp.ownBlock = some c → c ≠ q := fun c e e2 => by
    obtain ⟨a, b, ha⟩ : ∃ a b, xs = a ++ xs[i] :: b := ⟨xs.take i, xs.drop (i + 1), by rw [List.getElem_cons_drop, List.take_append_drop]⟩
    have h2 := hnd.2.1
    rw [ha, blks_app, blksN_cons] at h2
    have h3 := (List.nodup_append.1 (List.nodup_append.1 (List.nodup_append.1 h2).2.1).1).2.2
    exact h3 c (by simp [e]) q (by simp [hqd]) e2
  have e1 : (xs[i]).vd = .slice (some ⟨q, 0, none⟩) (xs[i]).bs.length (xs[i]).d := by unfold Nv.vd; rw [hA]
  refine h.turn hx rfl (by unfold Nv.vd; simp) (q := q) (by unfold Nv.bl; simp [hqd]) (grown_set W ⟨q, j, none⟩ _) ⟨?_, ?_⟩
  · refine g1.kept (grown_set W ⟨q, j, none⟩ _) ?_
    cases e : (xs[i]).vp.ownBlock with
    | none => exact .inl rfl
    | some c => exact .inr (fun e2 => hqp c e (by injection e2))
  · rw [e1] at g2
    have := g2.set hj z
    unfold Nv.vd
    simp only [List.length_set]
    rw [hA]
    exact this
theorem NOwn.setP (h : NOwn W base v xs) (hx : xs[i]? = some x) {j : Nat} (hj : j < x.ps.length) (hA : x.A = some ⟨q, 0, none⟩) (z : Int) : NOwn (W.setCell ⟨q, j, none⟩ (iV z)) base v (xs.set i { x with ps := x.ps.set j z }) := by
  obtain ⟨hi, rfl⟩ := List.getElem?_eq_some_iff.1 hx
  obtain ⟨g1, g2⟩ := h.each _ (List.getElem_mem hi)
  have hnd := List.nodup_append.1 h.dist
  have hqp : (xs[i]).vp.ownBlock = some q := by unfold Nv.vp; rw [hA]; rfl
  have hqd : ∀ c, (xs[i]).vd.ownBlock = some c → c ≠ q := fun c e e2 => by
    obtain ⟨a, b, ha⟩ : ∃ a b, xs = a ++ xs[i] :: b := ⟨xs.take i, xs.drop (i + 1), by rw [List.getElem_cons_drop, List.take_append_drop]⟩
    have h2 := hnd.2.1
    rw [ha, blks_app, blksN_cons] at h2
    have h3 := (List.nodup_append.1 (List.nodup_append.1 (List.nodup_append.1 h2).2.1).1).2.2
    exact h3 q (by simp [hqp]) c (by simp [e]) e2.symm
  have e1 : (xs[i]).vp = .slice (some ⟨q, 0, none⟩) (xs[i]).ps.length (xs[i]).c := by unfold Nv.vp; rw [hA]
  refine h.turn hx (by unfold Nv.vp; simp) rfl (q := q) (by unfold Nv.bl; simp [hqp]) (grown_set W ⟨q, j, none⟩ _) ⟨?_, ?_⟩
  · rw [e1] at g1
    have := g1.set hj z
    unfold Nv.vp
    simp only [List.length_set]
    rw [hA]
    exact this
  · refine g2.kept (grown_set W ⟨q, j, none⟩ _) ?_
    cases e : (xs[i]).vd.ownBlock with
    | none => exact .inl rfl
    | some c => exact .inr (fun e2 => hqd c e (by injection e2))
end
theorem u8_succ (y : BitVec 8) : IntKind.u8.wrap (U8 y + 1) = U8 (y + 1#8) := by
  revert y; decide +kernel
end Go.Proofs.YtdppnggchpchgaaDoor
/- The graph of loamlaw17.known: three nodes, one that nobody reaches. No conditions. -/
namespace Go.Proofs.YtdppnggchpchgaaDoor
set_option linter.unusedVariables false
set_option linter.unusedSimpArgs false
open Go.RowKit Go.Maps
def kN (s : Nat) : List Nv := [⟨some ⟨s, 0, none⟩, 1, none, 0, [2], []⟩, ⟨none, 0, some ⟨s + 1, 0, none⟩, 1, [], [120#8]⟩, ⟨none, 0, none, 0, [], []⟩]
def kR : List Rv := [⟨⟨#[97]⟩, 1⟩]
def kG (s : Nat) : Gv := ⟨some ⟨s + 1 + 1, 0, none⟩, 3, some ⟨s + 1 + 1 + 1, 0, none⟩, 1, kN s, kR⟩
/-- Behind the literal. -/
def kW (w : World) : World := (((((w.alloc (.cells #[.int .i64 2] 3)).alloc (.cells #[.int .u8 120] 5 (1, 2))).alloc
              (.cells #[.slice (some ⟨w.heap.size, 0, none⟩) 1 1, .slice none 0 0, .slice none 0 0, .slice (some ⟨w.heap.size + 1, 0, none⟩) 1 1, .slice none 0 0, .slice none 0 0] 52)).alloc
          (.cells #[.string ⟨#[97]⟩, .int .i64 1] 55)).alloc
      (.cells #[.slice (some ⟨w.heap.size + 1 + 1, 0, none⟩) 3 3, .slice (some ⟨w.heap.size + 1 + 1 + 1, 0, none⟩) 1 1] 25))
end Go.Proofs.YtdppnggchpchgaaDoor
/- What loamlaw17.known answers. No conditions. -/
namespace Go.Proofs.YtdppnggchpchgaaDoor
set_option linter.unusedVariables false
set_option linter.unusedSimpArgs false
open Go.RowKit Go.Maps
set_option maxHeartbeats 4000000
set_option maxRecDepth 100000
/-- What known holds, behind Trim and Reach. -/
structure KS (w W : World) (b2 q qr : Nat) (t : Gv) (M : Nat) : Prop where
  ga : (kG w.heap.size).At W W.heap.size
  ta : t.At W W.heap.size
  bx : Bk W (w.heap.size + 1 + 1 + 1 + 1) 25 #[.slice (some ⟨w.heap.size + 1 + 1, 0, none⟩) 3 3, .slice (some ⟨w.heap.size + 1 + 1 + 1, 0, none⟩) 1 1]
  by_ : Bk W b2 25 #[.slice t.A 2 t.c, .slice t.A2 M t.c2]
  to : Ow iV 3 W 0 (.slice (some ⟨q, 0, none⟩) 3 3) [1, 2, 0]
  re : Ow tV 4 W 0 (.slice (some ⟨qr, 0, none⟩) 3 3) [false, true, false]
  bl : Below w.heap.size w W
theorem KS.below {w W W' : World} {b2 q qr : Nat} {t : Gv} {M : Nat} (h : KS w W b2 q qr t M) (hb : Below W.heap.size W W') : KS w W' b2 q qr t M :=
  ⟨h.ga.up hb, h.ta.up hb, h.bx.below hb h.bx.lt, h.by_.below hb h.by_.lt, h.to.below hb, h.re.below hb, h.bl.trans (hb.mono h.bl.size)⟩
theorem KS.cells {w W : World} {b2 q qr : Nat} {t : Gv} {M : Nat} (h : KS w W b2 q qr t M) : W.cell? ⟨w.heap.size + 1 + 1 + 1 + 1, 0, none⟩ = some (.slice (some ⟨w.heap.size + 1 + 1, 0, none⟩) 3 3) ∧ W.cell? ⟨w.heap.size + 1 + 1 + 1 + 1, 1, none⟩ = some (.slice (some ⟨w.heap.size + 1 + 1 + 1, 0, none⟩) 1 1) ∧
    W.cell? ⟨b2, 0, none⟩ = some (.slice t.A 2 t.c) ∧ W.cell? ⟨b2, 1, none⟩ = some (.slice t.A2 M t.c2) ∧ W.cell? ⟨q, 1, none⟩ = some (.int .i64 2) ∧ W.cell? ⟨q, 2, none⟩ = some (.int .i64 0) ∧ W.cell? ⟨qr, 0, none⟩ = some (.bool false) ∧ W.cell? ⟨qr, 1, none⟩ = some (.bool true) :=
  ⟨h.bx.two.1, h.bx.two.2, h.by_.two.1, h.by_.two.2, h.to.cell (j := 1) (by decide), h.to.cell (j := 2) (by decide), h.re.cell (j := 0) (by decide), h.re.cell (j := 1) (by decide)⟩
theorem of_retK {P : Program} {f : FuncId} {args : Array Value} {v : Value} {w : World} (h : Calls P f args w (RetP v w)) : Calls P f args w fun e w2 => ∃ u, e = .returned u ∧ Below w.heap.size w w2 ∧ IsV v u w2 :=
  h.mono fun _ _ h => ⟨_, h.1, h.2, rfl⟩
def kA (w : World) : Value := .agg #[.slice (some ⟨w.heap.size + 1 + 1, 0, none⟩) 3 3, .slice (some ⟨w.heap.size + 1 + 1 + 1, 0, none⟩) 1 1]
def LenV (n : Nat) (v : Value) (_ : World) : Prop := ∃ A c, v = .slice A n c
theorem LenV.mono {n : Nat} {v : Value} {a b : World} (h : LenV n v a) (_ : Below a.heap.size a b) : LenV n v b := h
def TwV (w : World) (v : Value) (W : World) : Prop := ∃ g : Gv, v = .agg #[g.vn, g.vr] ∧ g.At W W.heap.size ∧ g.Small ∧ sameG g (kG w.heap.size) = true
theorem TwV.mono {w : World} {v : Value} {a b : World} (h : TwV w v a) (hb : Below a.heap.size a b) : TwV w v b := by
  obtain ⟨g, e, h1, h2⟩ := h
  exact ⟨g, e, h1.up hb, h2⟩
end Go.Proofs.YtdppnggchpchgaaDoor
/- How an argument that is a row of structs is opened. No conditions. -/
namespace Go.Proofs.YtdppnggchpchgaaDoor
set_option linter.unusedVariables false
set_option linter.unusedSimpArgs false
open Go.ChangeShapes Go.WideShapes Go.ChangeAt Go.RowKit
section
variable {H : Type} {enc : TypeId × Value → H} {P : Program} {w : World} {base : Nat} {spare : Nat → Bool} {held : Bool} {r : Reach} {b0 : Nat}
theorem cell_int {k : IntKind} {n : Nat} {t : TypeId} {u : Value} {y : DataW H × List MemPlace} (ht : P.underlying t = some (.int k)) (h : DataW.trod enc P w base spare held n t [u] = some y) : ∃ a, u = .int k a ∧ (Lit.int k a).wf = true := by
  obtain ⟨a, h, _, hw⟩ := DataW.trod_int ht h
  exact ⟨a, by simpa using h, hw⟩
/-- A cell that is a slice of numbers. -/
theorem cell_nums {α : Type} (f : α → Value) {k : IntKind} {n : Nat} {t e : TypeId} {u : Value} {y : DataW H × List MemPlace} (hf : ∀ z : Int, (Lit.int k z).wf = true → ∃ a, f a = .int k z) (ht : P.underlying t = some (.slice e)) (he : P.underlying e = some (.int k)) (hc : P.cellsOf e = 1) (h : DataW.trod enc P w base spare held n t [u] = some y) :
    ∃ (A : Option Addr) (bs : List α) (c : Nat), u = .slice A bs.length c ∧ bs.length ≤ c ∧ c ≤ maxLen ∧ Rd f w w.heap.size A bs := by
  rcases open_ints ht he hc h with ⟨hcs, _⟩ | ⟨x, l, c, zs, hcs, _, hl, hm, hz, _, hcell, hwz⟩
  · have hu : u = .slice none 0 0 := by simpa using hcs
    exact ⟨none, [], 0, hu, Nat.le_refl _, by simp [maxLen], Rd.nil⟩
  · have hu : u = .slice (some x) l c := by simpa using hcs
    have hlen : l ≤ zs.length := by rw [hz]; split <;> omega
    have : ∃ bs : List α, bs.length = l ∧ ∀ j (h : j < bs.length), f bs[j] = .int k (zs.getD j 0) := by
      have hk : ∀ m, m ≤ l → ∃ bs : List α, bs.length = m ∧ ∀ j (h : j < bs.length), f bs[j] = .int k (zs.getD j 0) := by
        intro m
        induction m with
        | zero => intro _; exact ⟨[], rfl, fun j h => absurd h (by simp)⟩
        | succ m ih =>
          intro hm
          obtain ⟨bs, hb, hp⟩ := ih (by omega)
          obtain ⟨a, ha⟩ := hf (zs.getD m 0) (hwz _ (by rw [List.getD_eq_getElem?_getD, List.getElem?_eq_getElem (by omega)]; exact List.getElem_mem _))
          refine ⟨bs ++ [a], by simp [hb], fun j hj => ?_⟩
          rw [List.getElem_append]
          split
          · exact hp j _
          · have : j = m := by simp at hj; omega
            subst this
            simpa using ha
      exact hk l (Nat.le_refl _)
    obtain ⟨bs, hb, hp⟩ := this
    refine ⟨some x, bs, c, by rw [hb]; exact hu, by omega, hm, fun j hj => ?_⟩
    have hc1 := hcell j (by omega)
    have hbk := cell_lt hc1
    rw [add_block] at hbk
    exact ⟨x, rfl, hbk, by rw [hc1, hp j hj]⟩
end
theorem choose_lst {α : Type} {p : Nat → α → Prop} : ∀ n : Nat, (∀ r, r < n → ∃ x, p r x) → ∃ l : List α, l.length = n ∧ ∀ r (h : r < l.length), p r l[r]
  | 0, _ => ⟨[], rfl, fun r h => absurd h (by simp)⟩
  | n + 1, h => by
    obtain ⟨l, hl, hp⟩ := choose_lst n fun r hr => h r (by omega)
    obtain ⟨x, hx⟩ := h n (by omega)
    refine ⟨l ++ [x], by simp [hl], fun r hr => ?_⟩
    rw [List.getElem_append]
    split
    · exact hp r _
    · have : r = n := by simp at hr; omega
      subst this
      simpa using hx
theorem num8 : ∀ z : Int, (Lit.int .u8 z).wf = true → ∃ a : BitVec 8, b8 a = .int .u8 z := fun z h => ⟨_, by unfold b8; rw [← wfu8 h]⟩
set_option maxRecDepth 100000
theorem add_far (a : Addr) (m j : Nat) : a.add (m + (j + 1)) = ⟨(a.add m).block, (a.add m).off + (j + 1), none⟩ := by
  rw [← add_add']
  rfl
/-- One of CodeBack's items. -/
structure Itm where
  op : Int
  u : BitVec 64
  i : BitVec 64
  ba : Option Addr
  bb : List (BitVec 8)
  bc : Nat
  wa : Option Addr
  ww : List (BitVec 64)
  wc : Nat
structure ItmAt (W : World) (B : Nat) (ad : Addr) (k : Nat) (x : Itm) : Prop where
  blk : ad.block < B
  op : W.cell? (ad.add (k * 5)) = some (.int .i64 x.op)
  u : W.cell? ⟨(ad.add (k * 5)).block, (ad.add (k * 5)).off + 1, none⟩ = some (.int .u64 (U64 x.u))
  i : W.cell? ⟨(ad.add (k * 5)).block, (ad.add (k * 5)).off + 2, none⟩ = some (.int .i64 (I64 x.i))
  b : W.cell? ⟨(ad.add (k * 5)).block, (ad.add (k * 5)).off + 3, none⟩ = some (.slice x.ba x.bb.length x.bc)
  w : W.cell? ⟨(ad.add (k * 5)).block, (ad.add (k * 5)).off + 4, none⟩ = some (.slice x.wa x.ww.length x.wc)
  bbc : x.bb.length ≤ x.bc
  wwc : x.ww.length ≤ x.wc
  br : Rd b8 W B x.ba x.bb
  wr : Rd (fun a => Value.int .u64 (U64 a)) W B x.wa x.ww
def Its (W : World) (B : Nat) (A : Option Addr) (l : List Itm) : Prop := ∀ k (h : k < l.length), ∃ ad, A = some ad ∧ ItmAt W B ad k l[k]
/-- One of MemPlays' acts. -/
structure Ac where
  op : Int
  at_ : Int
  fr : Int
  n : Int
  u : BitVec 64
  ba : Option Addr
  bb : List (BitVec 8)
  bc : Nat
structure AcAt (W : World) (B : Nat) (ad : Addr) (k : Nat) (x : Ac) : Prop where
  blk : ad.block < B
  op : W.cell? (ad.add (k * 6)) = some (.int .i64 x.op)
  at_ : W.cell? ⟨(ad.add (k * 6)).block, (ad.add (k * 6)).off + 1, none⟩ = some (.int .i64 x.at_)
  fr : W.cell? ⟨(ad.add (k * 6)).block, (ad.add (k * 6)).off + 2, none⟩ = some (.int .i64 x.fr)
  n : W.cell? ⟨(ad.add (k * 6)).block, (ad.add (k * 6)).off + 3, none⟩ = some (.int .i64 x.n)
  u : W.cell? ⟨(ad.add (k * 6)).block, (ad.add (k * 6)).off + 4, none⟩ = some (.int .u64 (U64 x.u))
  b : W.cell? ⟨(ad.add (k * 6)).block, (ad.add (k * 6)).off + 5, none⟩ = some (.slice x.ba x.bb.length x.bc)
  w0 : (Lit.int .i64 x.op).wf = true
  w1 : (Lit.int .i64 x.at_).wf = true
  w2 : (Lit.int .i64 x.fr).wf = true
  w3 : (Lit.int .i64 x.n).wf = true
  bbc : x.bb.length ≤ x.bc
  bcm : x.bc ≤ maxLen
  br : Rd b8 W B x.ba x.bb
def Acs (W : World) (B : Nat) (A : Option Addr) (l : List Ac) : Prop := ∀ k (h : k < l.length), ∃ ad, A = some ad ∧ AcAt W B ad k l[k]
theorem Acs.below {W W' : World} {B : Nat} {A : Option Addr} {l : List Ac} (h : Acs W B A l) (hb : Below B W W') : Acs W' B A l := fun k hk => by
  obtain ⟨ad, e, m⟩ := h k hk
  have hbk : (ad.add (k * 6)).block < B := by rw [add_block]; exact m.blk
  have c : ∀ j, W'.cell? ⟨(ad.add (k * 6)).block, (ad.add (k * 6)).off + j, none⟩ = W.cell? ⟨(ad.add (k * 6)).block, (ad.add (k * 6)).off + j, none⟩ := fun j => hb.cell (p := ⟨(ad.add (k * 6)).block, (ad.add (k * 6)).off + j, none⟩) hbk
  exact ⟨ad, e, m.blk, (hb.cell hbk).trans m.op, (c _).trans m.at_, (c _).trans m.fr, (c _).trans m.n, (c _).trans m.u, (c _).trans m.b, m.w0, m.w1, m.w2, m.w3, m.bbc, m.bcm, m.br.below hb⟩
end Go.Proofs.YtdppnggchpchgaaDoor
/- How an argument that is a graph is opened. No conditions. -/
namespace Go.Proofs.YtdppnggchpchgaaDoor
set_option linter.unusedVariables false
set_option linter.unusedSimpArgs false
open Go.ChangeShapes Go.WideShapes Go.ChangeAt Go.RowKit
set_option maxRecDepth 100000
section
variable {H : Type} {enc : TypeId × Value → H} {P : Program} {w : World} {base : Nat} {spare : Nat → Bool} {held : Bool}
/-- A cell that is a slice of structs of one-cell fields. -/
theorem cell_rows {t e : TypeId} {fs : Array Field} {K n0 : Nat} {u : Value} {y : DataW H × List MemPlace} (ht : P.underlying t = some (.slice e)) (he : P.underlying e = some (.struct fs)) (hone : Go.Deep.oneCellFields P fs = true) (hC : P.cellsOf e = K) (hK : fs.size = K)
    (hf : DataW.trod enc P w base spare held n0 t [u] = some y) :
    ∃ (A : Option Addr) (n c : Nat), u = .slice A n c ∧ n ≤ c ∧ c ≤ maxLen ∧ ∀ i, i < n → ∃ ad m, A = some ad ∧ ∀ j f, fs[j]? = some f → ∃ u y, w.cell? (ad.add (i * K + j)) = some u ∧ DataW.trod enc P w base spare held m f.type [u] = some y := by
  rcases Go.Deep.open_slice ht hf with ⟨hcs, _⟩ | ⟨a, len', cap', m, n', D, Pl, hcs, hb, hl, hm, hmm, hx, hrow⟩
  · have hu : u = .slice none 0 0 := by simpa using hcs
    exact ⟨none, 0, 0, hu, Nat.le_refl _, by simp [maxLen], fun i hi => absurd hi (by omega)⟩
  · have hu : u = .slice (some a) len' cap' := by simpa using hcs
    refine ⟨some a, len', cap', hu, hl, hm, fun i hi => ?_⟩
    obtain ⟨cs', h1, h2⟩ := hrow i (by rw [hmm]; split <;> omega)
    obtain ⟨_, hlen, hcell⟩ := World.cells?_some h1
    obtain ⟨xs, n2, _, _, hl2, hlen2, hfs⟩ := DataW.trod_struct he h2
    refine ⟨a, n2, rfl, fun j f hj => ?_⟩
    obtain ⟨ho, h1c⟩ := Go.Deep.hone_of hone j f hj
    have hjk : j < fs.size := (Array.getElem?_eq_some_iff.1 hj).1
    have hjl : j < cs'.length := by omega
    have hfj := hfs j f hj
    have e1 : (cs'.drop f.offset).take (P.cellsOf f.type) = [cs'[j]] := by
      rw [ho, h1c, List.drop_eq_getElem_cons hjl]
      rfl
    rw [e1, List.getElem?_eq_getElem (by omega)] at hfj
    refine ⟨cs'[j], _, ?_, hfj⟩
    have := hcell j (by omega)
    rw [List.getElem?_eq_getElem hjl, add_add', hC] at this
    exact this
theorem cell_str {n : Nat} {t : TypeId} {u : Value} {y : DataW H × List MemPlace} (ht : P.underlying t = some .string) (h : DataW.trod enc P w base spare held n t [u] = some y) : ∃ s : ByteArray, u = .string s ∧ s.size ≤ maxLen := by
  obtain ⟨s, h, _, hw⟩ := DataW.trod_string ht h
  exact ⟨s, by simpa using h, hw⟩
end
theorem numI : ∀ z : Int, (Lit.int .i64 z).wf = true → ∃ a : Int, iV a = .int .i64 z := fun z _ => ⟨z, rfl⟩
/-- A graph that came in. -/
structure GvOk (W : World) (g : Gv) : Prop where
  at_ : g.At W W.heap.size
  cn : g.c ≤ maxLen
  cr : g.c2 ≤ maxLen
  nd : ∀ x ∈ g.n, x.c ≤ maxLen ∧ x.d ≤ maxLen
  st : ∀ r ∈ g.r, r.s.size ≤ maxLen ∧ (Lit.int .i64 r.t).wf = true
theorem GvOk.up {W W' : World} {g : Gv} (h : GvOk W g) (hb : Below W.heap.size W W') : GvOk W' g := ⟨h.at_.up hb, h.cn, h.cr, h.nd, h.st⟩
section
variable {H : Type} {enc : TypeId × Value → H} {W : World} {base : Nat} {sp : Nat → Bool} {hd : Bool}
theorem cell_nodes {n0 : Nat} {u : Value} {y : DataW H × List MemPlace} (h : DataW.trod enc Tryd.prog W base sp hd n0 22 [u] = some y) : ∃ (A : Option Addr) (xs : List Nv) (c : Nat), u = .slice A xs.length c ∧ xs.length ≤ c ∧ c ≤ maxLen ∧ NRow W W.heap.size A xs ∧ ∀ x ∈ xs, x.c ≤ maxLen ∧ x.d ≤ maxLen := by
  have he := Tryd.underlying52
  obtain ⟨A, n, c, rfl, hn, hm, hrow⟩ := cell_rows (K := 2) Tryd.underlying22 he (by kernel_rfl) (by kernel_rfl) rfl h
  obtain ⟨l, hl, hp⟩ := choose_lst (α := Nv) (p := fun i x => ∃ ad, A = some ad ∧ ad.block < W.heap.size ∧ W.cell? (ad.add (i * 2)) = some x.vp ∧ W.cell? ⟨(ad.add (i * 2)).block, (ad.add (i * 2)).off + 1, none⟩ = some x.vd ∧ x.At W W.heap.size ∧ x.c ≤ maxLen ∧ x.d ≤ maxLen) n (fun k hk => by
    obtain ⟨ad, m, e, hf⟩ := hrow k hk
    obtain ⟨u0, y0, c0, t0⟩ := hf 0 _ rfl
    obtain ⟨u1, y1, c1, t1⟩ := hf 1 _ rfl
    obtain ⟨A0, b0, n0, rfl, h0, hm0, r0⟩ := cell_nums iV (k := .i64) (e := 3) numI (by kernel_rfl) (by kernel_rfl) (by kernel_rfl) t0
    obtain ⟨A1, b1, n1, rfl, h1, hm1, r1⟩ := cell_nums b8 (k := .u8) (e := 5) num8 (by kernel_rfl) (by kernel_rfl) (by kernel_rfl) t1
    have hb := cell_lt c0
    rw [add_block] at hb
    exact ⟨⟨A0, n0, A1, n1, b0, b1⟩, ad, e, hb, c0, (congrArg W.cell? (add_far ad (k * 2) 0)).symm.trans c1, ⟨r0, r1, h0, h1⟩, hm0, hm1⟩)
  subst hl
  refine ⟨A, l, c, rfl, hn, hm, fun i hi => ?_, fun x hx => ?_⟩
  · obtain ⟨ad, h1, h2, h3, h4, h5, _⟩ := hp i hi
    exact ⟨ad, h1, h2, h3, h4, h5⟩
  · obtain ⟨i, hi, rfl⟩ := List.mem_iff_getElem.1 hx
    obtain ⟨ad, h1, h2, h3, h4, h5, h6⟩ := hp i hi
    exact h6
theorem cell_roots {n0 : Nat} {u : Value} {y : DataW H × List MemPlace} (h : DataW.trod enc Tryd.prog W base sp hd n0 23 [u] = some y) : ∃ (A : Option Addr) (xs : List Rv) (c : Nat), u = .slice A xs.length c ∧ xs.length ≤ c ∧ c ≤ maxLen ∧ RoRow W W.heap.size A xs ∧ ∀ x ∈ xs, x.s.size ≤ maxLen ∧ (Lit.int .i64 x.t).wf = true := by
  have he := Tryd.underlying55
  obtain ⟨A, n, c, rfl, hn, hm, hrow⟩ := cell_rows (K := 2) Tryd.underlying23 he (by kernel_rfl) (by kernel_rfl) rfl h
  obtain ⟨l, hl, hp⟩ := choose_lst (α := Rv) (p := fun i x => ∃ ad, A = some ad ∧ ad.block < W.heap.size ∧ W.cell? (ad.add (i * 2)) = some (.string x.s) ∧ W.cell? ⟨(ad.add (i * 2)).block, (ad.add (i * 2)).off + 1, none⟩ = some (.int .i64 x.t) ∧ x.s.size ≤ maxLen ∧ (Lit.int .i64 x.t).wf = true) n (fun k hk => by
    obtain ⟨ad, m, e, hf⟩ := hrow k hk
    obtain ⟨u0, y0, c0, t0⟩ := hf 0 _ rfl
    obtain ⟨u1, y1, c1, t1⟩ := hf 1 _ rfl
    obtain ⟨s, rfl, hs⟩ := cell_str (by kernel_rfl) t0
    obtain ⟨z, rfl, hz⟩ := cell_int (k := .i64) (by kernel_rfl) t1
    have hb := cell_lt c0
    rw [add_block] at hb
    exact ⟨⟨s, z⟩, ad, e, hb, c0, (congrArg W.cell? (add_far ad (k * 2) 0)).symm.trans c1, hs, hz⟩)
  subst hl
  refine ⟨A, l, c, rfl, hn, hm, fun i hi => ?_, fun x hx => ?_⟩
  · obtain ⟨ad, h1, h2, h3, h4, _⟩ := hp i hi
    exact ⟨ad, h1, h2, h3, h4⟩
  · obtain ⟨i, hi, rfl⟩ := List.mem_iff_getElem.1 hx
    obtain ⟨ad, h1, h2, h3, h4, h6⟩ := hp i hi
    exact h6
theorem open_str_Graph {r : Reach} {b0 : Nat} {v : Value} {d : DataW H} {p : List MemPlace}
    (hv : Value.okWide Tryd.prog W r b0 25 v) (h : DataW.Trod enc Tryd.prog W base sp hd 25 v d p) : ∃ g : Gv, v = g.v ∧ GvOk W g := by
  obtain ⟨cs, rfl, hsz⟩ := okWide_struct Tryd.underlying25 hv
  obtain ⟨l⟩ := cs
  obtain ⟨fuel, hf⟩ := h
  have k2 : Tryd.prog.cellsOf 25 = 2 := by kernel_rfl
  have kN : Tryd.prog.cellsOf 22 = 1 := by kernel_rfl
  have kR : Tryd.prog.cellsOf 23 = 1 := by kernel_rfl
  obtain ⟨xs, m, _, hx, hl, hlen, hg⟩ := DataW.trod_struct Tryd.underlying25 hf
  have hl2 : l.length = 2 := by
    have := hl.trans k2
    simpa [Value.cells] using this
  match l, hl2 with
  | [c0, c1], _ =>
    match xs, hlen with
    | [y0, y1], _ =>
      have g0 := hg 0 _ rfl
      have g1 := hg 1 _ rfl
      simp only [Value.cells, kN, kR, List.drop_zero, List.drop_succ_cons, List.take_succ_cons, List.take_zero, List.getElem?_cons_zero, List.getElem?_cons_succ] at g0 g1
      obtain ⟨A0, x0, n0, rfl, h0, hm0, r0, w0⟩ := cell_nodes g0
      obtain ⟨A1, x1, n1, rfl, h1, hm1, r1, w1⟩ := cell_roots g1
      exact ⟨⟨A0, n0, A1, n1, x0, x1⟩, rfl, ⟨⟨r0, r1, h0, h1⟩, hm0, hm1, w0, w1⟩⟩
end
end Go.Proofs.YtdppnggchpchgaaDoor
/- GraphTwo: its regions, and what it works on. No conditions. -/
namespace Go.Proofs.YtdppnggchpchgaaDoor
set_option linter.unusedVariables false
set_option linter.unusedSimpArgs false
open Go.RowKit Go.Maps
theorem type_ne2 {W : World} {q k E F : Nat} {cs ds : Array Value} {m n : Nat × Nat} (h : W.heap[q]? = some (.cells cs E m)) (h2 : W.heap[k]? = some (.cells ds F n)) (hne : E ≠ F) : q ≠ k := fun e => by
  subst e
  rw [h] at h2
  injection h2 with h2
  injection h2 with _ h3
  exact hne h3
theorem ow_blk2 {α : Type} {f : α → Value} {E : TypeId} {W : World} {base q n c : Nat} {xs : List α} (h : Ow f E W base (.slice (some ⟨q, 0, none⟩) n c) xs) : ∃ cs m, W.heap[q]? = some (.cells cs E m) := by
  rcases h.2 with ⟨e, _⟩ | ⟨g, cap, cur, e, _, hh, _⟩
  · cases e
  · injection e with e
    injection e with e
    injection e with e
    subst e
    exact ⟨_, _, hh⟩
theorem FewP.same {a c : Gv} (h : FewP a) (h1 : c.n.map Nv.m = a.n.map Nv.m) (h2 : c.r = a.r) : FewP c := by
  refine ⟨?_, by rw [h2]; exact h.2.1, fun x hx => ?_, by rw [h2]; exact h.2.2.2⟩
  · have := congrArg List.length h1
    rw [List.length_map, List.length_map] at this
    rw [this]; exact h.1
  · have hm : x.m ∈ c.n.map Nv.m := List.mem_map.2 ⟨x, hx, rfl⟩
    rw [h1] at hm
    obtain ⟨y, hy, e⟩ := List.mem_map.1 hm
    have := h.2.2.1 y hy
    unfold Nv.m at e
    injection e with e1 e2
    rw [← e1, ← e2]
    exact this
def OfV (g : Gv) (v : Value) (W : World) : Prop := ∃ g' : Gv, v = g'.v ∧ g'.At W W.heap.size ∧ g'.n = g.n ∧ g'.r = g.r
theorem OfV.mono {g : Gv} {v : Value} {a b : World} (h : OfV g v a) (hb : Below a.heap.size a b) : OfV g v b := by
  obtain ⟨g', e, h1, h2⟩ := h
  exact ⟨g', e, h1.up hb, h2⟩
theorem of_k {W : World} {g : Gv} {v : Value} (hv : g.v = v) (hf : FewP g) (h : g.At W W.heap.size) : Calls Tryd.prog 10 #[v] W fun e w2 => ∃ u, e = .returned u ∧ Below W.heap.size W w2 ∧ OfV g u w2 := by
  rw [← hv]
  refine (of_c W g h hf).mono ?_
  rintro e w' ⟨g', rfl, h1, h2, h3, hb⟩
  exact ⟨_, rfl, hb, g', rfl, h1, h2, h3⟩
/-- A graph in a box. -/
def GBx (w : World) (s : Nat) (g : Gv) (v0 v1 : Value) : Prop := ∀ W, Below w.heap.size w W → W.cell? ⟨s, 0, none⟩ = some v0 ∧ W.cell? ⟨s, 1, none⟩ = some v1 ∧ g.At W W.heap.size
theorem GBx.of {w : World} {s : Nat} {g : Gv} {v0 v1 : Value} (h : Bk w s 25 #[v0, v1]) (hg : g.At w w.heap.size) : GBx w s g v0 v1 := fun W b => ⟨(h.below b h.lt).cell 0, (h.below b h.lt).cell 1, hg.up b⟩
theorem GBx.up {w w' : World} {s : Nat} {g : Gv} {v0 v1 : Value} (h : GBx w s g v0 v1) (b : Below w.heap.size w w') : GBx w' s g v0 v1 := fun W b2 => h W (b.trans (b2.mono b.size))
set_option maxHeartbeats 4000000
set_option maxRecDepth 100000
/-- The twin that is written to. -/
structure TwoS (B sc : Nat) (w3 W : World) (C : Option Addr) (K c1 : Nat) (vr : Value) (xs : List Nv) : Prop where
  own : NOwn W B (.slice C K c1) xs
  len : xs.length = K
  sm : ∀ x ∈ xs, x.ps.length ≤ 70 ∧ x.bs.length ≤ 1100
  bk : Bk W sc 25 #[.slice C K c1, vr]
  bl : Below B w3 W
section
variable {B sc : Nat} {w3 W : World} {C : Option Addr} {K c1 : Nat} {vr : Value} {xs : List Nv} {i : Nat} {x : Nv} {q : Nat}
theorem TwoS.below {W' : World} (h : TwoS B sc w3 W C K c1 vr xs) (hB : B ≤ W.heap.size) (hb : Below W.heap.size W W') : TwoS B sc w3 W' C K c1 vr xs :=
  ⟨h.own.below hb, h.len, h.sm, h.bk.below hb h.bk.lt, h.bl.trans (hb.mono hB)⟩
theorem TwoS.setB (h : TwoS B sc w3 W C K c1 vr xs) (hx : xs[i]? = some x) {j : Nat} (hj : j < x.bs.length) (hA : x.D = some ⟨q, 0, none⟩) (z : BitVec 8) : TwoS B sc w3 (W.setCell ⟨q, j, none⟩ (b8 z)) C K c1 vr (xs.set i { x with bs := x.bs.set j z }) := by
  obtain ⟨hi, e⟩ := List.getElem?_eq_some_iff.1 hx
  have ho := (h.own.each x (by rw [← e]; exact List.getElem_mem hi)).2
  have hox := ho
  unfold Nv.vd at ho
  rw [hA] at ho
  obtain ⟨cs, m, hq⟩ := ow_blk2 ho
  have hne : q ≠ sc := type_ne2 hq h.bk (by decide)
  refine ⟨h.own.setB hx hj hA z, by rw [List.length_set]; exact h.len, fun y hy => ?_, h.bk.far (p := ⟨q, j, none⟩) (fun e2 => hne e2.symm) _, h.bl.setCell (p := ⟨q, j, none⟩) (ho.lt q rfl).1 _⟩
  rcases List.mem_or_eq_of_mem_set hy with hy | rfl
  · exact h.sm y hy
  · have := h.sm x (by rw [← e]; exact List.getElem_mem hi)
    simp only [List.length_set]
    exact this
theorem TwoS.setP (h : TwoS B sc w3 W C K c1 vr xs) (hx : xs[i]? = some x) {j : Nat} (hj : j < x.ps.length) (hA : x.A = some ⟨q, 0, none⟩) (z : Int) : TwoS B sc w3 (W.setCell ⟨q, j, none⟩ (iV z)) C K c1 vr (xs.set i { x with ps := x.ps.set j z }) := by
  obtain ⟨hi, e⟩ := List.getElem?_eq_some_iff.1 hx
  have ho := (h.own.each x (by rw [← e]; exact List.getElem_mem hi)).1
  unfold Nv.vp at ho
  rw [hA] at ho
  obtain ⟨cs, m, hq⟩ := ow_blk2 ho
  have hne : q ≠ sc := type_ne2 hq h.bk (by decide)
  refine ⟨h.own.setP hx hj hA z, by rw [List.length_set]; exact h.len, fun y hy => ?_, h.bk.far (p := ⟨q, j, none⟩) (fun e2 => hne e2.symm) _, h.bl.setCell (p := ⟨q, j, none⟩) (ho.lt q rfl).1 _⟩
  rcases List.mem_or_eq_of_mem_set hy with hy | rfl
  · exact h.sm y hy
  · have := h.sm x (by rw [← e]; exact List.getElem_mem hi)
    simp only [List.length_set]
    exact this
/-- A node of it, as it is read. -/
theorem TwoS.spot (h : TwoS B sc w3 W C K c1 vr xs) (hx : xs[i]? = some x) : ∃ ad, C = some ad ∧ (ad.add (i * 2)).block < W.heap.size ∧ W.cell? ⟨sc, 0, none⟩ = some (.slice C K c1) ∧ W.cell? (ad.add (i * 2)) = some x.vp ∧ W.cell? ⟨(ad.add (i * 2)).block, (ad.add (i * 2)).off + 1, none⟩ = some x.vd := by
  obtain ⟨hi, rfl⟩ := List.getElem?_eq_some_iff.1 hx
  obtain ⟨ad, e, h1, h2, h3, _⟩ := h.own.rows.1 i hi
  exact ⟨ad, e, cell_lt h2, h.bk.cell 0, h2, h3⟩
end
end Go.Proofs.YtdppnggchpchgaaDoor
/- The reference's Walk. Conditions: lengths; all pointers are some node's or 0. -/
namespace Go.Proofs.YtdppnggchpchgaaDoor
set_option linter.unusedVariables false
set_option linter.unusedSimpArgs false
open Go.RowKit Go.Maps
/-- What the walk has: what is seen is what it listed. -/
structure Wk (ns : List Nv) (fr : List Int) (seen : List Bool) (out : List Int) : Prop where
  len : seen.length = ns.length + 1
  iff : ∀ p : Nat, p ≤ ns.length → (seen[p]? = some true ↔ (p : Int) ∈ out)
  nd : out.Nodup
  ok : ∀ p ∈ out, Rch ns fr p
  cnt : seen.count false + out.length = ns.length + 1
section
variable {ns : List Nv} {fr : List Int} {seen : List Bool} {out : List Int}
theorem Wk.push (h : Wk ns fr seen out) {n : Nat} (hn : n ≤ ns.length) (hs : seen[n]? = some false) (hr : Rch ns fr (n : Int)) : Wk ns fr (seen.set n true) (out ++ [(n : Int)]) := by
  have hno : (n : Int) ∉ out := fun e => by have := (h.iff n hn).2 e; rw [hs] at this; cases this
  refine ⟨by rw [List.length_set]; exact h.len, fun p hp => ?_, ?_, fun p hp => ?_, ?_⟩
  · rw [List.getElem?_set, List.mem_append, List.mem_singleton]
    by_cases e : n = p
    · subst e
      rw [if_pos rfl, if_pos (by rw [h.len]; omega)]; simp
    · rw [if_neg e, h.iff p hp]
      constructor
      · exact .inl
      · rintro (h1 | h1)
        · exact h1
        · exact absurd (by omega) e
  · rw [List.nodup_append]
    exact ⟨h.nd, by simp, fun a ha b hb e => by rw [List.mem_singleton] at hb; subst hb; subst e; exact hno ha⟩
  · rcases List.mem_append.1 hp with hp | hp
    · exact h.ok p hp
    · rw [List.mem_singleton.1 hp]; exact hr
  · have h1 := count_set seen n hs
    have h2 := h.cnt
    rw [List.length_append, List.length_singleton]
    omega
/-- All that is listed is done: it is all that is reached. -/
theorem Wk.done (h : Wk ns fr seen out) (h1 : ∀ q ∈ fr, hasG ns.length q = true → q ∈ out) (h2 : ∀ p ∈ out, ∀ q ∈ ptrsG ns p, hasG ns.length q = true → q ∈ out) : ∀ p, p ∈ out ↔ Rch ns fr p := fun p => by
  refine ⟨h.ok p, fun hr => ?_⟩
  induction hr with
  | base p h3 h4 => exact h1 p h3 h4
  | step p q h3 h4 h5 ih => exact h2 p ih q h4 h5
end
theorem own_ne {W : World} {b b2 q n c : Nat} {L : List Bool} {v : Value} {xs : List Int} (h1 : Ow tV 4 W b (.slice (some ⟨q, 0, none⟩) n c) L) (h2 : Ow iV 3 W b2 v xs) : v.ownBlock ≠ some q := by
  intro e
  rcases h2.2 with ⟨e2, _⟩ | ⟨g, cap, cur, e2, _, hh, _⟩
  · rw [e2] at e; cases e
  · rw [e2] at e
    injection e with e
    have e3 : g = q := e
    obtain ⟨cs, m, hq⟩ := ow_blk2 h1
    exact type_ne2 hq hh (by decide) e3.symm
set_option maxHeartbeats 4000000
set_option maxRecDepth 100000
def Cov (ns : List Nv) (out : List Int) (i : Nat) : Prop := ∀ (j : Nat) (p : Int), j < i → out[j]? = some p → ∀ q ∈ ptrsG ns p, hasG ns.length q = true → q ∈ out
theorem Cov.push {ns : List Nv} {out : List Int} {i : Nat} (h : Cov ns out i) (hi : i ≤ out.length) (x : Int) : Cov ns (out ++ [x]) i := fun j p hj hp q hq hh => by
  rw [List.getElem?_append_left (by omega)] at hp
  exact List.mem_append.2 (.inl (h j p hj hp q hq hh))
/-- What Walk works on. -/
structure WS (w W : World) (q N1 : Nat) (vn vr : Value) (seen : List Bool) (out : List Int) (v : Value) : Prop where
  gb : Bk W w.heap.size 32 #[vn, vr]
  sn : Ow tV 4 W (w.heap.size + 1) (.slice (some ⟨q, 0, none⟩) N1 N1) seen
  wk : Ow iV 3 W (w.heap.size + 1) v out
  bl : Below w.heap.size w W
section
variable {w W W' : World} {q N1 : Nat} {vn vr v v' : Value} {seen : List Bool} {out : List Int}
theorem WS.below (h : WS w W q N1 vn vr seen out v) (hb : Below W.heap.size W W') : WS w W' q N1 vn vr seen out v := ⟨h.gb.below hb h.gb.lt, h.sn.below hb, h.wk.below hb, h.bl.trans (hb.mono h.bl.size)⟩
theorem WS.mark (h : WS w W q N1 vn vr seen out v) {n : Nat} (hn : n < seen.length) : WS w (W.setCell ⟨q, n, none⟩ (.bool true)) q N1 vn vr (seen.set n true) out v := by
  have hq := h.sn.ge.1
  refine ⟨h.gb.far (p := ⟨q, n, none⟩) (show w.heap.size ≠ q by omega) _, h.sn.set hn true, h.wk.kept (grown_set W ⟨q, n, none⟩ _) ?_, h.bl.setCell (p := ⟨q, n, none⟩) (show w.heap.size ≤ q by omega) _⟩
  exact .inr (own_ne h.sn h.wk)
theorem WS.app (h : WS w W q N1 vn vr seen out v) {x : Int} (ho : Ow iV 3 W' (w.heap.size + 1) v' (out ++ [x])) (hb : Below (w.heap.size + 1) W W') (hg : W.grownBy W' v.ownBlock) : WS w W' q N1 vn vr seen (out ++ [x]) v' := by
  refine ⟨h.gb.below hb (by omega), h.sn.kept hg (.inr (fun e => own_ne h.sn h.wk e.symm)), ho, h.bl.trans (hb.mono (by omega))⟩
end
end Go.Proofs.YtdppnggchpchgaaDoor
/- The reference's Pick. Conditions: lengths; the order's numbers are nodes', each once; pointers are some node's or 0. -/
namespace Go.Proofs.YtdppnggchpchgaaDoor
set_option linter.unusedVariables false
set_option linter.unusedSimpArgs false
open Go.RowKit Go.Maps
/-- A row of the reference's nodes of one's own. -/
structure NO2 (W : World) (base : Nat) (v : Value) (xs : List Nv) : Prop where
  row : W.ownsRow base 49 2 v xs.length (xs.flatMap Nv.cs)
  each : ∀ x ∈ xs, Ow iV 3 W base x.vp x.ps ∧ Ow b8 5 W base x.vd x.bs
section
variable {W W' : World} {base : Nat} {v v' : Value} {xs : List Nv} {x : Nv}
theorem NO2.below (h : NO2 W base v xs) (hb : Below W.heap.size W W') : NO2 W' base v xs := ⟨ownsRow_below h.row hb, fun x hx => ⟨(h.each x hx).1.below hb, (h.each x hx).2.below hb⟩⟩
theorem ow_ne_row {α : Type} {f : α → Value} {E F : TypeId} {b b2 n : Nat} {u : Value} {l : List α} {cs : List Value} (h1 : Ow f E W b u l) (h2 : W.ownsRow b2 F 2 v n cs) (hne : E ≠ F) : u.ownBlock = none ∨ u.ownBlock ≠ v.ownBlock := by
  rcases h1.2 with ⟨e, _⟩ | ⟨g, cap, cur, e, _, hh, _⟩
  · left; rw [e]; rfl
  · right
    rw [e]
    rcases h2.2 with ⟨e2, _⟩ | ⟨g2, cap2, cur2, e2, _, hh2, _⟩
    · rw [e2]; intro e3; cases e3
    · rw [e2]
      intro e3
      injection e3 with e3
      have e4 : g = g2 := e3
      exact type_ne2 hh hh2 hne e4
theorem NO2.app (h : NO2 W base v xs) (hx : Ow iV 3 W base x.vp x.ps ∧ Ow b8 5 W base x.vd x.bs) (ho : W'.ownsRow base 49 2 v' (xs.length + 1) (xs.flatMap Nv.cs ++ x.cs)) (hg : W.grownBy W' v.ownBlock) : NO2 W' base v' (xs ++ [x]) := by
  refine ⟨by rw [List.length_append, List.flatMap_append]; simpa using ho, fun y hy => ?_⟩
  rcases List.mem_append.1 hy with hy | hy
  · obtain ⟨g1, g2⟩ := h.each y hy
    exact ⟨g1.kept hg (ow_ne_row g1 h.row (by decide)), g2.kept hg (ow_ne_row g2 h.row (by decide))⟩
  · obtain rfl : y = x := by simpa using hy
    exact ⟨hx.1.kept hg (ow_ne_row hx.1 h.row (by decide)), hx.2.kept hg (ow_ne_row hx.2 h.row (by decide))⟩
/-- A box of another type is written to. -/
theorem NO2.far {q F : Nat} {cs : Array Value} {m : Nat × Nat} (h : NO2 W base v xs) (hg : W.grownBy W' (some q)) (hq : W.heap[q]? = some (.cells cs F m)) (h1 : 49 ≠ F) (h2 : 3 ≠ F) (h3 : 5 ≠ F) : NO2 W' base v xs := by
  have key : ∀ {α : Type} {f : α → Value} {E : TypeId} {u : Value} {l : List α}, Ow f E W base u l → E ≠ F → u.ownBlock = none ∨ u.ownBlock ≠ some q := fun {α f E u l} ho hne => by
    rcases ho.2 with ⟨e, _⟩ | ⟨g, cap, cur, e, _, hh, _⟩
    · left; rw [e]; rfl
    · right; rw [e]; intro e3; injection e3 with e3; exact type_ne2 hh hq hne e3
  refine ⟨World.ownsRow.kept h.row hg ?_, fun x hx => ⟨(h.each x hx).1.kept hg (key (h.each x hx).1 h2), (h.each x hx).2.kept hg (key (h.each x hx).2 h3)⟩⟩
  rcases h.row.2 with ⟨e, _⟩ | ⟨g, cap, cur, e, _, hh, _⟩
  · left; rw [e]; rfl
  · right; rw [e]; intro e3; injection e3 with e3; exact type_ne2 hh hq h1 e3
end
/-- What Pick works on. -/
structure PS (w W : World) (q : Nat) (vn vr : Value) (N : Nat) (T : List Int) : Prop where
  gb : Bk W w.heap.size 32 #[vn, vr]
  rb : Bk W (w.heap.size + 1) 32 #[.slice none 0 0, .slice none 0 0]
  to : Ow iV 3 W (w.heap.size + 2) (.slice (some ⟨q, 0, none⟩) N N) T
  bl : Below w.heap.size w W
section
variable {w W W' : World} {q N : Nat} {vn vr : Value} {T : List Int}
theorem PS.below (h : PS w W q vn vr N T) (hb : Below W.heap.size W W') : PS w W' q vn vr N T := ⟨h.gb.below hb h.gb.lt, h.rb.below hb h.rb.lt, h.to.below hb, h.bl.trans (hb.mono h.bl.size)⟩
theorem PS.store (h : PS w W q vn vr N T) {k : Nat} (hk : k < T.length) (z : Int) : PS w (W.setCell ⟨q, k, none⟩ (.int .i64 z)) q vn vr N (T.set k z) := by
  have hq := h.to.ge.1
  exact ⟨h.gb.far (p := ⟨q, k, none⟩) (show w.heap.size ≠ q by omega) _, h.rb.far (p := ⟨q, k, none⟩) (show w.heap.size + 1 ≠ q by omega) _, h.to.set hk z, h.bl.setCell (p := ⟨q, k, none⟩) (show w.heap.size ≤ q by omega) _⟩
end
theorem PS.grown {w W W' : World} {q N : Nat} {vn vr : Value} {T : List Int} {o : Option Nat} (h : PS w W q vn vr N T) (hg : W.grownBy W' o) (ho : ∀ c, o = some c → w.heap.size + 2 ≤ c ∧ c ≠ q) : PS w W' q vn vr N T := by
  refine ⟨(hg.block _ h.gb.lt (fun e => by have := (ho _ e.symm).1; omega)).trans h.gb, (hg.block _ h.rb.lt (fun e => by have := (ho _ e.symm).1; omega)).trans h.rb, h.to.kept hg (.inr (fun e => ?_)), h.bl.trans ((Below.refl _ _).grown hg h.bl.size (fun c e => by have := (ho c e).1; omega))⟩
  have := (ho q e.symm).2
  exact this rfl
theorem nv_at {W : World} {base : Nat} {x : Nv} (h1 : Ow iV 3 W base x.vp x.ps) (h2 : Ow b8 5 W base x.vd x.bs) : x.At W W.heap.size := by
  obtain ⟨_, _, e1, hc1⟩ := h1.form
  obtain ⟨_, _, e2, hc2⟩ := h2.form
  unfold Nv.vp at e1 h1
  unfold Nv.vd at e2 h2
  injection e1 with _ _ e1
  injection e2 with _ _ e2
  exact ⟨h1.rd, h2.rd, by omega, by omega⟩
theorem own_le {W : World} {B B' n : Nat} {E : TypeId} {v : Value} {cs : List Value} (h : W.ownsRow B E 2 v n cs) (hb : B' ≤ B) : W.ownsRow B' E 2 v n cs := by
  obtain ⟨h1, h2⟩ := h
  refine ⟨h1, ?_⟩
  rcases h2 with h2 | ⟨g, cap, cur, e, hg, r⟩
  · exact .inl h2
  · exact .inr ⟨g, cap, cur, e, by omega, r⟩
/-- A graph of the reference's of one's own. -/
structure GO2 (W : World) (B : Nat) (g : Gv) : Prop where
  nd : NO2 W B g.vn g.n
  rt : W.ownsRow B 56 2 g.vr g.r.length (g.r.flatMap Rv.cs)
section
variable {W W' : World} {B B' : Nat} {g : Gv} {S : Nat → Prop}
theorem GO2.at_ (h : GO2 W B g) : g.At W W.heap.size := ⟨nrow_of h.nd.row (fun x hx => nv_at (h.nd.each x hx).1 (h.nd.each x hx).2), rrow_of h.rt, (own_len h.nd.row).2, (own_len h.rt).2⟩
theorem GO2.mono (h : GO2 W B g) (hb : B' ≤ B) : GO2 W B' g := ⟨⟨own_le h.nd.row hb, fun x hx => ⟨(h.nd.each x hx).1.mono hb, (h.nd.each x hx).2.mono hb⟩⟩, own_le h.rt hb⟩
theorem GO2.kept (h : GO2 W B g) (hK : Kept S W W') (hS : ∀ k, S k → k < B) : GO2 W' B g := ⟨⟨row_kept hK h.nd.row hS, fun x hx => ⟨hK.ow (h.nd.each x hx).1 (fun c e e2 => by have := ((h.nd.each x hx).1.lt c e).1; have := hS c e2; omega), hK.ow (h.nd.each x hx).2 (fun c e e2 => by have := ((h.nd.each x hx).2.lt c e).1; have := hS c e2; omega)⟩⟩, row_kept hK h.rt hS⟩
theorem GO2.below (h : GO2 W B g) (hb : Below W.heap.size W W') : GO2 W' B g := ⟨h.nd.below hb, ownsRow_below h.rt hb⟩
end
def PkV (B0 : Nat) (v : Value) (w : World) : Prop := ∃ k, v = .pointer (some ⟨k, 0, none⟩) ∧ B0 ≤ k ∧ Bk w k 49 #[.slice none 0 0, .slice none 0 0]
theorem PkV.mono {B0 : Nat} {v : Value} {a b : World} (h : PkV B0 v a) (g : Below a.heap.size a b) : PkV B0 v b := by
  obtain ⟨k, e, h0, h⟩ := h
  exact ⟨k, e, h0, h.below g h.lt⟩
set_option maxHeartbeats 4000000
set_option maxRecDepth 100000
end Go.Proofs.YtdppnggchpchgaaDoor
