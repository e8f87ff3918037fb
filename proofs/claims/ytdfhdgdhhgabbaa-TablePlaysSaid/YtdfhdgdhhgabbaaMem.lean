/- Slices of one-cell elements as lists: reading them, and rows that the call itself made. No conditions. -/
import Derived.Test.YtdfhdgdhhgabbaaNum
import Derived.WalkKit
import Derived.Laws.CopyOwn
import Derived.Laws.OwnMore
import Derived.Laws.MakeOwn
import Derived.OwnWalk
import Derived.Deep.AppendLies
import Derived.Maps.AppendAt
import Derived.Laws.IdiomStrings
namespace Go.Proofs.Ytdfhdgdhhgabbaa
set_option linter.unusedVariables false
set_option linter.unusedSimpArgs false
open Go.RowKit

theorem add_block (a : Addr) (n : Nat) : (a.add n).block = a.block := by unfold Addr.add; split <;> rfl
theorem add_add' (a : Addr) (i j : Nat) : (a.add i).add j = a.add (i + j) := by
  unfold Addr.add; by_cases h : i = 0 <;> by_cases k : j = 0 <;> simp [h, k, Nat.add_assoc]

/-- What lies at A reads as the list xs, element by element through f, in blocks below B. -/
def Rd {α : Type} (f : α → Value) (w : World) (B : Nat) (A : Option Addr) (xs : List α) : Prop :=
  ∀ (j : Nat) (h : j < xs.length), ∃ ad, A = some ad ∧ ad.block < B ∧ w.cell? (ad.add j) = some (f xs[j])
section
variable {α : Type} {f : α → Value} {w w' : World} {B B' : Nat} {A : Option Addr} {xs : List α}
theorem Rd.nil : Rd f w B A [] := fun j h => absurd h (by simp)
theorem Rd.keep (h : Rd f w B A xs) (hk : ∀ p : Addr, p.block < B → w'.cell? p = w.cell? p) : Rd f w' B A xs := fun j hj => by
  obtain ⟨ad, e, hb, hc⟩ := h j hj
  exact ⟨ad, e, hb, (hk _ (by rw [add_block]; exact hb)).trans hc⟩
theorem Rd.more (h : Rd f w B A xs) (hB : B ≤ B') : Rd f w B' A xs := fun j hj => by
  obtain ⟨ad, e, hb, hc⟩ := h j hj
  exact ⟨ad, e, by omega, hc⟩
theorem Rd.below (h : Rd f w B A xs) (hb : Below B w w') : Rd f w' B A xs := h.keep fun _ hp => hb.cell hp
theorem Rd.drew (h : Rd f w B A xs) : Rd f w.drew B A xs := h
theorem Rd.drewN (h : Rd f w B A xs) (k : Nat) : Rd f (w.drewN k) B A xs := h
theorem Rd.alloc (h : Rd f w B A xs) (hB : B ≤ w.heap.size) (o : Obj) : Rd f (w.alloc o) B A xs := h.keep fun p hp => World.cell?_alloc_lt w o p (by omega)
theorem Rd.setCell (h : Rd f w B A xs) {p : Addr} (hB : B ≤ p.block) (u : Value) : Rd f (w.setCell p u) B A xs :=
  h.keep fun q hq => World.cell?_setCell_other w p q u (fun e => by subst e; omega)
theorem Rd.take (h : Rd f w B A xs) (k : Nat) : Rd f w B A (xs.take k) := fun j hj => by
  have hj' : j < xs.length := by simp at hj; omega
  obtain ⟨ad, e, hb, hc⟩ := h j hj'
  exact ⟨ad, e, hb, by rw [hc, List.getElem_take]⟩
theorem Rd.drop (h : Rd f w B A xs) {k cap : Nat} (hc : xs.length ≤ cap) : Rd f w B (if cap = k then A else A.map (·.add k)) (xs.drop k) := fun j hj => by
  have hj' : k + j < xs.length := by simp at hj; omega
  obtain ⟨ad, e, hb, hc'⟩ := h (k + j) hj'
  subst e
  rw [if_neg (by omega)]
  exact ⟨ad.add k, rfl, by rw [add_block]; exact hb, by rw [add_add', hc', List.getElem_drop]⟩
theorem Rd.at_ (h : Rd f w B A xs) {j : Nat} (hj : j < xs.length) : ∃ ad, A = some ad ∧ ad.block < B ∧ w.cell? (ad.add j) = some (f xs[j]) := h j hj
/-- An address for the whole list, where there is an element. -/
theorem Rd.addr (h : Rd f w B A xs) (hx : 0 < xs.length) : ∃ ad, A = some ad ∧ ad.block < B ∧ ∀ j (hj : j < xs.length), w.cell? (ad.add j) = some (f xs[j]) := by
  obtain ⟨ad, e, hb, _⟩ := h 0 hx
  refine ⟨ad, e, hb, fun j hj => ?_⟩
  obtain ⟨ad', e', _, hc⟩ := h j hj
  rw [e] at e'
  injection e' with e'
  rw [e']; exact hc

/-- A row that the call itself made holds the list xs. -/
def Ow (f : α → Value) (E : TypeId) (w : World) (base : Nat) (v : Value) (xs : List α) : Prop := w.ownsRow base E 1 v xs.length (xs.map f)
variable {E : TypeId} {base : Nat} {v : Value}
theorem Ow.nil_ (f : α → Value) (E : TypeId) (w : World) (base : Nat) : Ow f E w base (.slice none 0 0) [] := ⟨by simp, .inl ⟨rfl, by simp⟩⟩
theorem Ow.form (h : Ow f E w base v xs) : ∃ A c, v = .slice A xs.length c ∧ xs.length ≤ c := by
  rcases h.2 with ⟨rfl, hn⟩ | ⟨g, cap, cur, rfl, _, _, hnc, _⟩
  · exact ⟨none, 0, by rw [hn], by omega⟩
  · exact ⟨_, cap, rfl, hnc⟩
theorem Ow.rd {c : Nat} (h : Ow f E w base (.slice A xs.length c) xs) : Rd f w w.heap.size A xs := fun j hj => by
  rcases h.2 with ⟨e, hn⟩ | ⟨g, cap, cur, e, _, hh, _⟩
  · omega
  · injection e with e1 e2 e3
    subst e1
    have hg : g < w.heap.size := by
      rcases Nat.lt_or_ge g w.heap.size with h | h
      · exact h
      · rw [Array.getElem?_eq_none h] at hh; cases hh
    refine ⟨_, rfl, hg, ?_⟩
    exact World.ownsRow.cells h (g := g) rfl j _ (by simp [hj])
theorem Ow.lt (h : Ow f E w base v xs) : ∀ k, v.ownBlock = some k → base ≤ k ∧ k < w.heap.size := World.ownsRow.lt h
theorem Ow.kept {row : Option Nat} (h : Ow f E w base v xs) (hg : w.grownBy w' row) (hne : v.ownBlock = none ∨ v.ownBlock ≠ row) : Ow f E w' base v xs := World.ownsRow.kept h hg hne
theorem Ow.below (h : Ow f E w base v xs) (hb : Below w.heap.size w w') : Ow f E w' base v xs :=
  World.ownsRow.kept (row := none) h ⟨hb.os, hb.tape, hb.output, hb.size, fun k hk _ => hb.block k hk⟩ (by cases v.ownBlock <;> simp)
theorem Ow.alloc (h : Ow f E w base v xs) (o : Obj) : Ow f E (w.alloc o) base v xs := World.ownsRow.alloc h o
theorem Ow.mono {b : Nat} (h : Ow f E w base v xs) (hb : b ≤ base) : Ow f E w b v xs := by
  obtain ⟨h1, h2⟩ := h
  refine ⟨h1, ?_⟩
  rcases h2 with h2 | ⟨g, cap, cur, e, hg, r⟩
  · exact .inl h2
  · exact .inr ⟨g, cap, cur, e, by omega, r⟩
end

section
variable {α : Type} {f : α → Value} {E : TypeId} {w : World} {base n cap g : Nat} {xs : List α}
theorem Ow.cell (h : Ow f E w base (.slice (some ⟨g, 0, none⟩) n cap) xs) {j : Nat} (hj : j < xs.length) : w.cell? ⟨g, j, none⟩ = some (f xs[j]) := by
  have hn : n = xs.length := by
    rcases h.2 with ⟨e, hn⟩ | ⟨_, _, _, e, _⟩
    · cases e
    · injection e
  subst hn
  have := World.ownsRow.cellAt h j (by omega)
  rw [this]; simp [hj]
theorem Ow.free (h : Ow f E w base (.slice (some ⟨g, 0, none⟩) n cap) xs) (j : Nat) : w.frozen? ⟨g, j, none⟩ = false := by
  have hn : n = xs.length := by
    rcases h.2 with ⟨e, hn⟩ | ⟨_, _, _, e, _⟩
    · cases e
    · injection e
  subst hn
  exact World.ownsRow.frozenAt h j
theorem Ow.set (h : Ow f E w base (.slice (some ⟨g, 0, none⟩) n cap) xs) {j : Nat} (hj : j < xs.length) (y : α) : Ow f E (w.setCell ⟨g, j, none⟩ (f y)) base (.slice (some ⟨g, 0, none⟩) n cap) (xs.set j y) := by
  have hn : n = xs.length := by
    rcases h.2 with ⟨e, hn⟩ | ⟨_, _, _, e, _⟩
    · cases e
    · injection e
  subst hn
  have := World.ownsRow.stored h j (f y)
  unfold Ow
  rw [List.length_set, List.map_set]
  exact this.1
theorem Ow.ge (h : Ow f E w base (.slice (some ⟨g, 0, none⟩) n cap) xs) : base ≤ g ∧ g < w.heap.size := World.ownsRow.lt h g rfl
theorem Ow.drewN {v : Value} (h : Ow f E w base v xs) (k : Nat) : Ow f E (w.drewN k) base v xs := h
end
section
variable {P : Program} {α : Type} {f : α → Value} {t e : TypeId} {z : Value} {bytes : Nat} {w : World} {ops : Array Oper} {rest : List Oper} {o : Oper} {a : Act} {Q : Exit → Act → World → Prop}
/-- 'copy(d, s)': d the whole of a row of the call's own, s any list that is read. -/
theorem wp_copy (hu : P.underlying t = some (.slice e)) (hsz : (P.info? e).map (·.size) = some 1) (hf : ∀ x, (f x).oneCell' = true) (hgd : o.guard = none) (d s : Operand)
    (ho : o.op = .call { callee := .builtin .copy, args := #[d, s], argTypes := #[t, t] })
    (base g n cap : Nat) (xs : List α) (hd : a.eval d = .slice (some ⟨g, 0, none⟩) n cap) (hown : Ow f e w base (.slice (some ⟨g, 0, none⟩) n cap) xs)
    (A : Option Addr) (m c : Nat) (ys : List α) (hs : a.eval s = .slice A m c) (hm : m = ys.length) (B : Nat) (hr : Rd f w B A ys)
    (h : ∀ w' k, k = Nat.min ys.length xs.length → Ow f e w' base (.slice (some ⟨g, 0, none⟩) n cap) (ys.take k ++ xs.drop k) → Below base w w' → wpList P ops Q rest (a.put o.dst (goInt k)) w') : wpList P ops Q (o :: rest) a w := by
  subst hm
  obtain ⟨hl, h2⟩ := hown
  obtain ⟨k, hk⟩ : ∃ k, k = Nat.min ys.length xs.length := ⟨_, rfl⟩
  have hk1 : k ≤ ys.length := by rw [hk]; exact Nat.min_le_left _ _
  have hk2 : k ≤ xs.length := by rw [hk]; exact Nat.min_le_right _ _
  rcases h2 with ⟨e1, _⟩ | ⟨g', cap', cur, e1, hg, hh, hnc, hcm, hcs, htk⟩
  · cases e1
  · injection e1 with e1 e2 e3
    injection e1 with e1
    injection e1 with e1
    subst e1
    subst e3
    have hlen : ((ys.take k).map f).length = k := by rw [List.length_map, List.length_take]; omega
    have hcs' : cur.size = cap := by omega
    have hpos : 0 < ((ys.take k).map f).length → some (⟨g, 0, none⟩ : Addr) = some ⟨g, 0, none⟩ ∧ ∃ ad, A = some ad ∧ ∀ j v, ((ys.take k).map f)[j]? = some v → w.cell? (ad.add j) = some v := by
      intro hp
      rw [hlen] at hp
      obtain ⟨ad, rfl, _, hc⟩ := hr.addr (by omega)
      refine ⟨rfl, ad, rfl, fun j v hv => ?_⟩
      have hj : j < k := by
        have := (List.getElem?_eq_some_iff.1 hv).1
        omega
      rw [hc j (by omega)]
      rw [List.getElem?_map, List.getElem?_take_of_lt hj, List.getElem?_eq_getElem (by omega)] at hv
      simpa using hv
    have hm1 : ((ys.take k).map f).length = Nat.min ys.length n := by rw [hlen, hk, e2]
    refine wpList_copy_splice hgd d s t t ho e hu hsz (some ⟨g, 0, none⟩) A n cap ys.length c hd hs g 0 cur.toList e (by simpa using hh) ((ys.take k).map f) hm1 hpos (by rw [hlen, Array.length_toList]; omega) (by intro u hu'; rw [List.mem_map] at hu'; obtain ⟨x, _, rfl⟩ := hu'; exact hf x) base w (Below.refl _ _) hg ?_
    intro w' hh' hb'
    rw [hlen]
    have e5 : (ys.take k ++ xs.drop k).length = xs.length := by rw [List.length_append, List.length_take, List.length_drop]; omega
    refine h w' k hk ⟨?_, .inr ⟨g, cap, (splice cur.toList 0 ((ys.take k).map f)).toArray, ?_, hg, hh'.out, ?_, hcm, ?_, ?_⟩⟩ hb'
    · rw [List.length_map, Nat.mul_one]
    · rw [e5, e2]
    · rw [e5]; exact hnc
    · rw [List.size_toArray, length_splice _ _ _ (by rw [hlen, Array.length_toList]; omega)]; simpa using hcs
    · have e6 : cur.toList.take xs.length = xs.map f := by rw [Nat.mul_one] at htk; exact htk
      simp only [splice, List.take_zero, List.nil_append, e5, Nat.mul_one, Nat.zero_add, hlen]
      rw [List.map_append, List.map_drop, ← e6, List.take_append, hlen, List.drop_take, List.take_of_length_le (by rw [hlen]; omega)]
end

theorem rd1 {α : Type} {f : α → Value} {w : World} {B g : Nat} {y : α} (h : w.cell? ⟨g, 0, none⟩ = some (f y)) (hg : g < B) : Rd f w B (some ⟨g, 0, none⟩) [y] := fun j hj => by
  have : j = 0 := by simp at hj; omega
  subst this
  exact ⟨_, rfl, hg, h⟩
theorem rd1_new {α : Type} {f : α → Value} {w : World} {E : TypeId} {y : α} {u : Value} (h : u = f y) : Rd f (w.alloc (.cells #[u] E)) (w.heap.size + 1) (some ⟨w.heap.size, 0, none⟩) [y] :=
  rd1 (by rw [h]; exact cell_one_new _ _ _ 0 _ rfl) (by omega)
/-- '[]T{}': a row of the call's own with nothing in it. -/
theorem ow_empty {α : Type} (f : α → Value) (E : TypeId) (w : World) (base : Nat) (hb : base ≤ w.heap.size) : Ow f E (w.alloc (.cells #[] E)) base (.slice (some ⟨w.heap.size, 0, none⟩) 0 0) [] :=
  World.ownsRow_lit w #[] 0 hb (by simp [maxLen]) rfl
/-- Where a cut of a slice begins. -/
def cutA (a : Option Addr) (m l : Nat) : Option Addr := if m = l then a else a.map (·.add l)
theorem sliced_cut (a : Option Addr) (l h m : Nat) : sliced a l h m 1 = .slice (cutA a m l) (h - l) (m - l) := by simp [sliced, cutA]
theorem cutA_zero (a : Option Addr) (m : Nat) : cutA a m 0 = a := by
  unfold cutA
  split
  · rfl
  · cases a <;> simp [Addr.add]
theorem Rd.cut {α : Type} {f : α → Value} {w : World} {B : Nat} {A : Option Addr} {xs : List α} (h : Rd f w B A xs) {k cap : Nat} (hc : xs.length ≤ cap) : Rd f w B (cutA A cap k) (xs.drop k) := h.drop hc
/-- Block g holds just the cells cs, none frozen. -/
def Bk (w : World) (g : Nat) (E : TypeId) (cs : Array Value) : Prop := w.heap[g]? = some (.cells cs E (0, 0))
theorem Bk.lt {w : World} {g : Nat} {E : TypeId} {cs : Array Value} (h : Bk w g E cs) : g < w.heap.size := by
  rcases Nat.lt_or_ge g w.heap.size with hl | hl
  · exact hl
  · unfold Bk at h; rw [Array.getElem?_eq_none hl] at h; cases h
theorem Bk.new (w : World) (E : TypeId) (cs : Array Value) : Bk (w.alloc (.cells cs E)) w.heap.size E cs := heap_alloc_new w _
theorem Bk.alloc {w : World} {g : Nat} {E : TypeId} {cs : Array Value} (h : Bk w g E cs) (o : Obj) : Bk (w.alloc o) g E cs := (Below.heap_alloc w o g h.lt).trans h
theorem Bk.drewN {w : World} {g : Nat} {E : TypeId} {cs : Array Value} (h : Bk w g E cs) (n : Nat) : Bk (w.drewN n) g E cs := h
theorem Bk.drew {w : World} {g : Nat} {E : TypeId} {cs : Array Value} (h : Bk w g E cs) : Bk w.drew g E cs := h
theorem Bk.below {w w' : World} {B g : Nat} {E : TypeId} {cs : Array Value} (h : Bk w g E cs) (hb : Below B w w') (hg : g < B) : Bk w' g E cs := (hb.block g hg).trans h
theorem Bk.far {w : World} {g : Nat} {E : TypeId} {cs : Array Value} (h : Bk w g E cs) {p : Addr} (hp : g ≠ p.block) (u : Value) : Bk (w.setCell p u) g E cs := (Below.heap_setCell w p u g hp).trans h
theorem Bk.set {w : World} {g : Nat} {E : TypeId} {cs : Array Value} (h : Bk w g E cs) (i : Nat) (u : Value) : Bk (w.setCell ⟨g, i, none⟩ u) g E (cs.setIfInBounds i u) := by
  unfold Bk at h ⊢
  simp [World.setCell, Array.getElem?_modify, h]
theorem Bk.cell {w : World} {g : Nat} {E : TypeId} {cs : Array Value} (h : Bk w g E cs) (i : Nat) : w.cell? ⟨g, i, none⟩ = cs[i]? := cell_of_row w g i cs E (0, 0) h
theorem Bk.free {w : World} {g : Nat} {E : TypeId} {cs : Array Value} (h : Bk w g E cs) (i : Nat) : w.frozen? ⟨g, i, none⟩ = false := by
  unfold Bk at h; simp [World.frozen?, h]
theorem Bk.rd {α : Type} {f : α → Value} {w : World} {g B : Nat} {E : TypeId} {cs : Array Value} {xs : List α} (h : Bk w g E cs) (e : cs = (xs.map f).toArray) (hB : g < B) : Rd f w B (some ⟨g, 0, none⟩) xs := fun j hj => by
  refine ⟨_, rfl, hB, ?_⟩
  have e2 : ((⟨g, 0, none⟩ : Addr).add j) = ⟨g, j, none⟩ := by unfold Addr.add; split <;> simp_all
  rw [e2, h.cell, e]
  simp [hj]
theorem bdrewN {B : Nat} {a w : World} (h : Below B a w) (n : Nat) : Below B a (w.drewN n) := ⟨h.os, h.tape, h.output, h.size, h.block⟩
theorem below_of_grown {B : Nat} {w w' : World} {row : Option Nat} (hg : w.grownBy w' row) (hB : B ≤ w.heap.size) (hr : ∀ k, row = some k → B ≤ k) : Below B w w' := (Below.refl B w).grown hg hB hr
theorem le_size {w w' : World} {B : Nat} (h : Below B w w') : w.heap.size ≤ w'.heap.size := h.size

/-- Facts on an element's type of one cell. -/
structure One (P : Program) (t e : TypeId) (z : Value) (bytes : Nat) : Prop where
  under : P.underlying t = some (.slice e)
  info : ∃ i, P.info? e = some i ∧ i.zero = some z ∧ i.size = 1 ∧ i.bytes = bytes
  cell : z.cells = #[z]

section
variable {P : Program} {α : Type} {f : α → Value} {t e : TypeId} {z : Value} {bytes : Nat} {w : World} {ops : Array Oper} {rest : List Oper} {o : Oper} {a : Act} {Q : Exit → Act → World → Prop}
/-- 'append(s, x...)': s nil or the call's own row, x any list that is read. -/
theorem wp_app (one : One P t e z bytes) (hf : ∀ x, (f x).oneCell' = true) (hgd : o.guard = none) (s x : Operand)
    (ho : o.op = .call { callee := .builtin .append, args := #[s, x], argTypes := #[t, t] })
    (base : Nat) (v : Value) (xs : List α) (hs : a.eval s = v) (hown : Ow f e w base v xs)
    (A : Option Addr) (m c : Nat) (ys : List α) (hx : a.eval x = .slice A m c) (hm : m = ys.length) (B : Nat) (hr : Rd f w B A ys)
    (h63 : xs.length + ys.length ≤ 4294967296) (hby : bytes ≤ 32768) (hbase : base ≤ w.heap.size)
    (h : ∀ v' w', Ow f e w' base v' (xs ++ ys) → Below base w w' → w.grownBy w' v.ownBlock → (v'.ownBlock = v.ownBlock ∨ v'.ownBlock = some w.heap.size) → wpList P ops Q rest (a.put o.dst v') w') : wpList P ops Q (o :: rest) a w := by
  subst hm
  obtain ⟨i, hi, hz, hsize, hbytes⟩ := one.info
  have hzs : z.cells.size = 1 := by rw [one.cell]; rfl
  have hbb : (xs.length + ys.length) * bytes ≤ 140737488355328 := by
    have := Nat.mul_le_mul h63 hby
    omega
  have hbel : ∀ (v' : Value) (w' : World), w.grownBy w' v.ownBlock → Below base w w' := fun v' w' hg => (Below.refl _ _).grown hg hbase (fun k hk => (hown.lt k hk).1)
  refine wpList_plain hgd fun K hK => ?_
  rcases Nat.eq_zero_or_pos ys.length with h0 | hpos
  · have hy : ys = [] := List.eq_nil_of_length_eq_zero h0
    subst hy
    have hrun : (Builtin.append_ #[t, t] o.type #[v, .slice A 0 c]).run P w = .ok v w ∨ ∃ ad, A = some ad := by
      rcases A with _ | ad
      · left
        rcases hown.2 with ⟨rfl, hn⟩ | ⟨g, cap, cur, rfl, _, _, hnc, _⟩
        · simp [Builtin.append_, run_underlying one.under, sizeOf, typeInfo, hi, Builtin.lenOf, Builtin.firstCells]
        · simp [Builtin.append_, run_underlying one.under, sizeOf, typeInfo, hi, Builtin.lenOf, Builtin.firstCells, hnc, storeCells]
      · exact .inr ⟨ad, rfl⟩
    rcases hrun with hrun | ⟨ad, rfl⟩
    · unfold Oper.wp execOp
      simp only [ho, resolve, invoke, builtin, Sem.run_bind, Sem.run_pure, Result.andThen_ok, List.map_toArray, List.map_cons, List.map_nil, hs, hx, List.length_nil, hrun]
      exact hK _ _ (h v w (by simpa using hown) (Below.refl _ _) (World.grownBy.refl w _) (.inl rfl))
    · obtain ⟨v', w', hrun, h2, h3, _, h5⟩ := run_append_own_at (P := P) w base t o.type e i z 1 bytes one.under hi hz hsize hbytes hzs (by decide) v xs.length (xs.map f) hown ad 0 c [] rfl (by simp) (by simp) (by simp only [maxLen]; omega) (by simpa using hbb) hbase
      unfold Oper.wp execOp
      simp only [ho, resolve, invoke, builtin, Sem.run_bind, Sem.run_pure, Result.andThen_ok, List.map_toArray, List.map_cons, List.map_nil, hs, hx, List.length_nil, hrun]
      exact hK _ _ (h v' w' (by simpa [Ow] using h2) (hbel v' w' h3) h3 h5)
  · obtain ⟨ad, rfl, hb, hc⟩ := hr.addr hpos
    obtain ⟨v', w', hrun, h2, h3, _, h5⟩ := run_append_own_at (P := P) w base t o.type e i z 1 bytes one.under hi hz hsize hbytes hzs (by decide) v xs.length (xs.map f) hown ad ys.length c (ys.map f) (by simp)
      (fun j u hu => by
        have hj : j < ys.length := by
          have := (List.getElem?_eq_some_iff.1 hu).1
          simpa using this
        rw [hc j hj]
        rw [List.getElem?_map, List.getElem?_eq_getElem hj] at hu
        simpa using hu) (by simp; intro x _; exact hf x) (by simp only [maxLen]; omega) hbb hbase
    unfold Oper.wp execOp
    simp only [ho, resolve, invoke, builtin, Sem.run_bind, Sem.run_pure, Result.andThen_ok, List.map_toArray, List.map_cons, List.map_nil, hs, hx, hrun]
    exact hK _ _ (h v' w' (by simpa [Ow] using h2) (hbel v' w' h3) h3 h5)

/-- 'make([]T, n)'. -/
theorem wp_make (one : One P t e z bytes) (hgd : o.guard = none) (l c : Operand) (hop : o.op = Op.makeSlice t l c) (zf : α) (hz0 : f zf = z)
    (base n : Nat) (kl kc : IntKind) (L C : Int) (hl : a.eval l = .int kl L) (hc : a.eval c = .int kc C) (hL : L = (n : Int)) (hC : C = (n : Int)) (hn : n ≤ 4294967296) (hby : bytes ≤ 32768) (hbase : base ≤ w.heap.size)
    (h : ∀ g w', g = w.heap.size → Ow f e w' base (.slice (some ⟨g, 0, none⟩) n n) (List.replicate n zf) → Below base w w' → w.grownBy w' none → wpList P ops Q rest (a.put o.dst (.slice (some ⟨g, 0, none⟩) n n)) w') :
    wpList P ops Q (o :: rest) a w := by
  obtain ⟨i, hi, hz, hsize, hbytes⟩ := one.info
  have hbb : i.bytes * n ≤ 281474976710656 := by
    rw [hbytes]
    have := Nat.mul_le_mul hby hn
    omega
  refine wpList_make_full w hgd l c t hop base e i z 1 one.under hi hz hsize kl kc L C n hl hc hL hC hbb (by simp only [maxLen]; omega) hbase ?_
  intro w' ho hg
  refine h _ w' rfl ?_ ((Below.refl _ _).grown hg hbase (by simp)) hg
  have e : (madeCells z.cells (n * 1)).toList = (List.replicate n zf).map f := by
    rw [one.cell, toList_madeCells_one, List.map_replicate, hz0, Nat.mul_one]
  rw [e] at ho
  unfold Ow
  rw [List.length_replicate]
  exact ho
end
end Go.Proofs.Ytdfhdgdhhgabbaa
