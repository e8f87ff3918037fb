/- Rows of nodes and of roots of one's own. Conditions: lengths. -/
import Derived.Test.YtdppnggchpchgaaDoorGrD
import Derived.Test.YtdppnggchpchgaaDoorAppS
import Derived.Test.YtdppnggchpchgaaDoorCrcD
namespace Go.Proofs.YtdppnggchpchgaaDoor
set_option linter.unusedVariables false
set_option linter.unusedSimpArgs false
open Go.RowKit
theorem addr_at (q k : Nat) : ((⟨q, 0, none⟩ : Addr).add k) = ⟨q, k, none⟩ := by unfold Addr.add; split <;> simp_all
theorem own_sl {A : Option Addr} {n c k : Nat} (h : (Value.slice A n c).ownBlock = some k) : ∃ a, A = some a ∧ a.block = k := by
  cases A with
  | none => cases h
  | some a => exact ⟨a, rfl, by injection h⟩
theorem flat2 {α : Type} (f : α → List Value) (h2 : ∀ x, (f x).length = 2) : ∀ (l : List α) (i j : Nat) (hi : i < l.length), j < 2 → (l.flatMap f)[i * 2 + j]? = (f l[i])[j]?
  | [], i, j, hi, _ => absurd hi (by simp)
  | x :: l, 0, j, hi, hj => by
    rw [List.flatMap_cons, Nat.zero_mul, Nat.zero_add, List.getElem?_append_left (by rw [h2]; exact hj)]
    rfl
  | x :: l, i + 1, j, hi, hj => by
    rw [List.flatMap_cons, List.getElem?_append_right (by rw [h2]; omega), h2, show (i + 1) * 2 + j - 2 = i * 2 + j from by omega]
    exact flat2 f h2 l i j (by simpa using hi) hj
def Nv.cs (x : Nv) : List Value := [x.vp, x.vd]
def Rv.cs (x : Rv) : List Value := [.string x.s, .int .i64 x.t]
theorem own_cell2 {α : Type} {f : α → List Value} (h2 : ∀ x, (f x).length = 2) {W : World} {E : TypeId} {base n c : Nat} {A : Option Addr} {xs : List α} (h : W.ownsRow base E 2 (.slice A n c) xs.length (xs.flatMap f)) (i : Nat) (hi : i < xs.length) : ∃ q, A = some ⟨q, 0, none⟩ ∧ base ≤ q ∧ q < W.heap.size ∧ ∀ j, j < 2 → W.cell? ⟨q, i * 2 + j, none⟩ = (f xs[i])[j]? := by
  rcases h.2 with ⟨e, hn⟩ | ⟨g, cap, cur, e, hb, hh, _, _, hs, ht⟩
  · omega
  · injection e with e1 e2 e3
    refine ⟨g, e1, hb, (Array.getElem?_eq_some_iff.1 hh).1, fun j hj => ?_⟩
    rw [cell_of_row W g _ cur _ _ hh]
    have h4 := flat2 f h2 xs i j hi hj
    rw [← ht, List.getElem?_take_of_lt (by omega)] at h4
    rw [← Array.getElem?_toList, h4]
theorem own_len {W : World} {E : TypeId} {base n m c : Nat} {A : Option Addr} {cs : List Value} (h : W.ownsRow base E 2 (.slice A n c) m cs) : n = m ∧ m ≤ c := by
  rcases h.2 with ⟨e, hn⟩ | ⟨g, cap, cur, e, hb, hh, h1, h2, hs, ht⟩
  · injection e with e1 e2 e3
    omega
  · injection e with e1 e2 e3
    omega
theorem own_form {W : World} {E : TypeId} {base m : Nat} {v : Value} {cs : List Value} (h : W.ownsRow base E 2 v m cs) : ∃ A c, v = .slice A m c := by
  rcases h.2 with ⟨e, hn⟩ | ⟨g, cap, cur, e, _⟩
  · exact ⟨none, 0, by rw [e, hn]⟩
  · exact ⟨_, cap, e⟩
/-- The blocks of nodes' own rows. -/
def blksN (xs : List Nv) : List Nat := xs.flatMap fun x => x.vp.ownBlock.toList ++ x.vd.ownBlock.toList
/-- A row of nodes of one's own, all of it apart. -/
structure NOwn (W : World) (base : Nat) (v : Value) (xs : List Nv) : Prop where
  row : W.ownsRow base 52 2 v xs.length (xs.flatMap Nv.cs)
  each : ∀ x ∈ xs, Ow iV 3 W base x.vp x.ps ∧ Ow b8 5 W base x.vd x.bs
  dist : (v.ownBlock.toList ++ blksN xs).Nodup
def ROwn (W : World) (base : Nat) (v : Value) (xs : List Rv) : Prop := W.ownsRow base 55 2 v xs.length (xs.flatMap Rv.cs)
section
variable {W W' : World} {base : Nat} {v v' : Value}
theorem NOwn.nil (W : World) (base : Nat) : NOwn W base (.slice none 0 0) [] := ⟨⟨by simp, .inl ⟨rfl, rfl⟩⟩, fun x h => (by cases h), (by simp [blksN, Value.ownBlock])⟩
theorem ROwn.nil (W : World) (base : Nat) : ROwn W base (.slice none 0 0) [] := ⟨by simp, .inl ⟨rfl, rfl⟩⟩
theorem ownsRow_below {E : TypeId} {k n : Nat} {cs : List Value} (h : W.ownsRow base E k v n cs) (hb : Below W.heap.size W W') : W'.ownsRow base E k v n cs :=
  World.ownsRow.kept h (row := none) ⟨hb.os, hb.tape, hb.output, hb.size, fun k hk _ => hb.block k hk⟩ (by cases v.ownBlock <;> simp)
theorem NOwn.below {xs : List Nv} (h : NOwn W base v xs) (hb : Below W.heap.size W W') : NOwn W' base v xs := ⟨ownsRow_below h.row hb, fun x hx => ⟨(h.each x hx).1.below hb, (h.each x hx).2.below hb⟩, h.dist⟩
theorem ROwn.below {xs : List Rv} (h : ROwn W base v xs) (hb : Below W.heap.size W W') : ROwn W' base v xs := ownsRow_below h hb
theorem NOwn.at_ {xs : List Nv} (h : NOwn W base v xs) {x : Nv} (hx : x ∈ xs) : x.At W W.heap.size := by
  obtain ⟨h1, h2⟩ := h.each x hx
  obtain ⟨_, _, e1, hc1⟩ := h1.form
  obtain ⟨_, _, e2, hc2⟩ := h2.form
  unfold Nv.vp at e1 h1
  unfold Nv.vd at e2 h2
  injection e1 with _ _ e1
  injection e2 with _ _ e2
  exact ⟨h1.rd, h2.rd, by omega, by omega⟩
theorem NOwn.rows {A : Option Addr} {n c : Nat} {xs : List Nv} (h : NOwn W base (.slice A n c) xs) : NRow W W.heap.size A xs ∧ n = xs.length ∧ xs.length ≤ c := by
  have hl := own_len h.row
  refine ⟨fun i hi => ?_, hl.1, hl.2⟩
  obtain ⟨q, e, hb, hq, hc⟩ := own_cell2 (f := Nv.cs) (fun _ => rfl) h.row i hi
  have e0 := addr_at q (i * 2)
  refine ⟨_, e, hq, ?_, ?_, h.at_ (List.getElem_mem _)⟩
  · rw [e0]; exact hc 0 (by decide)
  · rw [e0]; exact hc 1 (by decide)
theorem ROwn.rows {A : Option Addr} {n c : Nat} {xs : List Rv} (h : ROwn W base (.slice A n c) xs) : RoRow W W.heap.size A xs ∧ n = xs.length ∧ xs.length ≤ c := by
  have hl := own_len h
  refine ⟨fun i hi => ?_, hl.1, hl.2⟩
  obtain ⟨q, e, hb, hq, hc⟩ := own_cell2 (f := Rv.cs) (fun _ => rfl) h i hi
  have e0 := addr_at q (i * 2)
  refine ⟨_, e, hq, ?_, ?_⟩
  · rw [e0]; exact hc 0 (by decide)
  · rw [e0]; exact hc 1 (by decide)
theorem blks_lt {xs : List Nv} (h : NOwn W base v xs) : ∀ k ∈ v.ownBlock.toList ++ blksN xs, k < W.heap.size := by
  intro k hk
  rcases List.mem_append.1 hk with hk | hk
  · exact (World.ownsRow.lt h.row k (by simpa using hk)).2
  · obtain ⟨x, hx, hk⟩ := List.mem_flatMap.1 hk
    rcases List.mem_append.1 hk with hk | hk
    · exact ((h.each x hx).1.lt k (by simpa using hk)).2
    · exact ((h.each x hx).2.lt k (by simpa using hk)).2
theorem blks_ge {xs : List Nv} (h : NOwn W base v xs) : ∀ k ∈ v.ownBlock.toList ++ blksN xs, base ≤ k := by
  intro k hk
  rcases List.mem_append.1 hk with hk | hk
  · exact (World.ownsRow.lt h.row k (by simpa using hk)).1
  · obtain ⟨x, hx, hk⟩ := List.mem_flatMap.1 hk
    rcases List.mem_append.1 hk with hk | hk
    · exact ((h.each x hx).1.lt k (by simpa using hk)).1
    · exact ((h.each x hx).2.lt k (by simpa using hk)).1
/-- Another block is changed. -/
theorem NOwn.grown {xs : List Nv} {q : Nat} (h : NOwn W base v xs) (hg : W.grownBy W' (some q)) (hq : q ∉ v.ownBlock.toList ++ blksN xs) : NOwn W' base v xs := by
  have key : ∀ u : Value, (∀ k, u.ownBlock = some k → k ∈ v.ownBlock.toList ++ blksN xs) → u.ownBlock = none ∨ u.ownBlock ≠ some q := fun u hu => by
    cases e : u.ownBlock with
    | none => exact .inl rfl
    | some k => exact .inr (fun e2 => hq (by injection e2 with e2; exact e2 ▸ hu k e))
  refine ⟨World.ownsRow.kept h.row hg (key _ fun k hk => by simp [hk]), fun y hy => ?_, h.dist⟩
  obtain ⟨g1, g2⟩ := h.each y hy
  exact ⟨g1.kept hg (key _ fun k hk => List.mem_append.2 (.inr (List.mem_flatMap.2 ⟨y, hy, by simp [hk]⟩))), g2.kept hg (key _ fun k hk => List.mem_append.2 (.inr (List.mem_flatMap.2 ⟨y, hy, by simp [hk]⟩)))⟩
theorem NOwn.mono {b2 : Nat} {xs : List Nv} (h : NOwn W base v xs) (hb : b2 ≤ base) : NOwn W b2 v xs := by
  refine ⟨?_, fun x hx => ⟨(h.each x hx).1.mono hb, (h.each x hx).2.mono hb⟩, h.dist⟩
  obtain ⟨h1, h2⟩ := h.row
  refine ⟨h1, ?_⟩
  rcases h2 with h2 | ⟨g, cap, cur, e, hg, r⟩
  · exact .inl h2
  · exact .inr ⟨g, cap, cur, e, Nat.le_trans hb hg, r⟩
theorem ROwn.mono {b2 : Nat} {xs : List Rv} (h : ROwn W base v xs) (hb : b2 ≤ base) : ROwn W b2 v xs := by
  obtain ⟨h1, h2⟩ := h
  refine ⟨h1, ?_⟩
  rcases h2 with h2 | ⟨g, cap, cur, e, hg, r⟩
  · exact .inl h2
  · exact .inr ⟨g, cap, cur, e, Nat.le_trans hb hg, r⟩
theorem blks_app (a b : List Nv) : blksN (a ++ b) = blksN a ++ blksN b := List.flatMap_append
/-- A node more: its rows were made behind S, the row's block is the old one or newer than they. -/
theorem NOwn.snoc {W1 : World} {xs : List Nv} {x : Nv} (h : NOwn W base v xs) (hb1 : Below W.heap.size W W1) (hx : Ow iV 3 W1 base x.vp x.ps ∧ Ow b8 5 W1 base x.vd x.bs)
    (hf : (∀ k, x.vp.ownBlock = some k → W.heap.size ≤ k) ∧ (∀ k, x.vd.ownBlock = some k → W.heap.size ≤ k) ∧ (∀ k, x.vp.ownBlock = some k → x.vd.ownBlock ≠ some k))
    (ho : W'.ownsRow base 52 2 v' (xs.length + 1) (xs.flatMap Nv.cs ++ x.cs)) (hg : W1.grownBy W' v.ownBlock) (hv : v'.ownBlock = v.ownBlock ∨ v'.ownBlock = some W1.heap.size) : NOwn W' base v' (xs ++ [x]) := by
  have hl := blks_lt h
  have hs1 := hb1.size
  have hnd := List.nodup_append.1 h.dist
  have hvn : ∀ k, v.ownBlock = some k → k ∉ blksN xs := fun k e hk => hnd.2.2 k (by simp [e]) k hk rfl
  have hne : ∀ k, k ∈ blksN xs ∨ x.vp.ownBlock = some k ∨ x.vd.ownBlock = some k → v.ownBlock ≠ some k := by
    rintro k (hk | hk | hk) e
    · exact hvn k e hk
    · have h1 := hf.1 k hk
      have h2 := hl k (by simp [e])
      omega
    · have h1 := hf.2.1 k hk
      have h2 := hl k (by simp [e])
      omega
  have key : ∀ u : Value, (∀ k, u.ownBlock = some k → v.ownBlock ≠ some k) → u.ownBlock = none ∨ u.ownBlock ≠ v.ownBlock := fun u hu => by
    cases e : u.ownBlock with
    | none => exact .inl rfl
    | some k => exact .inr (fun e2 => hu k e e2.symm)
  refine ⟨by rw [List.length_append, List.flatMap_append]; simpa using ho, fun y hy => ?_, ?_⟩
  · rcases List.mem_append.1 hy with hy | hy
    · obtain ⟨g1, g2⟩ := h.each y hy
      refine ⟨(g1.below hb1).kept hg (key _ fun k hk => hne k (.inl (List.mem_flatMap.2 ⟨y, hy, by simp [hk]⟩))), (g2.below hb1).kept hg (key _ fun k hk => hne k (.inl (List.mem_flatMap.2 ⟨y, hy, by simp [hk]⟩)))⟩
    · obtain rfl : y = x := by simpa using hy
      exact ⟨hx.1.kept hg (key _ fun k hk => hne k (.inr (.inl hk))), hx.2.kept hg (key _ fun k hk => hne k (.inr (.inr hk)))⟩
  · rw [blks_app]
    have hxl : ∀ k, (x.vp.ownBlock = some k ∨ x.vd.ownBlock = some k) → W.heap.size ≤ k ∧ k < W1.heap.size := by
      rintro k (hk | hk)
      · exact ⟨hf.1 k hk, (hx.1.lt k hk).2⟩
      · exact ⟨hf.2.1 k hk, (hx.2.lt k hk).2⟩
    have hbx : ∀ k, k ∈ blksN [x] ↔ (x.vp.ownBlock = some k ∨ x.vd.ownBlock = some k) := fun k => by simp [blksN]
    have hvb : ∀ k, v'.ownBlock = some k → k ∉ blksN xs ++ blksN [x] := by
      intro k hk hm
      rcases hv with e | e
      · rw [e] at hk
        rcases List.mem_append.1 hm with hm | hm
        · exact hvn k hk hm
        · have h1 := hxl k ((hbx k).1 hm)
          have h2 := hl k (by simp [hk])
          omega
      · rw [e] at hk
        injection hk with hk
        rcases List.mem_append.1 hm with hm | hm
        · have h2 := hl k (by simp [hm])
          omega
        · have h1 := hxl k ((hbx k).1 hm)
          omega
    refine List.nodup_append.2 ⟨by cases v'.ownBlock <;> simp, List.nodup_append.2 ⟨hnd.2.1, ?_, fun a ha b hb e => ?_⟩, fun a ha b hb e => hvb a (by simpa using ha) (e ▸ hb)⟩
    · have e : blksN [x] = x.vp.ownBlock.toList ++ x.vd.ownBlock.toList := by simp [blksN]
      rw [e]
      refine List.nodup_append.2 ⟨by cases x.vp.ownBlock <;> simp, by cases x.vd.ownBlock <;> simp, fun a ha b hb e => ?_⟩
      exact hf.2.2 a (by simpa using ha) (by rw [e]; simpa using hb)
    · have h1 := hxl b ((hbx b).1 hb)
      have h2 := hl a (by simp [ha])
      omega
end
end Go.Proofs.YtdppnggchpchgaaDoor
