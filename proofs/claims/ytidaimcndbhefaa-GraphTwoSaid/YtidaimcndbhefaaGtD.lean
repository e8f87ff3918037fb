/- Stores into the rows of nodes of one's own. No conditions. -/
import Derived.Test.YtidaimcndbhefaaGtC
namespace Go.Proofs.Ytidaimcndbhefaa
set_option linter.unusedVariables false
set_option linter.unusedSimpArgs false
open Go.RowKit Go.Maps
def Nv.bl (x : Nv) : List Nat := x.vp.ownBlock.toList ++ x.vd.ownBlock.toList
theorem blksN_cons (x : Nv) (xs : List Nv) : blksN (x :: xs) = x.bl ++ blksN xs := rfl
theorem bl_mem {xs : List Nv} {i : Nat} {x : Nv} (h : xs[i]? = some x) {c : Nat} (hc : c ∈ x.bl) : c ∈ blksN xs := by
  obtain ⟨hi, rfl⟩ := List.getElem?_eq_some_iff.1 h
  exact List.mem_flatMap.2 ⟨_, List.getElem_mem _, hc⟩
theorem bl_ne : ∀ {xs : List Nv} {i j : Nat} {x y : Nv} {c : Nat}, (blksN xs).Nodup → xs[i]? = some x → xs[j]? = some y → i ≠ j → c ∈ x.bl → c ∉ y.bl
  | [], i, j, x, y, c, _, h, _, _, _ => by simp at h
  | a :: l, 0, 0, x, y, c, _, _, _, hn, _ => absurd rfl hn
  | a :: l, 0, j + 1, x, y, c, hd, hx, hy, _, hc => fun hc2 => by
    rw [blksN_cons, List.nodup_append] at hd
    obtain rfl : a = x := by simpa using hx
    exact hd.2.2 c hc c (bl_mem (by simpa using hy) hc2) rfl
  | a :: l, i + 1, 0, x, y, c, hd, hx, hy, _, hc => fun hc2 => by
    rw [blksN_cons, List.nodup_append] at hd
    obtain rfl : a = y := by simpa using hy
    exact hd.2.2 c hc2 c (bl_mem (by simpa using hx) hc) rfl
  | a :: l, i + 1, j + 1, x, y, c, hd, hx, hy, hn, hc => by
    rw [blksN_cons, List.nodup_append] at hd
    exact bl_ne hd.2.1 (by simpa using hx) (by simpa using hy) (by omega) hc
theorem set_flat {β : Type} (f : Nv → List β) : ∀ (xs : List Nv) (i : Nat) (x y : Nv), xs[i]? = some x → f y = f x → (xs.set i y).flatMap f = xs.flatMap f
  | [], i, x, y, h, _ => by simp at h
  | a :: l, 0, x, y, h, e => by
    obtain rfl : a = x := by simpa using h
    simp [e]
  | a :: l, i + 1, x, y, h, e => by
    rw [List.set_cons_succ, List.flatMap_cons, List.flatMap_cons, set_flat f l i x y (by simpa using h) e]
section
variable {W W' : World} {base : Nat} {v : Value} {xs : List Nv} {i : Nat} {x y : Nv} {q : Nat}
/-- One of a node's two rows turns in place: its block is no other row's. -/
theorem NOwn.turn (h : NOwn W base v xs) (hx : xs[i]? = some x) (hp : y.vp = x.vp) (hd : y.vd = x.vd) (hq : q ∈ x.bl) (hg : W.grownBy W' (some q))
    (he : Ow iV 3 W' base y.vp y.ps ∧ Ow b8 5 W' base y.vd y.bs) : NOwn W' base v (xs.set i y) := by
  have hnd := List.nodup_append.1 h.dist
  have hqv : ∀ c, v.ownBlock = some c → c ≠ q := fun c e e2 => hnd.2.2 c (by simp [e]) q (bl_mem hx hq) e2
  have key : ∀ u : Value, (∀ c, u.ownBlock = some c → c ≠ q) → u.ownBlock = none ∨ u.ownBlock ≠ some q := fun u hu => by
    cases e : u.ownBlock with
    | none => exact .inl rfl
    | some k => exact .inr (fun e2 => hu k e (by injection e2))
  refine ⟨?_, fun z hz => ?_, ?_⟩
  · rw [List.length_set, set_flat Nv.cs xs i x y hx (by unfold Nv.cs; rw [hp, hd])]
    exact World.ownsRow.kept h.row hg (key _ hqv)
  · obtain ⟨j, hj, rfl⟩ := List.mem_iff_getElem.1 hz
    rw [List.length_set] at hj
    by_cases e : i = j
    · subst e
      rw [List.getElem_set_self]
      exact he
    · rw [List.getElem_set_ne e]
      obtain ⟨g1, g2⟩ := h.each _ (List.getElem_mem hj)
      have hno := fun c (hc : c ∈ (xs[j]).bl) => bl_ne hnd.2.1 (List.getElem?_eq_getElem hj) hx (fun e2 => e e2.symm) hc
      refine ⟨g1.kept hg (key _ fun c hc e2 => hno c (by unfold Nv.bl; simp [hc]) (by rw [e2]; exact hq)), g2.kept hg (key _ fun c hc e2 => hno c (by unfold Nv.bl; simp [hc]) (by rw [e2]; exact hq))⟩
  · have : blksN (xs.set i y) = blksN xs := set_flat _ xs i x y hx (by rw [hp, hd])
    rw [this]; exact h.dist
/-- Where a row's element lies that is one's own. -/
theorem ow_spot {α : Type} {f : α → Value} {E : TypeId} {A : Option Addr} {n c j : Nat} {l : List α} (h : Ow f E W base (.slice A n c) l) (hj : j < l.length) : ∃ q, A = some ⟨q, 0, none⟩ ∧ W.cell? ⟨q, j, none⟩ = some (f l[j]) ∧ W.frozen? ⟨q, j, none⟩ = false ∧ base ≤ q ∧ q < W.heap.size := by
  rcases h.2 with ⟨e, hn⟩ | ⟨g, cap, cur, e, hb, hh, _⟩
  · have : l = [] := by simpa using hn
    subst this
    exact absurd hj (by simp)
  · injection e with e1 e2 e3
    subst e1
    exact ⟨g, rfl, h.cell hj, h.free j, hb, (Array.getElem?_eq_some_iff.1 hh).1⟩
theorem NOwn.setB (h : NOwn W base v xs) (hx : xs[i]? = some x) {j : Nat} (hj : j < x.bs.length) (hA : x.D = some ⟨q, 0, none⟩) (z : BitVec 8) : NOwn (W.setCell ⟨q, j, none⟩ (b8 z)) base v (xs.set i { x with bs := x.bs.set j z }) := by
  obtain ⟨hi, rfl⟩ := List.getElem?_eq_some_iff.1 hx
  obtain ⟨g1, g2⟩ := h.each _ (List.getElem_mem hi)
  have hnd := List.nodup_append.1 h.dist
  have hqd : (xs[i]).vd.ownBlock = some q := by unfold Nv.vd; rw [hA]; rfl
  have hqp : ∀ c, (xs[i]).vp.ownBlock = some c → c ≠ q := fun c e e2 => by
    obtain ⟨a, b, ha⟩ : ∃ a b, xs = a ++ xs[i] :: b := ⟨xs.take i, xs.drop (i + 1), by rw [List.getElem_cons_drop, List.take_append_drop]⟩
    have h2 := hnd.2.1
    rw [ha, blks_app, blksN_cons] at h2
    have h3 := (List.nodup_append.1 (List.nodup_append.1 (List.nodup_append.1 h2).2.1).1).2.2
    exact h3 c (by simp [e]) q (by simp [hqd]) e2
  have e1 : (xs[i]).vd = .slice (some ⟨q, 0, none⟩) (xs[i]).bs.length (xs[i]).d := by unfold Nv.vd; rw [hA]
  refine h.turn hx rfl (by unfold Nv.vd; simp) (q := q) (by unfold Nv.bl; simp [hqd]) (grown_set W ⟨q, j, none⟩ _) ⟨?_, ?_⟩
  · refine g1.kept (grown_set W ⟨q, j, none⟩ _) ?_
    cases e : (xs[i]).vp.ownBlock with
    | none => exact .inl rfl
    | some c => exact .inr (fun e2 => hqp c e (by injection e2))
  · rw [e1] at g2
    have := g2.set hj z
    unfold Nv.vd
    simp only [List.length_set]
    rw [hA]
    exact this
theorem NOwn.setP (h : NOwn W base v xs) (hx : xs[i]? = some x) {j : Nat} (hj : j < x.ps.length) (hA : x.A = some ⟨q, 0, none⟩) (z : Int) : NOwn (W.setCell ⟨q, j, none⟩ (iV z)) base v (xs.set i { x with ps := x.ps.set j z }) := by
  obtain ⟨hi, rfl⟩ := List.getElem?_eq_some_iff.1 hx
  obtain ⟨g1, g2⟩ := h.each _ (List.getElem_mem hi)
  have hnd := List.nodup_append.1 h.dist
  have hqp : (xs[i]).vp.ownBlock = some q := by unfold Nv.vp; rw [hA]; rfl
  have hqd : ∀ c, (xs[i]).vd.ownBlock = some c → c ≠ q := fun c e e2 => by
    obtain ⟨a, b, ha⟩ : ∃ a b, xs = a ++ xs[i] :: b := ⟨xs.take i, xs.drop (i + 1), by rw [List.getElem_cons_drop, List.take_append_drop]⟩
    have h2 := hnd.2.1
    rw [ha, blks_app, blksN_cons] at h2
    have h3 := (List.nodup_append.1 (List.nodup_append.1 (List.nodup_append.1 h2).2.1).1).2.2
    exact h3 q (by simp [hqp]) c (by simp [e]) e2.symm
  have e1 : (xs[i]).vp = .slice (some ⟨q, 0, none⟩) (xs[i]).ps.length (xs[i]).c := by unfold Nv.vp; rw [hA]
  refine h.turn hx (by unfold Nv.vp; simp) rfl (q := q) (by unfold Nv.bl; simp [hqp]) (grown_set W ⟨q, j, none⟩ _) ⟨?_, ?_⟩
  · rw [e1] at g1
    have := g1.set hj z
    unfold Nv.vp
    simp only [List.length_set]
    rw [hA]
    exact this
  · refine g2.kept (grown_set W ⟨q, j, none⟩ _) ?_
    cases e : (xs[i]).vd.ownBlock with
    | none => exact .inl rfl
    | some c => exact .inr (fun e2 => hqd c e (by injection e2))
end
theorem u8_succ (y : BitVec 8) : IntKind.u8.wrap (U8 y + 1) = U8 (y + 1#8) := by
  revert y; decide +kernel
end Go.Proofs.Ytidaimcndbhefaa
