/- A cache as lists: what it is, and how a step keeps it. Conditions: lengths. -/
import Derived.Test.YthmaofbnhfgfaaaCmA
import Derived.Test.YthmaofbnhfgfaaaStr
namespace Go.Proofs.Ythmaofbnhfgfaaa
set_option linter.unusedVariables false
set_option linter.unusedSimpArgs false
open Go.RowKit Go.Maps
set_option maxRecDepth 100000
set_option maxHeartbeats 4000000
abbrev K2 := Int × Int
def Cx (g fb mb k : Nat) : Prop := k = g ∨ k = fb ∨ k = mb
theorem Kept.newer {S : Nat → Prop} {w w8 w9 : World} {q : Nat} (h : Kept S w w8) (k : Kept (fun i => i = q) w8 w9) (hq : w.heap.size ≤ q) : Kept S w w9 :=
  ⟨k.os.trans h.os, k.tape.trans h.tape, k.output.trans h.output, Nat.le_trans h.size k.size, fun i hi hn => (k.block i (Nat.lt_of_lt_of_le hi h.size) (fun e => by omega)).trans (h.block i hi hn)⟩
/-- A frame; A, c: where its data lies. -/
structure Fr where
  k : K2
  full : Bool
  b : List (BitVec 8)
  dirty : Bool
  pins : Nat
  mrk : Bool
  A : Option Addr
  c : Nat
def Fr.cs (f : Fr) : List Value := [.int .i64 f.k.1, .int .i64 f.k.2, .bool f.full, .slice f.A f.b.length f.c, .bool f.dirty, .int .i64 f.pins, .bool f.mrk]
def frZ : Fr := ⟨(0, 0), false, [], false, 0, false, none, 0⟩
def fcA (fs : List Fr) : Array Value := (fs.flatMap Fr.cs).toArray
theorem fc_len : ∀ fs : List Fr, (fs.flatMap Fr.cs).length = fs.length * 7
  | [] => rfl
  | f :: l => by rw [List.flatMap_cons, List.length_append, fc_len l, List.length_cons]; show 7 + l.length * 7 = _; omega
theorem fc_get : ∀ (fs : List Fr) (i j : Nat) (hi : i < fs.length), j < 7 → (fs.flatMap Fr.cs)[i * 7 + j]? = (fs[i].cs)[j]?
  | [], i, j, hi, _ => absurd hi (by simp)
  | f :: l, 0, j, hi, hj => by
    rw [List.flatMap_cons, Nat.zero_mul, Nat.zero_add, List.getElem?_append_left (by show j < 7; exact hj)]
    rfl
  | f :: l, i + 1, j, hi, hj => by
    rw [List.flatMap_cons, List.getElem?_append_right (by show 7 ≤ (i + 1) * 7 + j; omega), show (i + 1) * 7 + j - (Fr.cs f).length = i * 7 + j from by show (i + 1) * 7 + j - 7 = _; omega]
    exact fc_get l i j (by simpa using hi) hj
theorem fc_set : ∀ (fs : List Fr) (i j : Nat) (hi : i < fs.length) (v : Value) (f' : Fr), j < 7 → f'.cs = fs[i].cs.set j v → (fs.flatMap Fr.cs).set (i * 7 + j) v = (fs.set i f').flatMap Fr.cs
  | [], i, j, hi, _, _, _, _ => absurd hi (by simp)
  | f :: l, 0, j, hi, v, f', hj, he => by
    rw [List.flatMap_cons, Nat.zero_mul, Nat.zero_add, List.set_append_left _ _ (by show j < 7; exact hj), List.set_cons_zero, List.flatMap_cons, he]
    rfl
  | f :: l, i + 1, j, hi, v, f', hj, he => by
    rw [List.flatMap_cons, List.set_append_right _ _ (by show 7 ≤ (i + 1) * 7 + j; omega), show (i + 1) * 7 + j - (Fr.cs f).length = i * 7 + j from by show (i + 1) * 7 + j - 7 = _; omega, List.set_cons_succ, List.flatMap_cons, fc_set l i j (by simpa using hi) v f' hj he]
theorem fc_all : ∀ (fs : List Fr) (i : Nat) (_ : i < fs.length) (f' : Fr), (fs.flatMap Fr.cs).take (i * 7) ++ f'.cs ++ (fs.flatMap Fr.cs).drop (i * 7 + 7) = (fs.set i f').flatMap Fr.cs
  | [], i, hi, _ => absurd hi (by simp)
  | f :: l, 0, hi, f' => by
    rw [List.set_cons_zero, List.flatMap_cons, List.flatMap_cons, Nat.zero_mul, List.take_zero, List.nil_append, List.drop_append]
    rw [List.drop_of_length_le (show (Fr.cs f).length ≤ 0 + 7 from Nat.le_refl _), show 0 + 7 - (Fr.cs f).length = 0 from rfl, List.drop_zero, List.nil_append]
  | f :: l, i + 1, hi, f' => by
    have hl : (Fr.cs f).length = 7 := rfl
    rw [List.set_cons_succ, List.flatMap_cons, List.flatMap_cons, List.take_append, List.take_of_length_le (by rw [hl]; omega), List.drop_append, List.drop_of_length_le (by rw [hl]; omega), List.nil_append, hl, show (i + 1) * 7 - 7 = i * 7 by omega, show (i + 1) * 7 + 7 - 7 = i * 7 + 7 by omega, ← fc_all l i (by simpa using hi) f']
    simp
/-- A cache in block g. ho: a frame whose key is not (or no more) in the map. -/
structure CaAt (W : World) (g fb mb N : Nat) (fs : List Fr) (hand : Nat) (tb : Tk) (ho : Option Nat) : Prop where
  blk : Bk W g 47 #[.slice (some ⟨fb, 0, none⟩) N N, .map (some mb), .int .i64 hand]
  fr : Bk W fb 52 (fcA fs)
  map : KmIs W mb tb
  n : N = fs.length
  hl : hand < N
  nl : N ≤ 64
  data : ∀ f ∈ fs, Rd b8 W W.heap.size f.A f.b ∧ f.b.length ≤ 1000000 ∧ ∀ a, f.A = some a → f.b ≠ [] → a.block ≠ g ∧ a.block ≠ fb ∧ a.block ≠ mb
  n1 : fb ≠ g
  n2 : mb ≠ g
  n3 : mb ≠ fb
  kw : ∀ f ∈ fs, kW f.k
  pl : ∀ f ∈ fs, f.pins ≤ 1000000
  c1 : ∀ i (h : i < fs.length), some i ≠ ho → fs[i].full = true → vOf tb fs[i].k = some (i : Int)
  c2 : ∀ k z, vOf tb k = some z → ∃ i, ∃ h : i < fs.length, some i ≠ ho ∧ z = (i : Int) ∧ fs[i].full = true ∧ fs[i].k = k
section
variable {W W' : World} {g fb mb N : Nat} {fs : List Fr} {hand : Nat} {tb : Tk} {ho : Option Nat}
theorem CaAt.keptS {S : Nat → Prop} (h : CaAt W g fb mb N fs hand tb ho) (hk : Kept S W W') (h1 : ¬ S g) (h2 : ¬ S fb) (h3 : ¬ S mb) (h4 : ∀ f ∈ fs, ∀ a, f.A = some a → f.b ≠ [] → ¬ S a.block) : CaAt W' g fb mb N fs hand tb ho :=
  ⟨hk.bk h.blk h1, hk.bk h.fr h2, h.map.kept hk h3, h.n, h.hl, h.nl, fun f hf => ⟨by
    cases hb : f.b with
    | nil => exact Rd.nil
    | cons y ys => rw [← hb]; exact hk.rd (h.data f hf).1 (fun a e => h4 f hf a e (by rw [hb]; simp)), (h.data f hf).2⟩, h.n1, h.n2, h.n3, h.kw, h.pl, h.c1, h.c2⟩
theorem CaAt.below (h : CaAt W g fb mb N fs hand tb ho) (hb : Below W.heap.size W W') : CaAt W' g fb mb N fs hand tb ho :=
  h.keptS (Kept.of_below hb (fun _ => False)) (fun e => e) (fun e => e) (fun e => e) (fun _ _ _ _ _ e => e)
theorem CaAt.cell (h : CaAt W g fb mb N fs hand tb ho) {i : Nat} (hi : i < fs.length) {j : Nat} (hj : j < 7) : W.cell? ⟨fb, i * 7 + j, none⟩ = (fs[i].cs)[j]? := by
  rw [h.fr.cell, ← fc_get fs i j hi hj]
  unfold fcA
  simp
theorem CaAt.cells (h : CaAt W g fb mb N fs hand tb ho) {i : Nat} (hi : i < fs.length) :
    W.cell? ⟨fb, i * 7, none⟩ = some (.int .i64 fs[i].k.1) ∧ W.cell? ⟨fb, i * 7 + 1, none⟩ = some (.int .i64 fs[i].k.2) ∧ W.cell? ⟨fb, i * 7 + 2, none⟩ = some (.bool fs[i].full) ∧ W.cell? ⟨fb, i * 7 + 3, none⟩ = some (.slice fs[i].A fs[i].b.length fs[i].c) ∧ W.cell? ⟨fb, i * 7 + 4, none⟩ = some (.bool fs[i].dirty) ∧ W.cell? ⟨fb, i * 7 + 5, none⟩ = some (.int .i64 fs[i].pins) ∧ W.cell? ⟨fb, i * 7 + 6, none⟩ = some (.bool fs[i].mrk) :=
  ⟨h.cell hi (j := 0) (by decide), h.cell hi (j := 1) (by decide), h.cell hi (j := 2) (by decide), h.cell hi (j := 3) (by decide), h.cell hi (j := 4) (by decide), h.cell hi (j := 5) (by decide), h.cell hi (j := 6) (by decide)⟩
/-- A frame's own turn: its key and whether it is full stay. -/
theorem CaAt.upd (h : CaAt W g fb mb N fs hand tb ho) (i : Nat) (hi : i < fs.length) (f' : Fr) (hb : Bk W' fb 52 (fcA (fs.set i f'))) (hk : Kept (fun k => k = fb) W W') (e1 : f'.full = fs[i].full) (e2 : f'.k = fs[i].k)
    (hd : Rd b8 W' W'.heap.size f'.A f'.b ∧ f'.b.length ≤ 1000000 ∧ ∀ a, f'.A = some a → f'.b ≠ [] → a.block ≠ g ∧ a.block ≠ fb ∧ a.block ≠ mb) (hp : f'.pins ≤ 1000000) : CaAt W' g fb mb N (fs.set i f') hand tb ho := by
  have hmem : ∀ f ∈ fs.set i f', f = f' ∨ f ∈ fs := fun f hf => by
    rcases List.mem_or_eq_of_mem_set hf with e | e
    · exact .inr e
    · exact .inl e
  refine ⟨hk.bk h.blk (fun e => h.n1 e.symm), hb, h.map.kept hk h.n3, by rw [List.length_set]; exact h.n, h.hl, h.nl, fun f hf => ?_, h.n1, h.n2, h.n3, fun f hf => ?_, fun f hf => ?_, fun j hj e3 e4 => ?_, fun k z e => ?_⟩
  · rcases hmem f hf with rfl | e
    · exact hd
    · have := h.data f e
      refine ⟨?_, this.2⟩
      cases hb : f.b with
      | nil => exact Rd.nil
      | cons y ys => rw [← hb]; exact hk.rd this.1 (fun a ea => (this.2.2 a ea (by rw [hb]; simp)).2.1)
  · rcases hmem f hf with rfl | e
    · rw [e2]; exact h.kw _ (List.getElem_mem hi)
    · exact h.kw f e
  · rcases hmem f hf with rfl | e
    · exact hp
    · exact h.pl f e
  · rw [List.length_set] at hj
    rw [List.getElem_set] at e4 ⊢
    split at e4
    · rename_i e5
      subst e5
      rw [if_pos rfl, e2]
      exact h.c1 i hj e3 (e1 ▸ e4)
    · rename_i e5
      rw [if_neg e5]
      exact h.c1 j hj e3 e4
  · obtain ⟨j, hj, q1, q2, q3, q4⟩ := h.c2 k z e
    refine ⟨j, by rw [List.length_set]; exact hj, q1, q2, ?_⟩
    rw [List.getElem_set]
    split
    · rename_i e5
      subst e5
      exact ⟨e1 ▸ q3, e2 ▸ q4⟩
    · exact ⟨q3, q4⟩
/-- One cell of a frame is stored. -/
theorem CaAt.st (h : CaAt W g fb mb N fs hand tb ho) (i : Nat) (hi : i < fs.length) (j : Nat) (hj : j < 7) (v : Value) (f' : Fr) (he : f'.cs = fs[i].cs.set j v) (e1 : f'.full = fs[i].full) (e2 : f'.k = fs[i].k)
    (hd : Rd b8 W W.heap.size f'.A f'.b ∧ f'.b.length ≤ 1000000 ∧ ∀ a, f'.A = some a → f'.b ≠ [] → a.block ≠ g ∧ a.block ≠ fb ∧ a.block ≠ mb) (hp : f'.pins ≤ 1000000) : CaAt (W.setCell ⟨fb, i * 7 + j, none⟩ v) g fb mb N (fs.set i f') hand tb ho ∧ Kept (fun k => k = fb) W (W.setCell ⟨fb, i * 7 + j, none⟩ v) := by
  have hk := Kept.set W fb (i * 7 + j) v
  have hb := h.fr.set (i * 7 + j) v
  have e : (fcA fs).setIfInBounds (i * 7 + j) v = fcA (fs.set i f') := by
    unfold fcA
    rw [List.setIfInBounds_toArray, fc_set fs i j hi v f' hj he]
  rw [e] at hb
  refine ⟨h.upd i hi f' hb hk e1 e2 ⟨?_, hd.2⟩ hp, hk⟩
  cases hq : f'.b with
  | nil => exact Rd.nil
  | cons y ys => rw [← hq]; exact hk.rd hd.1 (fun a ea => (hd.2.2 a ea (by rw [hq]; simp)).2.1)
theorem CaAt.dat (h : CaAt W g fb mb N fs hand tb ho) {i : Nat} (hi : i < fs.length) : Rd b8 W W.heap.size fs[i].A fs[i].b ∧ fs[i].b.length ≤ 1000000 ∧ ∀ a, fs[i].A = some a → fs[i].b ≠ [] → a.block ≠ g ∧ a.block ≠ fb ∧ a.block ≠ mb := h.data _ (List.getElem_mem hi)
end
end Go.Proofs.Ythmaofbnhfgfaaa
