/- A disk as lists: what it is. Conditions: lengths. -/
import Derived.Test.YtfcbmdmkdjaoaaaDkA
import Derived.Test.YtfcbmdmkdjaoaaaRegT
namespace Go.Proofs.Ytfcbmdmkdjaoaaa
set_option linter.unusedVariables false
set_option linter.unusedSimpArgs false
open Go.RowKit Go.Maps
def boV (b : Bool) : Value := .bool b
theorem boV_one (x : Bool) : (boV x).oneCell' = true := rfl
abbrev PW := Nat × List (BitVec 8)
/-- The newest pending write of a place, from 1 on; 0: there is none. -/
def newG : List PW → Nat → Int → Int → Int
  | [], _, r, _ => r
  | p :: l, i, r, x => newG l (i + 1) (if x = (p.1 : Int) then ((i + 1 : Nat) : Int) else r) x
def newF (L : List PW) (x : Int) : Int := newG L 0 0 x
theorem newG_snoc (L : List PW) (p : PW) : ∀ (i : Nat) (r x : Int), newG (L ++ [p]) i r x = if x = (p.1 : Int) then ((i + L.length + 1 : Nat) : Int) else newG L i r x := by
  induction L with
  | nil => intro i r x; simp [newG]
  | cons q l ih =>
    intro i r x
    rw [List.cons_append, newG, ih]
    simp only [newG, List.length_cons]
    split
    · congr 1; omega
    · rfl
theorem newF_snoc (L : List PW) (p : PW) : newF (L ++ [p]) = fun x => if x = (p.1 : Int) then ((L.length + 1 : Nat) : Int) else newF L x := by
  funext x
  unfold newF
  rw [newG_snoc]
  simp only [Nat.zero_add]
theorem newG_at (L : List PW) : ∀ (i : Nat) (r x : Int), newG L i r x = r ∨ ∃ j, ∃ h : j < L.length, newG L i r x = ((i + j + 1 : Nat) : Int) ∧ (L[j].1 : Int) = x := by
  induction L with
  | nil => intro i r x; exact .inl rfl
  | cons q l ih =>
    intro i r x
    rw [newG]
    rcases ih (i + 1) (if x = (q.1 : Int) then ((i + 1 : Nat) : Int) else r) x with h | ⟨j, hj, h1, h2⟩
    · rw [h]
      by_cases e : x = (q.1 : Int)
      · rw [if_pos e]
        exact .inr ⟨0, by simp, by simp, e.symm⟩
      · rw [if_neg e]; exact .inl rfl
    · exact .inr ⟨j + 1, by simpa using hj, by rw [h1]; congr 1; omega, by simpa using h2⟩
theorem newF_at (L : List PW) (x : Int) : newF L x = 0 ∨ ∃ j, ∃ h : j < L.length, newF L x = (j : Int) + 1 ∧ (L[j].1 : Int) = x := by
  rcases newG_at L 0 0 x with h | ⟨j, hj, h1, h2⟩
  · exact .inl h
  · exact .inr ⟨j, hj, by unfold newF; rw [h1]; omega, h2⟩
structure DK where
  size : Nat
  secs : Nat
  kept : List (BitVec 8)
  pend : List PW
  off : Bool
  armed : Nat
  keep : List Bool
  writes : Nat
structure DX where
  kb : Nat
  kc : Nat
  pA : Option Addr
  pc : Nat
  mb : Nat
  eA : Option Addr
  ec : Nat
  D : Nat → Prop
def pcells (p : PW × (Option Addr × Nat)) : List Value := [.int .i64 p.1.1, .slice p.2.1 p.1.2.length p.2.2]
/-- A row of pending writes. -/
def PRow (W : World) (v : Value) (L : List PW) (D : Nat → Prop) : Prop := ∃ ds : List (Option Addr × Nat), ds.length = L.length ∧ W.ownsRow 0 70 2 v L.length ((L.zip ds).flatMap pcells) ∧
  ∀ q ∈ L.zip ds, Rd b8 W W.heap.size q.2.1 q.1.2 ∧ q.1.2.length ≤ q.2.2 ∧ ∀ a, q.2.1 = some a → D a.block
structure DiskAt (W : World) (g : Nat) (x : DX) (d : DK) : Prop where
  blk : Bk W g 64 #[.int .i64 d.size, .slice (some ⟨x.kb, 0, none⟩) d.kept.length x.kc, .slice x.pA d.pend.length x.pc, .map (some x.mb), .bool d.off, .int .i64 d.armed, .slice x.eA d.keep.length x.ec, .int .i64 d.writes]
  kept : Ow b8 5 W 0 (.slice (some ⟨x.kb, 0, none⟩) d.kept.length x.kc) d.kept
  pend : PRow W (.slice x.pA d.pend.length x.pc) d.pend x.D
  map : MapFn W x.mb d.pend.length (newF d.pend)
  keep : Rd boV W W.heap.size x.eA d.keep
  keepD : ∀ a, x.eA = some a → x.D a.block
  Dlt : ∀ k, x.D k → k < W.heap.size
  n1 : x.kb ≠ g
  n2 : x.mb ≠ g
  n3 : x.mb ≠ x.kb
  n4 : ∀ a, x.pA = some a → a.block ≠ g ∧ a.block ≠ x.kb ∧ a.block ≠ x.mb
  n5 : ∀ k, x.D k → k ≠ g ∧ k ≠ x.kb ∧ k ≠ x.mb ∧ ∀ a, x.pA = some a → k ≠ a.block
  sz : 64 ≤ d.size ∧ d.size ≤ 1024
  sc : 1 ≤ d.secs ∧ d.secs ≤ 16384
  kl : d.kept.length = d.secs * d.size
  pl : ∀ p ∈ d.pend, p.1 < d.secs ∧ p.2.length = d.size
  lim : d.pend.length ≤ 100000 ∧ d.writes ≤ 1000000 ∧ d.armed ≤ 9223372036854775807 ∧ d.keep.length ≤ 100000 ∧ d.keep.length ≤ x.ec
/-- The blocks that a disk's methods may turn. -/
def Md (g : Nat) (x : DX) (k : Nat) : Prop := k = g ∨ k = x.kb ∨ k = x.mb ∨ ∃ a, x.pA = some a ∧ k = a.block
def NextX (g : Nat) (w : World) (x x' : DX) : Prop := ∀ k, (Md g x' k ∨ x'.D k) → (Md g x k ∨ x.D k) ∨ w.heap.size ≤ k
theorem NextX.refl (g : Nat) (w : World) (x : DX) : NextX g w x x := fun k h => .inl h
/-- A disk in block g, of blocks from B on that are none of X. -/
def DiskX (B : Nat) (X : Nat → Prop) (W : World) (g : Nat) (d : DK) : Prop := ∃ x, DiskAt W g x d ∧ ∀ k, (Md g x k ∨ x.D k) → B ≤ k ∧ ¬ X k
section
variable {W W' w w' : World} {g : Nat} {x x' : DX} {d d' : DK} {S : Nat → Prop}
theorem Bk.eight {w : World} {g : Nat} {E : TypeId} {a b c d e f h i : Value} (k : Bk w g E #[a, b, c, d, e, f, h, i]) :
    w.cell? ⟨g, 0, none⟩ = some a ∧ w.cell? ⟨g, 1, none⟩ = some b ∧ w.cell? ⟨g, 2, none⟩ = some c ∧ w.cell? ⟨g, 3, none⟩ = some d ∧ w.cell? ⟨g, 4, none⟩ = some e ∧ w.cell? ⟨g, 5, none⟩ = some f ∧ w.cell? ⟨g, 6, none⟩ = some h ∧ w.cell? ⟨g, 7, none⟩ = some i :=
  ⟨k.cell 0, k.cell 1, k.cell 2, k.cell 3, k.cell 4, k.cell 5, k.cell 6, k.cell 7⟩
theorem PRow.lt {v : Value} {L : List PW} {D : Nat → Prop} (h : PRow W v L D) : ∀ k, v.ownBlock = some k → k < W.heap.size := by
  obtain ⟨ds, h1, h2, h3⟩ := h
  exact fun k hk => (World.ownsRow.lt h2 k hk).2
theorem PRow.addr {A : Option Addr} {n c : Nat} {L : List PW} {D : Nat → Prop} (h : PRow W (.slice A n c) L D) : (A = none ∧ L = []) ∨ ∃ q, A = some ⟨q, 0, none⟩ ∧ q < W.heap.size := by
  obtain ⟨ds, h1, h2, h3⟩ := h
  rcases h2.2 with ⟨e, hn⟩ | ⟨q, cap, cur, e, _, hh, _⟩
  · injection e with e1 e2 e3
    exact .inl ⟨e1, List.eq_nil_of_length_eq_zero hn⟩
  · injection e with e1 e2 e3
    exact .inr ⟨q, e1, (Array.getElem?_eq_some_iff.1 hh).1⟩
theorem PRow.kept {v : Value} {L : List PW} {D : Nat → Prop} (h : PRow W v L D) (hk : Kept S W W') (hv : ∀ k, v.ownBlock = some k → ¬ S k) (hD : ∀ k, D k → ¬ S k) : PRow W' v L D := by
  obtain ⟨ds, h1, h2, h3⟩ := h
  exact ⟨ds, h1, hk.row h2 hv, fun q hq => ⟨hk.rd (h3 q hq).1 (fun a e => hD _ ((h3 q hq).2.2 a e)), (h3 q hq).2⟩⟩
theorem own_slice {A : Option Addr} {n c k : Nat} (h : (Value.slice A n c).ownBlock = some k) : ∃ a, A = some a ∧ k = a.block := by
  unfold Value.ownBlock at h
  cases A with
  | none => cases h
  | some a => simp at h; exact ⟨a, rfl, h.symm⟩
theorem DiskAt.kept_ (h : DiskAt W g x d) (hk : Kept S W W') (h1 : ¬ S g) (h2 : ¬ S x.kb) (h3 : ¬ S x.mb) (h4 : ∀ a, x.pA = some a → ¬ S a.block) (h5 : ∀ k, x.D k → ¬ S k) : DiskAt W' g x d :=
  ⟨hk.bk h.blk h1, hk.ow h.kept (fun k e => by obtain ⟨a, e1, rfl⟩ := own_slice e; injection e1 with e1; subst e1; exact h2), h.pend.kept hk (fun k e => by obtain ⟨a, e1, rfl⟩ := own_slice e; exact h4 a e1) h5,
   h.map.kept hk h3, hk.rd h.keep (fun a e => h5 _ (h.keepD a e)), h.keepD, fun k e => Nat.lt_of_lt_of_le (h.Dlt k e) hk.size, h.n1, h.n2, h.n3, h.n4, h.n5, h.sz, h.sc, h.kl, h.pl, h.lim⟩
theorem DiskAt.below (h : DiskAt W g x d) (hb : Below W.heap.size W W') : DiskAt W' g x d :=
  h.kept_ (Kept.of_below hb (fun _ => False)) (fun h => h) (fun h => h) (fun h => h) (fun _ _ h => h) (fun _ _ h => h)
theorem DiskAt.klt (h : DiskAt W g x d) : x.kb < W.heap.size := (World.ownsRow.lt h.kept x.kb rfl).2
theorem DiskAt.lts (h : DiskAt W g x d) : ∀ k, (Md g x k ∨ x.D k) → k < W.heap.size := by
  rintro k ((rfl | rfl | rfl | ⟨a, e, rfl⟩) | hD)
  · exact h.blk.lt
  · exact h.klt
  · exact h.map.lt
  · rcases h.pend.addr with ⟨e1, _⟩ | ⟨q, e1, hq⟩
    · rw [e] at e1; cases e1
    · rw [e] at e1; injection e1 with e1; subst e1; exact hq
  · exact h.Dlt k hD
theorem DiskX.next {B : Nat} {X : Nat → Prop} (h : DiskAt w g x d) (hx : ∀ k, (Md g x k ∨ x.D k) → B ≤ k ∧ ¬ X k) (hX : ∀ k, X k → k < w.heap.size) (hB : B ≤ w.heap.size) (h' : DiskAt w' g x' d') (hn : NextX g w x x') (hk : Kept (Md g x) w w') :
    DiskX B X w' g d' ∧ Kept (fun k => B ≤ k ∧ ¬ X k) w w' := by
  refine ⟨⟨x', h', fun k hk' => ?_⟩, hk.more (fun k e => hx k (.inl e))⟩
  rcases hn k hk' with e | e
  · exact hx k e
  · exact ⟨Nat.le_trans hB e, fun f => by have := hX k f; omega⟩
theorem DiskX.kept {B : Nat} {X : Nat → Prop} (h : DiskX B X w g d) (hk : Kept X w w') : DiskX B X w' g d := by
  obtain ⟨x, h1, h2⟩ := h
  exact ⟨x, h1.kept_ hk (h2 _ (.inl (.inl rfl))).2 (h2 _ (.inl (.inr (.inl rfl)))).2 (h2 _ (.inl (.inr (.inr (.inl rfl))))).2 (fun a e => (h2 _ (.inl (.inr (.inr (.inr ⟨a, e, rfl⟩))))).2) (fun k e => (h2 _ (.inr e)).2), h2⟩
theorem DiskX.below {B : Nat} {X : Nat → Prop} (h : DiskX B X w g d) (hb : Below w.heap.size w w') : DiskX B X w' g d := by
  obtain ⟨x, h1, h2⟩ := h
  exact ⟨x, h1.below hb, h2⟩
/-- A block that is new is none of the disk's. -/
theorem DiskX.besides {B : Nat} {X X' : Nat → Prop} (h : DiskX B X w g d) (hX : ∀ k, X' k → X k ∨ w.heap.size ≤ k) : DiskX B X' w g d := by
  obtain ⟨x, h1, h2⟩ := h
  refine ⟨x, h1, fun k hk => ⟨(h2 k hk).1, fun e => ?_⟩⟩
  rcases hX k e with e | e
  · exact (h2 k hk).2 e
  · have := h1.lts k hk; omega
end
end Go.Proofs.Ytfcbmdmkdjaoaaa
