/- A row of records of one's own. Conditions: lengths. -/
import Derived.Test.YtoigahkgdanjnaaRecD
namespace Go.Proofs.Ytoigahkgdanjnaa
set_option linter.unusedVariables false
set_option linter.unusedSimpArgs false
open Go.RowKit
set_option maxRecDepth 100000
set_option maxHeartbeats 400000
/-- append of elements of many cells to a row of one's own. -/
theorem wp_appS {P : Program} {t e : TypeId} {z : Value} {bytes : Nat} {w : World} {ops : Array Oper} {rest : List Oper} {o : Oper} {a : Act} {Q : Exit → Act → World → Prop} (size : Nat) (i : TypeInfo) (ht : P.underlying t = some (.slice e)) (hi : P.info? e = some i) (hz : i.zero = some z)
    (hsize : i.size = size) (hby : i.bytes = bytes) (hzs : z.cells.size = size) (hsz : 0 < size) (hgd : o.guard = none) (s x : Operand)
    (ho : o.op = .call { callee := .builtin .append, args := #[s, x], argTypes := #[t, t] })
    (base : Nat) (v : Value) (n : Nat) (xs : List Value) (hs : a.eval s = v) (hown : w.ownsRow base e size v n xs)
    (ad : Addr) (m c : Nat) (news : List Value) (hx : a.eval x = .slice (some ad) m c) (hl : news.length = m * size) (hnews : ∀ j u, news[j]? = some u → w.cell? (ad.add j) = some u) (h1 : ∀ u ∈ news, u.oneCell' = true)
    (h63 : n + m ≤ maxLen) (hbytes : (n + m) * bytes ≤ 140737488355328) (hbase : base ≤ w.heap.size)
    (h : ∀ v' w', w'.ownsRow base e size v' (n + m) (xs ++ news) → Below base w w' → w.grownBy w' v.ownBlock → (v'.ownBlock = v.ownBlock ∨ v'.ownBlock = some w.heap.size) → wpList P ops Q rest (a.put o.dst v') w') : wpList P ops Q (o :: rest) a w := by
  refine wpList_plain hgd fun K hK => ?_
  obtain ⟨v', w', hrun, h2, h3, _, h5⟩ := run_append_own_at (P := P) w base t o.type e i z size bytes ht hi hz hsize hby hzs hsz v n xs hown ad m c news hl hnews h1 h63 hbytes hbase
  unfold Oper.wp execOp
  simp only [ho, resolve, invoke, builtin, Sem.run_bind, Sem.run_pure, Result.andThen_ok, List.map_toArray, List.map_cons, List.map_nil, hs, hx, hrun]
  exact hK _ _ (h v' w' h2 ((Below.refl _ _).grown h3 hbase (fun k hk => (World.ownsRow.lt hown k hk).1)) h3 h5)
structure Rn where
  k : Nat
  tx : BitVec 64
  sp : Nat
  no : Nat
  d : List (BitVec 8)
def Rn.ok (x : Rn) : Prop := ¬ badR x.k x.sp x.no ∧ x.d.length ≤ 4096
def Rn.enc (x : Rn) : List (BitVec 8) := encRL x.k x.tx x.sp x.no x.d
def Rn.cells (x : Rn) (p : Option Addr × Nat) : List Value := [.int .i64 x.k, .int .u64 (U64 x.tx), .int .i64 x.sp, .int .i64 x.no, .slice p.1 x.d.length p.2]
def encs (L : List Rn) : List (BitVec 8) := L.flatMap Rn.enc
theorem flat5 {α : Type} (f : α → List Value) (h5 : ∀ x, (f x).length = 5) : ∀ (l : List α) (i j : Nat) (hi : i < l.length), j < 5 → (l.flatMap f)[i * 5 + j]? = (f l[i])[j]?
  | [], i, j, hi, _ => absurd hi (by simp)
  | x :: l, 0, j, hi, hj => by
    rw [List.flatMap_cons, Nat.zero_mul, Nat.zero_add, List.getElem?_append_left (by rw [h5]; exact hj)]
    rfl
  | x :: l, i + 1, j, hi, hj => by
    rw [List.flatMap_cons, List.getElem?_append_right (by rw [h5]; omega), h5, show (i + 1) * 5 + j - 5 = i * 5 + j from by omega]
    exact flat5 f h5 l i j (by simpa using hi) hj
def RRow (W : World) (base : Nat) (v : Value) (L : List Rn) : Prop := ∃ ds : List (Option Addr × Nat), ds.length = L.length ∧ W.ownsRow base 27 5 v L.length ((L.zip ds).flatMap fun p => p.1.cells p.2) ∧
  ∀ q ∈ L.zip ds, Rd b8 W W.heap.size q.2.1 q.1.d ∧ (0 < q.1.d.length → ∀ a, q.2.1 = some a → v.ownBlock ≠ some a.block)
theorem RRow.nil (W : World) (base : Nat) : RRow W base (.slice none 0 0) [] := ⟨[], rfl, ⟨by simp, .inl ⟨rfl, rfl⟩⟩, fun q h => by cases h⟩
theorem RRow.below {W W' : World} {base : Nat} {v : Value} {L : List Rn} (h : RRow W base v L) (hb : Below W.heap.size W W') : RRow W' base v L := by
  obtain ⟨ds, h1, h2, h3⟩ := h
  exact ⟨ds, h1, World.ownsRow.kept h2 (row := none) ⟨hb.os, hb.tape, hb.output, hb.size, fun k hk _ => hb.block k hk⟩ (by
    cases hv : v.ownBlock
    · exact .inl rfl
    · exact .inr (by simp)), fun q hq => ⟨((h3 q hq).1.below hb).more hb.size, (h3 q hq).2⟩⟩
theorem Rd.grown {W W' : World} {row : Option Nat} {A : Option Addr} {xs : List (BitVec 8)} (h : Rd b8 W W.heap.size A xs) (hg : W.grownBy W' row) (hne : 0 < xs.length → ∀ a, A = some a → row ≠ some a.block) : Rd b8 W' W'.heap.size A xs := fun j hj => by
  obtain ⟨ad, e, hb, hc⟩ := h j hj
  refine ⟨ad, e, Nat.lt_of_lt_of_le hb hg.size, ?_⟩
  rw [← hc]
  exact World.cell?_of_block (by rw [add_block]; exact hg.block _ hb (fun h => hne (by omega) ad e h.symm))
theorem RRow.snoc {W w' : World} {base : Nat} {v v' : Value} {L : List Rn} {x : Rn} {p : Option Addr × Nat} (h : RRow W base v L) (hx : Rd b8 W W.heap.size p.1 x.d) (hxn : 0 < x.d.length → ∀ a, p.1 = some a → v.ownBlock ≠ some a.block)
    (ho : ∀ ds : List (Option Addr × Nat), ds.length = L.length → W.ownsRow base 27 5 v L.length ((L.zip ds).flatMap fun p => p.1.cells p.2) → w'.ownsRow base 27 5 v' (L.length + 1) (((L.zip ds).flatMap fun p => p.1.cells p.2) ++ x.cells p))
    (hg : W.grownBy w' v.ownBlock) (hv : v'.ownBlock = v.ownBlock ∨ v'.ownBlock = some W.heap.size) : RRow w' base v' (L ++ [x]) := by
  obtain ⟨ds, h1, h2, h3⟩ := h
  have hz : (L ++ [x]).zip (ds ++ [p]) = L.zip ds ++ [(x, p)] := by rw [List.zip_append h1.symm]; rfl
  refine ⟨ds ++ [p], by simp [h1], ?_, ?_⟩
  · rw [hz, List.flatMap_append, List.length_append]
    have := ho ds h1 h2
    simpa using this
  · rw [hz]
    intro q hq
    have key : Rd b8 W W.heap.size q.2.1 q.1.d ∧ (0 < q.1.d.length → ∀ a, q.2.1 = some a → v.ownBlock ≠ some a.block) := by
      rcases List.mem_append.1 hq with h | h
      · exact h3 q h
      · have : q = (x, p) := by simpa using h
        subst this
        exact ⟨hx, hxn⟩
    refine ⟨key.1.grown hg key.2, fun hp a e => ?_⟩
    rcases hv with e2 | e2
    · rw [e2]; exact key.2 hp a e
    · rw [e2]
      obtain ⟨ad, e3, hb, _⟩ := key.1 0 hp
      rw [e] at e3
      injection e3 with e3
      subst e3
      intro e4
      injection e4 with e4
      omega
/-- A row of records, as it is read. -/
def RowN (W : World) (B : Nat) (A : Option Addr) (L : List Rn) : Prop := ∀ i (h : i < L.length), ∃ ad D c, A = some ad ∧ ad.block < B ∧ W.cell? (ad.add (i * 5)) = some (.int .i64 L[i].k) ∧ W.cell? ⟨(ad.add (i * 5)).block, (ad.add (i * 5)).off + 1, none⟩ = some (.int .u64 (U64 L[i].tx)) ∧
  W.cell? ⟨(ad.add (i * 5)).block, (ad.add (i * 5)).off + 2, none⟩ = some (.int .i64 L[i].sp) ∧ W.cell? ⟨(ad.add (i * 5)).block, (ad.add (i * 5)).off + 3, none⟩ = some (.int .i64 L[i].no) ∧ W.cell? ⟨(ad.add (i * 5)).block, (ad.add (i * 5)).off + 4, none⟩ = some (.slice D L[i].d.length c) ∧ Rd b8 W B D L[i].d
theorem RowN.below {W W' : World} {B : Nat} {A : Option Addr} {L : List Rn} (h : RowN W B A L) (hb : Below B W W') : RowN W' B A L := fun i hi => by
  obtain ⟨ad, D, c, h1, h2, h3, h4, h5, h6, h7, h8⟩ := h i hi
  have hbk : (ad.add (i * 5)).block < B := by rw [add_block]; exact h2
  have q : ∀ j, W'.cell? ⟨(ad.add (i * 5)).block, (ad.add (i * 5)).off + j, none⟩ = W.cell? ⟨(ad.add (i * 5)).block, (ad.add (i * 5)).off + j, none⟩ := fun j => hb.cell (p := ⟨(ad.add (i * 5)).block, (ad.add (i * 5)).off + j, none⟩) hbk
  exact ⟨ad, D, c, h1, h2, (hb.cell hbk).trans h3, (q _).trans h4, (q _).trans h5, (q _).trans h6, (q _).trans h7, h8.below hb⟩
theorem RRow.rows {W : World} {base : Nat} {A : Option Addr} {n c : Nat} {L : List Rn} (h : RRow W base (.slice A n c) L) : RowN W W.heap.size A L ∧ n = L.length := by
  obtain ⟨ds, h1, h2, h3⟩ := h
  rcases h2.2 with ⟨e, hn⟩ | ⟨g, cap, cur, e, _, hh, _, _, hs, ht⟩
  · injection e with e1 e2 e3
    refine ⟨fun i hi => absurd hi (by omega), by omega⟩
  · injection e with e1 e2 e3
    subst e1
    refine ⟨fun i hi => ?_, e2⟩
    have hg : g < W.heap.size := (Array.getElem?_eq_some_iff.1 hh).1
    have hzl : (L.zip ds).length = L.length := by rw [List.length_zip, h1]; omega
    have hcell : ∀ j, j < 5 → W.cell? ⟨g, i * 5 + j, none⟩ = ((L[i]).cells (ds[i]'(by omega)))[j]? := by
      intro j hj
      rw [cell_of_row W g _ cur _ _ hh]
      have h4 := flat5 (fun p : Rn × (Option Addr × Nat) => p.1.cells p.2) (fun x => rfl) (L.zip ds) i j (by omega) hj
      rw [← ht, List.getElem?_take_of_lt (by omega)] at h4
      rw [← Array.getElem?_toList, h4]
      simp
    obtain ⟨hr, _⟩ := h3 (L[i], ds[i]'(by omega)) (List.mem_iff_getElem.2 ⟨i, by omega, by simp⟩)
    have e0 : ((⟨g, 0, none⟩ : Addr).add (i * 5)) = ⟨g, i * 5, none⟩ := by unfold Addr.add; by_cases k : i * 5 = 0 <;> simp [k]
    refine ⟨⟨g, 0, none⟩, (ds[i]'(by omega)).1, (ds[i]'(by omega)).2, rfl, hg, ?_, ?_, ?_, ?_, ?_, hr⟩
    all_goals rw [e0]
    · exact hcell 0 (by decide)
    · exact hcell 1 (by decide)
    · exact hcell 2 (by decide)
    · exact hcell 3 (by decide)
    · exact hcell 4 (by decide)
end Go.Proofs.Ytoigahkgdanjnaa
