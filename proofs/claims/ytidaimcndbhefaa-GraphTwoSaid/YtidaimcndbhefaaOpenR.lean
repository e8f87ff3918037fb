/- How an argument that is a row of structs is opened. No conditions. -/
import Derived.Test.YtidaimcndbhefaaFrame
import Derived.Deep.Slices
import Derived.Deep.Fields
namespace Go.Proofs.Ytidaimcndbhefaa
set_option linter.unusedVariables false
set_option linter.unusedSimpArgs false
open Go.ChangeShapes Go.WideShapes Go.ChangeAt Go.RowKit
section
variable {H : Type} {enc : TypeId × Value → H} {P : Program} {w : World} {base : Nat} {spare : Nat → Bool} {held : Bool} {r : Reach} {b0 : Nat}
theorem cell_int {k : IntKind} {n : Nat} {t : TypeId} {u : Value} {y : DataW H × List MemPlace} (ht : P.underlying t = some (.int k)) (h : DataW.trod enc P w base spare held n t [u] = some y) : ∃ a, u = .int k a ∧ (Lit.int k a).wf = true := by
  obtain ⟨a, h, _, hw⟩ := DataW.trod_int ht h
  exact ⟨a, by simpa using h, hw⟩
/-- A cell that is a slice of numbers. -/
theorem cell_nums {α : Type} (f : α → Value) {k : IntKind} {n : Nat} {t e : TypeId} {u : Value} {y : DataW H × List MemPlace} (hf : ∀ z : Int, (Lit.int k z).wf = true → ∃ a, f a = .int k z) (ht : P.underlying t = some (.slice e)) (he : P.underlying e = some (.int k)) (hc : P.cellsOf e = 1) (h : DataW.trod enc P w base spare held n t [u] = some y) :
    ∃ (A : Option Addr) (bs : List α) (c : Nat), u = .slice A bs.length c ∧ bs.length ≤ c ∧ c ≤ maxLen ∧ Rd f w w.heap.size A bs := by
  rcases open_ints ht he hc h with ⟨hcs, _⟩ | ⟨x, l, c, zs, hcs, _, hl, hm, hz, _, hcell, hwz⟩
  · have hu : u = .slice none 0 0 := by simpa using hcs
    exact ⟨none, [], 0, hu, Nat.le_refl _, by simp [maxLen], Rd.nil⟩
  · have hu : u = .slice (some x) l c := by simpa using hcs
    have hlen : l ≤ zs.length := by rw [hz]; split <;> omega
    have : ∃ bs : List α, bs.length = l ∧ ∀ j (h : j < bs.length), f bs[j] = .int k (zs.getD j 0) := by
      have hk : ∀ m, m ≤ l → ∃ bs : List α, bs.length = m ∧ ∀ j (h : j < bs.length), f bs[j] = .int k (zs.getD j 0) := by
        intro m
        induction m with
        | zero => intro _; exact ⟨[], rfl, fun j h => absurd h (by simp)⟩
        | succ m ih =>
          intro hm
          obtain ⟨bs, hb, hp⟩ := ih (by omega)
          obtain ⟨a, ha⟩ := hf (zs.getD m 0) (hwz _ (by rw [List.getD_eq_getElem?_getD, List.getElem?_eq_getElem (by omega)]; exact List.getElem_mem _))
          refine ⟨bs ++ [a], by simp [hb], fun j hj => ?_⟩
          rw [List.getElem_append]
          split
          · exact hp j _
          · have : j = m := by simp at hj; omega
            subst this
            simpa using ha
      exact hk l (Nat.le_refl _)
    obtain ⟨bs, hb, hp⟩ := this
    refine ⟨some x, bs, c, by rw [hb]; exact hu, by omega, hm, fun j hj => ?_⟩
    have hc1 := hcell j (by omega)
    have hbk := cell_lt hc1
    rw [add_block] at hbk
    exact ⟨x, rfl, hbk, by rw [hc1, hp j hj]⟩
theorem rows_at {t e : TypeId} {fs : Array Field} {K : Nat} {v : Value} {d : DataW H} {p : List MemPlace} (ht : P.underlying t = some (.slice e)) (he : P.underlying e = some (.struct fs)) (hone : Go.Deep.oneCellFields P fs = true) (hC : P.cellsOf e = K) (hK : fs.size = K)
    (hv : Value.okWide P w r b0 t v) (h : DataW.Trod enc P w base spare held t v d p) :
    ∃ (A : Option Addr) (n c : Nat), v = .slice A n c ∧ n ≤ c ∧ c ≤ maxLen ∧ ∀ i, i < n → ∃ ad m, A = some ad ∧ ∀ j f, fs[j]? = some f → ∃ u y, w.cell? (ad.add (i * K + j)) = some u ∧ DataW.trod enc P w base spare held m f.type [u] = some y := by
  obtain ⟨a0, len, cap, rfl⟩ := okWide_slice ht hv
  obtain ⟨fuel, hf⟩ := h
  rcases Go.Deep.open_slice ht hf with ⟨hcs, _⟩ | ⟨a, len', cap', m, n', D, Pl, hcs, hb, hl, hm, hmm, hx, hrow⟩
  · simp [Value.cells] at hcs
    obtain ⟨rfl, rfl, rfl⟩ := hcs
    exact ⟨none, 0, 0, rfl, Nat.le_refl _, by simp [maxLen], fun i hi => absurd hi (by omega)⟩
  · simp [Value.cells] at hcs
    obtain ⟨rfl, rfl, rfl⟩ := hcs
    refine ⟨some a, len, cap, rfl, hl, hm, fun i hi => ?_⟩
    obtain ⟨cs', h1, h2⟩ := hrow i (by rw [hmm]; split <;> omega)
    obtain ⟨_, hlen, hcell⟩ := World.cells?_some h1
    obtain ⟨xs, n2, _, _, hl2, hlen2, hfs⟩ := DataW.trod_struct he h2
    refine ⟨a, n2, rfl, fun j f hj => ?_⟩
    obtain ⟨ho, h1c⟩ := Go.Deep.hone_of hone j f hj
    have hjk : j < fs.size := (Array.getElem?_eq_some_iff.1 hj).1
    have hjl : j < cs'.length := by omega
    have hfj := hfs j f hj
    have e1 : (cs'.drop f.offset).take (P.cellsOf f.type) = [cs'[j]] := by
      rw [ho, h1c, List.drop_eq_getElem_cons hjl]
      rfl
    rw [e1, List.getElem?_eq_getElem (by omega)] at hfj
    refine ⟨cs'[j], _, ?_, hfj⟩
    have := hcell j (by omega)
    rw [List.getElem?_eq_getElem hjl, add_add', hC] at this
    exact this
end
theorem choose_lst {α : Type} {p : Nat → α → Prop} : ∀ n : Nat, (∀ r, r < n → ∃ x, p r x) → ∃ l : List α, l.length = n ∧ ∀ r (h : r < l.length), p r l[r]
  | 0, _ => ⟨[], rfl, fun r h => absurd h (by simp)⟩
  | n + 1, h => by
    obtain ⟨l, hl, hp⟩ := choose_lst n fun r hr => h r (by omega)
    obtain ⟨x, hx⟩ := h n (by omega)
    refine ⟨l ++ [x], by simp [hl], fun r hr => ?_⟩
    rw [List.getElem_append]
    split
    · exact hp r _
    · have : r = n := by simp at hr; omega
      subst this
      simpa using hx
theorem num64 : ∀ z : Int, (Lit.int .u64 z).wf = true → ∃ a : BitVec 64, (Value.int .u64 (U64 a)) = .int .u64 z := fun z h => ⟨_, by rw [← wfu64 h]⟩
theorem num8 : ∀ z : Int, (Lit.int .u8 z).wf = true → ∃ a : BitVec 8, b8 a = .int .u8 z := fun z h => ⟨_, by unfold b8; rw [← wfu8 h]⟩
set_option maxRecDepth 100000
theorem add_far (a : Addr) (m j : Nat) : a.add (m + (j + 1)) = ⟨(a.add m).block, (a.add m).off + (j + 1), none⟩ := by
  rw [← add_add']
  rfl
/-- One of CodeBack's items. -/
structure Itm where
  op : Int
  u : BitVec 64
  i : BitVec 64
  ba : Option Addr
  bb : List (BitVec 8)
  bc : Nat
  wa : Option Addr
  ww : List (BitVec 64)
  wc : Nat
structure ItmAt (W : World) (B : Nat) (ad : Addr) (k : Nat) (x : Itm) : Prop where
  blk : ad.block < B
  op : W.cell? (ad.add (k * 5)) = some (.int .i64 x.op)
  u : W.cell? ⟨(ad.add (k * 5)).block, (ad.add (k * 5)).off + 1, none⟩ = some (.int .u64 (U64 x.u))
  i : W.cell? ⟨(ad.add (k * 5)).block, (ad.add (k * 5)).off + 2, none⟩ = some (.int .i64 (I64 x.i))
  b : W.cell? ⟨(ad.add (k * 5)).block, (ad.add (k * 5)).off + 3, none⟩ = some (.slice x.ba x.bb.length x.bc)
  w : W.cell? ⟨(ad.add (k * 5)).block, (ad.add (k * 5)).off + 4, none⟩ = some (.slice x.wa x.ww.length x.wc)
  bbc : x.bb.length ≤ x.bc
  wwc : x.ww.length ≤ x.wc
  br : Rd b8 W B x.ba x.bb
  wr : Rd (fun a => Value.int .u64 (U64 a)) W B x.wa x.ww
def Its (W : World) (B : Nat) (A : Option Addr) (l : List Itm) : Prop := ∀ k (h : k < l.length), ∃ ad, A = some ad ∧ ItmAt W B ad k l[k]
/-- One of MemPlays' acts. -/
structure Ac where
  op : Int
  at_ : Int
  fr : Int
  n : Int
  u : BitVec 64
  ba : Option Addr
  bb : List (BitVec 8)
  bc : Nat
structure AcAt (W : World) (B : Nat) (ad : Addr) (k : Nat) (x : Ac) : Prop where
  blk : ad.block < B
  op : W.cell? (ad.add (k * 6)) = some (.int .i64 x.op)
  at_ : W.cell? ⟨(ad.add (k * 6)).block, (ad.add (k * 6)).off + 1, none⟩ = some (.int .i64 x.at_)
  fr : W.cell? ⟨(ad.add (k * 6)).block, (ad.add (k * 6)).off + 2, none⟩ = some (.int .i64 x.fr)
  n : W.cell? ⟨(ad.add (k * 6)).block, (ad.add (k * 6)).off + 3, none⟩ = some (.int .i64 x.n)
  u : W.cell? ⟨(ad.add (k * 6)).block, (ad.add (k * 6)).off + 4, none⟩ = some (.int .u64 (U64 x.u))
  b : W.cell? ⟨(ad.add (k * 6)).block, (ad.add (k * 6)).off + 5, none⟩ = some (.slice x.ba x.bb.length x.bc)
  w0 : (Lit.int .i64 x.op).wf = true
  w1 : (Lit.int .i64 x.at_).wf = true
  w2 : (Lit.int .i64 x.fr).wf = true
  w3 : (Lit.int .i64 x.n).wf = true
  bbc : x.bb.length ≤ x.bc
  bcm : x.bc ≤ maxLen
  br : Rd b8 W B x.ba x.bb
def Acs (W : World) (B : Nat) (A : Option Addr) (l : List Ac) : Prop := ∀ k (h : k < l.length), ∃ ad, A = some ad ∧ AcAt W B ad k l[k]
theorem Acs.below {W W' : World} {B : Nat} {A : Option Addr} {l : List Ac} (h : Acs W B A l) (hb : Below B W W') : Acs W' B A l := fun k hk => by
  obtain ⟨ad, e, m⟩ := h k hk
  have hbk : (ad.add (k * 6)).block < B := by rw [add_block]; exact m.blk
  have c : ∀ j, W'.cell? ⟨(ad.add (k * 6)).block, (ad.add (k * 6)).off + j, none⟩ = W.cell? ⟨(ad.add (k * 6)).block, (ad.add (k * 6)).off + j, none⟩ := fun j => hb.cell (p := ⟨(ad.add (k * 6)).block, (ad.add (k * 6)).off + j, none⟩) hbk
  exact ⟨ad, e, m.blk, (hb.cell hbk).trans m.op, (c _).trans m.at_, (c _).trans m.fr, (c _).trans m.n, (c _).trans m.u, (c _).trans m.b, m.w0, m.w1, m.w2, m.w3, m.bbc, m.bcm, m.br.below hb⟩
end Go.Proofs.Ytidaimcndbhefaa
