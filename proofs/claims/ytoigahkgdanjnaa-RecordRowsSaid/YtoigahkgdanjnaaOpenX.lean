/- How an argument that is a record, or a row of records, is opened. No conditions. -/
import Derived.Test.YtoigahkgdanjnaaOpenR
import Derived.Test.YtoigahkgdanjnaaRecB
namespace Go.Proofs.Ytoigahkgdanjnaa
set_option linter.unusedVariables false
set_option linter.unusedSimpArgs false
open Go.ChangeShapes Go.WideShapes Go.ChangeAt Go.RowKit
set_option maxRecDepth 100000
structure Rc where
  k : Int
  tx : BitVec 64
  sp : Int
  no : Int
  A : Option Addr
  d : List (BitVec 8)
  c : Nat
def Rc.v (x : Rc) : Value := recV x.k x.tx x.sp x.no x.A x.d.length x.c
structure RcOk (W : World) (B : Nat) (x : Rc) : Prop where
  w0 : (Lit.int .i64 x.k).wf = true
  w2 : (Lit.int .i64 x.sp).wf = true
  w3 : (Lit.int .i64 x.no).wf = true
  bc : x.d.length ≤ x.c
  cm : x.c ≤ maxLen
  rd : Rd b8 W B x.A x.d
theorem RcOk.below {W W' : World} {B : Nat} {x : Rc} (h : RcOk W B x) (hb : Below B W W') : RcOk W' B x := ⟨h.w0, h.w2, h.w3, h.bc, h.cm, h.rd.below hb⟩
section
variable {H : Type} {enc : TypeId × Value → H} {W : World} {base : Nat} {sp : Nat → Bool} {hd : Bool}
theorem trod_Record {n : Nat} {cs : List Value} {y : DataW H × List MemPlace} (h : DataW.trod enc Try.prog W base sp hd n 27 cs = some y) :
    ∃ x : Rc, cs = [.int .i64 x.k, .int .u64 (U64 x.tx), .int .i64 x.sp, .int .i64 x.no, .slice x.A x.d.length x.c] ∧ RcOk W W.heap.size x := by
  have kI : Try.prog.cellsOf 3 = 1 := by kernel_rfl
  have kU : Try.prog.cellsOf 22 = 1 := by kernel_rfl
  have kK : Try.prog.cellsOf 24 = 2 := by kernel_rfl
  have kS : Try.prog.cellsOf 25 = 1 := by kernel_rfl
  have k5 : Try.prog.cellsOf 27 = 5 := by kernel_rfl
  obtain ⟨xs, m, _, hx, hl, hlen, hg⟩ := DataW.trod_struct Try.underlying27 h
  match cs, hl.trans k5 with
  | [c0, c1, c2, c3, c4], _ =>
    match xs, hlen with
    | [y0, y1, y2, y3], _ =>
      have g0 := hg 0 _ rfl
      have g1 := hg 1 _ rfl
      have g2 := hg 2 _ rfl
      have g3 := hg 3 _ rfl
      simp only [kI, kU, kK, kS, List.drop_zero, List.drop_succ_cons, List.take_succ_cons, List.take_zero, List.getElem?_cons_zero, List.getElem?_cons_succ] at g0 g1 g2 g3
      obtain ⟨zs, m2, _, hx2, hl2, hlen2, hg2⟩ := DataW.trod_struct Try.underlying24 g2
      match zs, hlen2 with
      | [z0, z1], _ =>
        have f0 := hg2 0 _ rfl
        have f1 := hg2 1 _ rfl
        simp only [kI, List.drop_zero, List.drop_succ_cons, List.take_succ_cons, List.take_zero, List.getElem?_cons_zero, List.getElem?_cons_succ] at f0 f1
        obtain ⟨a0, rfl, w0⟩ := cell_int (k := .i64) (by kernel_rfl) g0
        obtain ⟨a1, rfl, w1⟩ := cell_int (k := .u64) (by kernel_rfl) g1
        obtain ⟨a2, rfl, w2⟩ := cell_int (k := .i64) (by kernel_rfl) f0
        obtain ⟨a3, rfl, w3⟩ := cell_int (k := .i64) (by kernel_rfl) f1
        obtain ⟨A5, b5, n5, rfl, h5, hm5, r5⟩ := cell_nums b8 (k := .u8) (e := 5) num8 (by kernel_rfl) (by kernel_rfl) (by kernel_rfl) g3
        exact ⟨⟨a0, BitVec.ofInt 64 a1, a2, a3, A5, b5, n5⟩, by rw [← wfu64 w1], ⟨w0, w2, w3, h5, hm5, r5⟩⟩
theorem open_str_Record {r : Reach} {b0 : Nat} {v : Value} {d : DataW H} {p : List MemPlace}
    (hv : Value.okWide Try.prog W r b0 27 v) (h : DataW.Trod enc Try.prog W base sp hd 27 v d p) : ∃ x : Rc, v = x.v ∧ RcOk W W.heap.size x := by
  obtain ⟨cs, rfl, hsz⟩ := okWide_struct Try.underlying27 hv
  obtain ⟨l⟩ := cs
  obtain ⟨fuel, hf⟩ := h
  obtain ⟨x, e, hk⟩ := trod_Record hf
  refine ⟨x, ?_, hk⟩
  have e2 : l = [.int .i64 x.k, .int .u64 (U64 x.tx), .int .i64 x.sp, .int .i64 x.no, .slice x.A x.d.length x.c] := by simpa [Value.cells] using e
  rw [e2]
  rfl
/-- Record k of a row at ad: five cells. -/
structure RcAt (W : World) (B : Nat) (ad : Addr) (k : Nat) (x : Rc) : Prop where
  blk : ad.block < B
  c0 : W.cell? (ad.add (k * 5)) = some (.int .i64 x.k)
  c1 : W.cell? ⟨(ad.add (k * 5)).block, (ad.add (k * 5)).off + 1, none⟩ = some (.int .u64 (U64 x.tx))
  c2 : W.cell? ⟨(ad.add (k * 5)).block, (ad.add (k * 5)).off + 2, none⟩ = some (.int .i64 x.sp)
  c3 : W.cell? ⟨(ad.add (k * 5)).block, (ad.add (k * 5)).off + 3, none⟩ = some (.int .i64 x.no)
  c4 : W.cell? ⟨(ad.add (k * 5)).block, (ad.add (k * 5)).off + 4, none⟩ = some (.slice x.A x.d.length x.c)
  ok : RcOk W B x
def Rcs (W : World) (B : Nat) (A : Option Addr) (l : List Rc) : Prop := ∀ k (h : k < l.length), ∃ ad, A = some ad ∧ RcAt W B ad k l[k]
theorem Rcs.below {W W' : World} {B : Nat} {A : Option Addr} {l : List Rc} (h : Rcs W B A l) (hb : Below B W W') : Rcs W' B A l := fun k hk => by
  obtain ⟨ad, e, m⟩ := h k hk
  have hbk : (ad.add (k * 5)).block < B := by rw [add_block]; exact m.blk
  have c : ∀ j, W'.cell? ⟨(ad.add (k * 5)).block, (ad.add (k * 5)).off + j, none⟩ = W.cell? ⟨(ad.add (k * 5)).block, (ad.add (k * 5)).off + j, none⟩ := fun j => hb.cell (p := ⟨(ad.add (k * 5)).block, (ad.add (k * 5)).off + j, none⟩) hbk
  exact ⟨ad, e, m.blk, (hb.cell hbk).trans m.c0, (c _).trans m.c1, (c _).trans m.c2, (c _).trans m.c3, (c _).trans m.c4, m.ok.below hb⟩
theorem open_rows_Record {r : Reach} {b0 : Nat} {v : Value} {d : DataW H} {p : List MemPlace}
    (hv : Value.okWide Try.prog W r b0 43 v) (h : DataW.Trod enc Try.prog W base sp hd 43 v d p) :
    ∃ (A : Option Addr) (l : List Rc) (c : Nat), v = .slice A l.length c ∧ l.length ≤ c ∧ c ≤ maxLen ∧ Rcs W W.heap.size A l := by
  have k5 : Try.prog.cellsOf 27 = 5 := by kernel_rfl
  have ht := Try.underlying43
  obtain ⟨a0, len, cap, rfl⟩ := okWide_slice ht hv
  obtain ⟨fuel, hf⟩ := h
  rcases Go.Deep.open_slice ht hf with ⟨hcs, _⟩ | ⟨a, len', cap', m, n', D, Pl, hcs, hb, hl, hm, hmm, hx, hrow⟩
  · simp [Value.cells] at hcs
    obtain ⟨rfl, rfl, rfl⟩ := hcs
    exact ⟨none, [], 0, rfl, Nat.le_refl _, by simp [maxLen], fun i hi => absurd hi (by simp)⟩
  · simp [Value.cells] at hcs
    obtain ⟨rfl, rfl, rfl⟩ := hcs
    obtain ⟨l, hl2, hp⟩ := choose_lst (α := Rc) (p := fun k x => ∃ ad, some a = some ad ∧ RcAt W W.heap.size ad k x) len (fun i hi => by
      obtain ⟨cs', h1, h2⟩ := hrow i (by rw [hmm]; split <;> omega)
      obtain ⟨_, hlen, hcell⟩ := World.cells?_some h1
      obtain ⟨x, rfl, hk⟩ := trod_Record h2
      rw [k5] at hcell
      have q0 := hcell 0 (by decide)
      have q1 := hcell 1 (by decide)
      have q2 := hcell 2 (by decide)
      have q3 := hcell 3 (by decide)
      have q4 := hcell 4 (by decide)
      have hbk := cell_lt q0
      rw [add_block, add_block] at hbk
      refine ⟨x, a, rfl, ⟨hbk, ?_, ?_, ?_, ?_, ?_, hk⟩⟩
      · exact q0
      · exact q1
      · exact q2
      · exact q3
      · exact q4)
    subst hl2
    exact ⟨some a, l, cap, rfl, hl, hm, hp⟩
end
end Go.Proofs.Ytoigahkgdanjnaa
