/- How an argument that is a superblock is opened. No conditions. -/
import Derived.Test.YtjdifejnnkplaaaOpenR
import Derived.Test.YtjdifejnnkplaaaSupA
namespace Go.Proofs.Ytjdifejnnkplaaa
set_option linter.unusedVariables false
set_option linter.unusedSimpArgs false
open Go.ChangeShapes Go.WideShapes Go.ChangeAt Go.RowKit
set_option maxRecDepth 100000
structure Bl where
  ep : BitVec 64
  s : Int
  l : Int
  n : Int
  sp : Int
  wd : Int
  lg : BitVec 64
def Bl.v (x : Bl) : Value := blkV x.ep x.s x.l x.n x.sp x.wd x.lg
structure BlOk (x : Bl) : Prop where
  w1 : (Lit.int .i64 x.s).wf = true
  w2 : (Lit.int .i64 x.l).wf = true
  w3 : (Lit.int .i64 x.n).wf = true
  w4 : (Lit.int .i64 x.sp).wf = true
  w5 : (Lit.int .i64 x.wd).wf = true
section
variable {H : Type} {enc : TypeId × Value → H} {W : World} {base : Nat} {sp : Nat → Bool} {hd : Bool}
theorem trod_Block {n : Nat} {cs : List Value} {y : DataW H × List MemPlace} (h : DataW.trod enc Try.prog W base sp hd n 26 cs = some y) :
    ∃ x : Bl, cs = [.int .u64 (U64 x.ep), .int .i64 x.s, .int .i64 x.l, .int .i64 x.n, .int .i64 x.sp, .int .i64 x.wd, .int .u64 (U64 x.lg)] ∧ BlOk x := by
  have kI : Try.prog.cellsOf 3 = 1 := by kernel_rfl
  have kU : Try.prog.cellsOf 22 = 1 := by kernel_rfl
  have kG : Try.prog.cellsOf 24 = 3 := by kernel_rfl
  have k7 : Try.prog.cellsOf 26 = 7 := by kernel_rfl
  obtain ⟨xs, m, _, hx, hl, hlen, hg⟩ := DataW.trod_struct Try.underlying26 h
  match cs, hl.trans k7 with
  | [c0, c1, c2, c3, c4, c5, c6], _ =>
    match xs, hlen with
    | [y0, y1, y2, y3, y4], _ =>
      have g0 := hg 0 _ rfl
      have g1 := hg 1 _ rfl
      have g2 := hg 2 _ rfl
      have g3 := hg 3 _ rfl
      have g4 := hg 4 _ rfl
      simp only [kI, kU, kG, List.drop_zero, List.drop_succ_cons, List.take_succ_cons, List.take_zero, List.getElem?_cons_zero, List.getElem?_cons_succ] at g0 g1 g2 g3 g4
      obtain ⟨zs, m2, _, hx2, hl2, hlen2, hg2⟩ := DataW.trod_struct Try.underlying24 g1
      match zs, hlen2 with
      | [z0, z1, z2], _ =>
        have f0 := hg2 0 _ rfl
        have f1 := hg2 1 _ rfl
        have f2 := hg2 2 _ rfl
        simp only [kI, List.drop_zero, List.drop_succ_cons, List.take_succ_cons, List.take_zero, List.getElem?_cons_zero, List.getElem?_cons_succ] at f0 f1 f2
        obtain ⟨a0, rfl, w0⟩ := cell_int (k := .u64) (by kernel_rfl) g0
        obtain ⟨a1, rfl, w1⟩ := cell_int (k := .i64) (by kernel_rfl) f0
        obtain ⟨a2, rfl, w2⟩ := cell_int (k := .i64) (by kernel_rfl) f1
        obtain ⟨a3, rfl, w3⟩ := cell_int (k := .i64) (by kernel_rfl) f2
        obtain ⟨a4, rfl, w4⟩ := cell_int (k := .i64) (by kernel_rfl) g2
        obtain ⟨a5, rfl, w5⟩ := cell_int (k := .i64) (by kernel_rfl) g3
        obtain ⟨a6, rfl, w6⟩ := cell_int (k := .u64) (by kernel_rfl) g4
        exact ⟨⟨BitVec.ofInt 64 a0, a1, a2, a3, a4, a5, BitVec.ofInt 64 a6⟩, by rw [← wfu64 w0, ← wfu64 w6], ⟨w1, w2, w3, w4, w5⟩⟩
theorem open_str_Block {r : Reach} {b0 : Nat} {v : Value} {d : DataW H} {p : List MemPlace}
    (hv : Value.okWide Try.prog W r b0 26 v) (h : DataW.Trod enc Try.prog W base sp hd 26 v d p) : ∃ x : Bl, v = x.v ∧ BlOk x := by
  obtain ⟨cs, rfl, hsz⟩ := okWide_struct Try.underlying26 hv
  obtain ⟨l⟩ := cs
  obtain ⟨fuel, hf⟩ := h
  obtain ⟨x, e, hk⟩ := trod_Block hf
  refine ⟨x, ?_, hk⟩
  have e2 : l = [.int .u64 (U64 x.ep), .int .i64 x.s, .int .i64 x.l, .int .i64 x.n, .int .i64 x.sp, .int .i64 x.wd, .int .u64 (U64 x.lg)] := by simpa [Value.cells] using e
  rw [e2]
  rfl
end
end Go.Proofs.Ytjdifejnnkplaaa
