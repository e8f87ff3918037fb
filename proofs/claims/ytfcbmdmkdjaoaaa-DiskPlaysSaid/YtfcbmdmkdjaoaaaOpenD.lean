/- How an argument that is a row of the acts of a disk's play is opened. No conditions. -/
import Derived.Test.YtfcbmdmkdjaoaaaFrame
import Derived.Deep.Grids
import Derived.Test.YtfcbmdmkdjaoaaaOpenR
import Derived.Test.YtfcbmdmkdjaoaaaDkB
namespace Go.Proofs.Ytfcbmdmkdjaoaaa
set_option linter.unusedVariables false
set_option linter.unusedSimpArgs false
open Go.ChangeShapes Go.WideShapes Go.ChangeAt Go.RowKit
set_option maxRecDepth 100000
/-- A cell that is a slice of Booleans. -/
theorem cell_boolz {H : Type} {enc : TypeId × Value → H} {P : Program} {w : World} {base : Nat} {held : Bool} {n : Nat} {t e : TypeId} {u : Value} {y : DataW H × List MemPlace} (ht : P.underlying t = some (.slice e)) (he : P.underlying e = some .bool) (hc : P.cellsOf e = 1) (h : DataW.trod enc P w base (fun _ => true) held n t [u] = some y) :
    ∃ (A : Option Addr) (bs : List Bool) (c : Nat), u = .slice A bs.length c ∧ bs.length ≤ c ∧ c ≤ maxLen ∧ Rd boV w w.heap.size A bs := by
  rcases Go.Deep.open_bools ht he hc h with ⟨hcs, _⟩ | ⟨x, l, c, B, hcs, _, hl, hm, _, hcell⟩
  · have hu : u = .slice none 0 0 := by simpa using hcs
    exact ⟨none, [], 0, hu, Nat.le_refl _, by simp [maxLen], Rd.nil⟩
  · have hu : u = .slice (some x) l c := by simpa using hcs
    refine ⟨some x, (List.range l).map B, c, by rw [hu]; simp, by simp; omega, hm, fun j hj => ?_⟩
    have hj' : j < l := by simp at hj; omega
    have hc1 := hcell j (by omega)
    have hb := cell_lt hc1
    rw [add_block] at hb
    exact ⟨x, rfl, hb, by rw [hc1]; simp [boV]⟩
structure DA where
  op : Int
  sec : Int
  n : Int
  ba : Option Addr
  bb : List (BitVec 8)
  bc : Nat
  wh : Bool
  ka : Option Addr
  kk : List Bool
  kc : Nat
structure DaAt (W : World) (B : Nat) (ad : Addr) (k : Nat) (x : DA) : Prop where
  blk : ad.block < B
  op : W.cell? (ad.add (k * 6)) = some (.int .i64 x.op)
  sec : W.cell? ⟨(ad.add (k * 6)).block, (ad.add (k * 6)).off + 1, none⟩ = some (.int .i64 x.sec)
  n : W.cell? ⟨(ad.add (k * 6)).block, (ad.add (k * 6)).off + 2, none⟩ = some (.int .i64 x.n)
  b : W.cell? ⟨(ad.add (k * 6)).block, (ad.add (k * 6)).off + 3, none⟩ = some (.slice x.ba x.bb.length x.bc)
  wh : W.cell? ⟨(ad.add (k * 6)).block, (ad.add (k * 6)).off + 4, none⟩ = some (.bool x.wh)
  kp : W.cell? ⟨(ad.add (k * 6)).block, (ad.add (k * 6)).off + 5, none⟩ = some (.slice x.ka x.kk.length x.kc)
  w0 : (Lit.int .i64 x.op).wf = true
  w1 : (Lit.int .i64 x.sec).wf = true
  w2 : (Lit.int .i64 x.n).wf = true
  bbc : x.bb.length ≤ x.bc
  bcm : x.bc ≤ maxLen
  br : Rd b8 W B x.ba x.bb
  kkc : x.kk.length ≤ x.kc
  kcm : x.kc ≤ maxLen
  kr : Rd boV W B x.ka x.kk
def Das (W : World) (B : Nat) (A : Option Addr) (l : List DA) : Prop := ∀ k (h : k < l.length), ∃ ad, A = some ad ∧ DaAt W B ad k l[k]
theorem DaAt.below {W W' : World} {B k : Nat} {ad : Addr} {x : DA} (m : DaAt W B ad k x) (hb : Below B W W') : DaAt W' B ad k x := by
  have hbk : (ad.add (k * 6)).block < B := by rw [add_block]; exact m.blk
  have c : ∀ j, W'.cell? ⟨(ad.add (k * 6)).block, (ad.add (k * 6)).off + j, none⟩ = W.cell? ⟨(ad.add (k * 6)).block, (ad.add (k * 6)).off + j, none⟩ := fun j => hb.cell (p := ⟨(ad.add (k * 6)).block, (ad.add (k * 6)).off + j, none⟩) hbk
  exact ⟨m.blk, (hb.cell hbk).trans m.op, (c _).trans m.sec, (c _).trans m.n, (c _).trans m.b, (c _).trans m.wh, (c _).trans m.kp, m.w0, m.w1, m.w2, m.bbc, m.bcm, m.br.below hb, m.kkc, m.kcm, m.kr.below hb⟩
theorem Das.below {W W' : World} {B : Nat} {A : Option Addr} {l : List DA} (h : Das W B A l) (hb : Below B W W') : Das W' B A l := fun k hk => by
  obtain ⟨ad, e, m⟩ := h k hk
  exact ⟨ad, e, m.below hb⟩
theorem open_rows_Act {H : Type} {enc : TypeId × Value → H} {W : World} {base : Nat} {hd : Bool} {r : Reach} {b0 : Nat} {v : Value} {d : DataW H} {p : List MemPlace}
    (hv : Value.okWide Try.prog W r b0 22 v) (h : DataW.Trod enc Try.prog W base (fun _ => true) hd 22 v d p) :
    ∃ (A : Option Addr) (l : List DA) (c : Nat), v = .slice A l.length c ∧ l.length ≤ c ∧ c ≤ maxLen ∧ Das W W.heap.size A l := by
  have he := Try.underlying36
  obtain ⟨A, n, c, rfl, hn, hm, hrow⟩ := rows_at (K := 6) Try.underlying22 he (by kernel_rfl) (by kernel_rfl) rfl hv h
  obtain ⟨l, hl, hp⟩ := choose_lst (α := DA) (p := fun k x => ∃ ad, A = some ad ∧ DaAt W W.heap.size ad k x) n (fun k hk => by
    obtain ⟨ad, m, e, hf⟩ := hrow k hk
    obtain ⟨u0, y0, c0, t0⟩ := hf 0 _ rfl
    obtain ⟨u1, y1, c1, t1⟩ := hf 1 _ rfl
    obtain ⟨u2, y2, c2, t2⟩ := hf 2 _ rfl
    obtain ⟨u3, y3, c3, t3⟩ := hf 3 _ rfl
    obtain ⟨u4, y4, c4, t4⟩ := hf 4 _ rfl
    obtain ⟨u5, y5, c5, t5⟩ := hf 5 _ rfl
    obtain ⟨a0, rfl, w0⟩ := cell_int (k := .i64) (by kernel_rfl) t0
    obtain ⟨a1, rfl, w1⟩ := cell_int (k := .i64) (by kernel_rfl) t1
    obtain ⟨a2, rfl, w2⟩ := cell_int (k := .i64) (by kernel_rfl) t2
    obtain ⟨A3, b3, n3, rfl, h3, hm3, r3⟩ := cell_nums b8 (k := .u8) (e := 5) num8 (by kernel_rfl) (by kernel_rfl) (by kernel_rfl) t3
    obtain ⟨a4, e4, _⟩ := DataW.trod_bool (by kernel_rfl) t4
    obtain rfl : u4 = .bool a4 := by simpa using e4
    obtain ⟨A5, b5, n5, rfl, h5, hm5, r5⟩ := cell_boolz (e := 4) (by kernel_rfl) (by kernel_rfl) (by kernel_rfl) t5
    have hb := cell_lt c0
    rw [add_block] at hb
    exact ⟨⟨a0, a1, a2, A3, b3, n3, a4, A5, b5, n5⟩, ad, e, ⟨hb, c0, (congrArg W.cell? (add_far ad (k * 6) 0)).symm.trans c1, (congrArg W.cell? (add_far ad (k * 6) 1)).symm.trans c2, (congrArg W.cell? (add_far ad (k * 6) 2)).symm.trans c3, (congrArg W.cell? (add_far ad (k * 6) 3)).symm.trans c4, (congrArg W.cell? (add_far ad (k * 6) 4)).symm.trans c5, w0, w1, w2, h3, hm3, r3, h5, hm5, r5⟩⟩)
  subst hl
  exact ⟨A, l, c, rfl, hn, hm, hp⟩
end Go.Proofs.Ytfcbmdmkdjaoaaa
