/- Graphs in memory; graph.has, checkNode. Conditions: lengths. -/
import Derived.Test.YtdppnggchpchgaaDoorRegT
import Derived.Test.YtdppnggchpchgaaDoorHeadB
import Derived.Test.YtdppnggchpchgaaDoorFrame
namespace Go.Proofs.YtdppnggchpchgaaDoor
set_option linter.unusedVariables false
set_option linter.unusedSimpArgs false
open Go.RowKit
def iV (z : Int) : Value := .int .i64 z
theorem iV_one : ∀ x : Int, (iV x).oneCell' = true := fun _ => rfl
/-- A node: where its pointers and its bytes lie, and what they are. -/
structure Nv where
  A : Option Addr
  c : Nat
  D : Option Addr
  d : Nat
  ps : List Int
  bs : List (BitVec 8)
def Nv.vp (x : Nv) : Value := .slice x.A x.ps.length x.c
def Nv.vd (x : Nv) : Value := .slice x.D x.bs.length x.d
def Nv.v (x : Nv) : Value := .agg #[x.vp, x.vd]
structure Nv.At (w : World) (B : Nat) (x : Nv) : Prop where
  p : Rd iV w B x.A x.ps
  b : Rd b8 w B x.D x.bs
  pc : x.ps.length ≤ x.c
  bc : x.bs.length ≤ x.d
def NRow (w : World) (B : Nat) (A : Option Addr) (xs : List Nv) : Prop := ∀ i (h : i < xs.length), ∃ ad, A = some ad ∧ ad.block < B ∧ w.cell? (ad.add (i * 2)) = some (xs[i]).vp ∧ w.cell? ⟨(ad.add (i * 2)).block, (ad.add (i * 2)).off + 1, none⟩ = some (xs[i]).vd ∧ (xs[i]).At w B
structure Rv where
  s : ByteArray
  t : Int
def Rv.v (x : Rv) : Value := .agg #[.string x.s, .int .i64 x.t]
def RoRow (w : World) (B : Nat) (A : Option Addr) (xs : List Rv) : Prop := ∀ i (h : i < xs.length), ∃ ad, A = some ad ∧ ad.block < B ∧ w.cell? (ad.add (i * 2)) = some (.string (xs[i]).s) ∧ w.cell? ⟨(ad.add (i * 2)).block, (ad.add (i * 2)).off + 1, none⟩ = some (.int .i64 (xs[i]).t)
structure Gv where
  A : Option Addr
  c : Nat
  A2 : Option Addr
  c2 : Nat
  n : List Nv
  r : List Rv
def Gv.vn (g : Gv) : Value := .slice g.A g.n.length g.c
def Gv.vr (g : Gv) : Value := .slice g.A2 g.r.length g.c2
def Gv.v (g : Gv) : Value := .agg #[g.vn, g.vr]
structure Gv.At (w : World) (B : Nat) (g : Gv) : Prop where
  n : NRow w B g.A g.n
  r : RoRow w B g.A2 g.r
  nc : g.n.length ≤ g.c
  rc : g.r.length ≤ g.c2
section
variable {w w' : World} {B B' : Nat}
theorem Nv.At.below {x : Nv} (h : x.At w B) (hb : Below B w w') : x.At w' B := ⟨h.p.below hb, h.b.below hb, h.pc, h.bc⟩
theorem Nv.At.more {x : Nv} (h : x.At w B) (hb : B ≤ B') : x.At w B' := ⟨h.p.more hb, h.b.more hb, h.pc, h.bc⟩
theorem NRow.below {A : Option Addr} {xs : List Nv} (h : NRow w B A xs) (hb : Below B w w') : NRow w' B A xs := fun i hi => by
  obtain ⟨ad, h1, h2, h3, h4, h5⟩ := h i hi
  have hbk : (ad.add (i * 2)).block < B := by rw [add_block]; exact h2
  exact ⟨ad, h1, h2, (hb.cell hbk).trans h3, (hb.cell (p := ⟨(ad.add (i * 2)).block, (ad.add (i * 2)).off + 1, none⟩) hbk).trans h4, h5.below hb⟩
theorem NRow.more {A : Option Addr} {xs : List Nv} (h : NRow w B A xs) (hb : B ≤ B') : NRow w B' A xs := fun i hi => by
  obtain ⟨ad, h1, h2, h3, h4, h5⟩ := h i hi
  exact ⟨ad, h1, by omega, h3, h4, h5.more hb⟩
theorem RoRow.below {A : Option Addr} {xs : List Rv} (h : RoRow w B A xs) (hb : Below B w w') : RoRow w' B A xs := fun i hi => by
  obtain ⟨ad, h1, h2, h3, h4⟩ := h i hi
  have hbk : (ad.add (i * 2)).block < B := by rw [add_block]; exact h2
  exact ⟨ad, h1, h2, (hb.cell hbk).trans h3, (hb.cell (p := ⟨(ad.add (i * 2)).block, (ad.add (i * 2)).off + 1, none⟩) hbk).trans h4⟩
theorem RoRow.more {A : Option Addr} {xs : List Rv} (h : RoRow w B A xs) (hb : B ≤ B') : RoRow w B' A xs := fun i hi => by
  obtain ⟨ad, h1, h2, h3, h4⟩ := h i hi
  exact ⟨ad, h1, by omega, h3, h4⟩
theorem Gv.At.below {g : Gv} (h : g.At w B) (hb : Below B w w') : g.At w' B := ⟨h.n.below hb, h.r.below hb, h.nc, h.rc⟩
theorem Gv.At.more {g : Gv} (h : g.At w B) (hb : B ≤ B') : g.At w B' := ⟨h.n.more hb, h.r.more hb, h.nc, h.rc⟩
theorem Gv.At.up {g : Gv} (h : g.At w w.heap.size) (hb : Below w.heap.size w w') : g.At w' w'.heap.size := (h.below hb).more hb.size
theorem Nv.At.up {x : Nv} (h : x.At w w.heap.size) (hb : Below w.heap.size w w') : x.At w' w'.heap.size := (h.below hb).more hb.size
end
/-- A graph that is not out of measure. -/
def Gv.Small (g : Gv) : Prop := g.n.length ≤ 1000000 ∧ g.r.length ≤ 1000000 ∧ ∀ x ∈ g.n, x.ps.length ≤ 1000000 ∧ x.bs.length ≤ 1000000
def hasG (N : Nat) (p : Int) : Bool := decide (1 ≤ p ∧ p ≤ (N : Int))
def okP (N : Nat) (p : Int) : Bool := p == 0 || hasG N p
def ckNode (N : Nat) (x : Nv) : Int := if x.ps.all (okP N) = true then (if 64 < x.ps.length ∨ 1024 < x.bs.length then 3 else 0) else 1
set_option maxHeartbeats 400000
set_option maxRecDepth 100000
end Go.Proofs.YtdppnggchpchgaaDoor
