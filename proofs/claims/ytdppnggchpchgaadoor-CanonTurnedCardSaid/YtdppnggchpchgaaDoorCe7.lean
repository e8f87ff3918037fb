/- Texts joined: RegX RegY GvS GvC GvE CrcB CrcC CrcR. -/
import Derived.Test.YtdppnggchpchgaaDoorCe6
import Derived.Laws.CopyRow
import Derived.Laws.Rows
import Derived.Laws.Tables
import Derived.Test.YtdppnggchpchgaaDoorCrcA
import Derived.Deep.RegionHeld3
import Derived.Test.YtdppnggchpchgaaDoorCrcD
import Derived.Test.YtdppnggchpchgaaDoorRegV
import Derived.LoopTactic
/- Operations that wait for each other in part: those that may come next, listed. No conditions. -/
namespace Go.Proofs.YtdppnggchpchgaaDoor
set_option linter.unusedVariables false
set_option linter.unusedSimpArgs false
open Go.RowKit
section
variable {P : Program} {ops : Array Oper} {Q : Exit → Act → World → Prop}
end
end Go.Proofs.YtdppnggchpchgaaDoor
/- One operation of a region by its run, over any frame. No conditions. -/
namespace Go.Proofs.YtdppnggchpchgaaDoor
set_option linter.unusedVariables false
set_option linter.unusedSimpArgs false
open Go.RowKit
set_option maxHeartbeats 1000000
set_option maxRecDepth 100000
section
variable {P : Program} {ops : Array Oper} {Q : Exit → Act → World → Prop}
end
end Go.Proofs.YtdppnggchpchgaaDoor
/- Stores of whole rows by law. No conditions. -/
namespace Go.Proofs.YtdppnggchpchgaaDoor
set_option linter.unusedVariables false
set_option linter.unusedSimpArgs false
open Go.RowKit Go.Maps
set_option maxRecDepth 100000
set_option maxHeartbeats 4000000
end Go.Proofs.YtdppnggchpchgaaDoor
/- The reference's Canon. Conditions: lengths; pointers and roots are some node's or 0. -/
namespace Go.Proofs.YtdppnggchpchgaaDoor
set_option linter.unusedVariables false
set_option linter.unusedSimpArgs false
open Go.RowKit Go.Maps
/-- A box of another type than all rows of a graph's is written to. -/
theorem GO2.far {W W' : World} {B q : Nat} {g : Gv} {cs : Array Value} {m : Nat × Nat} (h : GO2 W B g) (hg : W.grownBy W' (some q)) (hq : W.heap[q]? = some (.cells cs 32 m)) : GO2 W' B g := by
  refine ⟨h.nd.far hg hq (by decide) (by decide) (by decide), World.ownsRow.kept h.rt hg ?_⟩
  rcases h.rt.2 with ⟨e, _⟩ | ⟨g, cap, cur, e, _, hh, _⟩
  · left; rw [e]; rfl
  · right; rw [e]; intro e3; injection e3 with e3; exact type_ne2 hh hq (by decide) e3
def PkT (B : Nat) (N : Nat) (ns : List Nv) (rs : List Rv) (od : List Int) (v : Value) (w : World) : Prop := ∃ (g' : Gv) (q : Nat), v = .tuple #[g'.v, .slice (some ⟨q, 0, none⟩) N N] ∧ GO2 w B g' ∧ g'.n.map Nv.m = pickN ns od od ∧ g'.r = rs.map (fun r => ⟨r.s, newO od r.t⟩)
theorem PkT.mono {B N : Nat} {ns : List Nv} {rs : List Rv} {od : List Int} {v : Value} {a b : World} (h : PkT B N ns rs od v a) (g : Below a.heap.size a b) : PkT B N ns rs od v b := by
  obtain ⟨g', q, e, h, r⟩ := h
  exact ⟨g', q, e, h.below g, r⟩
def PkG (B : Nat) (ns : List Nv) (rs : List Rv) (od : List Int) (v : Value) (w : World) : Prop := ∃ (g' : Gv), v = g'.v ∧ GO2 w B g' ∧ g'.n.map Nv.m = pickN ns od od ∧ g'.r = rs.map (fun r => ⟨r.s, newO od r.t⟩)
theorem PkG.mono {B : Nat} {ns : List Nv} {rs : List Rv} {od : List Int} {v : Value} {a b : World} (h : PkG B ns rs od v a) (g : Below a.heap.size a b) : PkG B ns rs od v b := by
  obtain ⟨g', e, h, r⟩ := h
  exact ⟨g', e, h.below g, r⟩
def PkW (B : Nat) (v : Value) (w : World) : Prop := ∃ k, v = .pointer (some ⟨k, 0, none⟩) ∧ B ≤ k ∧ Bk w k 32 #[.slice none 0 0, .slice none 0 0]
theorem PkW.mono {B : Nat} {v : Value} {a b : World} (h : PkW B v a) (g : Below a.heap.size a b) : PkW B v b := by
  obtain ⟨k, e, h0, h⟩ := h
  exact ⟨k, e, h0, h.below g h.lt⟩
def AnyW (_ : Value) (_ : World) : Prop := True
theorem AnyW.mono {v : Value} {a b : World} (_ : AnyW v a) (_ : Below a.heap.size a b) : AnyW v b := trivial
set_option maxHeartbeats 1500000
set_option maxRecDepth 100000
/-- The store of a graph in a box of its own. -/
def NilG : Array Value := #[.slice none 0 0, .slice none 0 0]
end Go.Proofs.YtdppnggchpchgaaDoor
/- GraphTrims: its last region. No conditions. -/
namespace Go.Proofs.YtdppnggchpchgaaDoor
set_option linter.unusedVariables false
set_option linter.unusedSimpArgs false
open Go.RowKit Go.Maps
def CnV (ms : List (List Int × List (BitVec 8))) (rs : List Rv) (v : Value) (w : World) : Prop := ∃ g' : Gv, v = g'.v ∧ g'.At w w.heap.size ∧ g'.n.map Nv.m = ms ∧ g'.r = rs
theorem CnV.mono {ms : List (List Int × List (BitVec 8))} {rs : List Rv} {v : Value} {a b : World} (h : CnV ms rs v a) (hb : Below a.heap.size a b) : CnV ms rs v b := by
  obtain ⟨g', e, h1, h2⟩ := h
  exact ⟨g', e, h1.up hb, h2⟩
theorem FewP.pick {g t : Gv} {od : List Int} {f : Int → Int} (h : FewP g) (hh : ∀ p ∈ od, hasG g.n.length p = true) (hn : od.Nodup) (h1 : t.n.map Nv.m = pickN g.n od od) (h2 : t.r = g.r.map fun r => (⟨r.s, f r.t⟩ : Rv)) : FewP t := by
  have hl := congrArg List.length h1
  unfold pickN at hl
  rw [List.length_map, List.length_map] at hl
  have hle := nd_le hn hh
  refine ⟨by have := h.1; omega, by rw [h2, List.length_map]; exact h.2.1, fun x hx => ?_, fun r hr => ?_⟩
  · have hm : x.m ∈ t.n.map Nv.m := List.mem_map.2 ⟨x, hx, rfl⟩
    rw [h1] at hm
    unfold pickN at hm
    obtain ⟨p, hp, e⟩ := List.mem_map.1 hm
    unfold pick1 Nv.m at e
    cases ey : g.n[(p - 1).toNat]? with
    | none => rw [ey] at e; injection e with e1 e2; rw [← e1, ← e2]; exact ⟨by simp, by simp⟩
    | some y =>
      rw [ey] at e
      injection e with e1 e2
      have := h.2.2.1 y (List.mem_of_getElem? ey)
      rw [← e1, ← e2, List.length_map]
      exact this
  · rw [h2] at hr
    obtain ⟨s, hs, rfl⟩ := List.mem_map.1 hr
    exact h.2.2.2 s hs
set_option maxHeartbeats 4000000
set_option maxRecDepth 100000
end Go.Proofs.YtdppnggchpchgaaDoor
/- What crc.Sum, tail and Seal answer. Conditions: at most 2^31 bytes. -/
namespace Go.Proofs.YtdppnggchpchgaaDoor
set_option linter.unusedVariables false
set_option linter.unusedSimpArgs false
open Go.RowKit
abbrev Pt : Type := Option Addr × List (BitVec 8) × Nat
def Pt.v (p : Pt) : Value := .slice p.1 p.2.1.length p.2.2
def Pt.l (p : Pt) : List (BitVec 8) := p.2.1
def sumC (ls : List (List (BitVec 8))) : BitVec 32 := ls.foldl addC 0
def tailL (s : BitVec 32) : List (BitVec 8) := [s.setWidth 8, (s >>> 8).setWidth 8, (s >>> 16).setWidth 8, (s >>> 24).setWidth 8]
def sealC (bs : List (BitVec 8)) : List (BitVec 8) := bs ++ tailL (addC 0 bs)
set_option maxHeartbeats 400000
theorem m8_0 (s : BitVec 32) : U32 s % 256 = U8 (s.setWidth 8) := by
  rw [← u32_u8]; simp [IntKind.wrap, IntKind.bits, IntKind.signed]
theorem sh8 (s : BitVec 32) : U32 s / (256 : Int) = U32 (s >>> 8) := by rw [show (256 : Int) = 2 ^ 8 from by decide, shrU32]
theorem sh16 (s : BitVec 32) : U32 s / (65536 : Int) = U32 (s >>> 16) := by rw [show (65536 : Int) = 2 ^ 16 from by decide, shrU32]
theorem sh24 (s : BitVec 32) : U32 s / (16777216 : Int) = U32 (s >>> 24) := by rw [show (16777216 : Int) = 2 ^ 24 from by decide, shrU32]
attribute [local go_sem] m8_0 sh8 sh16 sh24 u32_u8
theorem Bk.grown {w w' : World} {g : Nat} {E : TypeId} {cs : Array Value} {row : Option Nat} (h : Bk w g E cs) (hg : w.grownBy w' row) (hne : some g ≠ row) : Bk w' g E cs := (hg.block g h.lt hne).trans h
end Go.Proofs.YtdppnggchpchgaaDoor
/- What crc.Right answers. Conditions: at most 2^30 bytes. -/
namespace Go.Proofs.YtdppnggchpchgaaDoor
set_option linter.unusedVariables false
set_option linter.unusedSimpArgs false
open Go.RowKit
def right4 (xs : List (BitVec 8)) (y0 y1 y2 y3 : BitVec 8) : Bool := (addC (0#32) xs).setWidth 8 == y0 && (((addC (0#32) xs) >>> 8).setWidth 8 == y1 && (((addC (0#32) xs) >>> 16).setWidth 8 == y2 && ((addC (0#32) xs) >>> 24).setWidth 8 == y3))
attribute [local go_sem] beqU8
set_option maxHeartbeats 800000
set_option maxRecDepth 100000
end Go.Proofs.YtdppnggchpchgaaDoor
/- What Sum and Low of loamref2 answer. Conditions: at most 2^31 bytes. -/
namespace Go.Proofs.YtdppnggchpchgaaDoor
set_option linter.unusedVariables false
set_option linter.unusedSimpArgs false
open Go.RowKit
set_option maxHeartbeats 400000
set_option maxRecDepth 100000
set_option maxHeartbeats 400000
attribute [local go_sem] m8_0 sh8 sh16 sh24 u32_u8
end Go.Proofs.YtdppnggchpchgaaDoor
