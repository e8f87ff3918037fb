/- Texts joined: CrcB CrcC CrcR CrcE Known2 CrcF OpenP AnyR. -/
import Derived.Test.YtkkjnahjmomjgaaWc2
import Derived.Test.YtkkjnahjmomjgaaCrcA
import Derived.Deep.RegionHeld3
import Derived.Test.YtkkjnahjmomjgaaCrcD
import Derived.Test.YtkkjnahjmomjgaaRegV
import Derived.LoopTactic
import Derived.Test.YtkkjnahjmomjgaaStr
import Derived.Lib.SmallJoins
import Derived.Test.YtkkjnahjmomjgaaFrame
import Derived.Deep.Matrix
/- What crc.Sum, tail and Seal answer. Conditions: at most 2^31 bytes. -/
namespace Go.Proofs.Ytkkjnahjmomjgaa
set_option linter.unusedVariables false
set_option linter.unusedSimpArgs false
open Go.RowKit
abbrev Pt : Type := Option Addr × List (BitVec 8) × Nat
def Pt.v (p : Pt) : Value := .slice p.1 p.2.1.length p.2.2
def Pt.l (p : Pt) : List (BitVec 8) := p.2.1
def sumC (ls : List (List (BitVec 8))) : BitVec 32 := ls.foldl addC 0
def tailL (s : BitVec 32) : List (BitVec 8) := [s.setWidth 8, (s >>> 8).setWidth 8, (s >>> 16).setWidth 8, (s >>> 24).setWidth 8]
def sealC (bs : List (BitVec 8)) : List (BitVec 8) := bs ++ tailL (addC 0 bs)
set_option maxHeartbeats 400000
theorem m8_0 (s : BitVec 32) : U32 s % 256 = U8 (s.setWidth 8) := by
  rw [← u32_u8]; simp [IntKind.wrap, IntKind.bits, IntKind.signed]
theorem sh8 (s : BitVec 32) : U32 s / (256 : Int) = U32 (s >>> 8) := by rw [show (256 : Int) = 2 ^ 8 from by decide, shrU32]
theorem sh16 (s : BitVec 32) : U32 s / (65536 : Int) = U32 (s >>> 16) := by rw [show (65536 : Int) = 2 ^ 16 from by decide, shrU32]
theorem sh24 (s : BitVec 32) : U32 s / (16777216 : Int) = U32 (s >>> 24) := by rw [show (16777216 : Int) = 2 ^ 24 from by decide, shrU32]
attribute [local go_sem] m8_0 sh8 sh16 sh24 u32_u8
theorem Bk.grown {w w' : World} {g : Nat} {E : TypeId} {cs : Array Value} {row : Option Nat} (h : Bk w g E cs) (hg : w.grownBy w' row) (hne : some g ≠ row) : Bk w' g E cs := (hg.block g h.lt hne).trans h
end Go.Proofs.Ytkkjnahjmomjgaa
/- What crc.Right answers. Conditions: at most 2^30 bytes. -/
namespace Go.Proofs.Ytkkjnahjmomjgaa
set_option linter.unusedVariables false
set_option linter.unusedSimpArgs false
open Go.RowKit
def right4 (xs : List (BitVec 8)) (y0 y1 y2 y3 : BitVec 8) : Bool := (addC (0#32) xs).setWidth 8 == y0 && (((addC (0#32) xs) >>> 8).setWidth 8 == y1 && (((addC (0#32) xs) >>> 16).setWidth 8 == y2 && ((addC (0#32) xs) >>> 24).setWidth 8 == y3))
attribute [local go_sem] beqU8
set_option maxHeartbeats 800000
set_option maxRecDepth 100000
end Go.Proofs.Ytkkjnahjmomjgaa
/- What Sum and Low of loamref2 answer. Conditions: at most 2^31 bytes. -/
namespace Go.Proofs.Ytkkjnahjmomjgaa
set_option linter.unusedVariables false
set_option linter.unusedSimpArgs false
open Go.RowKit
set_option maxHeartbeats 400000
set_option maxRecDepth 100000
set_option maxHeartbeats 400000
attribute [local go_sem] m8_0 sh8 sh16 sh24 u32_u8
end Go.Proofs.Ytkkjnahjmomjgaa
/- What the functions of loamref2 answer. Conditions: at most 2^30 bytes. -/
namespace Go.Proofs.Ytkkjnahjmomjgaa
set_option linter.unusedVariables false
set_option linter.unusedSimpArgs false
open Go.RowKit
end Go.Proofs.Ytkkjnahjmomjgaa
/- What loamlaw2.known answers: true. No conditions. -/
namespace Go.Proofs.Ytkkjnahjmomjgaa
set_option linter.unusedVariables false
set_option linter.unusedSimpArgs false
open Go.RowKit
def l1234 : List (BitVec 8) := [49, 50, 51, 52]
def l5 : List (BitVec 8) := [53, 54, 55, 56, 57]
def lx : List (BitVec 8) := [120]
def labc : List (BitVec 8) := [97, 98, 99]
/-- Block g has the cells cs, whatever of it is frozen. -/
def Fk (w : World) (g : Nat) (E : TypeId) (cs : Array Value) : Prop := ∃ fr, w.heap[g]? = some (.cells cs E fr)
section
variable {W W' : World} {g B : Nat} {E : TypeId} {cs : Array Value}
theorem Fk.lt (h : Fk W g E cs) : g < W.heap.size := by
  obtain ⟨fr, h⟩ := h
  rcases Nat.lt_or_ge g W.heap.size with hl | hl
  · exact hl
  · rw [Array.getElem?_eq_none hl] at h; cases h
theorem Fk.alloc (h : Fk W g E cs) (o : Obj) : Fk (W.alloc o) g E cs := ⟨h.choose, (Below.heap_alloc W o g h.lt).trans h.choose_spec⟩
theorem Fk.drew (h : Fk W g E cs) : Fk W.drew g E cs := h
theorem Fk.drewN (h : Fk W g E cs) (n : Nat) : Fk (W.drewN n) g E cs := h
theorem Fk.below (h : Fk W g E cs) (hb : Below B W W') (hg : g < B) : Fk W' g E cs := ⟨h.choose, (hb.block g hg).trans h.choose_spec⟩
theorem Fk.rd {α : Type} {f : α → Value} {xs : List α} (h : Fk W g E cs) (e : cs = (xs.map f).toArray) (hB : g < B) : Rd f W B (some ⟨g, 0, none⟩) xs := fun j hj => by
  refine ⟨_, rfl, hB, ?_⟩
  have e2 : ((⟨g, 0, none⟩ : Addr).add j) = ⟨g, j, none⟩ := by unfold Addr.add; split <;> simp_all
  rw [e2, Joins.cell_of_block h.choose_spec, e]
  simp [hj]
end
theorem kc_at (w : World) (C : Array Value) (n c g : Nat) (hg : g = w.heap.size) : (convert 52 52 (.slice (some ⟨g, 0, none⟩) n c)).run Try.prog (w.alloc (.cells C 5)) = .ok (.slice (some ⟨g, 0, none⟩) n c) (w.alloc (.cells C 5 (C.size, C.size + 1))) :=
  Joins.run_convert_bytes_const_at w 52 5 C n c g hg Try.underlying52 Try.underlying5
attribute [local go_sem] kc_at
set_option maxHeartbeats 800000
set_option maxRecDepth 100000
end Go.Proofs.Ytkkjnahjmomjgaa
/- What Low, Seal, Right of loamref2 answer. Conditions: at most 2^30 bytes. -/
namespace Go.Proofs.Ytkkjnahjmomjgaa
set_option linter.unusedVariables false
set_option linter.unusedSimpArgs false
open Go.RowKit
set_option maxRecDepth 100000
set_option maxHeartbeats 400000
attribute [local go_sem] m8_0 sh8 sh16 sh24 u32_u8
def rightL (bs : List (BitVec 8)) : Bool := decide (4 ≤ bs.length) && tailL (addC 0#32 (bs.take (bs.length - 4))) == bs.drop (bs.length - 4)
end Go.Proofs.Ytkkjnahjmomjgaa
/- How an argument of type [][]byte is opened. No conditions. -/
namespace Go.Proofs.Ytkkjnahjmomjgaa
set_option linter.unusedVariables false
set_option linter.unusedSimpArgs false
open Go.ChangeShapes Go.WideShapes Go.ChangeAt Go.RowKit
end Go.Proofs.Ytkkjnahjmomjgaa
/- The last region of SumsAny. Conditions: lengths. -/
namespace Go.Proofs.Ytkkjnahjmomjgaa
set_option linter.unusedVariables false
set_option linter.unusedSimpArgs false
open Go.RowKit
theorem of_ret {P : Program} {f : FuncId} {args : Array Value} {v : Value} {w : World} (h : Calls P f args w (RetP v w)) : Calls P f args w fun e w2 => ∃ u, e = .returned u ∧ Below w.heap.size w w2 ∧ IsV v u w2 :=
  h.mono fun _ _ h => ⟨_, h.1, h.2, rfl⟩
set_option maxRecDepth 100000
set_option maxHeartbeats 400000
end Go.Proofs.Ytkkjnahjmomjgaa
