/- Texts joined: NmZ CrcA CrcB CrcC CrcD CrcR CrcE Known2. -/
import Derived.Test.YtaminpfgkegibaaXc2
import Derived.Test.YtaminpfgkegibaaBitsB
import Derived.Test.YtaminpfgkegibaaBel
import Derived.LoopTactic
import Derived.Deep.RegionHeld3
import Derived.Test.YtaminpfgkegibaaRegV
import Derived.Test.YtaminpfgkegibaaStr
import Derived.Lib.SmallJoins
/- Which names may be; table.Fix. No conditions. -/
namespace Go.Proofs.Ytaminpfgkegibaa
set_option linter.unusedVariables false
set_option linter.unusedSimpArgs false
open Go.RowKit Go.Maps
set_option maxRecDepth 100000
set_option maxHeartbeats 800000
/-- May a name be? -/
def goodN (bs : Nm) : Prop := 1 ≤ bs.length ∧ bs.length ≤ 32 ∧ ∀ x ∈ bs, x ≠ 0#8
instance decGood (bs : Nm) : Decidable (goodN bs) := inferInstanceAs (Decidable (1 ≤ bs.length ∧ bs.length ≤ 32 ∧ ∀ x ∈ bs, x ≠ 0#8))
theorem cut_app : ∀ (bs : Nm) (n : Nat), (∀ x ∈ bs, x ≠ 0#8) → cutN (bs ++ List.replicate n 0#8) = bs
  | [], 0, _ => rfl
  | [], n + 1, _ => by
    unfold cutN
    rw [List.nil_append, List.replicate_succ, List.takeWhile_cons]
    simp
  | x :: bs, n, h => by
    have ih := cut_app bs n (fun y hy => h y (List.mem_cons_of_mem _ hy))
    have hx := h x List.mem_cons_self
    unfold cutN at ih ⊢
    rw [List.cons_append, List.takeWhile_cons, if_pos (by simpa using hx), ih]
theorem good_cut {bs : Nm} (h : goodN bs) : cutN (padNm bs) = bs := cut_app bs _ h.2.2
theorem cut_mem : ∀ (k : Nm), ∀ x ∈ cutN k, x ≠ 0#8
  | [], x, h => by cases h
  | y :: k, x, h => by
    unfold cutN at h
    rw [List.takeWhile_cons] at h
    split at h
    · rename_i hy
      rcases List.mem_cons.1 h with rfl | h
      · simpa using hy
      · exact cut_mem k x h
    · cases h
theorem cut_zero : cutN zN = [] := by decide +kernel
theorem good_ne {bs : Nm} (h : goodN bs) : padNm bs ≠ zN := fun e => by
  have h1 := good_cut h
  rw [e, cut_zero] at h1
  have h2 := h.1
  rw [← h1] at h2
  simp at h2
theorem bad_res {bs : Nm} (hl : bs.length ≤ 32) (h : ¬ goodN bs) : padNm bs = zN ∨ cutN (padNm bs) ≠ bs := by
  by_cases h0 : 1 ≤ bs.length
  · right
    intro e
    exact h ⟨h0, hl, fun x hx => cut_mem (padNm bs) x (by rw [e]; exact hx)⟩
  · left
    have : bs = [] := List.eq_nil_of_length_eq_zero (by omega)
    subst this
    rfl
theorem fix_ok (bs : Nm) (w : World) (h : goodN bs) : Calls Try.prog 80 #[.string (strB bs)] w (RetP (.tuple #[nV (padNm bs), .int .i64 0]) w) :=
  fix_c bs w h.2.1 false true (by symm; rw [decide_eq_false_iff_not]; exact good_ne h) (by symm; rw [decide_eq_true_eq]; exact good_cut h)
theorem fix_bad (bs : Nm) (w : World) (h : ¬ goodN bs) : Calls Try.prog 80 #[.string (strB bs)] w (RetP (.tuple #[nV zN, .int .i64 4]) w) := by
  by_cases hl : bs.length ≤ 32
  · have := fix_c bs w hl _ _ rfl rfl
    rcases bad_res hl h with e | e
    · rw [show decide (padNm bs = zN) = true from by rw [decide_eq_true_eq]; exact e] at this
      rwa [show fixR bs true (decide (cutN (padNm bs) = bs)) = .tuple #[nV zN, .int .i64 4] from by cases decide (cutN (padNm bs) = bs) <;> rfl] at this
    · rw [show decide (cutN (padNm bs) = bs) = false from by rw [decide_eq_false_iff_not]; exact e] at this
      rwa [show fixR bs (decide (padNm bs = zN)) false = .tuple #[nV zN, .int .i64 4] from by cases decide (padNm bs = zN) <;> rfl] at this
  · exact fix_long bs w (by omega)
end Go.Proofs.Ytaminpfgkegibaa
/- What crc.Add and crc.Sum answer. Conditions: at most 2^31 bytes. -/
namespace Go.Proofs.Ytaminpfgkegibaa
set_option linter.unusedVariables false
set_option linter.unusedSimpArgs false
open Go.RowKit
def tabL : List (BitVec 32) := [0x00000000, 0x1db71064, 0x3b6e20c8, 0x26d930ac, 0x76dc4190, 0x6b6b51f4, 0x4db26158, 0x5005713c, 0xedb88320, 0xf00f9344, 0xd6d6a3e8, 0xcb61b38c, 0x9b64c2b0, 0x86d3d2d4, 0xa00ae278, 0xbdbdf21c]
def idx (r : BitVec 32) : Nat := (r &&& 15#32).toNat
def tab1 (i : Nat) : BitVec 32 := tabL.getD i 0
def turnC (r : BitVec 32) : BitVec 32 := (r >>> 4) ^^^ tab1 (idx r)
def stepC (r : BitVec 32) (x : BitVec 8) : BitVec 32 := turnC (turnC (r ^^^ x.setWidth 32))
def addC (s : BitVec 32) (bs : List (BitVec 8)) : BitVec 32 := ~~~ bs.foldl stepC (~~~ s)
def u32v (x : BitVec 32) : Value := .int .u32 (U32 x)
set_option maxHeartbeats 400000
end Go.Proofs.Ytaminpfgkegibaa
/- What crc.Sum, tail and Seal answer. Conditions: at most 2^31 bytes. -/
namespace Go.Proofs.Ytaminpfgkegibaa
set_option linter.unusedVariables false
set_option linter.unusedSimpArgs false
open Go.RowKit
abbrev Pt : Type := Option Addr × List (BitVec 8) × Nat
def Pt.v (p : Pt) : Value := .slice p.1 p.2.1.length p.2.2
def Pt.l (p : Pt) : List (BitVec 8) := p.2.1
def sumC (ls : List (List (BitVec 8))) : BitVec 32 := ls.foldl addC 0
def tailL (s : BitVec 32) : List (BitVec 8) := [s.setWidth 8, (s >>> 8).setWidth 8, (s >>> 16).setWidth 8, (s >>> 24).setWidth 8]
def sealC (bs : List (BitVec 8)) : List (BitVec 8) := bs ++ tailL (addC 0 bs)
set_option maxHeartbeats 400000
theorem m8_0 (s : BitVec 32) : U32 s % 256 = U8 (s.setWidth 8) := by
  rw [← u32_u8]; simp [IntKind.wrap, IntKind.bits, IntKind.signed]
theorem sh8 (s : BitVec 32) : U32 s / (256 : Int) = U32 (s >>> 8) := by rw [show (256 : Int) = 2 ^ 8 from by decide, shrU32]
theorem sh16 (s : BitVec 32) : U32 s / (65536 : Int) = U32 (s >>> 16) := by rw [show (65536 : Int) = 2 ^ 16 from by decide, shrU32]
theorem sh24 (s : BitVec 32) : U32 s / (16777216 : Int) = U32 (s >>> 24) := by rw [show (16777216 : Int) = 2 ^ 24 from by decide, shrU32]
attribute [local go_sem] m8_0 sh8 sh16 sh24 u32_u8
theorem Bk.grown {w w' : World} {g : Nat} {E : TypeId} {cs : Array Value} {row : Option Nat} (h : Bk w g E cs) (hg : w.grownBy w' row) (hne : some g ≠ row) : Bk w' g E cs := (hg.block g h.lt hne).trans h
end Go.Proofs.Ytaminpfgkegibaa
/- What crc.Right answers. Conditions: at most 2^30 bytes. -/
namespace Go.Proofs.Ytaminpfgkegibaa
set_option linter.unusedVariables false
set_option linter.unusedSimpArgs false
open Go.RowKit
def right4 (xs : List (BitVec 8)) (y0 y1 y2 y3 : BitVec 8) : Bool := (addC (0#32) xs).setWidth 8 == y0 && (((addC (0#32) xs) >>> 8).setWidth 8 == y1 && (((addC (0#32) xs) >>> 16).setWidth 8 == y2 && ((addC (0#32) xs) >>> 24).setWidth 8 == y3))
attribute [local go_sem] beqU8
set_option maxHeartbeats 800000
set_option maxRecDepth 100000
end Go.Proofs.Ytaminpfgkegibaa
/- The register of crc is linear; it is the bitwise one; a bit's turn can be undone. No conditions. -/
namespace Go.Proofs.Ytaminpfgkegibaa
set_option linter.unusedVariables false
set_option linter.unusedSimpArgs false
open Go.RowKit
def bitC (r : BitVec 32) : BitVec 32 := if r.getLsbD 0 then (r >>> 1) ^^^ 0xEDB88320#32 else r >>> 1
def bitsC : Nat → BitVec 32 → BitVec 32
  | 0, r => r
  | n + 1, r => bitsC n (bitC r)
/-- The n lowest bits. -/
def low_ {m : Nat} (n : Nat) (r : BitVec m) : BitVec m := r &&& (BitVec.allOnes m >>> (m - n))
def undoC (r : BitVec 32) : BitVec 32 := (r <<< 1) ^^^ (if r.getLsbD 31 then 0xDB710641#32 else 0#32)
/-- One bit among zero bytes. -/
def oneB (n q : Nat) : List (BitVec 8) := (List.replicate n 0#8).set (q / 8) (1#8 <<< (q % 8))
/-- Byte by byte, b with the pattern's first n bits turned at k. -/
def turned (bs : List (BitVec 8)) (p : BitVec 32) (k : Nat) : Nat → List (BitVec 8)
  | 0 => bs
  | n + 1 => if p.getLsbD n then (turned bs p k n).set ((k + n) / 8) ((turned bs p k n).getD ((k + n) / 8) 0 ^^^ 1#8 <<< ((k + n) % 8)) else turned bs p k n
end Go.Proofs.Ytaminpfgkegibaa
/- What Sum and Low of loamref2 answer. Conditions: at most 2^31 bytes. -/
namespace Go.Proofs.Ytaminpfgkegibaa
set_option linter.unusedVariables false
set_option linter.unusedSimpArgs false
open Go.RowKit
set_option maxHeartbeats 400000
set_option maxRecDepth 100000
set_option maxHeartbeats 400000
attribute [local go_sem] m8_0 sh8 sh16 sh24 u32_u8
end Go.Proofs.Ytaminpfgkegibaa
/- What the functions of loamref2 answer. Conditions: at most 2^30 bytes. -/
namespace Go.Proofs.Ytaminpfgkegibaa
set_option linter.unusedVariables false
set_option linter.unusedSimpArgs false
open Go.RowKit
end Go.Proofs.Ytaminpfgkegibaa
/- What loamlaw2.known answers: true. No conditions. -/
namespace Go.Proofs.Ytaminpfgkegibaa
set_option linter.unusedVariables false
set_option linter.unusedSimpArgs false
open Go.RowKit
def l1234 : List (BitVec 8) := [49, 50, 51, 52]
def l5 : List (BitVec 8) := [53, 54, 55, 56, 57]
def lx : List (BitVec 8) := [120]
def labc : List (BitVec 8) := [97, 98, 99]
/-- Block g has the cells cs, whatever of it is frozen. -/
def Fk (w : World) (g : Nat) (E : TypeId) (cs : Array Value) : Prop := ∃ fr, w.heap[g]? = some (.cells cs E fr)
section
variable {W W' : World} {g B : Nat} {E : TypeId} {cs : Array Value}
theorem Fk.lt (h : Fk W g E cs) : g < W.heap.size := by
  obtain ⟨fr, h⟩ := h
  rcases Nat.lt_or_ge g W.heap.size with hl | hl
  · exact hl
  · rw [Array.getElem?_eq_none hl] at h; cases h
theorem Fk.alloc (h : Fk W g E cs) (o : Obj) : Fk (W.alloc o) g E cs := ⟨h.choose, (Below.heap_alloc W o g h.lt).trans h.choose_spec⟩
theorem Fk.drew (h : Fk W g E cs) : Fk W.drew g E cs := h
theorem Fk.below (h : Fk W g E cs) (hb : Below B W W') (hg : g < B) : Fk W' g E cs := ⟨h.choose, (hb.block g hg).trans h.choose_spec⟩
theorem Fk.rd {α : Type} {f : α → Value} {xs : List α} (h : Fk W g E cs) (e : cs = (xs.map f).toArray) (hB : g < B) : Rd f W B (some ⟨g, 0, none⟩) xs := fun j hj => by
  refine ⟨_, rfl, hB, ?_⟩
  have e2 : ((⟨g, 0, none⟩ : Addr).add j) = ⟨g, j, none⟩ := by unfold Addr.add; split <;> simp_all
  rw [e2, Joins.cell_of_block h.choose_spec, e]
  simp [hj]
end
theorem kc_at (w : World) (C : Array Value) (n c g : Nat) (hg : g = w.heap.size) : (convert 95 95 (.slice (some ⟨g, 0, none⟩) n c)).run Try.prog (w.alloc (.cells C 5)) = .ok (.slice (some ⟨g, 0, none⟩) n c) (w.alloc (.cells C 5 (C.size, C.size + 1))) :=
  Joins.run_convert_bytes_const_at w 95 5 C n c g hg Try.underlying95 Try.underlying5
attribute [local go_sem] kc_at
set_option maxHeartbeats 800000
set_option maxRecDepth 100000
end Go.Proofs.Ytaminpfgkegibaa
