/- Texts joined: HeadE HeadF SpA SpB SpC SpD SpE SpG. -/
import Derived.Test.YtaminpfgkegibaaHeadD
import Derived.Test.YtaminpfgkegibaaFrame
import Derived.Lib.SmallJoins
import Derived.Test.YtaminpfgkegibaaMmD
import Derived.Test.YtaminpfgkegibaaRegT
/- What loamref14.Unpack answers: what Unpack answers. No conditions. -/
namespace Go.Proofs.Ytaminpfgkegibaa
set_option linter.unusedVariables false
set_option linter.unusedSimpArgs false
open Go.RowKit
attribute [local go_sem] and1 beqU64
set_option maxHeartbeats 400000
end Go.Proofs.Ytaminpfgkegibaa
/- What loamlaw14.known and loamlaw14.Of answer, and how a header that comes in is opened. No conditions. -/
namespace Go.Proofs.Ytaminpfgkegibaa
set_option linter.unusedVariables false
set_option linter.unusedSimpArgs false
open Go.RowKit Go.Joins Go.WideShapes
set_option maxHeartbeats 800000
set_option maxRecDepth 100000
end Go.Proofs.Ytaminpfgkegibaa
/- space: bare, New, Used, Free, zero. Conditions: lengths. -/
namespace Go.Proofs.Ytaminpfgkegibaa
set_option linter.unusedVariables false
set_option linter.unusedSimpArgs false
open Go.RowKit
/-- Block s holds a space of the words ws, from b to t to e. -/
structure SpAt (W : World) (B s g : Nat) (v : Value) (ws : List (BitVec 64)) (b t e : Nat) : Prop where
  mem : MemAt W B g v ws
  blk : Bk W s 67 #[.pointer (some ⟨g, 0, none⟩), .int .i64 b, .int .i64 t, .int .i64 e]
  sg : s ≠ g
  sv : v.ownBlock ≠ some s
  hs : B ≤ s
  bt : b ≤ t
  te : t ≤ e
  el : e ≤ ws.length
section
variable {W W' : World} {B s g : Nat} {v : Value} {ws ws' : List (BitVec 64)} {b t e : Nat}
theorem SpAt.below (p : SpAt W B s g v ws b t e) (hb : Below W.heap.size W W') : SpAt W' B s g v ws b t e := ⟨p.mem.below hb, p.blk.below hb p.blk.lt, p.sg, p.sv, p.hs, p.bt, p.te, p.el⟩
theorem SpAt.four (p : SpAt W B s g v ws b t e) : W.cell? ⟨s, 0, none⟩ = some (.pointer (some ⟨g, 0, none⟩)) ∧ W.cell? ⟨s, 1, none⟩ = some (.int .i64 b) ∧ W.cell? ⟨s, 2, none⟩ = some (.int .i64 t) ∧ W.cell? ⟨s, 3, none⟩ = some (.int .i64 e) :=
  ⟨p.blk.cell 0, p.blk.cell 1, p.blk.cell 2, p.blk.cell 3⟩
end
/-- Of the old blocks only s and the row may have changed. -/
structure Two (w w' : World) (s : Nat) (row : Option Nat) : Prop where
  os : w'.os = w.os
  tape : w'.tape = w.tape
  output : w'.output = w.output
  size : w.heap.size ≤ w'.heap.size
  block : ∀ k, k < w.heap.size → k ≠ s → some k ≠ row → w'.heap[k]? = w.heap[k]?
theorem Two.trans {a b c : World} {s : Nat} {row : Option Nat} (h : Two a b s row) (k : Two b c s row) : Two a c s row :=
  ⟨k.os.trans h.os, k.tape.trans h.tape, k.output.trans h.output, Nat.le_trans h.size k.size, fun i hi h1 h2 => (k.block i (Nat.lt_of_lt_of_le hi h.size) h1 h2).trans (h.block i hi h1 h2)⟩
theorem Two.below {a b : World} {s : Nat} {row : Option Nat} (h : Below a.heap.size a b) : Two a b s row := ⟨h.os, h.tape, h.output, h.size, fun k hk _ _ => h.block k hk⟩
theorem Two.grown {a b : World} {s : Nat} {row : Option Nat} (h : a.grownBy b row) : Two a b s row := ⟨h.os, h.tape, h.output, h.size, fun k hk _ h2 => h.block k hk h2⟩
set_option maxHeartbeats 400000
set_option maxRecDepth 100000
/-- k words from a on made 0. -/
def zeroW (ws : List (BitVec 64)) (a : Nat) : Nat → List (BitVec 64)
  | 0 => ws
  | k + 1 => (zeroW ws a k).set (a + k) 0#64
end Go.Proofs.Ytaminpfgkegibaa
/- space: Head. Conditions: lengths. -/
namespace Go.Proofs.Ytaminpfgkegibaa
set_option linter.unusedVariables false
set_option linter.unusedSimpArgs false
open Go.RowKit
set_option maxHeartbeats 400000
set_option maxRecDepth 100000
theorem sphead_in (w : World) (B s g : Nat) (v : Value) (ws : List (BitVec 64)) (b t e : Nat) (p : SpAt w B s g v ws b t e) (i : Nat) (hi1 : b ≤ i) (hi2 : i < t) (hl : ws.length ≤ 100000) (hiw : i < ws.length) :
    Calls Try.prog 47 #[.pointer (some ⟨s, 0, none⟩), .int .i64 i] w (RetP (unV ws[i]) w) := by
  have hb := Gw.alloc w (.cells #[.int .i64 0, .int .i64 0, .bool false, .int .i64 0] 111)
  have hp := p.below hb
  obtain ⟨c0, c1, c2, c3⟩ := hp.four
  have HG := Lib.hid (get_in _ B g v ws i hiw hl hp.mem)
  obtain ⟨x, hx⟩ : ∃ x, x = ws[i] := ⟨_, rfl⟩
  rw [← hx] at HG ⊢
  have HU := Lib.hid (unpack_c x (w.alloc (.cells #[.int .i64 0, .int .i64 0, .bool false, .int .i64 0] 111)))
  have u1 : ¬ i < b := by omega
  have u2 : ¬ t ≤ i := by omega
  have hk := Bk.new w 111 #[.int .i64 0, .int .i64 0, .bool false, .int .i64 0]
  have HK := Lib.hid hk
  have HB := Lib.hid hb
  clear p hp hb hk hi1 hi2 hiw hx hl
  go_enter Try.func47, Try.ntmps47
  go_wp2_with fail
  refine Calls.mono HG.out ?_
  rintro r w1 ⟨rfl, rfl⟩
  go_wp2_with fail
  refine Calls.mono HU.out ?_
  rintro r w2 ⟨rfl, b2⟩
  have hk2 := HK.out.below b2 HK.out.lt
  have f0 := hk2.free 0
  have f1 := hk2.free 1
  have f2 := hk2.free 2
  have f3 := hk2.free 3
  obtain ⟨d0, d1, d2, d3⟩ := hk2.four
  have hkl := hk2.lt
  have HB2 := Lib.hid (HB.out.trans (b2.mono HB.out.size))
  unfold unV
  clear HG HU b2 hk2 HK c0 c1 c2 c3
  go_wp2_with fail
  refine bodyPost_ret (v := .tuple #[.agg #[.int .i64 (unP x), .int .i64 (unB x), .bool (unM' x), .int .i64 (unT x)], .int .i64 (unE x)]) (by simp [results, Try.results47, go_sem, d0, d1, d2, d3]) rfl ⟨rfl, ?_⟩
  exact (((HB2.out.setCell (p := ⟨w.heap.size, 0, none⟩) (Nat.le_refl _) _).setCell (p := ⟨w.heap.size, 1, none⟩) (Nat.le_refl _) _).setCell (p := ⟨w.heap.size, 2, none⟩) (Nat.le_refl _) _).setCell (p := ⟨w.heap.size, 3, none⟩) (Nat.le_refl _) _
end Go.Proofs.Ytaminpfgkegibaa
/- space: Objects. Conditions: lengths. -/
namespace Go.Proofs.Ytaminpfgkegibaa
set_option linter.unusedVariables false
set_option linter.unusedSimpArgs false
open Go.RowKit
def iN (n : Nat) : Value := .int .i64 (n : Int)
theorem iN_one : ∀ x : Nat, (iN x).oneCell' = true := fun _ => rfl
theorem oneI : One Try.prog 69 3 (.int .i64 0) 8 :=
  ⟨by kernel_rfl, by
    have h : (Try.prog.info? 3).map (fun i => (i.zero, i.size, i.bytes)) = some (some (.int .i64 0), 1, 8) := by kernel_rfl
    obtain ⟨i, h1, h2, h3, h4⟩ := info_parts h
    exact ⟨i, h1, h2, h3, h4⟩, rfl⟩
def szX (x : BitVec 64) : Nat := (sizeH (fP x) (fB x) (fM x) (fT x)).toNat
def goodX (x : BitVec 64) (room : Nat) : Bool := okU x && (!fM x && decide (szX x ≤ room))
/-- The places of the objects from at to top; none: they are none. -/
def objF (ws : List (BitVec 64)) (top : Nat) : Nat → Nat → Option (List Nat)
  | 0, _ => some []
  | n + 1, a => if a < top then (if goodX (ws.getD a 0#64) (top - a) = true then (objF ws top n (a + szX (ws.getD a 0#64))).map (a :: ·) else none) else some []
theorem szX_pos {x : BitVec 64} (h : okU x = true) (hm : fM x = false) : sizeH (fP x) (fB x) false (fT x) = ((szX x : Nat) : Int) ∧ 1 ≤ szX x ∧ szX x ≤ 1000 := by
  obtain ⟨hr, _⟩ := okU_yes h
  rw [hm] at hr
  rcases rightH_out hr with ⟨h1, _⟩ | ⟨_, h2, h3, h4, h5, h6⟩
  · cases h1
  · have e : sizeH (fP x) (fB x) false (fT x) = 1 + fP x + (fB x + 7) / 8 := if_pos ⟨hr, rfl⟩
    have e2 : szX x = (1 + fP x + (fB x + 7) / 8).toNat := by unfold szX; rw [hm, e]
    rw [e, e2]
    omega
theorem of_rp {P : Program} {f : FuncId} {args : Array Value} {v : Value} {w : World} (h : Calls P f args w (RetP v w)) : Calls P f args w fun e w2 => ∃ u, e = .returned u ∧ Below w.heap.size w w2 ∧ IsV v u w2 :=
  h.mono fun _ _ h => ⟨_, h.1, h.2, rfl⟩
set_option maxHeartbeats 400000
set_option maxRecDepth 100000
def ObjP (r : Option (List Nat)) (w : World) (e : Ending) (w' : World) : Prop := match r with
  | some l => MkEP iN 3 l 0 w e w'
  | none => RetP (.tuple #[.slice none 0 0, .int .i64 2]) w e w'
end Go.Proofs.Ytaminpfgkegibaa
/- space: Alloc, Reset. Conditions: lengths. -/
namespace Go.Proofs.Ytaminpfgkegibaa
set_option linter.unusedVariables false
set_option linter.unusedSimpArgs false
open Go.RowKit
/-- The words with a new object of n words at t. -/
def allocW (ws : List (BitVec 64)) (t n : Nat) (x : BitVec 64) : List (BitVec 64) := zeroW (ws.set t x) (t + 1) (n - 1)
set_option maxHeartbeats 400000
set_option maxRecDepth 100000
end Go.Proofs.Ytaminpfgkegibaa
/- What loamlaw15.known answers: true. No conditions. -/
namespace Go.Proofs.Ytaminpfgkegibaa
set_option linter.unusedVariables false
set_option linter.unusedSimpArgs false
open Go.RowKit
def kW0 : List (BitVec 64) := List.replicate 20 0#64
def kW1 : List (BitVec 64) := allocW kW0 2 3 (packH 2 0 false 0)
def kW2 : List (BitVec 64) := allocW kW1 5 3 (packH 0 9 false 0)
set_option maxRecDepth 100000
set_option maxHeartbeats 400000
end Go.Proofs.Ytaminpfgkegibaa
/- loamref14's Objects; loamlaw15's Mem, ints. Conditions: lengths. -/
namespace Go.Proofs.Ytaminpfgkegibaa
set_option linter.unusedVariables false
set_option linter.unusedSimpArgs false
open Go.RowKit
/-- Block R holds the document's space of the words ws. -/
structure RefAt (W : World) (R : Nat) (A : Option Addr) (c : Nat) (ws : List (BitVec 64)) (b t e : Nat) : Prop where
  blk : Bk W R 41 #[.slice A ws.length c, .int .i64 b, .int .i64 t, .int .i64 e]
  rd : Rd u64v W W.heap.size A ws
theorem RefAt.below {W W' : World} {R : Nat} {A : Option Addr} {c : Nat} {ws : List (BitVec 64)} {b t e : Nat} (h : RefAt W R A c ws b t e) (hb : Below W.heap.size W W') : RefAt W' R A c ws b t e := ⟨h.blk.below hb h.blk.lt, (h.rd.below hb).more hb.size⟩
theorem RefAt.four {W : World} {R : Nat} {A : Option Addr} {c : Nat} {ws : List (BitVec 64)} {b t e : Nat} (h : RefAt W R A c ws b t e) : W.cell? ⟨R, 0, none⟩ = some (.slice A ws.length c) ∧ W.cell? ⟨R, 1, none⟩ = some (.int .i64 b) ∧ W.cell? ⟨R, 2, none⟩ = some (.int .i64 t) ∧ W.cell? ⟨R, 3, none⟩ = some (.int .i64 e) := ⟨h.blk.cell 0, h.blk.cell 1, h.blk.cell 2, h.blk.cell 3⟩
set_option maxHeartbeats 400000
set_option maxRecDepth 100000
def RObjP (r : Option (List Nat)) (w : World) (e : Ending) (w' : World) : Prop := match r with
  | some l => ∃ A c, e = .returned (.tuple #[.slice A l.length c, .bool true]) ∧ l.length ≤ c ∧ Ow iN 3 w' w.heap.size (.slice A l.length c) l ∧ Below w.heap.size w w'
  | none => RetP (.tuple #[.slice none 0 0, .bool false]) w e w'
end Go.Proofs.Ytaminpfgkegibaa
