/- Texts joined: HeadE HeadF SpA SpB SpC EnA EnB NmX. -/
import Derived.Test.YtkkjnahjmomjgaaHeadD
import Derived.Test.YtkkjnahjmomjgaaFrame
import Derived.Lib.SmallJoins
import Derived.Test.YtkkjnahjmomjgaaMmD
import Derived.Test.YtkkjnahjmomjgaaRegT
import Derived.Test.YtkkjnahjmomjgaaGuCz
import Derived.Test.YtkkjnahjmomjgaaBitsA
import Derived.Test.YtkkjnahjmomjgaaMmC
import Derived.Test.YtkkjnahjmomjgaaBitsB
import Derived.Test.YtkkjnahjmomjgaaStr
import Derived.Test.YtkkjnahjmomjgaaChecked
import Derived.Maps.Ext
import Derived.DeepKeys5
/- What loamref14.Unpack answers: what Unpack answers. No conditions. -/
namespace Go.Proofs.Ytkkjnahjmomjgaa
set_option linter.unusedVariables false
set_option linter.unusedSimpArgs false
open Go.RowKit
attribute [local go_sem] and1 beqU64
theorem bit0_eq (x : BitVec 64) : (U64 (x &&& 1#64) == 1) = x.getLsbD 0 := by
  have := bit_one x 0
  rwa [BitVec.ushiftRight_zero] at this
theorem boxed3 {w w1 : World} {E : TypeId} {a : Array Value} {x0 x1 x2 x3 y0 y1 y2 y3 : Value} {k l : Nat}
    (hb : Below ((((((((w.alloc (.cells a E)).drewN k).alloc (.cells #[x0, x1, x2, x3] E)).drewN l).setCell ⟨w.heap.size + 1, 0, none⟩ y0).setCell ⟨w.heap.size + 1, 1, none⟩ y1).setCell ⟨w.heap.size + 1, 2, none⟩ y2).setCell ⟨w.heap.size + 1, 3, none⟩ y3).heap.size ((((((((w.alloc (.cells a E)).drewN k).alloc (.cells #[x0, x1, x2, x3] E)).drewN l).setCell ⟨w.heap.size + 1, 0, none⟩ y0).setCell ⟨w.heap.size + 1, 1, none⟩ y1).setCell ⟨w.heap.size + 1, 2, none⟩ y2).setCell ⟨w.heap.size + 1, 3, none⟩ y3) w1) :
    Bk w1 w.heap.size E a ∧ Bk w1 (w.heap.size + 1) E #[y0, y1, y2, y3] ∧ Below w.heap.size w w1 := by
  have h2 := Bk.new ((w.alloc (.cells a E)).drewN k) E #[x0, x1, x2, x3]
  simp only [World.heap_drewN, World.size_alloc] at h2
  have h3 := ((((h2.drewN l).set 0 y0).set 1 y1).set 2 y2).set 3 y3
  have h1 := ((((((Bk.new w E a).drewN k).alloc (.cells #[x0, x1, x2, x3] E)).drewN l).far (p := ⟨w.heap.size + 1, 0, none⟩) (by simp) y0).far (p := ⟨w.heap.size + 1, 1, none⟩) (by simp) y1).far (p := ⟨w.heap.size + 1, 2, none⟩) (by simp) y2 |>.far (p := ⟨w.heap.size + 1, 3, none⟩) (by simp) y3
  refine ⟨h1.below hb h1.lt, h3.below hb h3.lt, ?_⟩
  refine Below.trans ?_ (hb.mono (by simp; omega))
  exact (by repeat (first | with_reducible assumption | with_reducible exact Below.refl _ _ | with_reducible apply bdN | with_reducible apply Below.drew | with_reducible refine Below.alloc ?_ (by simp) _ | with_reducible refine Below.setCell ?_ (by simp) _))
set_option maxHeartbeats 400000
theorem runpack_false (x : BitVec 64) (hm : fM x = false) (w : World) : Calls Try.prog 46 #[.int .u64 (U64 x)] w (RetP (unV x) w) := by
  obtain ⟨p1, p2⟩ := fP_lt x
  obtain ⟨b1, b2⟩ := fB_lt x
  obtain ⟨t1, t2⟩ := fT_lt x
  have hmm : (U64 (x &&& 1#64) == 1) = false := by rw [bit0_eq]; exact hm
  obtain ⟨hq, hz⟩ := ok_plain x hm
  have hq' : (rightH (U64 (fieldB x 1 8)) (U64 (fieldB x 16 12)) false 0 && (packH (U64 (fieldB x 1 8)) (U64 (fieldB x 16 12)) false 0 == x)) = okU x := hq
  clear hq
  cases hr : rightH (U64 (fieldB x 1 8)) (U64 (fieldB x 16 12)) false 0
  · rw [hr] at hq'
    have hv := unV_no hq'.symm
    have he : (errH (U64 (fieldB x 1 8)) (U64 (fieldB x 16 12)) false 0 != 0) = true := by unfold errH; rw [hr]; rfl
    have HV := Lib.hid hv
    clear hv hq' hr hm hz
    go_enter Try.func46, Try.ntmps46
    go_wp2_with (first | (go_at_call 44; refine (rfield_c _ _ _ (by decide) (by decide) _).go.mono ?_; rintro e w' ⟨rfl, mm, rfl⟩))
    refine (rpack_c _ _ _ _ _).mono ?_
    rintro e w1 ⟨rfl, hb1⟩
    obtain ⟨hk0, hk1, hB⟩ := boxed2 hb1
    clear hb1
    obtain ⟨c0, c1, c2, c3⟩ := hk0.four
    obtain ⟨d0, d1, d2, d3⟩ := hk1.four
    have f0 := hk0.free 0
    have f1 := hk0.free 1
    have f2 := hk0.free 2
    have f3 := hk0.free 3
    clear hk0 hk1
    go_wp2_with fail
    refine bodyPost_ret (v := .tuple #[.agg #[.int .i64 0, .int .i64 0, .bool false, .int .i64 0], .int .i64 2]) (by simp [results, Try.results46, go_sem, c0, c1, c2, c3]) rfl (ret_cells HV.out.symm (by repeat (first | with_reducible assumption | with_reducible exact Below.refl _ _ | with_reducible apply bdN | with_reducible apply Below.drew | with_reducible refine Below.alloc ?_ (by simp) _ | with_reducible refine Below.setCell ?_ (by simp) _)))
  · rw [hr] at hq'
    have he : (errH (U64 (fieldB x 1 8)) (U64 (fieldB x 16 12)) false 0 != 0) = false := by unfold errH; rw [hr]; rfl
    cases hp : (packH (U64 (fieldB x 1 8)) (U64 (fieldB x 16 12)) false 0 == x)
    · rw [hp] at hq'
      have hv := unV_no hq'.symm
      have hp' : (U64 (packH (U64 (fieldB x 1 8)) (U64 (fieldB x 16 12)) false 0) != U64 x) = true := by rw [bne, beqU64, hp]; rfl
      have HV := Lib.hid hv
      clear hv hq' hr hm hz hp
      go_enter Try.func46, Try.ntmps46
      go_wp2_with (first | (go_at_call 44; refine (rfield_c _ _ _ (by decide) (by decide) _).go.mono ?_; rintro e w' ⟨rfl, mm, rfl⟩))
      refine (rpack_c _ _ _ _ _).mono ?_
      rintro e w1 ⟨rfl, hb1⟩
      obtain ⟨hk0, hk1, hB⟩ := boxed2 hb1
      clear hb1
      obtain ⟨c0, c1, c2, c3⟩ := hk0.four
      obtain ⟨d0, d1, d2, d3⟩ := hk1.four
      have f0 := hk0.free 0
      have f1 := hk0.free 1
      have f2 := hk0.free 2
      have f3 := hk0.free 3
      clear hk0 hk1
      go_wp2_with fail
      refine bodyPost_ret (v := .tuple #[.agg #[.int .i64 0, .int .i64 0, .bool false, .int .i64 0], .int .i64 2]) (by simp [results, Try.results46, go_sem, c0, c1, c2, c3]) rfl (ret_cells HV.out.symm (by repeat (first | with_reducible assumption | with_reducible exact Below.refl _ _ | with_reducible apply bdN | with_reducible apply Below.drew | with_reducible refine Below.alloc ?_ (by simp) _ | with_reducible refine Below.setCell ?_ (by simp) _)))
    · rw [hp] at hq'
      have hv := unV_yes hq'.symm
      have hz' := hz hq'.symm
      have hv2 : unV x = .tuple #[.agg #[.int .i64 (U64 (fieldB x 1 8)), .int .i64 (U64 (fieldB x 16 12)), .bool false, .int .i64 0], .int .i64 0] := by rw [hv, hm]; rw [hz']; rfl
      have hp' : (U64 (packH (U64 (fieldB x 1 8)) (U64 (fieldB x 16 12)) false 0) != U64 x) = false := by rw [bne, beqU64, hp]; rfl
      have HV := Lib.hid hv2
      clear hv hv2 hz' hq' hr hm hz hp
      go_enter Try.func46, Try.ntmps46
      go_wp2_with (first | (go_at_call 44; refine (rfield_c _ _ _ (by decide) (by decide) _).go.mono ?_; rintro e w' ⟨rfl, mm, rfl⟩))
      refine (rpack_c _ _ _ _ _).mono ?_
      rintro e w1 ⟨rfl, hb1⟩
      obtain ⟨hk0, hk1, hB⟩ := boxed2 hb1
      clear hb1
      obtain ⟨c0, c1, c2, c3⟩ := hk0.four
      obtain ⟨d0, d1, d2, d3⟩ := hk1.four
      have f0 := hk0.free 0
      have f1 := hk0.free 1
      have f2 := hk0.free 2
      have f3 := hk0.free 3
      clear hk0 hk1
      go_wp2_with fail
      refine bodyPost_ret (v := .tuple #[.agg #[.int .i64 (U64 (fieldB x 1 8)), .int .i64 (U64 (fieldB x 16 12)), .bool false, .int .i64 0], .int .i64 0]) (by simp [results, Try.results46, go_sem, c0, c1, c2, c3]) rfl (ret_cells HV.out.symm (by repeat (first | with_reducible assumption | with_reducible exact Below.refl _ _ | with_reducible apply bdN | with_reducible apply Below.drew | with_reducible refine Below.alloc ?_ (by simp) _ | with_reducible refine Below.setCell ?_ (by simp) _)))
theorem runpack_true (x : BitVec 64) (hm : fM x = true) (w : World) : Calls Try.prog 46 #[.int .u64 (U64 x)] w (RetP (unV x) w) := by
  obtain ⟨p1, p2⟩ := fP_lt x
  obtain ⟨b1, b2⟩ := fB_lt x
  obtain ⟨t1, t2⟩ := fT_lt x
  have hmm : (U64 (x &&& 1#64) == 1) = true := by rw [bit0_eq]; exact hm
  obtain ⟨hq, hz⟩ := ok_moved x hm
  have hq' : (rightH 0 0 true (U64 (fieldB x 32 16)) && (packH 0 0 true (U64 (fieldB x 32 16)) == x)) = okU x := hq
  clear hq
  cases hr : rightH 0 0 true (U64 (fieldB x 32 16))
  · rw [hr] at hq'
    have hv := unV_no hq'.symm
    have he : (errH 0 0 true (U64 (fieldB x 32 16)) != 0) = true := by unfold errH; rw [hr]; rfl
    have HV := Lib.hid hv
    clear hv hq' hr hm hz
    go_enter Try.func46, Try.ntmps46
    go_wp2_with (first | (go_at_call 44; refine (rfield_c _ _ _ (by decide) (by decide) _).go.mono ?_; rintro e w' ⟨rfl, mm, rfl⟩))
    refine (rpack_c _ _ _ _ _).mono ?_
    rintro e w1 ⟨rfl, hb1⟩
    obtain ⟨hk0, hk1, hB⟩ := boxed3 hb1
    clear hb1
    obtain ⟨c0, c1, c2, c3⟩ := hk0.four
    obtain ⟨d0, d1, d2, d3⟩ := hk1.four
    have f0 := hk0.free 0
    have f1 := hk0.free 1
    have f2 := hk0.free 2
    have f3 := hk0.free 3
    clear hk0 hk1
    go_wp2_with fail
    refine bodyPost_ret (v := .tuple #[.agg #[.int .i64 0, .int .i64 0, .bool false, .int .i64 0], .int .i64 2]) (by simp [results, Try.results46, go_sem, c0, c1, c2, c3]) rfl (ret_cells HV.out.symm (by repeat (first | with_reducible assumption | with_reducible exact Below.refl _ _ | with_reducible apply bdN | with_reducible apply Below.drew | with_reducible refine Below.alloc ?_ (by simp) _ | with_reducible refine Below.setCell ?_ (by simp) _)))
  · rw [hr] at hq'
    have he : (errH 0 0 true (U64 (fieldB x 32 16)) != 0) = false := by unfold errH; rw [hr]; rfl
    cases hp : (packH 0 0 true (U64 (fieldB x 32 16)) == x)
    · rw [hp] at hq'
      have hv := unV_no hq'.symm
      have hp' : (U64 (packH 0 0 true (U64 (fieldB x 32 16))) != U64 x) = true := by rw [bne, beqU64, hp]; rfl
      have HV := Lib.hid hv
      clear hv hq' hr hm hz hp
      go_enter Try.func46, Try.ntmps46
      go_wp2_with (first | (go_at_call 44; refine (rfield_c _ _ _ (by decide) (by decide) _).go.mono ?_; rintro e w' ⟨rfl, mm, rfl⟩))
      refine (rpack_c _ _ _ _ _).mono ?_
      rintro e w1 ⟨rfl, hb1⟩
      obtain ⟨hk0, hk1, hB⟩ := boxed3 hb1
      clear hb1
      obtain ⟨c0, c1, c2, c3⟩ := hk0.four
      obtain ⟨d0, d1, d2, d3⟩ := hk1.four
      have f0 := hk0.free 0
      have f1 := hk0.free 1
      have f2 := hk0.free 2
      have f3 := hk0.free 3
      clear hk0 hk1
      go_wp2_with fail
      refine bodyPost_ret (v := .tuple #[.agg #[.int .i64 0, .int .i64 0, .bool false, .int .i64 0], .int .i64 2]) (by simp [results, Try.results46, go_sem, c0, c1, c2, c3]) rfl (ret_cells HV.out.symm (by repeat (first | with_reducible assumption | with_reducible exact Below.refl _ _ | with_reducible apply bdN | with_reducible apply Below.drew | with_reducible refine Below.alloc ?_ (by simp) _ | with_reducible refine Below.setCell ?_ (by simp) _)))
    · rw [hp] at hq'
      have hv := unV_yes hq'.symm
      have hz' := hz hq'.symm
      have hv2 : unV x = .tuple #[.agg #[.int .i64 0, .int .i64 0, .bool true, .int .i64 (U64 (fieldB x 32 16))], .int .i64 0] := by rw [hv, hm]; rw [hz'.1, hz'.2]; rfl
      have hp' : (U64 (packH 0 0 true (U64 (fieldB x 32 16))) != U64 x) = false := by rw [bne, beqU64, hp]; rfl
      have HV := Lib.hid hv2
      clear hv hv2 hz' hq' hr hm hz hp
      go_enter Try.func46, Try.ntmps46
      go_wp2_with (first | (go_at_call 44; refine (rfield_c _ _ _ (by decide) (by decide) _).go.mono ?_; rintro e w' ⟨rfl, mm, rfl⟩))
      refine (rpack_c _ _ _ _ _).mono ?_
      rintro e w1 ⟨rfl, hb1⟩
      obtain ⟨hk0, hk1, hB⟩ := boxed3 hb1
      clear hb1
      obtain ⟨c0, c1, c2, c3⟩ := hk0.four
      obtain ⟨d0, d1, d2, d3⟩ := hk1.four
      have f0 := hk0.free 0
      have f1 := hk0.free 1
      have f2 := hk0.free 2
      have f3 := hk0.free 3
      clear hk0 hk1
      go_wp2_with fail
      refine bodyPost_ret (v := .tuple #[.agg #[.int .i64 0, .int .i64 0, .bool true, .int .i64 (U64 (fieldB x 32 16))], .int .i64 0]) (by simp [results, Try.results46, go_sem, c0, c1, c2, c3]) rfl (ret_cells HV.out.symm (by repeat (first | with_reducible assumption | with_reducible exact Below.refl _ _ | with_reducible apply bdN | with_reducible apply Below.drew | with_reducible refine Below.alloc ?_ (by simp) _ | with_reducible refine Below.setCell ?_ (by simp) _)))
theorem runpack_c (x : BitVec 64) (w : World) : Calls Try.prog 46 #[.int .u64 (U64 x)] w (RetP (unV x) w) := by
  cases hm : fM x
  · exact runpack_false x hm w
  · exact runpack_true x hm w
end Go.Proofs.Ytkkjnahjmomjgaa
/- What loamlaw14.known and loamlaw14.Of answer, and how a header that comes in is opened. No conditions. -/
namespace Go.Proofs.Ytkkjnahjmomjgaa
set_option linter.unusedVariables false
set_option linter.unusedSimpArgs false
open Go.RowKit Go.Joins Go.WideShapes
set_option maxHeartbeats 800000
set_option maxRecDepth 100000
end Go.Proofs.Ytkkjnahjmomjgaa
/- space: bare, New, Used, Free, zero. Conditions: lengths. -/
namespace Go.Proofs.Ytkkjnahjmomjgaa
set_option linter.unusedVariables false
set_option linter.unusedSimpArgs false
open Go.RowKit
/-- Block s holds a space of the words ws, from b to t to e. -/
structure SpAt (W : World) (B s g : Nat) (v : Value) (ws : List (BitVec 64)) (b t e : Nat) : Prop where
  mem : MemAt W B g v ws
  blk : Bk W s 147 #[.pointer (some ⟨g, 0, none⟩), .int .i64 b, .int .i64 t, .int .i64 e]
  sg : s ≠ g
  sv : v.ownBlock ≠ some s
  hs : B ≤ s
  bt : b ≤ t
  te : t ≤ e
  el : e ≤ ws.length
section
variable {W W' : World} {B s g : Nat} {v : Value} {ws ws' : List (BitVec 64)} {b t e : Nat}
theorem SpAt.below (p : SpAt W B s g v ws b t e) (hb : Below W.heap.size W W') : SpAt W' B s g v ws b t e := ⟨p.mem.below hb, p.blk.below hb p.blk.lt, p.sg, p.sv, p.hs, p.bt, p.te, p.el⟩
theorem SpAt.memTo (p : SpAt W B s g v ws b t e) (m : MemAt W' B g v ws') (hg : W.grownBy W' v.ownBlock) (hl : ws'.length = ws.length) : SpAt W' B s g v ws' b t e :=
  ⟨m, (hg.block s p.blk.lt (fun e => p.sv e.symm)).trans p.blk, p.sg, p.sv, p.hs, p.bt, p.te, by rw [hl]; exact p.el⟩
theorem SpAt.four (p : SpAt W B s g v ws b t e) : W.cell? ⟨s, 0, none⟩ = some (.pointer (some ⟨g, 0, none⟩)) ∧ W.cell? ⟨s, 1, none⟩ = some (.int .i64 b) ∧ W.cell? ⟨s, 2, none⟩ = some (.int .i64 t) ∧ W.cell? ⟨s, 3, none⟩ = some (.int .i64 e) :=
  ⟨p.blk.cell 0, p.blk.cell 1, p.blk.cell 2, p.blk.cell 3⟩
end
/-- Of the old blocks only s and the row may have changed. -/
structure Two (w w' : World) (s : Nat) (row : Option Nat) : Prop where
  os : w'.os = w.os
  tape : w'.tape = w.tape
  output : w'.output = w.output
  size : w.heap.size ≤ w'.heap.size
  block : ∀ k, k < w.heap.size → k ≠ s → some k ≠ row → w'.heap[k]? = w.heap[k]?
theorem Two.trans {a b c : World} {s : Nat} {row : Option Nat} (h : Two a b s row) (k : Two b c s row) : Two a c s row :=
  ⟨k.os.trans h.os, k.tape.trans h.tape, k.output.trans h.output, Nat.le_trans h.size k.size, fun i hi h1 h2 => (k.block i (Nat.lt_of_lt_of_le hi h.size) h1 h2).trans (h.block i hi h1 h2)⟩
theorem Two.below {a b : World} {s : Nat} {row : Option Nat} (h : Below a.heap.size a b) : Two a b s row := ⟨h.os, h.tape, h.output, h.size, fun k hk _ _ => h.block k hk⟩
theorem Two.grown {a b : World} {s : Nat} {row : Option Nat} (h : a.grownBy b row) : Two a b s row := ⟨h.os, h.tape, h.output, h.size, fun k hk _ h2 => h.block k hk h2⟩
theorem Two.setc (a : World) (s i : Nat) (u : Value) (row : Option Nat) : Two a (a.setCell ⟨s, i, none⟩ u) s row := ⟨rfl, rfl, rfl, by simp [World.setCell], fun k _ hne _ => Below.heap_setCell _ _ _ _ hne⟩
set_option maxHeartbeats 400000
set_option maxRecDepth 100000
theorem bare_in (w : World) (B g : Nat) (v : Value) (ws : List (BitVec 64)) (b t e : Nat) (h : MemAt w B g v ws) (hbt : b ≤ t) (hte : t ≤ e) (hel : e ≤ ws.length) (hl : ws.length ≤ 100000) :
    Calls Try.prog 59 #[.pointer (some ⟨g, 0, none⟩), .int .i64 b, .int .i64 t, .int .i64 e] w fun r w' => ∃ s, r = .returned (.tuple #[.pointer (some ⟨s, 0, none⟩), .int .i64 0]) ∧ SpAt w' B s g v ws b t e ∧ Below w.heap.size w w' := by
  have HL := Lib.hid (len_c w B g v ws h)
  have HM := Lib.hid h
  obtain ⟨N, hN⟩ : ∃ N, N = ws.length := ⟨_, rfl⟩
  rw [← hN] at HL
  have u1 : ¬ (b : Int) < 0 := by omega
  have u2 : ¬ t < b := by omega
  have u3 : ¬ e < t := by omega
  have u4 : ¬ N < e := by omega
  have HX := Lib.hid (And.intro hbt (And.intro hte hel))
  clear h hbt hte hel hl hN
  go_enter Try.func59, Try.ntmps59
  go_wp2_with fail
  refine Calls.mono HL.out ?_
  rintro r w1 ⟨rfl, rfl⟩
  go_wp2_with fail
  go_ret2
  have hm := HM.out
  have hb := Gw.alloc w1 (.cells #[.pointer (some ⟨g, 0, none⟩), .int .i64 b, .int .i64 t, .int .i64 e] 147)
  refine ⟨w1.heap.size, rfl, ⟨hm.below hb, Bk.new w1 _ _, ?_, fun e => ?_, hm.le, HX.out.1, HX.out.2.1, HX.out.2.2⟩, hb⟩
  · have := hm.blk.lt; omega
  · have := (hm.row.lt _ e).2; omega
theorem bare_out (w : World) (B g : Nat) (v : Value) (ws : List (BitVec 64)) (b t e : Int) (h : MemAt w B g v ws) (ho : b < 0 ∨ (¬ b < 0 ∧ t < b) ∨ (¬ b < 0 ∧ ¬ t < b ∧ e < t) ∨ (¬ b < 0 ∧ ¬ t < b ∧ ¬ e < t ∧ (ws.length : Int) < e)) :
    Calls Try.prog 59 #[.pointer (some ⟨g, 0, none⟩), .int .i64 b, .int .i64 t, .int .i64 e] w fun r w' => r = .returned (.tuple #[.pointer none, .int .i64 1]) ∧ w' = w := by
  have HL := Lib.hid (len_c w B g v ws h)
  obtain ⟨N, hN⟩ : ∃ N, N = ws.length := ⟨_, rfl⟩
  rw [← hN] at HL ho
  clear h hN
  rcases ho with h1 | ⟨h1, h2⟩ | ⟨h1, h2, h3⟩ | ⟨h1, h2, h3, h4⟩
  · go_enter Try.func59, Try.ntmps59
    go_wp2_with fail
    go_ret2
    exact ⟨rfl, rfl⟩
  · go_enter Try.func59, Try.ntmps59
    go_wp2_with fail
    go_ret2
    exact ⟨rfl, rfl⟩
  · go_enter Try.func59, Try.ntmps59
    go_wp2_with fail
    go_ret2
    exact ⟨rfl, rfl⟩
  · go_enter Try.func59, Try.ntmps59
    go_wp2_with fail
    refine Calls.mono HL.out ?_
    rintro r w1 ⟨rfl, rfl⟩
    go_wp2_with fail
    go_ret2
    exact ⟨rfl, rfl⟩
theorem snew_in (w : World) (B g : Nat) (v : Value) (ws : List (BitVec 64)) (b e : Nat) (h : MemAt w B g v ws) (hbe : b ≤ e) (hel : e ≤ ws.length) (hl : ws.length ≤ 100000) :
    Calls Try.prog 24 #[.pointer (some ⟨g, 0, none⟩), .int .i64 b, .int .i64 e] w fun r w' => ∃ s, r = .returned (.tuple #[.pointer (some ⟨s, 0, none⟩), .int .i64 0]) ∧ SpAt w' B s g v ws b b e ∧ Below w.heap.size w w' := by
  have HB := Lib.hid (bare_in w B g v ws b b e h (Nat.le_refl _) hbe hel hl)
  clear h hbe hel hl
  go_enter Try.func24, Try.ntmps24
  go_wp2_with fail
  refine Calls.mono HB.out ?_
  rintro r w1 ⟨s, rfl, h1, b1⟩
  go_wp2_with fail
  go_ret2
  exact ⟨s, rfl, h1, b1⟩
theorem free_r (Q : Exit → Act → World → Prop) (a0 : Act) (w : World) (s x y n : Nat) (hs : s < w.heap.size) (c1 : w.cell? ⟨s, 3, none⟩ = some (.int .i64 x)) (c2 : w.cell? ⟨s, 2, none⟩ = some (.int .i64 y)) (d1 : (x : Int) - (y : Int) = (n : Int)) (d2 : (n : Int) ≤ 100000) (d3 : (0 : Int) ≤ (n : Int)) (hsz : a0.tmps.size = 12) (sl0 : a0.tmps.getD 0 undef = .pointer (some ⟨s, 0, none⟩))
    (fin : ∀ (vals : Nat → Value) (w1 : World), Below w.heap.size w w1 → (IsV (.int .i64 n)) (vals 9) w1 → Q .normal (putD vals [3, 4, 5, 6, 7, 8, 9, 10, 11, 2] 0 a0) w1) :
    (Code.region 1 (regIn Try.f90 1) true).wp Try.prog Q a0 w := by
  refine region_by (G := fun w w1 => Below w.heap.size w w1) [IsV (.pointer (some ⟨s, 0, none⟩)),
    IsV (.pointer (some ⟨s, 0, none⟩)),
    IsV (.pointer (some ⟨s, 3, none⟩)),
    IsV (.int .i64 x),
    IsV (.pointer (some ⟨s, 0, none⟩)),
    IsV (.pointer (some ⟨s, 0, none⟩)),
    IsV (.pointer (some ⟨s, 2, none⟩)),
    IsV (.int .i64 y),
    IsV (.int .i64 n),
    IsV (.int .i64 n)]
    [3, 4, 5, 6, 7, 8, 9, 10, 11, 2] (by kernel_rfl) (Gw.drew _) Gw.trans (by rw [hsz]; kernel_rfl) (by kernel_rfl) ?_ ?_ ?_
  · intro f hf
    simp only [List.mem_cons, List.not_mem_nil, or_false] at hf
    rcases hf with rfl | rfl | rfl | rfl | rfl | rfl | rfl | rfl | rfl | rfl <;> intro v a b h g <;> first | exact IsV.mono h
  · refine ⟨?_, ?_, ?_, ?_, ?_, ?_, ?_, ?_, ?_, ?_, trivial⟩
    · exact owes_mv 0 (by kernel_rfl) (by kernel_rfl) (by kernel_rfl) sl0 (fun _ => rfl)
    · refine owes_v (Go.Op.nilCheck (Go.Operand.tmp 3)) 0 [0] (by kernel_rfl) (by kernel_rfl) (by kernel_rfl) rfl fun vals w1 ρ hG hF hρ hcst hfun => ?_
      have e3 : ρ (.tmp 3) = .pointer (some ⟨s, 0, none⟩) := ((hρ 3).trans (slotJ [0] (by rw [hsz]; decide) (by kernel_rfl))).trans (hF 0 (by decide))
      clear hρ hF hcst hfun sl0 fin
      exact opv_val (by go_simp <;> rfl) ⟨gw_self _, rfl⟩
    · refine owes_v (Go.Op.fieldAddr 147 (Go.Operand.tmp 4) 3) 0 [1] (by kernel_rfl) (by kernel_rfl) (by kernel_rfl) rfl fun vals w1 ρ hG hF hρ hcst hfun => ?_
      have e4 : ρ (.tmp 4) = .pointer (some ⟨s, 0, none⟩) := ((hρ 4).trans (slotJ [1] (by rw [hsz]; decide) (by kernel_rfl))).trans (hF 1 (by decide))
      clear hρ hF hcst hfun sl0 fin
      exact opv_val (by go_simp <;> rfl) ⟨gw_self _, rfl⟩
    · refine owes_v (Go.Op.load 3 (Go.Operand.tmp 5)) 3 [2] (by kernel_rfl) (by kernel_rfl) (by kernel_rfl) rfl fun vals w1 ρ hG hF hρ hcst hfun => ?_
      have e5 : ρ (.tmp 5) = .pointer (some ⟨s, 3, none⟩) := ((hρ 5).trans (slotJ [2] (by rw [hsz]; decide) (by kernel_rfl))).trans (hF 2 (by decide))
      have k := (hG.cell (p := ⟨s, 3, none⟩) hs).trans c1
      clear hρ hF hcst hfun sl0 fin
      exact opv_val (by go_simp <;> rfl) ⟨gw_self _, rfl⟩
    · exact owes_mv 0 (by kernel_rfl) (by kernel_rfl) (by kernel_rfl) sl0 (fun _ => rfl)
    · refine owes_v (Go.Op.nilCheck (Go.Operand.tmp 7)) 0 [4] (by kernel_rfl) (by kernel_rfl) (by kernel_rfl) rfl fun vals w1 ρ hG hF hρ hcst hfun => ?_
      have e7 : ρ (.tmp 7) = .pointer (some ⟨s, 0, none⟩) := ((hρ 7).trans (slotJ [4] (by rw [hsz]; decide) (by kernel_rfl))).trans (hF 4 (by decide))
      clear hρ hF hcst hfun sl0 fin
      exact opv_val (by go_simp <;> rfl) ⟨gw_self _, rfl⟩
    · refine owes_v (Go.Op.fieldAddr 147 (Go.Operand.tmp 8) 2) 0 [5] (by kernel_rfl) (by kernel_rfl) (by kernel_rfl) rfl fun vals w1 ρ hG hF hρ hcst hfun => ?_
      have e8 : ρ (.tmp 8) = .pointer (some ⟨s, 0, none⟩) := ((hρ 8).trans (slotJ [5] (by rw [hsz]; decide) (by kernel_rfl))).trans (hF 5 (by decide))
      clear hρ hF hcst hfun sl0 fin
      exact opv_val (by go_simp <;> rfl) ⟨gw_self _, rfl⟩
    · refine owes_v (Go.Op.load 3 (Go.Operand.tmp 9)) 3 [6] (by kernel_rfl) (by kernel_rfl) (by kernel_rfl) rfl fun vals w1 ρ hG hF hρ hcst hfun => ?_
      have e9 : ρ (.tmp 9) = .pointer (some ⟨s, 2, none⟩) := ((hρ 9).trans (slotJ [6] (by rw [hsz]; decide) (by kernel_rfl))).trans (hF 6 (by decide))
      have k := (hG.cell (p := ⟨s, 2, none⟩) hs).trans c2
      clear hρ hF hcst hfun sl0 fin
      exact opv_val (by go_simp <;> rfl) ⟨gw_self _, rfl⟩
    · refine owes_v (Go.Op.binOp Go.BinOp.sub 3 (Go.Operand.tmp 6) (Go.Operand.tmp 10) 3) 3 [3, 7] (by kernel_rfl) (by kernel_rfl) (by kernel_rfl) rfl fun vals w1 ρ hG hF hρ hcst hfun => ?_
      have e6 : ρ (.tmp 6) = .int .i64 x := ((hρ 6).trans (slotJ [3, 7] (by rw [hsz]; decide) (by kernel_rfl))).trans (hF 3 (by decide))
      have e10 : ρ (.tmp 10) = .int .i64 y := ((hρ 10).trans (slotJ [3, 7] (by rw [hsz]; decide) (by kernel_rfl))).trans (hF 7 (by decide))
      have kw0 : IntKind.i64.wrap ((n : Int)) = (n : Int) := wrapIn (by omega) (by omega)
      clear hρ hF hcst hfun sl0 fin
      exact opv_val (by go_simp <;> rfl) ⟨gw_self _, rfl⟩
    · exact owes_mvj 8 11 (by kernel_rfl) (by kernel_rfl) (by kernel_rfl) (by kernel_rfl) (by rw [hsz]; decide) (fun v w h => h)
  · intro vals w1 hG hF
    exact fin vals w1 hG (hF 9 (by decide +kernel))
theorem free_c (w : World) (B s g : Nat) (v : Value) (ws : List (BitVec 64)) (b t e : Nat) (p : SpAt w B s g v ws b t e) (hl : ws.length ≤ 100000) :
    Calls Try.prog 90 #[.pointer (some ⟨s, 0, none⟩)] w fun r w' => r = .returned (.int .i64 ((e - t : Nat) : Int)) ∧ Below w.heap.size w w' := by
  obtain ⟨c0, c1, c2, c3⟩ := p.four
  have HLT := p.blk.lt
  obtain ⟨n, hn⟩ : ∃ n, n = e - t := ⟨_, rfl⟩
  have d1 : (e : Int) - (t : Int) = (n : Int) := by have := p.te; omega
  have d2 : (n : Int) ≤ 100000 := by have := p.el; omega
  have d3 : (0 : Int) ≤ (n : Int) := by omega
  rw [← hn]
  clear p hn hl
  go_enter Try.func90, Try.ntmps90
  go_wp2_with fail
  refine free_r _ _ _ s e t n HLT c3 c2 d1 d2 d3 rfl rfl ?_
  intro vals w1 hG h1
  unfold IsV at h1
  simp only [putD, Act.put, List.setIfInBounds_toArray, List.set_cons_zero, List.set_cons_succ, h1]
  clear h1
  go_wp2_with fail
  go_ret
  exact ⟨rfl, hG⟩
/-- k words from a on made 0. -/
def zeroW (ws : List (BitVec 64)) (a : Nat) : Nat → List (BitVec 64)
  | 0 => ws
  | k + 1 => (zeroW ws a k).set (a + k) 0#64
theorem zeroW_len (ws : List (BitVec 64)) (a k : Nat) : (zeroW ws a k).length = ws.length := by
  induction k with
  | zero => rfl
  | succ k ih => show (List.set _ _ _).length = _; rw [List.length_set, ih]
theorem zeroW_get (ws : List (BitVec 64)) (a i : Nat) : ∀ k, a + k ≤ ws.length → (zeroW ws a k)[i]? = if a ≤ i ∧ i < a + k then some 0#64 else ws[i]?
  | 0, _ => by
    rw [if_neg (by omega)]; rfl
  | k + 1, h => by
    show ((zeroW ws a k).set (a + k) 0#64)[i]? = _
    rw [List.getElem?_set, zeroW_get ws a i k (by omega)]
    by_cases e : a + k = i
    · subst e
      rw [if_pos rfl, if_pos (by rw [zeroW_len]; omega), if_pos (by omega)]
    · rw [if_neg e]
      by_cases c : a ≤ i ∧ i < a + k
      · rw [if_pos c, if_pos (by omega)]
      · rw [if_neg c, if_neg (by omega)]
theorem zero_c (w : World) (B s g : Nat) (v : Value) (ws : List (BitVec 64)) (b t e a z : Nat) (p : SpAt w B s g v ws b t e) (ha : a ≤ z) (hz : z ≤ ws.length) (hl : ws.length ≤ 100000) :
    Calls Try.prog 91 #[.pointer (some ⟨s, 0, none⟩), .int .i64 a, .int .i64 z] w fun r w' => r = .returned (.tuple #[]) ∧ SpAt w' B s g v (zeroW ws a (z - a)) b t e ∧ w.grownBy w' v.ownBlock := by
  have HP := Lib.hid p
  obtain ⟨N, hN⟩ : ∃ N, N = ws.length := ⟨_, rfl⟩
  have HLen := Lib.hid (fun W ws' (h : MemAt W B g v ws') (hl' : ws'.length = N) => show Calls Try.prog 64 #[.pointer (some ⟨g, 0, none⟩)] W fun e w' => e = .returned (.int .i64 N) ∧ w' = W from by
    have k := len_c W B g v ws' h
    rw [hl'] at k
    exact k)
  have HSet := Lib.hid (fun W ws' (h : MemAt W B g v ws') (hl' : ws'.length = N) (i : Nat) (hi : i < N) => show Calls Try.prog 27 #[.pointer (some ⟨g, 0, none⟩), .int .i64 i, .int .u64 0] W fun e w' => e = .returned (.int .i64 0) ∧ MemAt w' B g v (ws'.set i 0#64) ∧ W.grownBy w' v.ownBlock from by
    have k := set_in W B g v ws' i 0#64 (by omega) (by omega) h
    rw [show U64 0#64 = 0 from by decide +kernel] at k
    exact k)
  have HN := Lib.hid hN
  have q1 : (z : Int) ≤ (N : Int) := by omega
  have q2 : (N : Int) ≤ 100000 := by omega
  have q3 : (0 : Int) ≤ (a : Int) := by omega
  have q4 : (a : Int) ≤ (z : Int) := by omega
  clear p hN ha hz hl
  go_enter Try.func91, Try.ntmps91
  go_wp2_with fail
  go_loopw [6] (fun i W => ∃ k : Nat, a + k ≤ z ∧ i = .int .i64 ((a + k : Nat) : Int) ∧ SpAt W B s g v (zeroW ws a k) b t e ∧ w.grownBy W v.ownBlock) (fun i _ => z - (Go.RowKit.intOf i).toNat)
  case atStart => exact ⟨0, by omega, by first | rfl | (simp; done) | go_num, HP.out, grown_refl _ _⟩
  case round =>
    obtain ⟨k, hk, rfl, hp, hg⟩ := hrel
    obtain ⟨c0, c1, c2, c3⟩ := hp.four
    have hzl : (zeroW ws a k).length = N := by rw [zeroW_len]; exact HN.out.symm
    have KL := Lib.hid (HLen.out wr _ hp.mem hzl)
    obtain ⟨j, hj⟩ : ∃ j, j = a + k := ⟨_, rfl⟩
    rw [← hj] at hk ⊢
    have HPP := Lib.hid (And.intro hp hg)
    have p1 : (0 : Int) ≤ (j : Int) := by omega
    by_cases hlt : j < z
    · have KS := Lib.hid (HSet.out wr _ hp.mem hzl j (by omega))
      have HZL := Lib.hid hzl
      have HJ := Lib.hid hj
      clear hp hg hzl hj
      go_wp2_with fail
      refine Calls.mono KL.out ?_
      rintro r w3 ⟨rfl, rfl⟩
      go_wp2_with fail
      refine Calls.mono KS.out ?_
      rintro r w4 ⟨rfl, hm4, hg4⟩
      have h5 : SpAt w4 B s g v (zeroW ws a (k + 1)) b t e ∧ w.grownBy w4 v.ownBlock := by
        have e : zeroW ws a (k + 1) = (zeroW ws a k).set j 0#64 := by rw [HJ.out]; rfl
        rw [e]
        exact ⟨HPP.out.1.memTo hm4 hg4 (by rw [List.length_set]), HPP.out.2.trans hg4⟩
      have H5 := Lib.hid h5
      clear h5 hm4 hg4 KL KS
      go_wp2_with fail
      go_roundw
      case rel => exact ⟨k + 1, by have := HJ.out; omega, by have := HJ.out; go_num, H5.out.1, H5.out.2⟩
      case measure => (first | (simp [Go.RowKit.intOf]; done) | (simp [Go.RowKit.intOf]; omega))
    · have hjz : z - a = k := by omega
      have HJZ := Lib.hid hjz
      clear hp hg hzl hj hjz
      go_wp2_with fail
      refine Calls.mono KL.out ?_
      rintro r w3 ⟨rfl, rfl⟩
      go_wp2_with fail
      go_end0
      rw [HJZ.out]
      exact ⟨rfl, HPP.out.1, HPP.out.2⟩
end Go.Proofs.Ytkkjnahjmomjgaa
/- space: Head. Conditions: lengths. -/
namespace Go.Proofs.Ytkkjnahjmomjgaa
set_option linter.unusedVariables false
set_option linter.unusedSimpArgs false
open Go.RowKit
set_option maxHeartbeats 400000
set_option maxRecDepth 100000
theorem sphead_in (w : World) (B s g : Nat) (v : Value) (ws : List (BitVec 64)) (b t e : Nat) (p : SpAt w B s g v ws b t e) (i : Nat) (hi1 : b ≤ i) (hi2 : i < t) (hl : ws.length ≤ 100000) (hiw : i < ws.length) :
    Calls Try.prog 108 #[.pointer (some ⟨s, 0, none⟩), .int .i64 i] w (RetP (unV ws[i]) w) := by
  have hb := Gw.alloc w (.cells #[.int .i64 0, .int .i64 0, .bool false, .int .i64 0] 112)
  have hp := p.below hb
  obtain ⟨c0, c1, c2, c3⟩ := hp.four
  have HG := Lib.hid (get_in _ B g v ws i hiw hl hp.mem)
  obtain ⟨x, hx⟩ : ∃ x, x = ws[i] := ⟨_, rfl⟩
  rw [← hx] at HG ⊢
  have HU := Lib.hid (unpack_c x (w.alloc (.cells #[.int .i64 0, .int .i64 0, .bool false, .int .i64 0] 112)))
  have u1 : ¬ i < b := by omega
  have u2 : ¬ t ≤ i := by omega
  have hk := Bk.new w 112 #[.int .i64 0, .int .i64 0, .bool false, .int .i64 0]
  have HK := Lib.hid hk
  have HB := Lib.hid hb
  clear p hp hb hk hi1 hi2 hiw hx hl
  go_enter Try.func108, Try.ntmps108
  go_wp2_with fail
  refine Calls.mono HG.out ?_
  rintro r w1 ⟨rfl, rfl⟩
  go_wp2_with fail
  refine Calls.mono HU.out ?_
  rintro r w2 ⟨rfl, b2⟩
  have hk2 := HK.out.below b2 HK.out.lt
  have f0 := hk2.free 0
  have f1 := hk2.free 1
  have f2 := hk2.free 2
  have f3 := hk2.free 3
  obtain ⟨d0, d1, d2, d3⟩ := hk2.four
  have hkl := hk2.lt
  have HB2 := Lib.hid (HB.out.trans (b2.mono HB.out.size))
  unfold unV
  clear HG HU b2 hk2 HK c0 c1 c2 c3
  go_wp2_with fail
  refine bodyPost_ret (v := .tuple #[.agg #[.int .i64 (unP x), .int .i64 (unB x), .bool (unM' x), .int .i64 (unT x)], .int .i64 (unE x)]) (by simp [results, Try.results108, go_sem, d0, d1, d2, d3]) rfl ⟨rfl, ?_⟩
  exact (((HB2.out.setCell (p := ⟨w.heap.size, 0, none⟩) (Nat.le_refl _) _).setCell (p := ⟨w.heap.size, 1, none⟩) (Nat.le_refl _) _).setCell (p := ⟨w.heap.size, 2, none⟩) (Nat.le_refl _) _).setCell (p := ⟨w.heap.size, 3, none⟩) (Nat.le_refl _) _
end Go.Proofs.Ytkkjnahjmomjgaa
/- space: Objects. Conditions: lengths. -/
namespace Go.Proofs.Ytkkjnahjmomjgaa
set_option linter.unusedVariables false
set_option linter.unusedSimpArgs false
open Go.RowKit
def iN (n : Nat) : Value := .int .i64 (n : Int)
theorem iN_one : ∀ x : Nat, (iN x).oneCell' = true := fun _ => rfl
def szX (x : BitVec 64) : Nat := (sizeH (fP x) (fB x) (fM x) (fT x)).toNat
def goodX (x : BitVec 64) (room : Nat) : Bool := okU x && (!fM x && decide (szX x ≤ room))
/-- The places of the objects from at to top; none: they are none. -/
def objF (ws : List (BitVec 64)) (top : Nat) : Nat → Nat → Option (List Nat)
  | 0, _ => some []
  | n + 1, a => if a < top then (if goodX (ws.getD a 0#64) (top - a) = true then (objF ws top n (a + szX (ws.getD a 0#64))).map (a :: ·) else none) else some []
theorem szX_pos {x : BitVec 64} (h : okU x = true) (hm : fM x = false) : sizeH (fP x) (fB x) false (fT x) = ((szX x : Nat) : Int) ∧ 1 ≤ szX x ∧ szX x ≤ 1000 := by
  obtain ⟨hr, _⟩ := okU_yes h
  rw [hm] at hr
  rcases rightH_out hr with ⟨h1, _⟩ | ⟨_, h2, h3, h4, h5, h6⟩
  · cases h1
  · have e : sizeH (fP x) (fB x) false (fT x) = 1 + fP x + (fB x + 7) / 8 := if_pos ⟨hr, rfl⟩
    have e2 : szX x = (1 + fP x + (fB x + 7) / 8).toNat := by unfold szX; rw [hm, e]
    rw [e, e2]
    omega
theorem of_rp {P : Program} {f : FuncId} {args : Array Value} {v : Value} {w : World} (h : Calls P f args w (RetP v w)) : Calls P f args w fun e w2 => ∃ u, e = .returned u ∧ Below w.heap.size w w2 ∧ IsV v u w2 :=
  h.mono fun _ _ h => ⟨_, h.1, h.2, rfl⟩
set_option maxHeartbeats 400000
set_option maxRecDepth 100000
theorem obj_e (Q : Exit → Act → World → Prop) (a0 : Act) (w : World)  (hsz : a0.tmps.size = 50) (sl7 : a0.tmps.getD 7 undef = .int .i64 2)
    (fin : ∀ (vals : Nat → Value) (w1 : World), Below w.heap.size w w1 → (IsV (.bool true)) (vals 16) w1 → Q .normal (putD vals [24, 25, 26, 27, 28, 29, 30, 31, 32, 33, 34, 35, 36, 37, 38, 39, 40] 0 a0) w1) :
    (Code.region 5 (regIn Try.f97 5) true).wp Try.prog Q a0 w := by
  refine region_by (G := fun w w1 => Below w.heap.size w w1) [IsV (.int .i64 2),
    IsV (.bool true),
    IsV (.bool true),
    IsV undef,
    IsV undef,
    IsV (.bool true),
    IsV (.bool true),
    IsV undef,
    IsV undef,
    IsV undef,
    IsV undef,
    IsV undef,
    IsV undef,
    IsV undef,
    IsV undef,
    IsV undef,
    IsV (.bool true)]
    [24, 25, 26, 27, 28, 29, 30, 31, 32, 33, 34, 35, 36, 37, 38, 39, 40] (by kernel_rfl) (Gw.drew _) Gw.trans (by rw [hsz]; kernel_rfl) (by kernel_rfl) ?_ ?_ ?_
  · intro f hf
    simp only [List.mem_cons, List.not_mem_nil, or_false] at hf
    rcases hf with rfl | rfl | rfl | rfl | rfl | rfl | rfl | rfl | rfl | rfl | rfl | rfl | rfl | rfl | rfl | rfl | rfl <;> intro v a b h g <;> first | exact IsV.mono h
  · refine ⟨?_, ?_, ?_, ?_, ?_, ?_, ?_, ?_, ?_, ?_, ?_, ?_, ?_, ?_, ?_, ?_, ?_, trivial⟩
    · exact owes_mv 7 (by kernel_rfl) (by kernel_rfl) (by kernel_rfl) sl7 (fun _ => rfl)
    · refine owes_v (Go.Op.binOp Go.BinOp.neq 34 (Go.Operand.tmp 24) (Go.Operand.const (Go.Value.int Go.IntKind.i64 0)) 34) 4 [0] (by kernel_rfl) (by kernel_rfl) (by kernel_rfl) rfl fun vals w1 ρ hG hF hρ hcst hfun => ?_
      have e24 : ρ (.tmp 24) = .int .i64 2 := ((hρ 24).trans (slotJ [0] (by rw [hsz]; decide) (by kernel_rfl))).trans (hF 0 (by decide))
      clear hρ hF hfun sl7 fin
      exact opv_val (by go_simp <;> rfl) ⟨gw_self _, rfl⟩
    · exact owes_mvj 1 25 (by kernel_rfl) (by kernel_rfl) (by kernel_rfl) (by kernel_rfl) (by rw [hsz]; decide) (fun v w h => h)
    · exact owes_no 2 true false (by decide) (by kernel_rfl) (by kernel_rfl) (fun _ _ h => h) (by rw [hsz]; kernel_rfl) (fun _ => rfl)
    · exact owes_no 2 true false (by decide) (by kernel_rfl) (by kernel_rfl) (fun _ _ h => h) (by rw [hsz]; kernel_rfl) (fun _ => rfl)
    · refine owes_v (Go.Op.pick (Go.Operand.tmp 26) (Go.Operand.const (Go.Value.bool true)) (Go.Operand.tmp 28)) 4 [2, 4] (by kernel_rfl) (by kernel_rfl) (by kernel_rfl) rfl fun vals w1 ρ hG hF hρ hcst hfun => ?_
      have e26 : ρ (.tmp 26) = .bool true := ((hρ 26).trans (slotJ [2, 4] (by rw [hsz]; decide) (by kernel_rfl))).trans (hF 2 (by decide))
      have e28 : ρ (.tmp 28) = undef := ((hρ 28).trans (slotJ [2, 4] (by rw [hsz]; decide) (by kernel_rfl))).trans (hF 4 (by decide))
      clear hρ hF hfun sl7 fin
      exact opv_val (by go_simp <;> rfl) ⟨gw_self _, rfl⟩
    · exact owes_mvj 5 29 (by kernel_rfl) (by kernel_rfl) (by kernel_rfl) (by kernel_rfl) (by rw [hsz]; decide) (fun v w h => h)
    · exact owes_no 6 true false (by decide) (by kernel_rfl) (by kernel_rfl) (fun _ _ h => h) (by rw [hsz]; kernel_rfl) (fun _ => rfl)
    · exact owes_no 6 true false (by decide) (by kernel_rfl) (by kernel_rfl) (fun _ _ h => h) (by rw [hsz]; kernel_rfl) (fun _ => rfl)
    · exact owes_no 6 true false (by decide) (by kernel_rfl) (by kernel_rfl) (fun _ _ h => h) (by rw [hsz]; kernel_rfl) (fun _ => rfl)
    · exact owes_no 6 true false (by decide) (by kernel_rfl) (by kernel_rfl) (fun _ _ h => h) (by rw [hsz]; kernel_rfl) (fun _ => rfl)
    · exact owes_no 6 true false (by decide) (by kernel_rfl) (by kernel_rfl) (fun _ _ h => h) (by rw [hsz]; kernel_rfl) (fun _ => rfl)
    · exact owes_no 6 true false (by decide) (by kernel_rfl) (by kernel_rfl) (fun _ _ h => h) (by rw [hsz]; kernel_rfl) (fun _ => rfl)
    · exact owes_no 6 true false (by decide) (by kernel_rfl) (by kernel_rfl) (fun _ _ h => h) (by rw [hsz]; kernel_rfl) (fun _ => rfl)
    · exact owes_no 6 true false (by decide) (by kernel_rfl) (by kernel_rfl) (fun _ _ h => h) (by rw [hsz]; kernel_rfl) (fun _ => rfl)
    · exact owes_no 6 true false (by decide) (by kernel_rfl) (by kernel_rfl) (fun _ _ h => h) (by rw [hsz]; kernel_rfl) (fun _ => rfl)
    · refine owes_v (Go.Op.pick (Go.Operand.tmp 30) (Go.Operand.const (Go.Value.bool true)) (Go.Operand.tmp 39)) 4 [6, 15] (by kernel_rfl) (by kernel_rfl) (by kernel_rfl) rfl fun vals w1 ρ hG hF hρ hcst hfun => ?_
      have e30 : ρ (.tmp 30) = .bool true := ((hρ 30).trans (slotJ [6, 15] (by rw [hsz]; decide) (by kernel_rfl))).trans (hF 6 (by decide))
      have e39 : ρ (.tmp 39) = undef := ((hρ 39).trans (slotJ [6, 15] (by rw [hsz]; decide) (by kernel_rfl))).trans (hF 15 (by decide))
      clear hρ hF hfun sl7 fin
      exact opv_val (by go_simp <;> rfl) ⟨gw_self _, rfl⟩
  · intro vals w1 hG hF
    exact fin vals w1 hG (hF 16 (by decide +kernel))
theorem obj_m (Q : Exit → Act → World → Prop) (a0 : Act) (w : World) (H : Nat) (p b t : Int) (hk : Bk w H 112 #[.int .i64 p, .int .i64 b, .bool true, .int .i64 t]) (hsz : a0.tmps.size = 50) (sl6 : a0.tmps.getD 6 undef = .pointer (some ⟨H, 0, none⟩)) (sl7 : a0.tmps.getD 7 undef = .int .i64 0)
    (fin : ∀ (vals : Nat → Value) (w1 : World), Below w.heap.size w w1 → (IsV (.bool true)) (vals 16) w1 → Q .normal (putD vals [24, 25, 26, 27, 28, 29, 30, 31, 32, 33, 34, 35, 36, 37, 38, 39, 40] 0 a0) w1) :
    (Code.region 5 (regIn Try.f97 5) true).wp Try.prog Q a0 w := by
  refine region_by (G := fun w w1 => Below w.heap.size w w1) [IsV (.int .i64 0),
    IsV (.bool false),
    IsV (.bool false),
    IsV (.pointer (some ⟨H, 2, none⟩)),
    IsV (.bool true),
    IsV (.bool true),
    IsV (.bool true),
    IsV undef,
    IsV undef,
    IsV undef,
    IsV undef,
    IsV undef,
    IsV undef,
    IsV undef,
    IsV undef,
    IsV undef,
    IsV (.bool true)]
    [24, 25, 26, 27, 28, 29, 30, 31, 32, 33, 34, 35, 36, 37, 38, 39, 40] (by kernel_rfl) (Gw.drew _) Gw.trans (by rw [hsz]; kernel_rfl) (by kernel_rfl) ?_ ?_ ?_
  · intro f hf
    simp only [List.mem_cons, List.not_mem_nil, or_false] at hf
    rcases hf with rfl | rfl | rfl | rfl | rfl | rfl | rfl | rfl | rfl | rfl | rfl | rfl | rfl | rfl | rfl | rfl | rfl <;> intro v a b h g <;> first | exact IsV.mono h
  · refine ⟨?_, ?_, ?_, ?_, ?_, ?_, ?_, ?_, ?_, ?_, ?_, ?_, ?_, ?_, ?_, ?_, ?_, trivial⟩
    · exact owes_mv 7 (by kernel_rfl) (by kernel_rfl) (by kernel_rfl) sl7 (fun _ => rfl)
    · refine owes_v (Go.Op.binOp Go.BinOp.neq 34 (Go.Operand.tmp 24) (Go.Operand.const (Go.Value.int Go.IntKind.i64 0)) 34) 4 [0] (by kernel_rfl) (by kernel_rfl) (by kernel_rfl) rfl fun vals w1 ρ hG hF hρ hcst hfun => ?_
      have e24 : ρ (.tmp 24) = .int .i64 0 := ((hρ 24).trans (slotJ [0] (by rw [hsz]; decide) (by kernel_rfl))).trans (hF 0 (by decide))
      clear hρ hF hfun sl6 sl7 fin
      exact opv_val (by go_simp <;> rfl) ⟨gw_self _, rfl⟩
    · exact owes_mvj 1 25 (by kernel_rfl) (by kernel_rfl) (by kernel_rfl) (by kernel_rfl) (by rw [hsz]; decide) (fun v w h => h)
    · refine owes_vt 2 false (Go.Op.fieldAddr 112 (Go.Operand.tmp 6) 2) 0 [] (by kernel_rfl) (by kernel_rfl) (by kernel_rfl) (fun _ _ h => h) (by rw [hsz]; kernel_rfl) (by kernel_rfl) rfl fun vals w1 ρ hG hF hρ hcst hfun => ?_
      have e6 : ρ (.tmp 6) = .pointer (some ⟨H, 0, none⟩) := ((hρ 6).trans (slotO [] (by kernel_rfl))).trans sl6
      clear hρ hF hcst hfun sl6 sl7 fin
      exact opv_val (by go_simp <;> rfl) ⟨gw_self _, rfl⟩
    · refine owes_vt 2 false (Go.Op.load 4 (Go.Operand.tmp 27)) 4 [3] (by kernel_rfl) (by kernel_rfl) (by kernel_rfl) (fun _ _ h => h) (by rw [hsz]; kernel_rfl) (by kernel_rfl) rfl fun vals w1 ρ hG hF hρ hcst hfun => ?_
      have e27 : ρ (.tmp 27) = .pointer (some ⟨H, 2, none⟩) := ((hρ 27).trans (slotJ [3] (by rw [hsz]; decide) (by kernel_rfl))).trans (hF 3 (by decide))
      have k := ((hk.below hG hk.lt).four).2.2.1
      clear hρ hF hcst hfun sl6 sl7 fin
      exact opv_val (by go_simp <;> rfl) ⟨gw_self _, rfl⟩
    · refine owes_v (Go.Op.pick (Go.Operand.tmp 26) (Go.Operand.const (Go.Value.bool true)) (Go.Operand.tmp 28)) 4 [2, 4] (by kernel_rfl) (by kernel_rfl) (by kernel_rfl) rfl fun vals w1 ρ hG hF hρ hcst hfun => ?_
      have e26 : ρ (.tmp 26) = .bool false := ((hρ 26).trans (slotJ [2, 4] (by rw [hsz]; decide) (by kernel_rfl))).trans (hF 2 (by decide))
      have e28 : ρ (.tmp 28) = .bool true := ((hρ 28).trans (slotJ [2, 4] (by rw [hsz]; decide) (by kernel_rfl))).trans (hF 4 (by decide))
      clear hρ hF hfun sl6 sl7 fin
      exact opv_val (by go_simp <;> rfl) ⟨gw_self _, rfl⟩
    · exact owes_mvj 5 29 (by kernel_rfl) (by kernel_rfl) (by kernel_rfl) (by kernel_rfl) (by rw [hsz]; decide) (fun v w h => h)
    · exact owes_no 6 true false (by decide) (by kernel_rfl) (by kernel_rfl) (fun _ _ h => h) (by rw [hsz]; kernel_rfl) (fun _ => rfl)
    · exact owes_no 6 true false (by decide) (by kernel_rfl) (by kernel_rfl) (fun _ _ h => h) (by rw [hsz]; kernel_rfl) (fun _ => rfl)
    · exact owes_no 6 true false (by decide) (by kernel_rfl) (by kernel_rfl) (fun _ _ h => h) (by rw [hsz]; kernel_rfl) (fun _ => rfl)
    · exact owes_no 6 true false (by decide) (by kernel_rfl) (by kernel_rfl) (fun _ _ h => h) (by rw [hsz]; kernel_rfl) (fun _ => rfl)
    · exact owes_no 6 true false (by decide) (by kernel_rfl) (by kernel_rfl) (fun _ _ h => h) (by rw [hsz]; kernel_rfl) (fun _ => rfl)
    · exact owes_no 6 true false (by decide) (by kernel_rfl) (by kernel_rfl) (fun _ _ h => h) (by rw [hsz]; kernel_rfl) (fun _ => rfl)
    · exact owes_no 6 true false (by decide) (by kernel_rfl) (by kernel_rfl) (fun _ _ h => h) (by rw [hsz]; kernel_rfl) (fun _ => rfl)
    · exact owes_no 6 true false (by decide) (by kernel_rfl) (by kernel_rfl) (fun _ _ h => h) (by rw [hsz]; kernel_rfl) (fun _ => rfl)
    · exact owes_no 6 true false (by decide) (by kernel_rfl) (by kernel_rfl) (fun _ _ h => h) (by rw [hsz]; kernel_rfl) (fun _ => rfl)
    · refine owes_v (Go.Op.pick (Go.Operand.tmp 30) (Go.Operand.const (Go.Value.bool true)) (Go.Operand.tmp 39)) 4 [6, 15] (by kernel_rfl) (by kernel_rfl) (by kernel_rfl) rfl fun vals w1 ρ hG hF hρ hcst hfun => ?_
      have e30 : ρ (.tmp 30) = .bool true := ((hρ 30).trans (slotJ [6, 15] (by rw [hsz]; decide) (by kernel_rfl))).trans (hF 6 (by decide))
      have e39 : ρ (.tmp 39) = undef := ((hρ 39).trans (slotJ [6, 15] (by rw [hsz]; decide) (by kernel_rfl))).trans (hF 15 (by decide))
      clear hρ hF hfun sl6 sl7 fin
      exact opv_val (by go_simp <;> rfl) ⟨gw_self _, rfl⟩
  · intro vals w1 hG hF
    exact fin vals w1 hG (hF 16 (by decide +kernel))
theorem obj_s (Q : Exit → Act → World → Prop) (a0 : Act) (w : World) (H s a top room sz : Nat) (p b t : Int) (r : Bool) (hk : Bk w H 112 #[.int .i64 p, .int .i64 b, .bool false, .int .i64 t]) (hs : s < w.heap.size) (ct : w.cell? ⟨s, 2, none⟩ = some (.int .i64 top)) (hz : sizeH p b false t = (sz : Int)) (d1 : (top : Int) - (a : Int) = (room : Int)) (d2 : (room : Int) ≤ 100000) (d3 : (0 : Int) ≤ (room : Int)) (hr : decide (room < sz) = r) (hsz : a0.tmps.size = 50) (sl0 : a0.tmps.getD 0 undef = .pointer (some ⟨s, 0, none⟩)) (sl5 : a0.tmps.getD 5 undef = .int .i64 a) (sl6 : a0.tmps.getD 6 undef = .pointer (some ⟨H, 0, none⟩)) (sl7 : a0.tmps.getD 7 undef = .int .i64 0)
    (fin : ∀ (vals : Nat → Value) (w1 : World), Below w.heap.size w w1 → (IsV (.bool r)) (vals 16) w1 → Q .normal (putD vals [24, 25, 26, 27, 28, 29, 30, 31, 32, 33, 34, 35, 36, 37, 38, 39, 40] 0 a0) w1) :
    (Code.region 5 (regIn Try.f97 5) true).wp Try.prog Q a0 w := by
  refine region_by (G := fun w w1 => Below w.heap.size w w1) [IsV (.int .i64 0),
    IsV (.bool false),
    IsV (.bool false),
    IsV (.pointer (some ⟨H, 2, none⟩)),
    IsV (.bool false),
    IsV (.bool false),
    IsV (.bool false),
    IsV (.agg #[.int .i64 p, .int .i64 b, .bool false, .int .i64 t]),
    IsV (.int .i64 sz),
    IsV (.pointer (some ⟨s, 0, none⟩)),
    IsV (.pointer (some ⟨s, 0, none⟩)),
    IsV (.pointer (some ⟨s, 2, none⟩)),
    IsV (.int .i64 top),
    IsV (.int .i64 a),
    IsV (.int .i64 room),
    IsV (.bool r),
    IsV (.bool r)]
    [24, 25, 26, 27, 28, 29, 30, 31, 32, 33, 34, 35, 36, 37, 38, 39, 40] (by kernel_rfl) (Gw.drew _) Gw.trans (by rw [hsz]; kernel_rfl) (by kernel_rfl) ?_ ?_ ?_
  · intro f hf
    simp only [List.mem_cons, List.not_mem_nil, or_false] at hf
    rcases hf with rfl | rfl | rfl | rfl | rfl | rfl | rfl | rfl | rfl | rfl | rfl | rfl | rfl | rfl | rfl | rfl | rfl <;> intro v a b h g <;> first | exact IsV.mono h
  · refine ⟨?_, ?_, ?_, ?_, ?_, ?_, ?_, ?_, ?_, ?_, ?_, ?_, ?_, ?_, ?_, ?_, ?_, trivial⟩
    · exact owes_mv 7 (by kernel_rfl) (by kernel_rfl) (by kernel_rfl) sl7 (fun _ => rfl)
    · refine owes_v (Go.Op.binOp Go.BinOp.neq 34 (Go.Operand.tmp 24) (Go.Operand.const (Go.Value.int Go.IntKind.i64 0)) 34) 4 [0] (by kernel_rfl) (by kernel_rfl) (by kernel_rfl) rfl fun vals w1 ρ hG hF hρ hcst hfun => ?_
      have e24 : ρ (.tmp 24) = .int .i64 0 := ((hρ 24).trans (slotJ [0] (by rw [hsz]; decide) (by kernel_rfl))).trans (hF 0 (by decide))
      clear hρ hF hfun sl0 sl5 sl6 sl7 fin
      exact opv_val (by go_simp <;> rfl) ⟨gw_self _, rfl⟩
    · exact owes_mvj 1 25 (by kernel_rfl) (by kernel_rfl) (by kernel_rfl) (by kernel_rfl) (by rw [hsz]; decide) (fun v w h => h)
    · refine owes_vt 2 false (Go.Op.fieldAddr 112 (Go.Operand.tmp 6) 2) 0 [] (by kernel_rfl) (by kernel_rfl) (by kernel_rfl) (fun _ _ h => h) (by rw [hsz]; kernel_rfl) (by kernel_rfl) rfl fun vals w1 ρ hG hF hρ hcst hfun => ?_
      have e6 : ρ (.tmp 6) = .pointer (some ⟨H, 0, none⟩) := ((hρ 6).trans (slotO [] (by kernel_rfl))).trans sl6
      clear hρ hF hcst hfun sl0 sl5 sl6 sl7 fin
      exact opv_val (by go_simp <;> rfl) ⟨gw_self _, rfl⟩
    · refine owes_vt 2 false (Go.Op.load 4 (Go.Operand.tmp 27)) 4 [3] (by kernel_rfl) (by kernel_rfl) (by kernel_rfl) (fun _ _ h => h) (by rw [hsz]; kernel_rfl) (by kernel_rfl) rfl fun vals w1 ρ hG hF hρ hcst hfun => ?_
      have e27 : ρ (.tmp 27) = .pointer (some ⟨H, 2, none⟩) := ((hρ 27).trans (slotJ [3] (by rw [hsz]; decide) (by kernel_rfl))).trans (hF 3 (by decide))
      have k := ((hk.below hG hk.lt).four).2.2.1
      clear hρ hF hcst hfun sl0 sl5 sl6 sl7 fin
      exact opv_val (by go_simp <;> rfl) ⟨gw_self _, rfl⟩
    · refine owes_v (Go.Op.pick (Go.Operand.tmp 26) (Go.Operand.const (Go.Value.bool true)) (Go.Operand.tmp 28)) 4 [2, 4] (by kernel_rfl) (by kernel_rfl) (by kernel_rfl) rfl fun vals w1 ρ hG hF hρ hcst hfun => ?_
      have e26 : ρ (.tmp 26) = .bool false := ((hρ 26).trans (slotJ [2, 4] (by rw [hsz]; decide) (by kernel_rfl))).trans (hF 2 (by decide))
      have e28 : ρ (.tmp 28) = .bool false := ((hρ 28).trans (slotJ [2, 4] (by rw [hsz]; decide) (by kernel_rfl))).trans (hF 4 (by decide))
      clear hρ hF hfun sl0 sl5 sl6 sl7 fin
      exact opv_val (by go_simp <;> rfl) ⟨gw_self _, rfl⟩
    · exact owes_mvj 5 29 (by kernel_rfl) (by kernel_rfl) (by kernel_rfl) (by kernel_rfl) (by rw [hsz]; decide) (fun v w h => h)
    · refine owes_vt 6 false (Go.Op.load 112 (Go.Operand.tmp 6)) 112 [] (by kernel_rfl) (by kernel_rfl) (by kernel_rfl) (fun _ _ h => h) (by rw [hsz]; kernel_rfl) (by kernel_rfl) rfl fun vals w1 ρ hG hF hρ hcst hfun => ?_
      have e6 : ρ (.tmp 6) = .pointer (some ⟨H, 0, none⟩) := ((hρ 6).trans (slotO [] (by kernel_rfl))).trans sl6
      obtain ⟨k1, k2, k3, k4⟩ := (hk.below hG hk.lt).four
      clear hρ hF hcst hfun sl0 sl5 sl6 sl7 fin
      exact opv_val (by go_simp <;> rfl) ⟨gw_self _, rfl⟩
    · refine owes_vt 6 false (Go.Op.call { callee := Go.Callee.value (Go.Operand.func 72), args := #[Go.Operand.tmp 31], argTypes := #[112] }) 3 [7] (by kernel_rfl) (by kernel_rfl) (by kernel_rfl) (fun _ _ h => h) (by rw [hsz]; kernel_rfl) (by kernel_rfl) rfl fun vals w1 ρ hG hF hρ hcst hfun => ?_
      have e31 : ρ (.tmp 31) = .agg #[.int .i64 p, .int .i64 b, .bool false, .int .i64 t] := ((hρ 31).trans (slotJ [7] (by rw [hsz]; decide) (by kernel_rfl))).trans (hF 7 (by decide))
      have kz := size_c p b false t w1
      rw [hz] at kz
      clear hρ hF hcst sl0 sl5 sl6 sl7 fin
      exact opv_enter (by go_simp <;> rfl) (of_rp kz)
    · refine owes_vt 6 false (Go.Op.move (Go.Operand.tmp 0)) 64 [] (by kernel_rfl) (by kernel_rfl) (by kernel_rfl) (fun _ _ h => h) (by rw [hsz]; kernel_rfl) (by kernel_rfl) rfl fun vals w1 ρ hG hF hρ hcst hfun => ?_
      have e0 : ρ (.tmp 0) = .pointer (some ⟨s, 0, none⟩) := ((hρ 0).trans (slotO [] (by kernel_rfl))).trans sl0
      clear hρ hF hcst hfun sl0 sl5 sl6 sl7 fin
      exact opv_val (by go_simp <;> rfl) ⟨gw_self _, rfl⟩
    · refine owes_vt 6 false (Go.Op.nilCheck (Go.Operand.tmp 33)) 0 [9] (by kernel_rfl) (by kernel_rfl) (by kernel_rfl) (fun _ _ h => h) (by rw [hsz]; kernel_rfl) (by kernel_rfl) rfl fun vals w1 ρ hG hF hρ hcst hfun => ?_
      have e33 : ρ (.tmp 33) = .pointer (some ⟨s, 0, none⟩) := ((hρ 33).trans (slotJ [9] (by rw [hsz]; decide) (by kernel_rfl))).trans (hF 9 (by decide))
      clear hρ hF hcst hfun sl0 sl5 sl6 sl7 fin
      exact opv_val (by go_simp <;> rfl) ⟨gw_self _, rfl⟩
    · refine owes_vt 6 false (Go.Op.fieldAddr 147 (Go.Operand.tmp 34) 2) 0 [10] (by kernel_rfl) (by kernel_rfl) (by kernel_rfl) (fun _ _ h => h) (by rw [hsz]; kernel_rfl) (by kernel_rfl) rfl fun vals w1 ρ hG hF hρ hcst hfun => ?_
      have e34 : ρ (.tmp 34) = .pointer (some ⟨s, 0, none⟩) := ((hρ 34).trans (slotJ [10] (by rw [hsz]; decide) (by kernel_rfl))).trans (hF 10 (by decide))
      clear hρ hF hcst hfun sl0 sl5 sl6 sl7 fin
      exact opv_val (by go_simp <;> rfl) ⟨gw_self _, rfl⟩
    · refine owes_vt 6 false (Go.Op.load 3 (Go.Operand.tmp 35)) 3 [11] (by kernel_rfl) (by kernel_rfl) (by kernel_rfl) (fun _ _ h => h) (by rw [hsz]; kernel_rfl) (by kernel_rfl) rfl fun vals w1 ρ hG hF hρ hcst hfun => ?_
      have e35 : ρ (.tmp 35) = .pointer (some ⟨s, 2, none⟩) := ((hρ 35).trans (slotJ [11] (by rw [hsz]; decide) (by kernel_rfl))).trans (hF 11 (by decide))
      have k := (hG.cell (p := ⟨s, 2, none⟩) hs).trans ct
      clear hρ hF hcst hfun sl0 sl5 sl6 sl7 fin
      exact opv_val (by go_simp <;> rfl) ⟨gw_self _, rfl⟩
    · refine owes_vt 6 false (Go.Op.move (Go.Operand.tmp 5)) 3 [] (by kernel_rfl) (by kernel_rfl) (by kernel_rfl) (fun _ _ h => h) (by rw [hsz]; kernel_rfl) (by kernel_rfl) rfl fun vals w1 ρ hG hF hρ hcst hfun => ?_
      have e5 : ρ (.tmp 5) = .int .i64 a := ((hρ 5).trans (slotO [] (by kernel_rfl))).trans sl5
      clear hρ hF hcst hfun sl0 sl5 sl6 sl7 fin
      exact opv_val (by go_simp <;> rfl) ⟨gw_self _, rfl⟩
    · refine owes_vt 6 false (Go.Op.binOp Go.BinOp.sub 3 (Go.Operand.tmp 36) (Go.Operand.tmp 37) 3) 3 [12, 13] (by kernel_rfl) (by kernel_rfl) (by kernel_rfl) (fun _ _ h => h) (by rw [hsz]; kernel_rfl) (by kernel_rfl) rfl fun vals w1 ρ hG hF hρ hcst hfun => ?_
      have e36 : ρ (.tmp 36) = .int .i64 top := ((hρ 36).trans (slotJ [12, 13] (by rw [hsz]; decide) (by kernel_rfl))).trans (hF 12 (by decide))
      have e37 : ρ (.tmp 37) = .int .i64 a := ((hρ 37).trans (slotJ [12, 13] (by rw [hsz]; decide) (by kernel_rfl))).trans (hF 13 (by decide))
      have kw0 : IntKind.i64.wrap ((room : Int)) = (room : Int) := wrapIn (by omega) (by omega)
      clear hρ hF hcst hfun sl0 sl5 sl6 sl7 fin
      exact opv_val (by go_simp <;> rfl) ⟨gw_self _, rfl⟩
    · refine owes_vt 6 false (Go.Op.binOp Go.BinOp.gtr 3 (Go.Operand.tmp 32) (Go.Operand.tmp 38) 3) 4 [8, 14] (by kernel_rfl) (by kernel_rfl) (by kernel_rfl) (fun _ _ h => h) (by rw [hsz]; kernel_rfl) (by kernel_rfl) rfl fun vals w1 ρ hG hF hρ hcst hfun => ?_
      have e32 : ρ (.tmp 32) = .int .i64 sz := ((hρ 32).trans (slotJ [8, 14] (by rw [hsz]; decide) (by kernel_rfl))).trans (hF 8 (by decide))
      have e38 : ρ (.tmp 38) = .int .i64 room := ((hρ 38).trans (slotJ [8, 14] (by rw [hsz]; decide) (by kernel_rfl))).trans (hF 14 (by decide))
      clear hρ hF hcst hfun sl0 sl5 sl6 sl7 fin
      exact opv_val (by go_simp <;> first | rfl | exact hr | rw [hr]) ⟨gw_self _, rfl⟩
    · refine owes_v (Go.Op.pick (Go.Operand.tmp 30) (Go.Operand.const (Go.Value.bool true)) (Go.Operand.tmp 39)) 4 [6, 15] (by kernel_rfl) (by kernel_rfl) (by kernel_rfl) rfl fun vals w1 ρ hG hF hρ hcst hfun => ?_
      have e30 : ρ (.tmp 30) = .bool false := ((hρ 30).trans (slotJ [6, 15] (by rw [hsz]; decide) (by kernel_rfl))).trans (hF 6 (by decide))
      have e39 : ρ (.tmp 39) = .bool r := ((hρ 39).trans (slotJ [6, 15] (by rw [hsz]; decide) (by kernel_rfl))).trans (hF 15 (by decide))
      clear hρ hF hfun sl0 sl5 sl6 sl7 fin
      exact opv_val (by go_simp <;> rfl) ⟨gw_self _, rfl⟩
  · intro vals w1 hG hF
    exact fin vals w1 hG (hF 16 (by decide +kernel))
def ObjP (r : Option (List Nat)) (w : World) (e : Ending) (w' : World) : Prop := match r with
  | some l => MkEP iN 3 l 0 w e w'
  | none => RetP (.tuple #[.slice none 0 0, .int .i64 2]) w e w'
theorem objF_end (ws : List (BitVec 64)) (top n a : Nat) (h : ¬ a < top) : objF ws top n a = some [] := by
  cases n with
  | zero => rfl
  | succ n => exact if_neg h
theorem unV_bad {x : BitVec 64} (h : okU x = false) : unV x = .tuple #[.agg #[.int .i64 0, .int .i64 0, .bool false, .int .i64 0], .int .i64 2] := unV_no h
theorem bk_kept {w w5 : World} {H : Nat} {E : TypeId} {cs : Array Value} {o : Obj} {row : Option Nat} (h : Bk w H E cs) (hg : (w.alloc o).grownBy w5 row) (hne : some H ≠ row) : Bk w5 H E cs := (hg.block H (h.alloc o).lt hne).trans (h.alloc o)
theorem objects_c (w : World) (B s g : Nat) (v : Value) (ws : List (BitVec 64)) (b t e : Nat) (p : SpAt w B s g v ws b t e) (hl : ws.length ≤ 100000) :
    Calls Try.prog 97 #[.pointer (some ⟨s, 0, none⟩)] w (ObjP (objF ws t (t + 1) b) w) := by
  have HP := Lib.hid p
  have HHd := Lib.hid (fun W (hb : Below w.heap.size w W) (i : Nat) (h1 : b ≤ i) (h2 : i < t) (hiw : i < ws.length) => sphead_in W B s g v ws b t e (p.below hb) i h1 h2 hl hiw)
  have htw : t ≤ ws.length := Nat.le_trans p.te p.el
  have HTW := Lib.hid htw
  obtain ⟨R, hR⟩ : ∃ R, R = objF ws t (t + 1) b := ⟨_, rfl⟩
  rw [← hR]
  have HRR := Lib.hid hR
  have hc1 := p.four.2.1
  have hc2 := p.four.2.2.1
  have hsl := p.blk.lt
  have q1 : (t : Int) ≤ 100000 := by omega
  have q2 : (b : Int) ≤ 100000 := by have := p.bt; omega
  clear p hl htw hR
  go_enter Try.func97, Try.ntmps97
  go_wp2_with fail
  go_loopw [4, 5] (fun o i W => ∃ (n a : Nat) (pre : List Nat), i = .int .i64 a ∧ Hid (b ≤ a) ∧ Hid (t < a + n) ∧ Hid (R = (objF ws t n a).map (pre ++ ·)) ∧ Hid (pre.length ≤ a) ∧ Ow iN 3 W w.heap.size o pre ∧ Below w.heap.size w W) (fun _ i _ => t - (Go.RowKit.intOf i).toNat)
  case atStart => exact ⟨t + 1, b, [], rfl, Lib.hid (Nat.le_refl _), Lib.hid (by omega), Lib.hid (by rw [HRR.out]; simp), Lib.hid (by simp), Ow.nil_ _ _ _ _, Below.refl _ _⟩
  case round =>
    obtain ⟨n, a, pre, rfl, hba, htn, hre, hpl, ho, hB⟩ := hrel
    have hp := HP.out.below hB
    have c2 := hp.four.2.2.1
    by_cases hlt : a < t
    · have p1 : (0 : Int) ≤ (a : Int) := by omega
      have haw : a < ws.length := Nat.lt_of_lt_of_le hlt HTW.out
      have HH := Lib.hid (HHd.out wr hB a hba.out hlt haw)
      obtain ⟨x, hx⟩ : ∃ x, x = ws[a] := ⟨_, rfl⟩
      rw [← hx] at HH
      obtain ⟨m, rfl⟩ : ∃ m, n = m + 1 := ⟨n - 1, by have := htn.out; omega⟩
      have hgx : ws.getD a 0#64 = x := by rw [List.getD_eq_getElem?_getD, List.getElem?_eq_getElem haw, hx]; rfl
      have hstep : R = (if goodX x (t - a) = true then (objF ws t m (a + szX x)).map (a :: ·) else none).map (pre ++ ·) := by
        have h := hre.out
        have e : objF ws t (m + 1) a = if goodX x (t - a) = true then (objF ws t m (a + szX x)).map (a :: ·) else none := by
          show (if a < t then _ else _) = _
          rw [if_pos hlt, hgx]
        rw [e] at h
        exact h
      have HST := Lib.hid hstep
      have HO := Lib.hid ho
      have HBB := Lib.hid hB
      have HPW := Lib.hid hp
      clear hre hx haw hgx hstep ho hp
      cases hok : okU x with
      | false =>
        rw [unV_bad hok] at HH
        have hbad : R = none := by
          rw [HST.out]
          have : goodX x (t - a) = false := by unfold goodX; rw [hok]; rfl
          rw [this]
          rfl
        have HRN := Lib.hid hbad
        clear hbad hok
        go_wp2_with fail
        refine Calls.mono HH.out ?_
        rintro r w2 ⟨rfl, b2⟩
        have HB2 := Lib.hid (hB.trans (b2.mono hB.size))
        clear b2
        go_wp2_with fail
        refine obj_e _ _ _ rfl rfl ?_
        intro vals w3 hG h40
        unfold IsV at h40
        simp only [putD, Act.put, List.setIfInBounds_toArray, List.set_cons_zero, List.set_cons_succ, h40]
        have HB3 := Lib.hid (((HB2.out.alloc HB2.out.size _)).trans (hG.mono (by have := HB2.out.size; simp; omega)))
        clear h40 hG
        go_wp2_with fail
        go_ret2
        rw [HRN.out]
        exact ⟨rfl, HB3.out⟩
      | true =>
        cases hm : fM x with
        | true =>
          have hv := unV_yes hok
          rw [hm] at hv
          rw [hv] at HH
          have hbad : R = none := by
            rw [HST.out]
            have : goodX x (t - a) = false := by unfold goodX; rw [hok, hm]; rfl
            rw [this]
            rfl
          have HRN := Lib.hid hbad
          clear hbad hok hm hv
          go_wp2_with fail
          refine Calls.mono HH.out ?_
          rintro r w2 ⟨rfl, b2⟩
          have HB2 := Lib.hid (hB.trans (b2.mono hB.size))
          clear b2
          go_wp2_with fail
          refine obj_m _ _ _ w2.heap.size (fP x) (fB x) (fT x) (Bk.new w2 _ _) rfl rfl rfl ?_
          intro vals w3 hG h40
          unfold IsV at h40
          simp only [putD, Act.put, List.setIfInBounds_toArray, List.set_cons_zero, List.set_cons_succ, h40]
          have HB3 := Lib.hid (((HB2.out.alloc HB2.out.size _)).trans (hG.mono (by have := HB2.out.size; simp; omega)))
          clear h40 hG
          go_wp2_with fail
          go_ret2
          rw [HRN.out]
          exact ⟨rfl, HB3.out⟩
        | false =>
          have hv := unV_yes hok
          rw [hm] at hv
          rw [hv] at HH
          obtain ⟨hz, hz1, hz2⟩ := szX_pos hok hm
          have hgood : goodX x (t - a) = decide (szX x ≤ t - a) := by unfold goodX; rw [hok, hm]; rfl
          obtain ⟨sz, hsz⟩ : ∃ sz, sz = szX x := ⟨_, rfl⟩
          obtain ⟨room, hroom⟩ : ∃ r, r = t - a := ⟨_, rfl⟩
          rw [← hsz] at hz hz1 hz2
          have hst2 := HST.out
          rw [hgood, ← hsz, ← hroom] at hst2
          have d1 : (t : Int) - (a : Int) = (room : Int) := by omega
          have d2 : (room : Int) ≤ 100000 := by omega
          have d3 : (0 : Int) ≤ (room : Int) := by omega
          have HZ := Lib.hid (fun W => size_c (fP x) (fB x) false (fT x) W)
          rw [hz] at HZ
          have HZZ := Lib.hid hz
          have HD := Lib.hid (And.intro d1 (And.intro d2 d3))
          have HST2 := Lib.hid hst2
          have hz3 : (sz : Int) ≤ 1000 := by omega
          have HS1 := Lib.hid hz1
          have HSL := Lib.hid HPW.out.blk.lt
          clear hv hok hm hz hz2 hgood hsz hst2 HST hz1 d1 d2 d3
          go_wp2_with fail
          refine Calls.mono HH.out ?_
          rintro r w2 ⟨rfl, b2⟩
          have HB2 := Lib.hid (hB.trans (b2.mono hB.size))
          have hk2 := Bk.new w2 112 #[.int .i64 (fP x), .int .i64 (fB x), .bool false, .int .i64 (fT x)]
          have HK2 := Lib.hid hk2
          have hb3 := Gw.alloc w2 (.cells #[.int .i64 (fP x), .int .i64 (fB x), .bool false, .int .i64 (fT x)] 112)
          have HB3 := Lib.hid (HB2.out.trans (hb3.mono HB2.out.size))
          have hw3 : (w2.alloc (.cells #[.int .i64 (fP x), .int .i64 (fB x), .bool false, .int .i64 (fT x)] 112)).cell? ⟨s, 2, none⟩ = some (.int .i64 t) := ((HPW.out.below b2).below hb3).four.2.2.1
          have HS3 : Hid (s < (w2.alloc (.cells #[.int .i64 (fP x), .int .i64 (fB x), .bool false, .int .i64 (fT x)] 112)).heap.size) := Lib.hid ((HPW.out.below b2).below hb3).blk.lt
          have HW3 := Lib.hid hw3
          have HO2 := Lib.hid ((HO.out.below b2).alloc (.cells #[.int .i64 (fP x), .int .i64 (fB x), .bool false, .int .i64 (fT x)] 112))
          have hol : ∀ k, u4.ownBlock = some k → k < w2.heap.size := fun k e => ((HO.out.below b2).lt k e).2
          have HOL := Lib.hid hol
          clear b2 hk2 hb3 hw3 hol
          go_wp2_with fail
          by_cases hfit : sz ≤ room
          · refine obj_s _ _ _ w2.heap.size s a t room sz (fP x) (fB x) (fT x) false HK2.out HS3.out HW3.out HZZ.out HD.out.1 HD.out.2.1 HD.out.2.2 (by simp; omega) rfl rfl rfl rfl rfl ?_
            intro vals w3 hG h40
            unfold IsV at h40
            simp only [putD, Act.put, List.setIfInBounds_toArray, List.set_cons_zero, List.set_cons_succ, h40]
            have hk3 := HK2.out.below hG HK2.out.lt
            obtain ⟨k0, k1, k2, k3⟩ := hk3.four
            have ho3 := HO2.out.below hG
            obtain ⟨A3, m3, n3, rfl⟩ : ∃ A m n, u4 = Value.slice A m n := by
              obtain ⟨A, c, e, _⟩ := ho3.form
              exact ⟨A, _, c, e⟩
            have HB4 := Lib.hid (HB3.out.trans (hG.mono HB3.out.size))
            have hsz4 := HB4.out.size
            have hlen : pre.length + 1 ≤ 4294967296 := by have := hpl.out; omega
            have hRn : R = (objF ws t m (a + sz)).map ((pre ++ [a]) ++ ·) := by
              have h := HST2.out
              have hd : decide (sz ≤ room) = true := by simp [hfit]
              rw [if_pos hd] at h
              rw [h]
              cases objF ws t m (a + sz) with
              | none => rfl
              | some l => simp
            have HRn := Lib.hid hRn
            have HK3 := Lib.hid hk3
            have HNE : Hid (some w2.heap.size ≠ (Value.slice A3 m3 n3).ownBlock) := Lib.hid (fun e => by have := HOL.out _ e.symm; omega)
            clear h40 hG hk3 hRn k0 k1 k2 k3
            go_wp2_with (at_builtin; refine wp_app oneI iN_one rfl (.tmp 41) (.tmp 43) rfl w.heap.size _ pre rfl (ho3.alloc _) (some ⟨w3.heap.size, 0, none⟩) 1 1 [a] rfl rfl (w3.heap.size + 1) (rd1_new rfl) hlen (by decide) (by simp; omega) ?_; intro v5 w5 ho5 hb5 hg5 _; have hk5 := bk_kept HK3.out hg5 HNE.out; obtain ⟨k0, k1, k2, k3⟩ := hk5.four)
            have HB5 := Lib.hid ((HB4.out.alloc hsz4 _).trans hb5)
            have HO5 := Lib.hid ho5
            have HZ5 := Lib.hid (HZ.out w5)
            obtain ⟨a2, ha2⟩ : ∃ a2, a2 = a + sz := ⟨_, rfl⟩
            have e2 : (a : Int) + (sz : Int) = (a2 : Int) := by omega
            have e3 : (a2 : Int) ≤ 200000 := by omega
            have e4 : (0 : Int) ≤ (a2 : Int) := by omega
            have HA2 := Lib.hid ha2
            clear hk5 ho5 hb5 hg5 ha2 HK3 HOL
            go_wp2_with fail
            refine Calls.mono HZ5.out ?_
            rintro r w6 ⟨rfl, b6⟩
            have HB6 := Lib.hid (HB5.out.trans (b6.mono HB5.out.size))
            have HO6 := Lib.hid (HO5.out.below b6)
            clear b6 HO5 HB5
            go_wp2_with fail
            go_roundw
            case rel =>
              refine ⟨m, a2, pre ++ [a], rfl, Lib.hid ?_, Lib.hid ?_, Lib.hid ?_, Lib.hid ?_, HO6.out, HB6.out⟩
              · have := HA2.out; have := hba.out; omega
              · have := HA2.out; have := htn.out; have := HS1.out; omega
              · rw [HA2.out]; exact HRn.out
              · have := HA2.out; have := hpl.out; have := HS1.out; rw [List.length_append]; simp; omega
            case measure => have := HA2.out; have := HS1.out; simp [Go.RowKit.intOf]; omega
          · refine obj_s _ _ _ w2.heap.size s a t room sz (fP x) (fB x) (fT x) true HK2.out HS3.out HW3.out HZZ.out HD.out.1 HD.out.2.1 HD.out.2.2 (by simp; omega) rfl rfl rfl rfl rfl ?_
            intro vals w3 hG h40
            unfold IsV at h40
            simp only [putD, Act.put, List.setIfInBounds_toArray, List.set_cons_zero, List.set_cons_succ, h40]
            have HB4 := Lib.hid (HB3.out.trans (hG.mono HB3.out.size))
            have hbad : R = none := by
              rw [HST2.out]
              have hd : decide (sz ≤ room) = false := by simp; omega
              rw [hd]
              rfl
            have HRN := Lib.hid hbad
            clear h40 hG hbad
            go_wp2_with fail
            go_ret2
            rw [HRN.out]
            exact ⟨rfl, HB4.out⟩
    · have hend := objF_end ws t n a hlt
      have h := hre.out
      rw [hend] at h
      have h2 : R = some pre := by rw [h]; simp
      have HO := Lib.hid ho
      have HR2 := Lib.hid h2
      clear hend h h2 ho hp
      go_wp2_with fail
      go_ret2
      rw [HR2.out]
      exact MkEP.of HO.out hB
end Go.Proofs.Ytkkjnahjmomjgaa
/- Rows of bytes in words; a place's word: the reference's. Conditions: lengths. -/
namespace Go.Proofs.Ytkkjnahjmomjgaa
set_option linter.unusedVariables false
set_option linter.unusedSimpArgs false
open Go.RowKit Go.Maps
set_option maxHeartbeats 4000000
set_option maxRecDepth 100000
/-- The first k words of bytes. -/
def wordsN (bs : List (BitVec 8)) (k : Nat) : List (BitVec 64) := (List.range k).map fun i => leN ((bs.drop (8 * i)).take 8)
def wordsW (bs : List (BitVec 8)) : List (BitVec 64) := wordsN bs ((bs.length + 7) / 8)
theorem wordsN_len (bs : List (BitVec 8)) (k : Nat) : (wordsN bs k).length = k := by unfold wordsN; simp
/-- The word that leads to a node: 0, or its place and 1. -/
def pointW (pl : List Nat) (p : Int) : BitVec 64 := if p = 0 then 0#64 else BitVec.ofNat 64 (pl.getD (p.toNat - 1) 0 + 1)
end Go.Proofs.Ytkkjnahjmomjgaa
/- A graph in words: the reference's, as a list (pure). Conditions: a graph that Check lets. -/
namespace Go.Proofs.Ytkkjnahjmomjgaa
set_option linter.unusedVariables false
set_option linter.unusedSimpArgs false
open Go.RowKit
set_option maxHeartbeats 1000000
def szG (x : Nv) : Nat := 1 + x.ps.length + (x.bs.length + 7) / 8
/-- The places of nodes, one behind the other; where they end. -/
def placeL : List Nv → Nat → List Nat
  | [], _ => []
  | x :: r, a => a :: placeL r (a + szG x)
def endL : List Nv → Nat → Nat
  | [], a => a
  | x :: r, a => endL r (a + szG x)
theorem placeL_len : ∀ (l : List Nv) (a : Nat), (placeL l a).length = l.length
  | [], _ => rfl
  | x :: r, a => by unfold placeL; rw [List.length_cons, List.length_cons, placeL_len r]
theorem endL_snoc (x : Nv) : ∀ (l : List Nv) (a : Nat), endL (l ++ [x]) a = endL l a + szG x
  | [], _ => rfl
  | y :: r, a => by rw [List.cons_append]; unfold endL; exact endL_snoc x r _
theorem placeL_snoc (x : Nv) : ∀ (l : List Nv) (a : Nat), placeL (l ++ [x]) a = placeL l a ++ [endL l a]
  | [], _ => rfl
  | y :: r, a => by rw [List.cons_append]; unfold placeL endL; rw [placeL_snoc x r]; rfl
theorem endL_ge : ∀ (l : List Nv) (a : Nat), a ≤ endL l a
  | [], _ => Nat.le_refl _
  | x :: r, a => Nat.le_trans (Nat.le_add_right _ _) (endL_ge r _)
theorem endL_add : ∀ (l : List Nv) (a : Nat), endL l a = a + endL l 0
  | [], _ => rfl
  | x :: r, a => by unfold endL; rw [endL_add r (a + szG x), endL_add r (0 + szG x)]; omega
theorem endL_take_le : ∀ (l : List Nv) (k a : Nat), endL (l.take k) a ≤ endL l a
  | [], k, a => by simp
  | x :: r, 0, a => endL_ge _ _
  | x :: r, k + 1, a => by rw [List.take_succ_cons]; unfold endL; exact endL_take_le r k _
theorem placeL_lt : ∀ (l : List Nv) (a : Nat), ∀ y ∈ placeL l a, a ≤ y ∧ y < endL l a
  | [], _, y, h => by cases h
  | x :: r, a, y, h => by
    unfold placeL at h
    unfold endL
    have h1 := endL_ge r (a + szG x)
    have h2 : 1 ≤ szG x := by unfold szG; omega
    rcases List.mem_cons.1 h with rfl | h
    · omega
    · have := placeL_lt r _ y h; omega
theorem ckNode_ok {N : Nat} {x : Nv} (h : ckNode N x = 0) : (∀ p ∈ x.ps, okP N p = true) ∧ x.ps.length ≤ 64 ∧ x.bs.length ≤ 1024 := by
  unfold ckNode at h
  by_cases h1 : x.ps.all (okP N) = true
  · rw [if_pos h1] at h
    by_cases h2 : 64 < x.ps.length ∨ 1024 < x.bs.length
    · rw [if_pos h2] at h; cases h
    · exact ⟨fun p hp => List.all_eq_true.1 h1 p hp, by omega, by omega⟩
  · rw [if_neg h1] at h; cases h
theorem ckNodes_all {N : Nat} : ∀ {l : List Nv}, ckNodes N l = 0 → ∀ x ∈ l, ckNode N x = 0
  | [], _, x, hx => by cases hx
  | y :: l, h, x, hx => by
    unfold ckNodes at h
    by_cases h1 : ckNode N y = 0
    · rw [if_pos h1] at h
      rcases List.mem_cons.1 hx with rfl | hx
      · exact h1
      · exact ckNodes_all h x hx
    · rw [if_neg h1] at h; exact absurd h h1
theorem ckRoots_all {N : Nat} : ∀ {l : List Rv} {s : ByteArray}, ckRoots N s l = 0 → ∀ r ∈ l, goodS r.s = true ∧ okP N r.t = true
  | [], _, _, r, hr => by cases hr
  | y :: l, s, h, r, hr => by
    unfold ckRoots at h
    by_cases h1 : goodS y.s = true ∧ leS y.s s = false
    · rw [if_pos h1] at h
      by_cases h2 : okP N y.t = true
      · rw [if_pos h2] at h
        rcases List.mem_cons.1 hr with rfl | hr
        · exact ⟨h1.1, h2⟩
        · exact ckRoots_all h r hr
      · rw [if_neg h2] at h; cases h
    · rw [if_neg h1] at h; cases h
theorem ckG_ok {g : Gv} (h : ckG g = 0) : (∀ x ∈ g.n, (∀ p ∈ x.ps, okP g.n.length p = true) ∧ x.ps.length ≤ 64 ∧ x.bs.length ≤ 1024) ∧ g.r.length ≤ 64 ∧ ∀ r ∈ g.r, goodS r.s = true ∧ okP g.n.length r.t = true := by
  unfold ckG at h
  by_cases h1 : ckNodes g.n.length g.n = 0
  · rw [if_pos h1] at h
    by_cases h2 : 64 < g.r.length
    · rw [if_pos h2] at h; cases h
    · rw [if_neg h2] at h
      exact ⟨fun x hx => ckNode_ok (ckNodes_all h1 x hx), by omega, ckRoots_all h⟩
  · rw [if_neg h1] at h; exact absurd h h1
theorem goodS_size {s : ByteArray} (h : goodS s = true) : 1 ≤ s.size ∧ s.size ≤ 32 := by
  unfold goodS at h
  simp only [Bool.and_eq_true, decide_eq_true_eq] at h
  exact ⟨h.1, h.2.1⟩
theorem szN_szG {x : Nv} (h1 : x.ps.length ≤ 64) (h2 : x.bs.length ≤ 1024) : szN x = (szG x : Int) := by
  have h : rightH (x.ps.length : Int) (x.bs.length : Int) false 0 = true := by unfold rightH; simp; omega
  unfold szN sizeH szG
  rw [if_pos ⟨h, rfl⟩]
  omega
theorem wordsL_end : ∀ (l : List Nv), (∀ x ∈ l, x.ps.length ≤ 64 ∧ x.bs.length ≤ 1024) → wordsL l = (endL l 0 : Int)
  | [], _ => rfl
  | x :: r, h => by
    have h1 := h x (List.mem_cons_self ..)
    have ih := wordsL_end r (fun y hy => h y (List.mem_cons_of_mem _ hy))
    show szN x + wordsL r = _
    rw [szN_szG h1.1 h1.2, ih]
    show _ = ((endL r (0 + szG x) : Nat) : Int)
    rw [endL_add r (0 + szG x)]
    omega
/-- A name's bytes, filled up. -/
def nameW (s : ByteArray) : List (BitVec 8) := s.data.toList.map (·.toBitVec) ++ List.replicate (32 - s.size) 0#8
theorem nameW_len {s : ByteArray} (h : s.size ≤ 32) : (nameW s).length = 32 := by
  have e : s.data.toList.length = s.size := rfl
  unfold nameW
  rw [List.length_append, List.length_map, List.length_replicate, e]
  omega
theorem wordsW_len (bs : List (BitVec 8)) : (wordsW bs).length = (bs.length + 7) / 8 := wordsN_len bs _
def rootW (pl : List Nat) (r : Rv) : List (BitVec 64) := wordsW (nameW r.s) ++ [pointW pl r.t]
theorem rootW_len (pl : List Nat) {r : Rv} (h : r.s.size ≤ 32) : (rootW pl r).length = 5 := by
  unfold rootW
  rw [List.length_append, wordsW_len, nameW_len h]
  rfl
def headW (x : Nv) : BitVec 64 := packH x.ps.length x.bs.length false 0
def nodeW (pl : List Nat) (x : Nv) : List (BitVec 64) := headW x :: (x.ps.map (pointW pl) ++ wordsW x.bs)
theorem nodeW_len (pl : List Nat) (x : Nv) : (nodeW pl x).length = szG x := by
  unfold nodeW szG
  rw [List.length_cons, List.length_append, List.length_map, wordsW_len]
  omega
def frontW (R t : Nat) : List (BitVec 64) := [1296125772#64, BitVec.ofNat 64 (R + t * 65536)]
def encW (ns : List Nv) (rs : List Rv) : List (BitVec 64) :=
  frontW rs.length (endL ns (2 + 5 * rs.length)) ++ rs.flatMap (rootW (placeL ns (2 + 5 * rs.length))) ++ ns.flatMap (nodeW (placeL ns (2 + 5 * rs.length)))
theorem roots_len (pl : List Nat) : ∀ (rs : List Rv), (∀ r ∈ rs, r.s.size ≤ 32) → (rs.flatMap (rootW pl)).length = 5 * rs.length
  | [], _ => rfl
  | r :: rs, h => by
    rw [List.flatMap_cons, List.length_append, rootW_len pl (h r (List.mem_cons_self ..)), roots_len pl rs (fun y hy => h y (List.mem_cons_of_mem _ hy)), List.length_cons]
    omega
theorem nodes_len (pl : List Nat) : ∀ (ns : List Nv), (ns.flatMap (nodeW pl)).length = endL ns 0
  | [] => rfl
  | x :: ns => by
    rw [List.flatMap_cons, List.length_append, nodeW_len, nodes_len pl ns]
    show _ = endL ns (0 + szG x)
    rw [endL_add ns (0 + szG x)]
    omega
theorem encW_len (ns : List Nv) (rs : List Rv) (h : ∀ r ∈ rs, r.s.size ≤ 32) : (encW ns rs).length = endL ns (2 + 5 * rs.length) := by
  unfold encW
  rw [List.length_append, List.length_append, roots_len _ rs h, nodes_len, endL_add ns (2 + 5 * rs.length)]
  rfl
end Go.Proofs.Ytkkjnahjmomjgaa
/- Names of 32 bytes: their cells. No conditions. -/
namespace Go.Proofs.Ytkkjnahjmomjgaa
set_option linter.unusedVariables false
set_option linter.unusedSimpArgs false
open Go.RowKit Go.Maps
abbrev Nm := List (BitVec 8)
def nW (k : Nm) : Prop := k.length = 32
def nC (k : Nm) : Array Value := (k.map b8).toArray
def nV (k : Nm) : Value := .agg (nC k)
def litB (x : BitVec 8) : Lit := .int .u8 (U8 x)
def keyN (k : Nm) : Lit := .string (keyBytes (k.map litB))
theorem wf8 (x : BitVec 8) : (Lit.int .u8 (U8 x)).wf = true := by
  have h1 := U8_lo x
  have h2 := U8_hi x
  simp [Lit.wf, IntKind.min, IntKind.max, IntKind.signed, IntKind.bits]; omega
theorem lits_u8 (m : Nat) (a : Value) : Try.prog.keyLits (m + 1) 5 [a] = match a with
    | .int q n => if q = .u8 ∧ (Lit.int .u8 n).wf = true then some [.int .u8 n] else none
    | _ => none := by
  unfold Program.keyLits
  rw [Try.underlying5]
  cases a <;> simp
theorem mapM_some {α β : Type} {f : α → Option β} {g : α → β} : ∀ l : List α, (∀ x ∈ l, f x = some (g x)) → l.mapM f = some (l.map g)
  | [], _ => rfl
  | x :: l, h => by
    rw [List.mapM_cons, h x List.mem_cons_self, mapM_some l (fun y hy => h y (List.mem_cons_of_mem _ hy))]
    rfl
theorem flat_one {α : Type} (f : BitVec 8 → α) : ∀ k : Nm, (k.map fun x => [f x]).flatten = k.map f
  | [] => rfl
  | x :: k => by simp only [List.map_cons, List.flatten_cons, flat_one f k]; rfl
theorem cells32 : Try.prog.cellsOf 120 = 32 := by kernel_rfl
theorem cells1 : Try.prog.cellsOf 5 = 1 := by kernel_rfl
theorem lits_name (m : Nat) (cs : List Value) (h : cs.length = 32) : Try.prog.keyLits (m + 2) 120 cs = ((List.range 32).mapM fun i => Try.prog.keyLits (m + 1) 5 ((cs.drop i).take 1)).map List.flatten := by
  conv => lhs; unfold Program.keyLits
  rw [Try.underlying120]
  simp only [cells32, cells1, h, if_true, Nat.mul_one]
theorem lits_nm (m : Nat) (k : Nm) (h : nW k) : Try.prog.keyLits (m + 2) 120 (k.map b8) = some (k.map litB) := by
  rw [lits_name m _ (by rw [List.length_map]; exact h)]
  rw [mapM_some (g := fun i => [litB (k.getD i 0#8)]) _ (fun i hi => by
    have hi : i < k.length := by rw [h]; exact List.mem_range.1 hi
    have e : ((k.map b8).drop i).take 1 = [b8 k[i]] := by
      rw [List.drop_eq_getElem_cons (by rw [List.length_map]; exact hi)]
      simp
    rw [e]
    unfold b8
    rw [lits_u8]
    simp only [wf8, and_self, if_true]
    rw [List.getD_eq_getElem?_getD, List.getElem?_eq_getElem hi]
    rfl)]
  rw [Option.map_some, ← flat_one litB k]
  congr 2
  apply List.ext_getElem
  · simp; exact h.symm
  · intro i h1 h2
    have hi : i < k.length := by simpa using h2
    simp [List.getElem?_eq_getElem hi]
end Go.Proofs.Ytkkjnahjmomjgaa
