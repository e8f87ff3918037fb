/- space: bare, New, Used, Free, zero. Conditions: lengths. -/
import Derived.Test.YtfodefgihicafaaDoorMmD
import Derived.Test.YtfodefgihicafaaDoorHeadF
import Derived.Test.YtfodefgihicafaaDoorRegT
namespace Go.Proofs.YtfodefgihicafaaDoor
set_option linter.unusedVariables false
set_option linter.unusedSimpArgs false
open Go.RowKit
/-- Block s holds a space of the words ws, from b to t to e. -/
structure SpAt (W : World) (B s g : Nat) (v : Value) (ws : List (BitVec 64)) (b t e : Nat) : Prop where
  mem : MemAt W B g v ws
  blk : Bk W s 65 #[.pointer (some ⟨g, 0, none⟩), .int .i64 b, .int .i64 t, .int .i64 e]
  sg : s ≠ g
  sv : v.ownBlock ≠ some s
  hs : B ≤ s
  bt : b ≤ t
  te : t ≤ e
  el : e ≤ ws.length
section
variable {W W' : World} {B s g : Nat} {v : Value} {ws ws' : List (BitVec 64)} {b t e : Nat}
theorem SpAt.below (p : SpAt W B s g v ws b t e) (hb : Below W.heap.size W W') : SpAt W' B s g v ws b t e := ⟨p.mem.below hb, p.blk.below hb p.blk.lt, p.sg, p.sv, p.hs, p.bt, p.te, p.el⟩
theorem SpAt.memTo (p : SpAt W B s g v ws b t e) (m : MemAt W' B g v ws') (hg : W.grownBy W' v.ownBlock) (hl : ws'.length = ws.length) : SpAt W' B s g v ws' b t e :=
  ⟨m, (hg.block s p.blk.lt (fun e => p.sv e.symm)).trans p.blk, p.sg, p.sv, p.hs, p.bt, p.te, by rw [hl]; exact p.el⟩
theorem SpAt.four (p : SpAt W B s g v ws b t e) : W.cell? ⟨s, 0, none⟩ = some (.pointer (some ⟨g, 0, none⟩)) ∧ W.cell? ⟨s, 1, none⟩ = some (.int .i64 b) ∧ W.cell? ⟨s, 2, none⟩ = some (.int .i64 t) ∧ W.cell? ⟨s, 3, none⟩ = some (.int .i64 e) :=
  ⟨p.blk.cell 0, p.blk.cell 1, p.blk.cell 2, p.blk.cell 3⟩
end
/-- Of the old blocks only s and the row may have changed. -/
structure Two (w w' : World) (s : Nat) (row : Option Nat) : Prop where
  os : w'.os = w.os
  tape : w'.tape = w.tape
  output : w'.output = w.output
  size : w.heap.size ≤ w'.heap.size
  block : ∀ k, k < w.heap.size → k ≠ s → some k ≠ row → w'.heap[k]? = w.heap[k]?
theorem Two.trans {a b c : World} {s : Nat} {row : Option Nat} (h : Two a b s row) (k : Two b c s row) : Two a c s row :=
  ⟨k.os.trans h.os, k.tape.trans h.tape, k.output.trans h.output, Nat.le_trans h.size k.size, fun i hi h1 h2 => (k.block i (Nat.lt_of_lt_of_le hi h.size) h1 h2).trans (h.block i hi h1 h2)⟩
theorem Two.below {a b : World} {s : Nat} {row : Option Nat} (h : Below a.heap.size a b) : Two a b s row := ⟨h.os, h.tape, h.output, h.size, fun k hk _ _ => h.block k hk⟩
theorem Two.grown {a b : World} {s : Nat} {row : Option Nat} (h : a.grownBy b row) : Two a b s row := ⟨h.os, h.tape, h.output, h.size, fun k hk _ h2 => h.block k hk h2⟩
theorem Two.setc (a : World) (s i : Nat) (u : Value) (row : Option Nat) : Two a (a.setCell ⟨s, i, none⟩ u) s row := ⟨rfl, rfl, rfl, by simp [World.setCell], fun k _ hne _ => Below.heap_setCell _ _ _ _ hne⟩
set_option maxHeartbeats 400000
set_option maxRecDepth 100000
theorem bare_in (w : World) (B g : Nat) (v : Value) (ws : List (BitVec 64)) (b t e : Nat) (h : MemAt w B g v ws) (hbt : b ≤ t) (hte : t ≤ e) (hel : e ≤ ws.length) (hl : ws.length ≤ 100000) :
    Calls Tryd.prog 58 #[.pointer (some ⟨g, 0, none⟩), .int .i64 b, .int .i64 t, .int .i64 e] w fun r w' => ∃ s, r = .returned (.tuple #[.pointer (some ⟨s, 0, none⟩), .int .i64 0]) ∧ SpAt w' B s g v ws b t e ∧ Below w.heap.size w w' := by
  have HL := Lib.hid (len_c w B g v ws h)
  have HM := Lib.hid h
  obtain ⟨N, hN⟩ : ∃ N, N = ws.length := ⟨_, rfl⟩
  rw [← hN] at HL
  have u1 : ¬ (b : Int) < 0 := by omega
  have u2 : ¬ t < b := by omega
  have u3 : ¬ e < t := by omega
  have u4 : ¬ N < e := by omega
  have HX := Lib.hid (And.intro hbt (And.intro hte hel))
  clear h hbt hte hel hl hN
  go_enter Tryd.func58, Tryd.ntmps58
  go_wp2_with fail
  refine Calls.mono HL.out ?_
  rintro r w1 ⟨rfl, rfl⟩
  go_wp2_with fail
  go_ret2
  have hm := HM.out
  have hb := Gw.alloc w1 (.cells #[.pointer (some ⟨g, 0, none⟩), .int .i64 b, .int .i64 t, .int .i64 e] 65)
  refine ⟨w1.heap.size, rfl, ⟨hm.below hb, Bk.new w1 _ _, ?_, fun e => ?_, hm.le, HX.out.1, HX.out.2.1, HX.out.2.2⟩, hb⟩
  · have := hm.blk.lt; omega
  · have := (hm.row.lt _ e).2; omega
theorem bare_out (w : World) (B g : Nat) (v : Value) (ws : List (BitVec 64)) (b t e : Int) (h : MemAt w B g v ws) (ho : b < 0 ∨ (¬ b < 0 ∧ t < b) ∨ (¬ b < 0 ∧ ¬ t < b ∧ e < t) ∨ (¬ b < 0 ∧ ¬ t < b ∧ ¬ e < t ∧ (ws.length : Int) < e)) :
    Calls Tryd.prog 58 #[.pointer (some ⟨g, 0, none⟩), .int .i64 b, .int .i64 t, .int .i64 e] w fun r w' => r = .returned (.tuple #[.pointer none, .int .i64 1]) ∧ w' = w := by
  have HL := Lib.hid (len_c w B g v ws h)
  obtain ⟨N, hN⟩ : ∃ N, N = ws.length := ⟨_, rfl⟩
  rw [← hN] at HL ho
  clear h hN
  rcases ho with h1 | ⟨h1, h2⟩ | ⟨h1, h2, h3⟩ | ⟨h1, h2, h3, h4⟩
  · go_enter Tryd.func58, Tryd.ntmps58
    go_wp2_with fail
    go_ret2
    exact ⟨rfl, rfl⟩
  · go_enter Tryd.func58, Tryd.ntmps58
    go_wp2_with fail
    go_ret2
    exact ⟨rfl, rfl⟩
  · go_enter Tryd.func58, Tryd.ntmps58
    go_wp2_with fail
    go_ret2
    exact ⟨rfl, rfl⟩
  · go_enter Tryd.func58, Tryd.ntmps58
    go_wp2_with fail
    refine Calls.mono HL.out ?_
    rintro r w1 ⟨rfl, rfl⟩
    go_wp2_with fail
    go_ret2
    exact ⟨rfl, rfl⟩
theorem bare_nil (w : World) (b t e : Int) : Calls Tryd.prog 58 #[.pointer none, .int .i64 b, .int .i64 t, .int .i64 e] w fun r w' => r = .returned (.tuple #[.pointer none, .int .i64 1]) ∧ w' = w := by
  go_enter Tryd.func58, Tryd.ntmps58
  go_wp2_with fail
  go_ret2
  exact ⟨rfl, rfl⟩
theorem snew_in (w : World) (B g : Nat) (v : Value) (ws : List (BitVec 64)) (b e : Nat) (h : MemAt w B g v ws) (hbe : b ≤ e) (hel : e ≤ ws.length) (hl : ws.length ≤ 100000) :
    Calls Tryd.prog 23 #[.pointer (some ⟨g, 0, none⟩), .int .i64 b, .int .i64 e] w fun r w' => ∃ s, r = .returned (.tuple #[.pointer (some ⟨s, 0, none⟩), .int .i64 0]) ∧ SpAt w' B s g v ws b b e ∧ Below w.heap.size w w' := by
  have HB := Lib.hid (bare_in w B g v ws b b e h (Nat.le_refl _) hbe hel hl)
  clear h hbe hel hl
  go_enter Tryd.func23, Tryd.ntmps23
  go_wp2_with fail
  refine Calls.mono HB.out ?_
  rintro r w1 ⟨s, rfl, h1, b1⟩
  go_wp2_with fail
  go_ret2
  exact ⟨s, rfl, h1, b1⟩
theorem snew_out (w : World) (m : Value) (b e : Int) (hb : Calls Tryd.prog 58 #[m, .int .i64 b, .int .i64 b, .int .i64 e] w fun r w' => r = .returned (.tuple #[.pointer none, .int .i64 1]) ∧ w' = w) :
    Calls Tryd.prog 23 #[m, .int .i64 b, .int .i64 e] w fun r w' => r = .returned (.tuple #[.pointer none, .int .i64 1]) ∧ w' = w := by
  have HB := Lib.hid hb
  clear hb
  go_enter Tryd.func23, Tryd.ntmps23
  go_wp2_with fail
  refine Calls.mono HB.out ?_
  rintro r w1 ⟨rfl, rfl⟩
  go_wp2_with fail
  go_ret2
  exact ⟨rfl, rfl⟩
theorem free_r (Q : Exit → Act → World → Prop) (a0 : Act) (w : World) (s x y n : Nat) (hs : s < w.heap.size) (c1 : w.cell? ⟨s, 3, none⟩ = some (.int .i64 x)) (c2 : w.cell? ⟨s, 2, none⟩ = some (.int .i64 y)) (d1 : (x : Int) - (y : Int) = (n : Int)) (d2 : (n : Int) ≤ 100000) (d3 : (0 : Int) ≤ (n : Int)) (hsz : a0.tmps.size = 12) (sl0 : a0.tmps.getD 0 undef = .pointer (some ⟨s, 0, none⟩))
    (fin : ∀ (vals : Nat → Value) (w1 : World), Below w.heap.size w w1 → (IsV (.int .i64 n)) (vals 9) w1 → Q .normal (putD vals [3, 4, 5, 6, 7, 8, 9, 10, 11, 2] 0 a0) w1) :
    (Code.region 1 (regIn Tryd.f41 1) true).wp Tryd.prog Q a0 w := by
  refine region_by (G := fun w w1 => Below w.heap.size w w1) [IsV (.pointer (some ⟨s, 0, none⟩)),
    IsV (.pointer (some ⟨s, 0, none⟩)),
    IsV (.pointer (some ⟨s, 3, none⟩)),
    IsV (.int .i64 x),
    IsV (.pointer (some ⟨s, 0, none⟩)),
    IsV (.pointer (some ⟨s, 0, none⟩)),
    IsV (.pointer (some ⟨s, 2, none⟩)),
    IsV (.int .i64 y),
    IsV (.int .i64 n),
    IsV (.int .i64 n)]
    [3, 4, 5, 6, 7, 8, 9, 10, 11, 2] (by kernel_rfl) (Gw.drew _) Gw.trans (by rw [hsz]; kernel_rfl) (by kernel_rfl) ?_ ?_ ?_
  · intro f hf
    simp only [List.mem_cons, List.not_mem_nil, or_false] at hf
    rcases hf with rfl | rfl | rfl | rfl | rfl | rfl | rfl | rfl | rfl | rfl <;> intro v a b h g <;> first | exact IsV.mono h
  · refine ⟨?_, ?_, ?_, ?_, ?_, ?_, ?_, ?_, ?_, ?_, trivial⟩
    · exact owes_mv 0 (by kernel_rfl) (by kernel_rfl) (by kernel_rfl) sl0 (fun _ => rfl)
    · refine owes_v (Go.Op.nilCheck (Go.Operand.tmp 3)) 0 [0] (by kernel_rfl) (by kernel_rfl) (by kernel_rfl) rfl fun vals w1 ρ hG hF hρ hcst hfun => ?_
      have e3 : ρ (.tmp 3) = .pointer (some ⟨s, 0, none⟩) := ((hρ 3).trans (slotJ [0] (by rw [hsz]; decide) (by kernel_rfl))).trans (hF 0 (by decide))
      clear hρ hF hcst hfun sl0 fin
      exact opv_val (by go_simp <;> rfl) ⟨gw_self _, rfl⟩
    · refine owes_v (Go.Op.fieldAddr 65 (Go.Operand.tmp 4) 3) 0 [1] (by kernel_rfl) (by kernel_rfl) (by kernel_rfl) rfl fun vals w1 ρ hG hF hρ hcst hfun => ?_
      have e4 : ρ (.tmp 4) = .pointer (some ⟨s, 0, none⟩) := ((hρ 4).trans (slotJ [1] (by rw [hsz]; decide) (by kernel_rfl))).trans (hF 1 (by decide))
      clear hρ hF hcst hfun sl0 fin
      exact opv_val (by go_simp <;> rfl) ⟨gw_self _, rfl⟩
    · refine owes_v (Go.Op.load 3 (Go.Operand.tmp 5)) 3 [2] (by kernel_rfl) (by kernel_rfl) (by kernel_rfl) rfl fun vals w1 ρ hG hF hρ hcst hfun => ?_
      have e5 : ρ (.tmp 5) = .pointer (some ⟨s, 3, none⟩) := ((hρ 5).trans (slotJ [2] (by rw [hsz]; decide) (by kernel_rfl))).trans (hF 2 (by decide))
      have k := (hG.cell (p := ⟨s, 3, none⟩) hs).trans c1
      clear hρ hF hcst hfun sl0 fin
      exact opv_val (by go_simp <;> rfl) ⟨gw_self _, rfl⟩
    · exact owes_mv 0 (by kernel_rfl) (by kernel_rfl) (by kernel_rfl) sl0 (fun _ => rfl)
    · refine owes_v (Go.Op.nilCheck (Go.Operand.tmp 7)) 0 [4] (by kernel_rfl) (by kernel_rfl) (by kernel_rfl) rfl fun vals w1 ρ hG hF hρ hcst hfun => ?_
      have e7 : ρ (.tmp 7) = .pointer (some ⟨s, 0, none⟩) := ((hρ 7).trans (slotJ [4] (by rw [hsz]; decide) (by kernel_rfl))).trans (hF 4 (by decide))
      clear hρ hF hcst hfun sl0 fin
      exact opv_val (by go_simp <;> rfl) ⟨gw_self _, rfl⟩
    · refine owes_v (Go.Op.fieldAddr 65 (Go.Operand.tmp 8) 2) 0 [5] (by kernel_rfl) (by kernel_rfl) (by kernel_rfl) rfl fun vals w1 ρ hG hF hρ hcst hfun => ?_
      have e8 : ρ (.tmp 8) = .pointer (some ⟨s, 0, none⟩) := ((hρ 8).trans (slotJ [5] (by rw [hsz]; decide) (by kernel_rfl))).trans (hF 5 (by decide))
      clear hρ hF hcst hfun sl0 fin
      exact opv_val (by go_simp <;> rfl) ⟨gw_self _, rfl⟩
    · refine owes_v (Go.Op.load 3 (Go.Operand.tmp 9)) 3 [6] (by kernel_rfl) (by kernel_rfl) (by kernel_rfl) rfl fun vals w1 ρ hG hF hρ hcst hfun => ?_
      have e9 : ρ (.tmp 9) = .pointer (some ⟨s, 2, none⟩) := ((hρ 9).trans (slotJ [6] (by rw [hsz]; decide) (by kernel_rfl))).trans (hF 6 (by decide))
      have k := (hG.cell (p := ⟨s, 2, none⟩) hs).trans c2
      clear hρ hF hcst hfun sl0 fin
      exact opv_val (by go_simp <;> rfl) ⟨gw_self _, rfl⟩
    · refine owes_v (Go.Op.binOp Go.BinOp.sub 3 (Go.Operand.tmp 6) (Go.Operand.tmp 10) 3) 3 [3, 7] (by kernel_rfl) (by kernel_rfl) (by kernel_rfl) rfl fun vals w1 ρ hG hF hρ hcst hfun => ?_
      have e6 : ρ (.tmp 6) = .int .i64 x := ((hρ 6).trans (slotJ [3, 7] (by rw [hsz]; decide) (by kernel_rfl))).trans (hF 3 (by decide))
      have e10 : ρ (.tmp 10) = .int .i64 y := ((hρ 10).trans (slotJ [3, 7] (by rw [hsz]; decide) (by kernel_rfl))).trans (hF 7 (by decide))
      have kw0 : IntKind.i64.wrap ((n : Int)) = (n : Int) := wrapIn (by omega) (by omega)
      clear hρ hF hcst hfun sl0 fin
      exact opv_val (by go_simp <;> rfl) ⟨gw_self _, rfl⟩
    · exact owes_mvj 8 11 (by kernel_rfl) (by kernel_rfl) (by kernel_rfl) (by kernel_rfl) (by rw [hsz]; decide) (fun v w h => h)
  · intro vals w1 hG hF
    exact fin vals w1 hG (hF 9 (by decide +kernel))
theorem free_c (w : World) (B s g : Nat) (v : Value) (ws : List (BitVec 64)) (b t e : Nat) (p : SpAt w B s g v ws b t e) (hl : ws.length ≤ 100000) :
    Calls Tryd.prog 41 #[.pointer (some ⟨s, 0, none⟩)] w fun r w' => r = .returned (.int .i64 ((e - t : Nat) : Int)) ∧ Below w.heap.size w w' := by
  obtain ⟨c0, c1, c2, c3⟩ := p.four
  have HLT := p.blk.lt
  obtain ⟨n, hn⟩ : ∃ n, n = e - t := ⟨_, rfl⟩
  have d1 : (e : Int) - (t : Int) = (n : Int) := by have := p.te; omega
  have d2 : (n : Int) ≤ 100000 := by have := p.el; omega
  have d3 : (0 : Int) ≤ (n : Int) := by omega
  rw [← hn]
  clear p hn hl
  go_enter Tryd.func41, Tryd.ntmps41
  go_wp2_with fail
  refine free_r _ _ _ s e t n HLT c3 c2 d1 d2 d3 rfl rfl ?_
  intro vals w1 hG h1
  unfold IsV at h1
  simp only [putD, Act.put, List.setIfInBounds_toArray, List.set_cons_zero, List.set_cons_succ, h1]
  clear h1
  go_wp2_with fail
  go_ret
  exact ⟨rfl, hG⟩
theorem used_r (Q : Exit → Act → World → Prop) (a0 : Act) (w : World) (s x y n : Nat) (hs : s < w.heap.size) (c1 : w.cell? ⟨s, 2, none⟩ = some (.int .i64 x)) (c2 : w.cell? ⟨s, 1, none⟩ = some (.int .i64 y)) (d1 : (x : Int) - (y : Int) = (n : Int)) (d2 : (n : Int) ≤ 100000) (d3 : (0 : Int) ≤ (n : Int)) (hsz : a0.tmps.size = 12) (sl0 : a0.tmps.getD 0 undef = .pointer (some ⟨s, 0, none⟩))
    (fin : ∀ (vals : Nat → Value) (w1 : World), Below w.heap.size w w1 → (IsV (.int .i64 n)) (vals 9) w1 → Q .normal (putD vals [3, 4, 5, 6, 7, 8, 9, 10, 11, 2] 0 a0) w1) :
    (Code.region 1 (regIn Tryd.f40 1) true).wp Tryd.prog Q a0 w := by
  refine region_by (G := fun w w1 => Below w.heap.size w w1) [IsV (.pointer (some ⟨s, 0, none⟩)),
    IsV (.pointer (some ⟨s, 0, none⟩)),
    IsV (.pointer (some ⟨s, 2, none⟩)),
    IsV (.int .i64 x),
    IsV (.pointer (some ⟨s, 0, none⟩)),
    IsV (.pointer (some ⟨s, 0, none⟩)),
    IsV (.pointer (some ⟨s, 1, none⟩)),
    IsV (.int .i64 y),
    IsV (.int .i64 n),
    IsV (.int .i64 n)]
    [3, 4, 5, 6, 7, 8, 9, 10, 11, 2] (by kernel_rfl) (Gw.drew _) Gw.trans (by rw [hsz]; kernel_rfl) (by kernel_rfl) ?_ ?_ ?_
  · intro f hf
    simp only [List.mem_cons, List.not_mem_nil, or_false] at hf
    rcases hf with rfl | rfl | rfl | rfl | rfl | rfl | rfl | rfl | rfl | rfl <;> intro v a b h g <;> first | exact IsV.mono h
  · refine ⟨?_, ?_, ?_, ?_, ?_, ?_, ?_, ?_, ?_, ?_, trivial⟩
    · exact owes_mv 0 (by kernel_rfl) (by kernel_rfl) (by kernel_rfl) sl0 (fun _ => rfl)
    · refine owes_v (Go.Op.nilCheck (Go.Operand.tmp 3)) 0 [0] (by kernel_rfl) (by kernel_rfl) (by kernel_rfl) rfl fun vals w1 ρ hG hF hρ hcst hfun => ?_
      have e3 : ρ (.tmp 3) = .pointer (some ⟨s, 0, none⟩) := ((hρ 3).trans (slotJ [0] (by rw [hsz]; decide) (by kernel_rfl))).trans (hF 0 (by decide))
      clear hρ hF hcst hfun sl0 fin
      exact opv_val (by go_simp <;> rfl) ⟨gw_self _, rfl⟩
    · refine owes_v (Go.Op.fieldAddr 65 (Go.Operand.tmp 4) 2) 0 [1] (by kernel_rfl) (by kernel_rfl) (by kernel_rfl) rfl fun vals w1 ρ hG hF hρ hcst hfun => ?_
      have e4 : ρ (.tmp 4) = .pointer (some ⟨s, 0, none⟩) := ((hρ 4).trans (slotJ [1] (by rw [hsz]; decide) (by kernel_rfl))).trans (hF 1 (by decide))
      clear hρ hF hcst hfun sl0 fin
      exact opv_val (by go_simp <;> rfl) ⟨gw_self _, rfl⟩
    · refine owes_v (Go.Op.load 3 (Go.Operand.tmp 5)) 3 [2] (by kernel_rfl) (by kernel_rfl) (by kernel_rfl) rfl fun vals w1 ρ hG hF hρ hcst hfun => ?_
      have e5 : ρ (.tmp 5) = .pointer (some ⟨s, 2, none⟩) := ((hρ 5).trans (slotJ [2] (by rw [hsz]; decide) (by kernel_rfl))).trans (hF 2 (by decide))
      have k := (hG.cell (p := ⟨s, 2, none⟩) hs).trans c1
      clear hρ hF hcst hfun sl0 fin
      exact opv_val (by go_simp <;> rfl) ⟨gw_self _, rfl⟩
    · exact owes_mv 0 (by kernel_rfl) (by kernel_rfl) (by kernel_rfl) sl0 (fun _ => rfl)
    · refine owes_v (Go.Op.nilCheck (Go.Operand.tmp 7)) 0 [4] (by kernel_rfl) (by kernel_rfl) (by kernel_rfl) rfl fun vals w1 ρ hG hF hρ hcst hfun => ?_
      have e7 : ρ (.tmp 7) = .pointer (some ⟨s, 0, none⟩) := ((hρ 7).trans (slotJ [4] (by rw [hsz]; decide) (by kernel_rfl))).trans (hF 4 (by decide))
      clear hρ hF hcst hfun sl0 fin
      exact opv_val (by go_simp <;> rfl) ⟨gw_self _, rfl⟩
    · refine owes_v (Go.Op.fieldAddr 65 (Go.Operand.tmp 8) 1) 0 [5] (by kernel_rfl) (by kernel_rfl) (by kernel_rfl) rfl fun vals w1 ρ hG hF hρ hcst hfun => ?_
      have e8 : ρ (.tmp 8) = .pointer (some ⟨s, 0, none⟩) := ((hρ 8).trans (slotJ [5] (by rw [hsz]; decide) (by kernel_rfl))).trans (hF 5 (by decide))
      clear hρ hF hcst hfun sl0 fin
      exact opv_val (by go_simp <;> rfl) ⟨gw_self _, rfl⟩
    · refine owes_v (Go.Op.load 3 (Go.Operand.tmp 9)) 3 [6] (by kernel_rfl) (by kernel_rfl) (by kernel_rfl) rfl fun vals w1 ρ hG hF hρ hcst hfun => ?_
      have e9 : ρ (.tmp 9) = .pointer (some ⟨s, 1, none⟩) := ((hρ 9).trans (slotJ [6] (by rw [hsz]; decide) (by kernel_rfl))).trans (hF 6 (by decide))
      have k := (hG.cell (p := ⟨s, 1, none⟩) hs).trans c2
      clear hρ hF hcst hfun sl0 fin
      exact opv_val (by go_simp <;> rfl) ⟨gw_self _, rfl⟩
    · refine owes_v (Go.Op.binOp Go.BinOp.sub 3 (Go.Operand.tmp 6) (Go.Operand.tmp 10) 3) 3 [3, 7] (by kernel_rfl) (by kernel_rfl) (by kernel_rfl) rfl fun vals w1 ρ hG hF hρ hcst hfun => ?_
      have e6 : ρ (.tmp 6) = .int .i64 x := ((hρ 6).trans (slotJ [3, 7] (by rw [hsz]; decide) (by kernel_rfl))).trans (hF 3 (by decide))
      have e10 : ρ (.tmp 10) = .int .i64 y := ((hρ 10).trans (slotJ [3, 7] (by rw [hsz]; decide) (by kernel_rfl))).trans (hF 7 (by decide))
      have kw0 : IntKind.i64.wrap ((n : Int)) = (n : Int) := wrapIn (by omega) (by omega)
      clear hρ hF hcst hfun sl0 fin
      exact opv_val (by go_simp <;> rfl) ⟨gw_self _, rfl⟩
    · exact owes_mvj 8 11 (by kernel_rfl) (by kernel_rfl) (by kernel_rfl) (by kernel_rfl) (by rw [hsz]; decide) (fun v w h => h)
  · intro vals w1 hG hF
    exact fin vals w1 hG (hF 9 (by decide +kernel))
theorem used_c (w : World) (B s g : Nat) (v : Value) (ws : List (BitVec 64)) (b t e : Nat) (p : SpAt w B s g v ws b t e) (hl : ws.length ≤ 100000) :
    Calls Tryd.prog 40 #[.pointer (some ⟨s, 0, none⟩)] w fun r w' => r = .returned (.int .i64 ((t - b : Nat) : Int)) ∧ Below w.heap.size w w' := by
  obtain ⟨c0, c1, c2, c3⟩ := p.four
  have HLT := p.blk.lt
  obtain ⟨n, hn⟩ : ∃ n, n = t - b := ⟨_, rfl⟩
  have d1 : (t : Int) - (b : Int) = (n : Int) := by have := p.bt; omega
  have d2 : (n : Int) ≤ 100000 := by have := p.el; have := p.te; omega
  have d3 : (0 : Int) ≤ (n : Int) := by omega
  rw [← hn]
  clear p hn hl
  go_enter Tryd.func40, Tryd.ntmps40
  go_wp2_with fail
  refine used_r _ _ _ s t b n HLT c2 c1 d1 d2 d3 rfl rfl ?_
  intro vals w1 hG h1
  unfold IsV at h1
  simp only [putD, Act.put, List.setIfInBounds_toArray, List.set_cons_zero, List.set_cons_succ, h1]
  clear h1
  go_wp2_with fail
  go_ret
  exact ⟨rfl, hG⟩
/-- k words from a on made 0. -/
def zeroW (ws : List (BitVec 64)) (a : Nat) : Nat → List (BitVec 64)
  | 0 => ws
  | k + 1 => (zeroW ws a k).set (a + k) 0#64
theorem zeroW_len (ws : List (BitVec 64)) (a k : Nat) : (zeroW ws a k).length = ws.length := by
  induction k with
  | zero => rfl
  | succ k ih => show (List.set _ _ _).length = _; rw [List.length_set, ih]
theorem zeroW_get (ws : List (BitVec 64)) (a i : Nat) : ∀ k, a + k ≤ ws.length → (zeroW ws a k)[i]? = if a ≤ i ∧ i < a + k then some 0#64 else ws[i]?
  | 0, _ => by
    rw [if_neg (by omega)]; rfl
  | k + 1, h => by
    show ((zeroW ws a k).set (a + k) 0#64)[i]? = _
    rw [List.getElem?_set, zeroW_get ws a i k (by omega)]
    by_cases e : a + k = i
    · subst e
      rw [if_pos rfl, if_pos (by rw [zeroW_len]; omega), if_pos (by omega)]
    · rw [if_neg e]
      by_cases c : a ≤ i ∧ i < a + k
      · rw [if_pos c, if_pos (by omega)]
      · rw [if_neg c, if_neg (by omega)]
theorem zero_c (w : World) (B s g : Nat) (v : Value) (ws : List (BitVec 64)) (b t e a z : Nat) (p : SpAt w B s g v ws b t e) (ha : a ≤ z) (hz : z ≤ ws.length) (hl : ws.length ≤ 100000) :
    Calls Tryd.prog 61 #[.pointer (some ⟨s, 0, none⟩), .int .i64 a, .int .i64 z] w fun r w' => r = .returned (.tuple #[]) ∧ SpAt w' B s g v (zeroW ws a (z - a)) b t e ∧ w.grownBy w' v.ownBlock := by
  have HP := Lib.hid p
  obtain ⟨N, hN⟩ : ∃ N, N = ws.length := ⟨_, rfl⟩
  have HLen := Lib.hid (fun W ws' (h : MemAt W B g v ws') (hl' : ws'.length = N) => show Calls Tryd.prog 64 #[.pointer (some ⟨g, 0, none⟩)] W fun e w' => e = .returned (.int .i64 N) ∧ w' = W from by
    have k := len_c W B g v ws' h
    rw [hl'] at k
    exact k)
  have HSet := Lib.hid (fun W ws' (h : MemAt W B g v ws') (hl' : ws'.length = N) (i : Nat) (hi : i < N) => show Calls Tryd.prog 33 #[.pointer (some ⟨g, 0, none⟩), .int .i64 i, .int .u64 0] W fun e w' => e = .returned (.int .i64 0) ∧ MemAt w' B g v (ws'.set i 0#64) ∧ W.grownBy w' v.ownBlock from by
    have k := set_in W B g v ws' i 0#64 (by omega) (by omega) h
    rw [show U64 0#64 = 0 from by decide +kernel] at k
    exact k)
  have HN := Lib.hid hN
  have q1 : (z : Int) ≤ (N : Int) := by omega
  have q2 : (N : Int) ≤ 100000 := by omega
  have q3 : (0 : Int) ≤ (a : Int) := by omega
  have q4 : (a : Int) ≤ (z : Int) := by omega
  clear p hN ha hz hl
  go_enter Tryd.func61, Tryd.ntmps61
  go_wp2_with fail
  go_loopw [6] (fun i W => ∃ k : Nat, a + k ≤ z ∧ i = .int .i64 ((a + k : Nat) : Int) ∧ SpAt W B s g v (zeroW ws a k) b t e ∧ w.grownBy W v.ownBlock) (fun i _ => z - (intOf i).toNat)
  case atStart => exact ⟨0, by omega, by first | rfl | (simp; done) | go_num, HP.out, grown_refl _ _⟩
  case round =>
    obtain ⟨k, hk, rfl, hp, hg⟩ := hrel
    obtain ⟨c0, c1, c2, c3⟩ := hp.four
    have hzl : (zeroW ws a k).length = N := by rw [zeroW_len]; exact HN.out.symm
    have KL := Lib.hid (HLen.out wr _ hp.mem hzl)
    obtain ⟨j, hj⟩ : ∃ j, j = a + k := ⟨_, rfl⟩
    rw [← hj] at hk ⊢
    have HPP := Lib.hid (And.intro hp hg)
    have p1 : (0 : Int) ≤ (j : Int) := by omega
    by_cases hlt : j < z
    · have KS := Lib.hid (HSet.out wr _ hp.mem hzl j (by omega))
      have HZL := Lib.hid hzl
      have HJ := Lib.hid hj
      clear hp hg hzl hj
      go_wp2_with fail
      refine Calls.mono KL.out ?_
      rintro r w3 ⟨rfl, rfl⟩
      go_wp2_with fail
      refine Calls.mono KS.out ?_
      rintro r w4 ⟨rfl, hm4, hg4⟩
      have h5 : SpAt w4 B s g v (zeroW ws a (k + 1)) b t e ∧ w.grownBy w4 v.ownBlock := by
        have e : zeroW ws a (k + 1) = (zeroW ws a k).set j 0#64 := by rw [HJ.out]; rfl
        rw [e]
        exact ⟨HPP.out.1.memTo hm4 hg4 (by rw [List.length_set]), HPP.out.2.trans hg4⟩
      have H5 := Lib.hid h5
      clear h5 hm4 hg4 KL KS
      go_wp2_with fail
      go_roundw
      case rel => exact ⟨k + 1, by have := HJ.out; omega, by have := HJ.out; go_num, H5.out.1, H5.out.2⟩
      case measure => (first | (simp [intOf]; done) | (simp [intOf]; omega))
    · have hjz : z - a = k := by omega
      have HJZ := Lib.hid hjz
      clear hp hg hzl hj hjz
      go_wp2_with fail
      refine Calls.mono KL.out ?_
      rintro r w3 ⟨rfl, rfl⟩
      go_wp2_with fail
      go_end0
      rw [HJZ.out]
      exact ⟨rfl, HPP.out.1, HPP.out.2⟩
end Go.Proofs.YtfodefgihicafaaDoor
