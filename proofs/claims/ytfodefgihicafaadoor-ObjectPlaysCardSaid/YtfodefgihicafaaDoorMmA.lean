/- mem: inside, New, Len. Conditions: 64-bit numbers. -/
import Derived.Test.YtfodefgihicafaaDoorRegV
import Derived.Test.YtfodefgihicafaaDoorBitsB
import Derived.LoopTactic
namespace Go.Proofs.YtfodefgihicafaaDoor
set_option linter.unusedVariables false
set_option linter.unusedSimpArgs false
open Go.RowKit
def u64v (x : BitVec 64) : Value := .int .u64 (U64 x)
def inM (L at_ n : Int) : Bool := decide (0 ≤ n) && (decide (0 ≤ at_) && (decide (n ≤ L) && decide (at_ ≤ L - n)))
/-- Block g holds words in a row of the call's own. -/
structure MemAt (w : World) (B g : Nat) (v : Value) (ws : List (BitVec 64)) : Prop where
  blk : Bk w g 112 #[v]
  ge : B ≤ g
  row : Ow u64v 68 w B v ws
  ne : v.ownBlock ≠ some g
theorem Rd.grown {α : Type} {f : α → Value} {w w' : World} {row : Option Nat} {A : Option Addr} {xs : List α} (h : Rd f w w.heap.size A xs) (hg : w.grownBy w' row) (ha : ∀ a, A = some a → some a.block ≠ row) : Rd f w' w'.heap.size A xs := fun j hj => by
  obtain ⟨ad, e, hb, hc⟩ := h j hj
  have hs := hg.size
  refine ⟨ad, e, by omega, ?_⟩
  rw [← hc]
  exact World.cell?_of_block (by rw [add_block]; exact hg.block _ hb (ha ad e))
theorem grown_refl (w : World) (row : Option Nat) : w.grownBy w row := ⟨rfl, rfl, rfl, Nat.le_refl _, fun _ _ _ => rfl⟩
theorem grown_set (w : World) (a : Addr) (u : Value) : w.grownBy (w.setCell a u) (some a.block) :=
  ⟨rfl, rfl, rfl, by simp [World.setCell], fun k _ hne => Below.heap_setCell _ _ _ _ (fun e => hne (by rw [e]))⟩
theorem grown_draw {w w' : World} {row : Option Nat} (h : w.grownBy w' row) : w.grownBy w'.drew row := ⟨h.os, h.tape, h.output, h.size, h.block⟩
theorem grown_below {w w' : World} {q B : Nat} (h : w.grownBy w' (some q)) (hB : B ≤ q) (hs : B ≤ w.heap.size) : Below B w w' := below_of_grown h hs (fun k e => by injection e with e; omega)
theorem MemAt.below {w w' : World} {B g : Nat} {v : Value} {ws : List (BitVec 64)} (h : MemAt w B g v ws) (hb : Below w.heap.size w w') : MemAt w' B g v ws := ⟨h.blk.below hb h.blk.lt, h.ge, h.row.below hb, h.ne⟩
theorem MemAt.grown {w w' : World} {row : Option Nat} {B g : Nat} {v : Value} {ws : List (BitVec 64)} (h : MemAt w B g v ws) (hg : w.grownBy w' row) (h1 : some g ≠ row) (h2 : v.ownBlock = none ∨ v.ownBlock ≠ row) : MemAt w' B g v ws := ⟨(hg.block g h.blk.lt h1).trans h.blk, h.ge, h.row.kept hg h2, h.ne⟩
theorem MemAt.le {w : World} {B g : Nat} {v : Value} {ws : List (BitVec 64)} (h : MemAt w B g v ws) : B ≤ w.heap.size := Nat.le_of_lt (Nat.lt_of_le_of_lt h.ge h.blk.lt)
theorem MemAt.own {w w' : World} {B g : Nat} {v : Value} {ws : List (BitVec 64)} (h : MemAt w B g v ws) (hg : w.grownBy w' v.ownBlock) : Below B w w' := below_of_grown hg h.le (fun k e => (h.row.lt k e).1)
theorem grown_none {w w' : World} (h : Below w.heap.size w w') (row : Option Nat) : w.grownBy w' row := ⟨h.os, h.tape, h.output, h.size, fun k hk _ => h.block k hk⟩
set_option maxHeartbeats 400000
theorem insideM_c (w : World) (L at_ n : Int) (hL : 0 ≤ L) (hL2 : L ≤ 1000000) (ha : -9223372036854775808 ≤ at_) (ha2 : at_ ≤ 9223372036854775807) (hn : -9223372036854775808 ≤ n) (hn2 : n ≤ 9223372036854775807) :
    Calls Tryd.prog 63 #[.int .i64 L, .int .i64 at_, .int .i64 n] w fun e w' => e = .returned (.bool (inM L at_ n)) ∧ w' = w := by
  unfold inM
  obtain ⟨r1, t1⟩ : ∃ r, decide (0 ≤ n) = r := ⟨_, rfl⟩
  obtain ⟨r2, t2⟩ : ∃ r, decide (0 ≤ at_) = r := ⟨_, rfl⟩
  obtain ⟨r3, t3⟩ : ∃ r, decide (n ≤ L) = r := ⟨_, rfl⟩
  obtain ⟨r4, t4⟩ : ∃ r, decide (at_ ≤ L - n) = r := ⟨_, rfl⟩
  rw [t1, t2, t3, t4]
  cases r1 <;> cases r2 <;> cases r3
  all_goals
    go_enter Tryd.func63, Tryd.ntmps63
    go_wp2_with fail
    all_goals first
      | (go_ret; exact ⟨rfl, rfl⟩)
      | (go_ret
         have k : wrap64 (L - n) = L - n := by
           have k1 := of_decide_eq_true t1
           have k3 := of_decide_eq_true t3
           unfold wrap64
           omega
         exact ⟨by rw [k, t4]; rfl, rfl⟩)
theorem len_c (w : World) (B g : Nat) (v : Value) (ws : List (BitVec 64)) (h : MemAt w B g v ws) :
    Calls Tryd.prog 64 #[.pointer (some ⟨g, 0, none⟩)] w fun e w' => e = .returned (.int .i64 ws.length) ∧ w' = w := by
  obtain ⟨A, c, e, hc⟩ := h.row.form
  subst e
  have c0 := h.blk.cell 0
  obtain ⟨N, hN⟩ : ∃ N, N = ws.length := ⟨_, rfl⟩
  rw [← hN] at c0 ⊢
  clear hN hc
  go_enter Tryd.func64, Tryd.ntmps64
  go_wp2
  go_ret
  exact ⟨rfl, rfl⟩
/-- What Get answers of words: at a place of theirs. -/
theorem get_in (w : World) (B g : Nat) (v : Value) (ws : List (BitVec 64)) (i : Nat) (hi : i < ws.length) (hl : ws.length ≤ 100000) (h : MemAt w B g v ws) :
    Calls Tryd.prog 28 #[.pointer (some ⟨g, 0, none⟩), .int .i64 i] w fun e w' => e = .returned (.tuple #[.int .u64 (U64 ws[i]), .int .i64 0]) ∧ w' = w := by
  have HL := Lib.hid (len_c w B g v ws h)
  have HI := Lib.hid (insideM_c w (ws.length : Int) (i : Int) 1 (by omega) (by omega) (by omega) (by omega) (by decide) (by decide))
  rw [show inM (ws.length : Int) (i : Int) 1 = true from by unfold inM; simp; omega] at HI
  obtain ⟨A, c, e, hc⟩ := h.row.form
  subst e
  have c0 := h.blk.cell 0
  obtain ⟨ad, rfl, hb, hcell⟩ := h.row.rd i hi
  obtain ⟨x, hx⟩ : ∃ x, x = ws[i] := ⟨_, rfl⟩
  rw [← hx] at hcell ⊢
  unfold u64v at hcell
  obtain ⟨N, hN⟩ : ∃ N, N = ws.length := ⟨_, rfl⟩
  rw [← hN] at c0 hi HL HI
  have p1 : (0 : Int) ≤ (i : Int) := by omega
  have p2 : (i : Int) < (N : Int) := by omega
  clear hN hc hx
  go_enter Tryd.func28, Tryd.ntmps28
  go_wp2_with fail
  refine Calls.mono HL.out ?_
  rintro e w1 ⟨rfl, rfl⟩
  go_wp2_with fail
  refine Calls.mono HI.out ?_
  rintro e w2 ⟨rfl, rfl⟩
  go_wp2_with fail
  go_ret2
  exact ⟨rfl, rfl⟩
theorem get_out (w : World) (B g : Nat) (v : Value) (ws : List (BitVec 64)) (i : Int) (hi : inM (ws.length : Int) i 1 = false) (hl : ws.length ≤ 100000) (ha : -9223372036854775808 ≤ i) (ha2 : i ≤ 9223372036854775807) (h : MemAt w B g v ws) :
    Calls Tryd.prog 28 #[.pointer (some ⟨g, 0, none⟩), .int .i64 i] w fun e w' => e = .returned (.tuple #[.int .u64 0, .int .i64 1]) ∧ w' = w := by
  have HL := Lib.hid (len_c w B g v ws h)
  have HI := Lib.hid (insideM_c w (ws.length : Int) i 1 (by omega) (by omega) ha ha2 (by decide) (by decide))
  rw [hi] at HI
  clear hi
  go_enter Tryd.func28, Tryd.ntmps28
  go_wp2_with fail
  refine Calls.mono HL.out ?_
  rintro e w1 ⟨rfl, rfl⟩
  go_wp2_with fail
  refine Calls.mono HI.out ?_
  rintro e w2 ⟨rfl, rfl⟩
  go_wp2_with fail
  go_ret2
  exact ⟨rfl, rfl⟩
theorem one64 : One Tryd.prog 22 68 (.int .u64 0) 8 :=
  ⟨by kernel_rfl, by
    have h : (Tryd.prog.info? 68).map (fun i => (i.zero, i.size, i.bytes)) = some (some (.int .u64 0), 1, 8) := by kernel_rfl
    obtain ⟨i, h1, h2, h3, h4⟩ := info_parts h
    exact ⟨i, h1, h2, h3, h4⟩, rfl⟩
theorem new_in (w : World) (n : Nat) (hn : n ≤ 8192) :
    Calls Tryd.prog 22 #[.int .i64 n] w fun e w' => ∃ g v, e = .returned (.tuple #[.pointer (some ⟨g, 0, none⟩), .int .i64 0]) ∧ MemAt w' w.heap.size g v (List.replicate n 0#64) ∧ Below w.heap.size w w' := by
  have t1 : decide ((n : Int) < 0) = false := by simp
  have t2 : decide ((8192 : Int) < (n : Int)) = false := by simp; omega
  go_enter Tryd.func22, Tryd.ntmps22
  go_wp2_with (at_make; refine wp_make (f := u64v) one64 rfl _ _ rfl 0#64 rfl w.heap.size n _ _ _ _ rfl rfl rfl rfl (by omega) (by decide) (Nat.le_refl _) ?_; rintro q w2 hq ho2 hb2 _)
  go_ret2
  rw [hq] at ho2
  have hq2 : w.heap.size < w2.heap.size := ho2.ge.2
  have hsz := hb2.size
  refine ⟨w2.heap.size, .slice (some ⟨w.heap.size, 0, none⟩) n n, rfl, ⟨Bk.new w2 _ _, hsz, ho2.alloc _, fun e => ?_⟩, hb2.alloc hsz _⟩
  injection e with e
  have e2 : w.heap.size = w2.heap.size := e
  clear e
  omega
theorem new_out (w : World) (n : Int) (h : n < 0 ∨ 8192 < n) (h1 : -9223372036854775808 ≤ n) (h2 : n ≤ 9223372036854775807) :
    Calls Tryd.prog 22 #[.int .i64 n] w fun e w' => e = .returned (.tuple #[.pointer none, .int .i64 1]) ∧ w' = w := by
  rcases (show n < 0 ∨ (¬ n < 0 ∧ 8192 < n) by omega) with h | ⟨h, h3⟩
  · have t1 : decide (n < 0) = true := by simp [h]
    go_enter Tryd.func22, Tryd.ntmps22
    go_wp2_with fail
    go_ret2
    exact ⟨rfl, rfl⟩
  · have t1 : decide (n < 0) = false := by simp [h]
    have t2 : decide ((8192 : Int) < n) = true := by simp [h3]
    go_enter Tryd.func22, Tryd.ntmps22
    go_wp2_with fail
    go_ret2
    exact ⟨rfl, rfl⟩
end Go.Proofs.YtfodefgihicafaaDoor
