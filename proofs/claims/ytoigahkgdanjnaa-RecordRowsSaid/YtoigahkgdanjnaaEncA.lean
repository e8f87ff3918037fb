/- What codec.Enc writes: its bytes behind what it holds. Conditions: lengths. -/
import Derived.Test.YtoigahkgdanjnaaRegT
import Derived.Test.YtoigahkgdanjnaaBel
import Derived.Test.YtoigahkgdanjnaaBitsB
import Derived.LoopTactic
namespace Go.Proofs.Ytoigahkgdanjnaa
set_option linter.unusedVariables false
set_option linter.unusedSimpArgs false
open Go.RowKit
/-- Block g holds a row of the call's own, v, of the bytes bs. -/
structure EncAt (w : World) (B g : Nat) (v : Value) (bs : List (BitVec 8)) : Prop where
  blk : Bk w g 51 #[v]
  ge : B ≤ g
  row : Ow b8 5 w B v bs
  ne : v.ownBlock ≠ some g
/-- Of what was there block g and the row v alone may have turned; the row is what it was, or new. -/
structure Moved (w w' : World) (g : Nat) (v v' : Value) : Prop where
  os : w'.os = w.os
  tape : w'.tape = w.tape
  output : w'.output = w.output
  size : w.heap.size ≤ w'.heap.size
  block : ∀ k, k < w.heap.size → k ≠ g → v.ownBlock ≠ some k → w'.heap[k]? = w.heap[k]?
  own : v'.ownBlock = v.ownBlock ∨ ∀ k, v'.ownBlock = some k → w.heap.size ≤ k
theorem Moved.refl (w : World) (g : Nat) (v : Value) : Moved w w g v v := ⟨rfl, rfl, rfl, Nat.le_refl _, fun _ _ _ _ => rfl, .inl rfl⟩
theorem Moved.trans {a b c : World} {g : Nat} {u v x : Value} (h : Moved a b g u v) (k : Moved b c g v x) : Moved a c g u x :=
  ⟨k.os.trans h.os, k.tape.trans h.tape, k.output.trans h.output, Nat.le_trans h.size k.size, fun i hi h1 h2 => by
    rw [k.block i (Nat.lt_of_lt_of_le hi h.size) h1 ?_, h.block i hi h1 h2]
    rcases h.own with e | e
    · rw [e]; exact h2
    · intro h3
      have := e i h3
      omega, by
    rcases k.own with e | e
    · rcases h.own with e2 | e2
      · left; rw [e, e2]
      · right; intro i hi; rw [e] at hi; exact e2 i hi
    · right; intro i hi; exact Nat.le_trans h.size (e i hi)⟩
theorem Moved.below {w w' : World} {B g : Nat} {v v' : Value} {bs : List (BitVec 8)} (h : Moved w w' g v v') (e : EncAt w B g v bs) : Below B w w' :=
  ⟨h.os, h.tape, h.output, h.size, fun k hk => by
    rcases Nat.lt_or_ge k w.heap.size with hl | hl
    · refine h.block k hl (fun e2 => by have := e.ge; omega) (fun e2 => ?_)
      have := (e.row.lt k e2).1
      omega
    · have := e.blk.lt
      have := e.ge
      omega⟩
theorem Moved.drew {w w' : World} {g : Nat} {v v' : Value} (h : Moved w w' g v v') : Moved w w'.drew g v v' := ⟨h.os, h.tape, h.output, h.size, h.block, h.own⟩
theorem ow_slice {α : Type} {f : α → Value} {E : TypeId} {w : World} {base : Nat} {v : Value} {xs : List α} (h : Ow f E w base v xs) : ∃ A n c, v = .slice A n c := by
  obtain ⟨A, c, e, _⟩ := h.form
  exact ⟨A, _, c, e⟩
theorem bkGrown {w w' : World} {g : Nat} {E : TypeId} {cs : Array Value} {row : Option Nat} (h : Bk w g E cs) (hg : w.grownBy w' row) (hne : some g ≠ row) : Bk w' g E cs := (hg.block g h.lt hne).trans h
theorem enc_step {wr w4 : World} {B g : Nat} {v v' : Value} {xs ys : List (BitVec 8)} {o : Obj} (h : EncAt wr B g v xs) (ho : Ow b8 5 w4 B v' (xs ++ ys)) (hg : (wr.alloc o).grownBy w4 v.ownBlock)
    (hv : v'.ownBlock = v.ownBlock ∨ v'.ownBlock = some (wr.alloc o).heap.size) : EncAt (w4.setCell ⟨g, 0, none⟩ v') B g v' (xs ++ ys) ∧ Moved wr (w4.setCell ⟨g, 0, none⟩ v') g v v' := by
  have hgl := h.blk.lt
  have hb4 : Bk w4 g 51 #[v] := bkGrown (h.blk.alloc o) hg (fun e => h.ne e.symm)
  have hne : v'.ownBlock ≠ some g := by
    rcases hv with e | e
    · rw [e]; exact h.ne
    · rw [e]; intro h2; injection h2 with h2; simp at h2; omega
  refine ⟨⟨hb4.set 0 v', h.ge, ?_, hne⟩, ?_⟩
  · obtain ⟨h1, h2⟩ := ho
    refine ⟨h1, ?_⟩
    rcases h2 with h2 | ⟨g', cap, cur, e, hB, hh, r⟩
    · exact .inl h2
    · refine .inr ⟨g', cap, cur, e, hB, ?_, r⟩
      rw [Below.heap_setCell]
      · exact hh
      · intro e2
        subst e2
        exact hne (by rw [e]; rfl)
  · refine ⟨hg.os, hg.tape, hg.output, ?_, ?_, ?_⟩
    · have := hg.size
      simp at this ⊢
      omega
    · intro k hk h1 h2
      rw [Below.heap_setCell _ _ _ _ h1, hg.block k (by simp; omega) (fun e => h2 e.symm), Below.heap_alloc _ _ _ hk]
    · rcases hv with e | e
      · exact .inl e
      · right; intro k hk; rw [e] at hk; injection hk with hk; simp at hk; omega
theorem enc_step0 {wr w4 : World} {B g : Nat} {v v' : Value} {xs ys : List (BitVec 8)} (h : EncAt wr B g v xs) (ho : Ow b8 5 w4 B v' (xs ++ ys)) (hg : wr.grownBy w4 v.ownBlock)
    (hv : v'.ownBlock = v.ownBlock ∨ v'.ownBlock = some wr.heap.size) : EncAt (w4.setCell ⟨g, 0, none⟩ v') B g v' (xs ++ ys) ∧ Moved wr (w4.setCell ⟨g, 0, none⟩ v') g v v' := by
  have hgl := h.blk.lt
  have hb4 : Bk w4 g 51 #[v] := bkGrown h.blk hg (fun e => h.ne e.symm)
  have hne : v'.ownBlock ≠ some g := by
    rcases hv with e | e
    · rw [e]; exact h.ne
    · rw [e]; intro h2; injection h2 with h2; omega
  refine ⟨⟨hb4.set 0 v', h.ge, ?_, hne⟩, ?_⟩
  · obtain ⟨h1, h2⟩ := ho
    refine ⟨h1, ?_⟩
    rcases h2 with h2 | ⟨g', cap, cur, e, hB, hh, r⟩
    · exact .inl h2
    · refine .inr ⟨g', cap, cur, e, hB, ?_, r⟩
      rw [Below.heap_setCell]
      · exact hh
      · intro e2
        subst e2
        exact hne (by rw [e]; rfl)
  · refine ⟨hg.os, hg.tape, hg.output, ?_, ?_, ?_⟩
    · have := hg.size
      simp at this ⊢
      omega
    · intro k hk h1 h2
      rw [Below.heap_setCell _ _ _ _ h1, hg.block k hk (fun e => h2 e.symm)]
    · rcases hv with e | e
      · exact .inl e
      · right; intro k hk; rw [e] at hk; injection hk with hk; omega
def uintF : Nat → BitVec 64 → List (BitVec 8)
  | 0, v => [v.setWidth 8]
  | n + 1, v => if v.toNat < 128 then [v.setWidth 8] else (v.setWidth 8 ||| 128#8) :: uintF n (v >>> 7)
def uintL (v : BitVec 64) : List (BitVec 8) := uintF 9 v
theorem uintF_len (n : Nat) : ∀ v, (uintF n v).length ≤ n + 1 := by
  induction n with
  | zero => intro v; simp [uintF]
  | succ n ih =>
    intro v
    unfold uintF
    split
    · simp
    · have := ih (v >>> 7)
      simp; omega
theorem uintF_small {n : Nat} {v : BitVec 64} (h : v.toNat < 128) : uintF n v = [v.setWidth 8] := by
  cases n with
  | zero => rfl
  | succ n => unfold uintF; rw [if_pos h]
theorem or128 (x : BitVec 8) : bits .or .u8 (U8 x) 128 = U8 (x ||| 128#8) := by
  rw [show (128 : Int) = U8 128#8 from by decide +kernel, orU8]
theorem shr7 (x : BitVec 64) : U64 x / (128 : Int) = U64 (x >>> 7) := by
  have h := shrU64 x 7
  rw [← h]; rfl
def EncP (B g : Nat) (v : Value) (bs : List (BitVec 8)) (w : World) (e : Ending) (w' : World) : Prop := e = .returned (.tuple #[]) ∧ ∃ v', EncAt w' B g v' bs ∧ Moved w w' g v v'
set_option maxHeartbeats 400000
set_option maxRecDepth 100000
theorem enc_uint (w : World) (B g : Nat) (v : Value) (bs : List (BitVec 8)) (x : BitVec 64) (h : EncAt w B g v bs) (hl : bs.length ≤ 1073741824) :
    Calls Try.prog 16 #[.pointer (some ⟨g, 0, none⟩), .int .u64 (U64 x)] w (EncP B g v (bs ++ uintL x) w) := by
  go_enter Try.func16, Try.ntmps16
  go_wp2
  go_loopw [1] (fun c wr => ∃ (n : Nat) (pre : List (BitVec 8)) (cur : BitVec 64) (v' : Value), c = .int .u64 (U64 cur) ∧ Hid (uintL x = pre ++ uintF n cur) ∧ Hid (cur.toNat < 2 ^ (7 * n + 1)) ∧ Hid (pre.length + n = 9) ∧ EncAt wr B g v' (bs ++ pre) ∧ Moved w wr g v v') (fun c _ => (intOf c).toNat)
  case atStart => exact ⟨9, [], x, v, rfl, Lib.hid rfl, Lib.hid (by have := x.isLt; omega), Lib.hid rfl, by rw [List.append_nil]; exact h, Moved.refl _ _ _⟩
  case round =>
    obtain ⟨n, pre, cur, v', rfl, h1, h2, h3, he, hm⟩ := hrel
    have hcell := he.blk.cell 0
    have hfree := he.blk.free 0
    have hgl := he.blk.lt
    have e0 := u64_u8m cur
    by_cases hc : cur.toNat < 128
    · have t1 : decide (128 ≤ U64 cur) = false := by unfold U64; simp; omega
      have hend : uintL x = pre ++ [cur.setWidth 8] := by rw [h1.out, uintF_small hc]
      have HE := Lib.hid hend
      have hlen : pre.length ≤ 9 := by have := h3.out; omega
      clear hend hc
      go_wp2_with (at_builtin; refine wp_app one8 b8_one rfl (.tmp 24) (.tmp 27) rfl B v' (bs ++ pre) rfl (he.row.alloc _) (some ⟨wr.heap.size, 0, none⟩) 1 1 [cur.setWidth 8] rfl rfl (wr.heap.size + 1) (rd1_new rfl) (by simp; omega) (by decide) (by have := he.ge; simp; omega) ?_; intro v4 w4 ho4 hb4 hg4 hv4; obtain ⟨A4, n4, c4, rfl⟩ := ow_slice ho4; have hk4 := bkGrown (he.blk.alloc _) hg4 (fun e => he.ne e.symm); have hc4 := hk4.cell 0; have hf4 := hk4.free 0; have hl4 := hk4.lt)
      go_end0
      obtain ⟨s1, s2⟩ := enc_step he ho4 hg4 hv4
      exact ⟨rfl, _, by rw [HE.out, ← List.append_assoc]; exact s1, hm.trans s2⟩
    · have t1 : decide (128 ≤ U64 cur) = true := by unfold U64; simp; omega
      have e1 := or128 (cur.setWidth 8)
      have e2 := shr7 cur
      obtain ⟨m, rfl⟩ : ∃ m, n = m + 1 := by
        cases n with
        | zero => have := h2.out; simp at this; omega
        | succ m => exact ⟨m, rfl⟩
      have HS : Hid (uintL x = (pre ++ [cur.setWidth 8 ||| 128#8]) ++ uintF m (cur >>> 7)) := Lib.hid (by
        have e : uintF (m + 1) cur = (cur.setWidth 8 ||| 128#8) :: uintF m (cur >>> 7) := if_neg hc
        rw [h1.out, List.append_assoc, e]; rfl)
      have HB : Hid ((cur >>> 7).toNat < 2 ^ (7 * m + 1)) := Lib.hid (by
        have := h2.out
        rw [BitVec.toNat_ushiftRight, Nat.shiftRight_eq_div_pow]
        rw [show 7 * (m + 1) + 1 = (7 * m + 1) + 7 from by omega, Nat.pow_add] at this
        exact Nat.div_lt_of_lt_mul (by omega))
      have HL : Hid ((pre ++ [cur.setWidth 8 ||| 128#8]).length + m = 9) := Lib.hid (by have := h3.out; simp; omega)
      have HM : Hid ((U64 (cur >>> 7)).toNat < (U64 cur).toNat) := Lib.hid (by
        unfold U64
        rw [BitVec.toNat_ushiftRight, Nat.shiftRight_eq_div_pow]
        simp; omega)
      have hlen : pre.length ≤ 9 := by have := h3.out; omega
      clear hc
      go_wp2_with (at_builtin; refine wp_app one8 b8_one rfl (.tmp 10) (.tmp 14) rfl B v' (bs ++ pre) rfl (he.row.alloc _) (some ⟨wr.heap.size, 0, none⟩) 1 1 [cur.setWidth 8 ||| 128#8] rfl rfl (wr.heap.size + 1) (rd1_new rfl) (by simp; omega) (by decide) (by have := he.ge; simp; omega) ?_; intro v4 w4 ho4 hb4 hg4 hv4; obtain ⟨A4, n4, c4, rfl⟩ := ow_slice ho4; have hk4 := bkGrown (he.blk.alloc _) hg4 (fun e => he.ne e.symm); have hc4 := hk4.cell 0; have hf4 := hk4.free 0; have hl4 := hk4.lt)
      obtain ⟨s1, s2⟩ := enc_step he ho4 hg4 hv4
      go_roundw
      case rel => exact ⟨m, pre ++ [cur.setWidth 8 ||| 128#8], cur >>> 7, _, rfl, HS, HB, HL, by rw [← List.append_assoc]; exact s1, hm.trans s2⟩
      case measure => simp only [intOf]; exact HM.out
end Go.Proofs.Ytoigahkgdanjnaa
