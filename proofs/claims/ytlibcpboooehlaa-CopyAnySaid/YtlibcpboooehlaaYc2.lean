/- Texts joined: CrcB CrcC CrcD CrcR CrcE Known2 CrcF OpenP. -/
import Derived.Test.YtlibcpboooehlaaYc1
import Derived.Deep.RegionHeld3
import Derived.Test.YtlibcpboooehlaaRegV
import Derived.LoopTactic
import Derived.Test.YtlibcpboooehlaaStr
import Derived.Lib.SmallJoins
import Derived.Test.YtlibcpboooehlaaFrame
import Derived.Deep.Matrix
/- What crc.Sum, tail and Seal answer. Conditions: at most 2^31 bytes. -/
namespace Go.Proofs.Ytlibcpboooehlaa
set_option linter.unusedVariables false
set_option linter.unusedSimpArgs false
open Go.RowKit
abbrev Pt : Type := Option Addr × List (BitVec 8) × Nat
def Pt.v (p : Pt) : Value := .slice p.1 p.2.1.length p.2.2
def Pt.l (p : Pt) : List (BitVec 8) := p.2.1
def sumC (ls : List (List (BitVec 8))) : BitVec 32 := ls.foldl addC 0
theorem sumC_snoc (ls : List (List (BitVec 8))) (l : List (BitVec 8)) : sumC (ls ++ [l]) = addC (sumC ls) l := by simp [sumC]
def tailL (s : BitVec 32) : List (BitVec 8) := [s.setWidth 8, (s >>> 8).setWidth 8, (s >>> 16).setWidth 8, (s >>> 24).setWidth 8]
def sealC (bs : List (BitVec 8)) : List (BitVec 8) := bs ++ tailL (addC 0 bs)
set_option maxHeartbeats 400000
theorem ret_cells' {v v' : Value} {w w' : World} (h : v = v') (hb : Below w.heap.size w w') : RetP v' w (.returned v) w' := ⟨by rw [h], hb⟩
theorem m8_0 (s : BitVec 32) : U32 s % 256 = U8 (s.setWidth 8) := by
  rw [← u32_u8]; simp [IntKind.wrap, IntKind.bits, IntKind.signed]
theorem sh8 (s : BitVec 32) : U32 s / (256 : Int) = U32 (s >>> 8) := by rw [show (256 : Int) = 2 ^ 8 from by decide, shrU32]
theorem sh16 (s : BitVec 32) : U32 s / (65536 : Int) = U32 (s >>> 16) := by rw [show (65536 : Int) = 2 ^ 16 from by decide, shrU32]
theorem sh24 (s : BitVec 32) : U32 s / (16777216 : Int) = U32 (s >>> 24) := by rw [show (16777216 : Int) = 2 ^ 24 from by decide, shrU32]
attribute [local go_sem] m8_0 sh8 sh16 sh24 u32_u8
/-- 'make([]T, 0, n)'. -/
theorem wp_make0 {P : Program} {α : Type} {f : α → Value} {t e : TypeId} {z : Value} {bytes : Nat} {w : World} {ops : Array Oper} {rest : List Oper} {o : Oper} {a : Act} {Q : Exit → Act → World → Prop} (one : One P t e z bytes) (hgd : o.guard = none) (l c : Operand) (hop : o.op = Op.makeSlice t l c)
    (base n : Nat) (kl kc : IntKind) (C : Int) (hl : a.eval l = .int kl 0) (hc : a.eval c = .int kc C) (hC : C = (n : Int)) (hn : n ≤ 4294967296) (hby : bytes ≤ 32768) (hbase : base ≤ w.heap.size)
    (h : ∀ w', Ow f e w' base (.slice (some ⟨w.heap.size, 0, none⟩) 0 n) [] → Below w.heap.size w w' → wpList P ops Q rest (a.put o.dst (.slice (some ⟨w.heap.size, 0, none⟩) 0 n)) w') :
    wpList P ops Q (o :: rest) a w := by
  obtain ⟨i, hi, hz, hsize, hbytes⟩ := one.info
  have hbb : i.bytes * n ≤ 281474976710656 := by
    rw [hbytes]
    have := Nat.mul_le_mul hby hn
    omega
  refine wpList_make_own w hgd l c t hop base e i z 1 one.under hi hz hsize kl kc C n hl hc hC hbb (by simp only [maxLen]; omega) hbase ?_
  intro w' ho hg
  exact h w' ho ((Below.refl _ _).grown hg (Nat.le_refl _) (by simp))
theorem Bk.grown {w w' : World} {g : Nat} {E : TypeId} {cs : Array Value} {row : Option Nat} (h : Bk w g E cs) (hg : w.grownBy w' row) (hne : some g ≠ row) : Bk w' g E cs := (hg.block g h.lt hne).trans h
end Go.Proofs.Ytlibcpboooehlaa
/- What crc.Right answers. Conditions: at most 2^30 bytes. -/
namespace Go.Proofs.Ytlibcpboooehlaa
set_option linter.unusedVariables false
set_option linter.unusedSimpArgs false
open Go.RowKit
def right4 (xs : List (BitVec 8)) (y0 y1 y2 y3 : BitVec 8) : Bool := (addC (0#32) xs).setWidth 8 == y0 && (((addC (0#32) xs) >>> 8).setWidth 8 == y1 && (((addC (0#32) xs) >>> 16).setWidth 8 == y2 && ((addC (0#32) xs) >>> 24).setWidth 8 == y3))
theorem spot_add (a : Addr) (n j : Nat) (h : j ≠ 0) : (⟨(a.add n).block, (a.add n).off + j, none⟩ : Addr) = a.add (n + j) := by
  unfold Addr.add; by_cases k : n = 0 <;> simp [h, k, Nat.add_assoc]
theorem heldC {xs : List (BitVec 8)} {y0 y1 y2 y3 : BitVec 8} {ad : Addr} {w W1 w2 : World} (h : W1.cell? (ad.add xs.length) = some (.int .u8 (U8 y0)) ∧ W1.cell? ⟨(ad.add xs.length).block, (ad.add xs.length).off + 1, none⟩ = some (.int .u8 (U8 y1)) ∧ W1.cell? ⟨(ad.add xs.length).block, (ad.add xs.length).off + 2, none⟩ = some (.int .u8 (U8 y2)) ∧ W1.cell? ⟨(ad.add xs.length).block, (ad.add xs.length).off + 3, none⟩ = some (.int .u8 (U8 y3)) ∧ Rd b8 W1 w.heap.size (some ad) xs ∧ ad.block < w.heap.size ∧ w.heap.size ≤ W1.heap.size ∧ Below w.heap.size w W1) (hb : Below W1.heap.size W1 w2) : w2.cell? (ad.add xs.length) = some (.int .u8 (U8 y0)) ∧ w2.cell? ⟨(ad.add xs.length).block, (ad.add xs.length).off + 1, none⟩ = some (.int .u8 (U8 y1)) ∧ w2.cell? ⟨(ad.add xs.length).block, (ad.add xs.length).off + 2, none⟩ = some (.int .u8 (U8 y2)) ∧ w2.cell? ⟨(ad.add xs.length).block, (ad.add xs.length).off + 3, none⟩ = some (.int .u8 (U8 y3)) ∧ Rd b8 w2 w.heap.size (some ad) xs ∧ ad.block < w.heap.size ∧ w.heap.size ≤ w2.heap.size ∧ Below w.heap.size w w2 := by
  obtain ⟨a0, a1, a2, a3, h4, h5, h6, h7⟩ := h
  exact ⟨(hb.cell (p := ad.add xs.length) (by rw [add_block]; omega)).trans a0, (hb.cell (p := ⟨(ad.add xs.length).block, (ad.add xs.length).off + 1, none⟩) (by show (ad.add xs.length).block < _; rw [add_block]; omega)).trans a1, (hb.cell (p := ⟨(ad.add xs.length).block, (ad.add xs.length).off + 2, none⟩) (by show (ad.add xs.length).block < _; rw [add_block]; omega)).trans a2, (hb.cell (p := ⟨(ad.add xs.length).block, (ad.add xs.length).off + 3, none⟩) (by show (ad.add xs.length).block < _; rw [add_block]; omega)).trans a3,
    h4.below (hb.mono h6), h5, Nat.le_trans h6 hb.size, h7.trans (hb.mono h6)⟩
theorem heldR {xs : List (BitVec 8)} {y0 y1 y2 y3 : BitVec 8} {ad : Addr} {w W1 : World} (h : W1.cell? (ad.add xs.length) = some (.int .u8 (U8 y0)) ∧ W1.cell? ⟨(ad.add xs.length).block, (ad.add xs.length).off + 1, none⟩ = some (.int .u8 (U8 y1)) ∧ W1.cell? ⟨(ad.add xs.length).block, (ad.add xs.length).off + 2, none⟩ = some (.int .u8 (U8 y2)) ∧ W1.cell? ⟨(ad.add xs.length).block, (ad.add xs.length).off + 3, none⟩ = some (.int .u8 (U8 y3)) ∧ Rd b8 W1 w.heap.size (some ad) xs ∧ ad.block < w.heap.size ∧ w.heap.size ≤ W1.heap.size ∧ Below w.heap.size w W1) : Rd b8 W1 W1.heap.size (some ad) xs := h.2.2.2.2.1.more h.2.2.2.2.2.2.1
attribute [local go_sem] beqU8
set_option maxHeartbeats 800000
set_option maxRecDepth 100000
end Go.Proofs.Ytlibcpboooehlaa
/- The register of crc is linear; it is the bitwise one; a bit's turn can be undone. No conditions. -/
namespace Go.Proofs.Ytlibcpboooehlaa
set_option linter.unusedVariables false
set_option linter.unusedSimpArgs false
open Go.RowKit
def bitC (r : BitVec 32) : BitVec 32 := if r.getLsbD 0 then (r >>> 1) ^^^ 0xEDB88320#32 else r >>> 1
def bitsC : Nat → BitVec 32 → BitVec 32
  | 0, r => r
  | n + 1, r => bitsC n (bitC r)
theorem xor_swap (a b c d : BitVec 32) : (a ^^^ b) ^^^ (c ^^^ d) = (a ^^^ c) ^^^ (b ^^^ d) := by
  rw [BitVec.xor_assoc, ← BitVec.xor_assoc b c d, BitVec.xor_comm b c, BitVec.xor_assoc c b d, ← BitVec.xor_assoc]
theorem shr_xor {n : Nat} (a b : BitVec n) (k : Nat) : (a ^^^ b) >>> k = (a >>> k) ^^^ (b >>> k) := by
  apply BitVec.eq_of_getLsbD_eq; intro i hi; simp
theorem set_xor (a b : BitVec 8) : (a ^^^ b).setWidth 32 = a.setWidth 32 ^^^ b.setWidth 32 := by
  apply BitVec.eq_of_getLsbD_eq; intro i hi; simp [hi]
/-- The n lowest bits. -/
def low_ {m : Nat} (n : Nat) (r : BitVec m) : BitVec m := r &&& (BitVec.allOnes m >>> (m - n))
theorem low_bit {m : Nat} (n : Nat) (hn : n ≤ m) (r : BitVec m) (i : Nat) : (low_ n r).getLsbD i = (r.getLsbD i && decide (i < n)) := by
  unfold low_
  rw [BitVec.getLsbD_and, BitVec.getLsbD_ushiftRight, BitVec.getLsbD_allOnes]
  congr 1
  rw [decide_eq_decide]; omega
theorem low_zero {m : Nat} (r : BitVec m) : low_ 0 r = 0#m := by
  apply BitVec.eq_of_getLsbD_eq; intro i hi; rw [low_bit 0 (by omega)]; simp
theorem low_all {m : Nat} (r : BitVec m) : low_ m r = r := by
  apply BitVec.eq_of_getLsbD_eq; intro i hi; rw [low_bit m (by omega)]; simp [hi]
theorem low_succ {m : Nat} (n : Nat) (hn : n < m) (r : BitVec m) : low_ (n + 1) r = low_ n r ^^^ (if r.getLsbD n then BitVec.twoPow m n else 0#m) := by
  apply BitVec.eq_of_getLsbD_eq
  intro i hi
  rw [low_bit _ (by omega), BitVec.getLsbD_xor, low_bit _ (by omega)]
  by_cases h : i = n
  · subst h
    by_cases hb : r.getLsbD i = true
    · rw [if_pos hb, BitVec.getLsbD_twoPow]; simp [hb, hi]
    · rw [if_neg hb]; simp at hb; simp [hb]
  · have e : (if r.getLsbD n then BitVec.twoPow m n else 0#m).getLsbD i = false := by
      split
      · rw [BitVec.getLsbD_twoPow]; simp; omega
      · simp
    rw [e, Bool.xor_false]
    congr 1
    rw [decide_eq_decide]; omega
/-- Two linear maps that agree on each single bit agree. -/
theorem lin_ext {m k : Nat} (f g : BitVec m → BitVec k) (hf : ∀ a b, f (a ^^^ b) = f a ^^^ f b) (hg : ∀ a b, g (a ^^^ b) = g a ^^^ g b)
    (h : ∀ i : Fin m, f (BitVec.twoPow m i.val) = g (BitVec.twoPow m i.val)) (r : BitVec m) : f r = g r := by
  have f0 : f 0#m = 0#k := by have := hf 0#m 0#m; simpa using this
  have g0 : g 0#m = 0#k := by have := hg 0#m 0#m; simpa using this
  have key : ∀ n, n ≤ m → f (low_ n r) = g (low_ n r) := by
    intro n
    induction n with
    | zero => intro _; rw [low_zero, f0, g0]
    | succ n ih =>
      intro hn
      rw [low_succ n (by omega), hf, hg, ih (by omega)]
      congr 1
      split
      · exact h ⟨n, by omega⟩
      · rw [f0, g0]
  have := key m (Nat.le_refl _)
  rwa [low_all] at this
theorem bitC_xor (r s : BitVec 32) : bitC (r ^^^ s) = bitC r ^^^ bitC s := by
  unfold bitC
  rw [BitVec.getLsbD_xor, shr_xor]
  cases r.getLsbD 0 <;> cases s.getLsbD 0
  · simp
  · simp [BitVec.xor_assoc]
  · simp only [Bool.xor_false, if_true, Bool.false_eq_true, if_false]
    rw [BitVec.xor_assoc, BitVec.xor_comm (s >>> 1), ← BitVec.xor_assoc]
  · simp only [Bool.xor_self, if_true, Bool.false_eq_true, if_false]
    rw [xor_swap, BitVec.xor_self, BitVec.xor_zero]
theorem bitsC_xor (n : Nat) : ∀ r s : BitVec 32, bitsC n (r ^^^ s) = bitsC n r ^^^ bitsC n s := by
  induction n with
  | zero => intro r s; rfl
  | succ n ih => intro r s; show bitsC n (bitC (r ^^^ s)) = _; rw [bitC_xor, ih]; rfl
theorem bitsC_add (a b : Nat) (r : BitVec 32) : bitsC (a + b) r = bitsC b (bitsC a r) := by
  induction a generalizing r with
  | zero => rw [Nat.zero_add]; rfl
  | succ n ih => rw [show n + 1 + b = (n + b) + 1 from by omega]; exact ih (bitC r)
theorem tab1_xor (i j : Nat) (hi : i < 16) (hj : j < 16) : tab1 (i ^^^ j) = tab1 i ^^^ tab1 j := by
  have h : ∀ i j : Fin 16, tab1 (i.val ^^^ j.val) = tab1 i.val ^^^ tab1 j.val := by decide +kernel
  exact h ⟨i, hi⟩ ⟨j, hj⟩
theorem idx_xor (r s : BitVec 32) : idx (r ^^^ s) = idx r ^^^ idx s := by
  unfold idx
  rw [← BitVec.toNat_xor]
  congr 1
  apply BitVec.eq_of_getLsbD_eq; intro i hi; simp only [BitVec.getLsbD_and, BitVec.getLsbD_xor]
  cases (15#32).getLsbD i <;> simp
theorem turnC_xor (r s : BitVec 32) : turnC (r ^^^ s) = turnC r ^^^ turnC s := by
  unfold turnC
  rw [idx_xor, tab1_xor _ _ (idx_lt _) (idx_lt _), shr_xor, xor_swap]
theorem turnC_bits (r : BitVec 32) : turnC r = bitsC 4 r := lin_ext turnC (bitsC 4) turnC_xor (bitsC_xor 4) (by decide +kernel) r
theorem stepC_bits (r : BitVec 32) (x : BitVec 8) : stepC r x = bitsC 8 (r ^^^ x.setWidth 32) := by
  unfold stepC
  rw [turnC_bits, turnC_bits, ← bitsC_add]
theorem stepC_xor (r s : BitVec 32) (x y : BitVec 8) : stepC (r ^^^ s) (x ^^^ y) = stepC r x ^^^ stepC s y := by
  rw [stepC_bits, stepC_bits, stepC_bits, set_xor, xor_swap, bitsC_xor]
def undoC (r : BitVec 32) : BitVec 32 := (r <<< 1) ^^^ (if r.getLsbD 31 then 0xDB710641#32 else 0#32)
theorem shl_xor (a b : BitVec 32) : (a ^^^ b) <<< 1 = (a <<< 1) ^^^ (b <<< 1) := by
  apply BitVec.eq_of_getLsbD_eq; intro i hi; simp only [BitVec.getLsbD_shiftLeft, BitVec.getLsbD_xor]
  cases decide (i < 32) <;> cases decide (i < 1) <;> simp
theorem undoC_xor (r s : BitVec 32) : undoC (r ^^^ s) = undoC r ^^^ undoC s := by
  unfold undoC
  rw [BitVec.getLsbD_xor, shl_xor]
  cases r.getLsbD 31 <;> cases s.getLsbD 31
  · simp
  · simp [BitVec.xor_assoc]
  · simp only [Bool.xor_false, if_true, Bool.false_eq_true, if_false, BitVec.xor_zero]
    rw [BitVec.xor_assoc, BitVec.xor_comm (s <<< 1), ← BitVec.xor_assoc]
  · simp only [Bool.xor_self, if_true, Bool.false_eq_true, if_false]
    rw [xor_swap, BitVec.xor_self]
theorem undo_bit (r : BitVec 32) : undoC (bitC r) = r :=
  lin_ext (fun r => undoC (bitC r)) (fun r => r) (fun a b => by rw [bitC_xor, undoC_xor]) (fun a b => rfl) (by decide +kernel) r
theorem bitsC_inj (n : Nat) : ∀ {r s : BitVec 32}, bitsC n r = bitsC n s → r = s := by
  induction n with
  | zero => intro r s h; exact h
  | succ n ih =>
    intro r s h
    have := ih (show bitsC n (bitC r) = bitsC n (bitC s) from h)
    rw [← undo_bit r, ← undo_bit s, this]
theorem bitsC_zero (n : Nat) : bitsC n 0#32 = 0#32 := by
  have := bitsC_xor n 0#32 0#32
  simpa using this
theorem fold_xor : ∀ (xs ys : List (BitVec 8)) (r s : BitVec 32), xs.length = ys.length →
    (xs.zipWith (· ^^^ ·) ys).foldl stepC (r ^^^ s) = xs.foldl stepC r ^^^ ys.foldl stepC s
  | [], [], r, s, _ => rfl
  | x :: xs, y :: ys, r, s, h => by
    rw [List.zipWith_cons_cons, List.foldl_cons, List.foldl_cons, List.foldl_cons, stepC_xor]
    exact fold_xor xs ys _ _ (by simpa using h)
theorem fold_zeros (n : Nat) : ∀ r : BitVec 32, (List.replicate n 0#8).foldl stepC r = bitsC (8 * n) r := by
  induction n with
  | zero => intro r; rfl
  | succ n ih =>
    intro r
    rw [List.replicate_succ, List.foldl_cons, ih, show stepC r 0#8 = bitsC 8 r from by rw [stepC_bits]; congr 1; simp, ← bitsC_add]
    congr 1; omega
theorem not_xor (a b : BitVec 32) : ~~~ a ^^^ b = ~~~ (a ^^^ b) := by
  apply BitVec.eq_of_getLsbD_eq; intro i hi; simp [hi]
theorem addC_append (s : BitVec 32) (a b : List (BitVec 8)) : addC s (a ++ b) = addC (addC s a) b := by
  unfold addC
  rw [List.foldl_append, BitVec.not_not]
theorem sumC_flat (ls : List (List (BitVec 8))) (s : BitVec 32) : ls.foldl addC s = addC s ls.flatten := by
  induction ls generalizing s with
  | nil => simp [addC]
  | cons a l ih => rw [List.foldl_cons, ih, List.flatten_cons, addC_append]
/-- What three sums tell of that of a difference. -/
theorem addC_xor3 (xs ys : List (BitVec 8)) (h : xs.length = ys.length) :
    addC 0#32 (xs.zipWith (· ^^^ ·) ys) = (addC 0#32 xs ^^^ addC 0#32 ys) ^^^ addC 0#32 (List.replicate xs.length 0#8) := by
  unfold addC
  have h1 := fold_xor (xs.zipWith (· ^^^ ·) ys) (List.replicate xs.length 0#8) (~~~ 0#32 ^^^ ~~~ 0#32) (~~~ 0#32) (by simp; omega)
  have h2 := fold_xor xs ys (~~~ 0#32) (~~~ 0#32) h
  have e : List.zipWith (· ^^^ ·) (xs.zipWith (· ^^^ ·) ys) (List.replicate xs.length 0#8) = xs.zipWith (· ^^^ ·) ys := by
    apply List.ext_getElem
    · simp [h]
    · intro i h1 h2; simp
  rw [e, h2, show ~~~ (0#32 : BitVec 32) ^^^ ~~~ 0#32 ^^^ ~~~ 0#32 = ~~~ 0#32 from by decide +kernel] at h1
  rw [h1]
  generalize List.foldl stepC (~~~0#32) xs = a
  generalize List.foldl stepC (~~~0#32) ys = b
  generalize List.foldl stepC (~~~0#32) (List.replicate xs.length 0#8) = c
  apply BitVec.eq_of_getLsbD_eq; intro i hi; simp [hi]
/-- One bit among zero bytes. -/
def oneB (n q : Nat) : List (BitVec 8) := (List.replicate n 0#8).set (q / 8) (1#8 <<< (q % 8))
theorem oneB_len (n q : Nat) : (oneB n q).length = n := by simp [oneB]
theorem fold_one (n q : Nat) (h : q < 8 * n) : (oneB n q).foldl stepC 0#32 = bitsC (8 * n - q) 1#32 := by
  have e : oneB n q = List.replicate (q / 8) 0#8 ++ (1#8 <<< (q % 8)) :: List.replicate (n - q / 8 - 1) 0#8 := by
    unfold oneB
    apply List.ext_getElem
    · simp; omega
    · intro i h1 h2
      rw [List.getElem_set, List.getElem_append]
      simp only [List.length_replicate, List.getElem_replicate]
      by_cases a : q / 8 = i
      · subst a; simp
      · rw [if_neg a]
        by_cases b : i < q / 8
        · rw [dif_pos b]
        · rw [dif_neg b, List.getElem_cons, dif_neg (by omega)]
          try simp
  rw [e, List.foldl_append, fold_zeros, bitsC_zero, List.foldl_cons, fold_zeros]
  have k : ∀ t : Fin 8, stepC 0#32 (1#8 <<< t.val) = bitsC (8 - t.val) 1#32 := by decide +kernel
  rw [k ⟨q % 8, by omega⟩, ← bitsC_add]
  congr 1
  simp only
  omega
theorem bits32_one : ∀ t : Fin 32, bitsC 32 (BitVec.twoPow 32 t.val) = bitsC (32 - t.val) 1#32 := by decide +kernel
/-- Byte by byte, b with the pattern's first n bits turned at k. -/
def turned (bs : List (BitVec 8)) (p : BitVec 32) (k : Nat) : Nat → List (BitVec 8)
  | 0 => bs
  | n + 1 => if p.getLsbD n then (turned bs p k n).set ((k + n) / 8) ((turned bs p k n).getD ((k + n) / 8) 0 ^^^ 1#8 <<< ((k + n) % 8)) else turned bs p k n
theorem turned_len (bs : List (BitVec 8)) (p : BitVec 32) (k n : Nat) : (turned bs p k n).length = bs.length := by
  induction n with
  | zero => rfl
  | succ n ih => unfold turned; split <;> simp [ih]
theorem set_as_xor (xs : List (BitVec 8)) (q : Nat) (h : q < 8 * xs.length) : xs.set (q / 8) (xs.getD (q / 8) 0 ^^^ 1#8 <<< (q % 8)) = xs.zipWith (· ^^^ ·) (oneB xs.length q) := by
  apply List.ext_getElem
  · simp [oneB]
  · intro i h1 h2
    have hi : i < xs.length := by simpa using h1
    rw [List.getElem_set, List.getElem_zipWith]
    unfold oneB
    rw [List.getElem_set]
    by_cases a : q / 8 = i
    · subst a
      rw [if_pos rfl, if_pos rfl, List.getD_eq_getElem?_getD, List.getElem?_eq_getElem hi]; rfl
    · rw [if_neg a, if_neg a]; simp
theorem fold_turned (bs : List (BitVec 8)) (p : BitVec 32) (k n : Nat) (hn : n ≤ 32) (hk : k + 32 ≤ 8 * bs.length) :
    (turned bs p k n).foldl stepC (~~~ 0#32) = bs.foldl stepC (~~~ 0#32) ^^^ bitsC (8 * bs.length - k - 32) (bitsC 32 (low_ n p)) := by
  induction n with
  | zero => rw [low_zero, bitsC_zero, bitsC_zero, BitVec.xor_zero]; rfl
  | succ n ih =>
    have ih := ih (by omega)
    unfold turned
    rw [low_succ n (by omega)]
    by_cases hb : p.getLsbD n = true
    · rw [if_pos hb, if_pos hb, set_as_xor _ _ (by rw [turned_len]; omega), turned_len]
      have h1 := fold_xor (turned bs p k n) (oneB bs.length (k + n)) (~~~ 0#32) 0#32 (by rw [turned_len, oneB_len])
      rw [BitVec.xor_zero] at h1
      rw [h1, ih, fold_one _ _ (by omega), bitsC_xor, bitsC_xor, BitVec.xor_assoc]
      congr 2
      rw [bits32_one ⟨n, by omega⟩, ← bitsC_add]
      congr 1
      simp only
      omega
    · rw [if_neg hb, if_neg hb, BitVec.xor_zero]
      exact ih
theorem turned_ne (bs : List (BitVec 8)) (p : BitVec 32) (k : Nat) (hk : k + 32 ≤ 8 * bs.length) (hp : p ≠ 0#32) : addC 0#32 (turned bs p k 32) ≠ addC 0#32 bs := by
  intro h
  unfold addC at h
  rw [fold_turned bs p k 32 (Nat.le_refl _) hk, low_all] at h
  have h2 := congrArg (fun x => ~~~ x) h
  simp only [BitVec.not_not] at h2
  generalize List.foldl stepC (~~~0#32) bs = a at h2
  have h3 : bitsC (8 * bs.length - k - 32) (bitsC 32 p) = 0#32 := by
    have := congrArg (fun x => a ^^^ x) h2
    simp only [← BitVec.xor_assoc, BitVec.xor_self, BitVec.zero_xor] at this
    exact this
  rw [← bitsC_zero (8 * bs.length - k - 32)] at h3
  have h4 := bitsC_inj _ h3
  rw [← bitsC_zero 32] at h4
  exact hp (bitsC_inj _ h4)
end Go.Proofs.Ytlibcpboooehlaa
/- What Sum and Low of loamref2 answer. Conditions: at most 2^31 bytes. -/
namespace Go.Proofs.Ytlibcpboooehlaa
set_option linter.unusedVariables false
set_option linter.unusedSimpArgs false
open Go.RowKit
theorem bitsC_succ (k : Nat) (r : BitVec 32) : bitsC (k + 1) r = bitC (bitsC k r) := by rw [bitsC_add]; rfl
theorem and1U32 (r : BitVec 32) : bits .and .u32 (U32 r) 1 = if r.getLsbD 0 then 1 else 0 := by
  rw [show (1 : Int) = U32 1#32 from by decide +kernel, andU32]
  have e : r &&& 1#32 = if r.getLsbD 0 then 1#32 else 0#32 := by
    apply BitVec.eq_of_getLsbD_eq
    intro i hi
    rw [BitVec.getLsbD_and, BitVec.getLsbD_one]
    by_cases h : i = 0
    · subst h; cases r.getLsbD 0 <;> simp
    · cases r.getLsbD 0 <;> simp [h]
  rw [e]
  cases r.getLsbD 0 <;> decide +kernel
theorem shr1U32 (r : BitVec 32) : U32 r / (2 : Int) = U32 (r >>> 1) := by
  rw [show (2 : Int) = 2 ^ 1 from by decide, shrU32]
theorem xorPoly (r : BitVec 32) : bits .xor .u32 (U32 r) 3988292384 = U32 (r ^^^ 0xEDB88320#32) := by
  rw [show (3988292384 : Int) = U32 0xEDB88320#32 from by decide +kernel, xorU32]
set_option maxHeartbeats 400000
theorem ow_lit {α : Type} (f : α → Value) (E : TypeId) (w : World) (base : Nat) (xs : List α) (hb : base ≤ w.heap.size) (hl : xs.length ≤ maxLen) : Ow f E (w.alloc (.cells (xs.map f).toArray E)) base (.slice (some ⟨w.heap.size, 0, none⟩) xs.length xs.length) xs := by
  have h := World.ownsRow_lit (size := 1) (e := E) w (xs.map f).toArray xs.length hb hl (by simp)
  exact h
set_option maxRecDepth 100000
set_option maxHeartbeats 400000
attribute [local go_sem] m8_0 sh8 sh16 sh24 u32_u8
end Go.Proofs.Ytlibcpboooehlaa
/- What the functions of loamref2 answer. Conditions: at most 2^30 bytes. -/
namespace Go.Proofs.Ytlibcpboooehlaa
set_option linter.unusedVariables false
set_option linter.unusedSimpArgs false
open Go.RowKit
end Go.Proofs.Ytlibcpboooehlaa
/- What loamlaw2.known answers: true. No conditions. -/
namespace Go.Proofs.Ytlibcpboooehlaa
set_option linter.unusedVariables false
set_option linter.unusedSimpArgs false
open Go.RowKit
def l1234 : List (BitVec 8) := [49, 50, 51, 52]
def l5 : List (BitVec 8) := [53, 54, 55, 56, 57]
def lx : List (BitVec 8) := [120]
def labc : List (BitVec 8) := [97, 98, 99]
/-- Block g has the cells cs, whatever of it is frozen. -/
def Fk (w : World) (g : Nat) (E : TypeId) (cs : Array Value) : Prop := ∃ fr, w.heap[g]? = some (.cells cs E fr)
section
variable {W W' : World} {g B : Nat} {E : TypeId} {cs : Array Value}
theorem fk_at {fr : Nat × Nat} (h : g = W.heap.size) : Fk (W.alloc (.cells cs E fr)) g E cs := h ▸ ⟨fr, heap_alloc_new W _⟩
theorem Fk.lt (h : Fk W g E cs) : g < W.heap.size := by
  obtain ⟨fr, h⟩ := h
  rcases Nat.lt_or_ge g W.heap.size with hl | hl
  · exact hl
  · rw [Array.getElem?_eq_none hl] at h; cases h
theorem Fk.alloc (h : Fk W g E cs) (o : Obj) : Fk (W.alloc o) g E cs := ⟨h.choose, (Below.heap_alloc W o g h.lt).trans h.choose_spec⟩
theorem Fk.drew (h : Fk W g E cs) : Fk W.drew g E cs := h
theorem Fk.drewN (h : Fk W g E cs) (n : Nat) : Fk (W.drewN n) g E cs := h
theorem Fk.below (h : Fk W g E cs) (hb : Below B W W') (hg : g < B) : Fk W' g E cs := ⟨h.choose, (hb.block g hg).trans h.choose_spec⟩
theorem Fk.rd {α : Type} {f : α → Value} {xs : List α} (h : Fk W g E cs) (e : cs = (xs.map f).toArray) (hB : g < B) : Rd f W B (some ⟨g, 0, none⟩) xs := fun j hj => by
  refine ⟨_, rfl, hB, ?_⟩
  have e2 : ((⟨g, 0, none⟩ : Addr).add j) = ⟨g, j, none⟩ := by unfold Addr.add; split <;> simp_all
  rw [e2, Joins.cell_of_block h.choose_spec, e]
  simp [hj]
end
theorem kc_at (w : World) (C : Array Value) (n c g : Nat) (hg : g = w.heap.size) : (convert 59 59 (.slice (some ⟨g, 0, none⟩) n c)).run Try.prog (w.alloc (.cells C 5)) = .ok (.slice (some ⟨g, 0, none⟩) n c) (w.alloc (.cells C 5 (C.size, C.size + 1))) :=
  Joins.run_convert_bytes_const_at w 59 5 C n c g hg Try.underlying59 Try.underlying5
attribute [local go_sem] kc_at
theorem skA {w W : World} (h : Below w.heap.size w W ∧ w.heap.size ≤ W.heap.size) (o : Obj) : Below w.heap.size w (W.alloc o) ∧ w.heap.size ≤ (W.alloc o).heap.size := ⟨h.1.alloc h.2 o, by simp; omega⟩
theorem skD {w W : World} (h : Below w.heap.size w W ∧ w.heap.size ≤ W.heap.size) : Below w.heap.size w W.drew ∧ w.heap.size ≤ W.drew.heap.size := ⟨h.1.drew, h.2⟩
theorem skB {w W W' : World} (h : Below w.heap.size w W ∧ w.heap.size ≤ W.heap.size) (hb : Below W.heap.size W W') : Below w.heap.size w W' ∧ w.heap.size ≤ W'.heap.size := ⟨h.1.trans (hb.mono h.2), Nat.le_trans h.2 hb.size⟩
theorem right4_seal (xs : List (BitVec 8)) : right4 xs ((addC 0 xs).setWidth 8) ((addC 0 xs >>> 8).setWidth 8) ((addC 0 xs >>> 16).setWidth 8) ((addC 0 xs >>> 24).setWidth 8) = true := by simp [right4]
set_option maxHeartbeats 800000
set_option maxRecDepth 100000
end Go.Proofs.Ytlibcpboooehlaa
/- What Low, Seal, Right of loamref2 answer. Conditions: at most 2^30 bytes. -/
namespace Go.Proofs.Ytlibcpboooehlaa
set_option linter.unusedVariables false
set_option linter.unusedSimpArgs false
open Go.RowKit
set_option maxRecDepth 100000
set_option maxHeartbeats 400000
attribute [local go_sem] m8_0 sh8 sh16 sh24 u32_u8
def rightL (bs : List (BitVec 8)) : Bool := decide (4 ≤ bs.length) && tailL (addC 0#32 (bs.take (bs.length - 4))) == bs.drop (bs.length - 4)
theorem strB_beq (x y : List (BitVec 8)) : ((strB x).toList == (strB y).toList) = (x == y) := by
  rw [Bool.eq_iff_iff, beq_iff_eq, beq_iff_eq]
  constructor
  · intro h
    apply strB_inj
    rw [ByteArray.toList_eq, ByteArray.toList_eq] at h
    have h2 := Array.ext' h
    exact congrArg ByteArray.mk h2
  · intro h; rw [h]
theorem rightL_no (bs : List (BitVec 8)) (h : bs.length < 4) : rightL bs = false := by
  unfold rightL
  rw [Bool.and_eq_false_iff]; left
  rw [decide_eq_false_iff_not]; omega
theorem rightL_yes (bs : List (BitVec 8)) (h : 4 ≤ bs.length) : rightL bs = (tailL (addC 0#32 (bs.take (bs.length - 4))) == bs.drop (bs.length - 4)) := by
  unfold rightL
  have : decide (4 ≤ bs.length) = true := by rw [decide_eq_true_eq]; exact h
  rw [this, Bool.true_and]
end Go.Proofs.Ytlibcpboooehlaa
/- How an argument of type [][]byte is opened. No conditions. -/
namespace Go.Proofs.Ytlibcpboooehlaa
set_option linter.unusedVariables false
set_option linter.unusedSimpArgs false
open Go.ChangeShapes Go.WideShapes Go.ChangeAt Go.RowKit
theorem bytes_rd {W : World} {y : Option Addr} {l c : Nat} {Z : List Int} (hl : l ≤ c) (hz : Z.length = c) (hwf : ∀ n ∈ Z, (Lit.int .u8 n).wf = true) (hn : y = none → c = 0)
    (h : ∀ a', y = some a' → ∀ k, k < c → W.cell? (a'.add k) = some (.int .u8 (Z.getD k 0))) : ∃ bs : List (BitVec 8), bs.length = l ∧ Rd b8 W W.heap.size y bs := by
  refine ⟨(Z.take l).map (BitVec.ofInt 8), by simp; omega, fun j hj => ?_⟩
  have hj' : j < l := by simp at hj; omega
  rcases y with _ | a'
  · have := hn rfl; omega
  · have hc := h a' rfl j (by omega)
    have hb := cell_lt hc
    rw [add_block] at hb
    refine ⟨a', rfl, hb, ?_⟩
    rw [hc]
    have hw := hwf (Z.getD j 0) (by rw [List.getD_eq_getElem?_getD, List.getElem?_eq_getElem (by omega)]; exact List.getElem_mem _)
    rw [wfu8 hw]
    have e : Z.getD j 0 = Z[j]'(by omega) := by rw [List.getD_eq_getElem?_getD, List.getElem?_eq_getElem (by omega)]; rfl
    rw [e]
    simp [b8]
theorem choose_list {α : Type} {p : Nat → α → Prop} : ∀ n : Nat, (∀ r, r < n → ∃ x, p r x) → ∃ l : List α, l.length = n ∧ ∀ r (h : r < l.length), p r l[r]
  | 0, _ => ⟨[], rfl, fun r h => absurd h (by simp)⟩
  | n + 1, h => by
    obtain ⟨l, hl, hp⟩ := choose_list n fun r hr => h r (by omega)
    obtain ⟨x, hx⟩ := h n (by omega)
    refine ⟨l ++ [x], by simp [hl], fun r hr => ?_⟩
    rw [List.getElem_append]
    split
    · exact hp r _
    · have : r = n := by simp at hr; omega
      subst this
      simpa using hx
theorem open_parts {H : Type} {enc : TypeId × Value → H} {P : Program} {W : World} {base : Nat} {hd : Bool} {r : Reach} {b0 : Nat} {t e q : TypeId} {v : Value} {d : DataW H} {p : List MemPlace}
    (ht : P.underlying t = some (.slice e)) (he : P.underlying e = some (.slice q)) (hq : P.underlying q = some (.int .u8)) (ce : P.cellsOf e = 1) (cq : P.cellsOf q = 1)
    (hv : Value.okWide P W r b0 t v) (h : DataW.Trod enc P W base (fun _ => true) hd t v d p) :
    ∃ (A : Option Addr) (ps : List Pt) (c : Nat), v = .slice A ps.length c ∧ ps.length ≤ c ∧ c ≤ maxLen ∧ Rd Pt.v W W.heap.size A ps ∧ ∀ x ∈ ps, x.2.1.length ≤ x.2.2 ∧ Rd b8 W W.heap.size x.1 x.2.1 := by
  obtain ⟨a0, len, cap, rfl⟩ := okWide_slice ht hv
  obtain ⟨fuel, hf⟩ := h
  rcases Go.Deep.open_int_rows ht he hq ce cq hf with ⟨hcs, _⟩ | ⟨a, l, c, A, L, C, Z, hcs, _, hl, hm, _, hrow⟩
  · simp [Value.cells] at hcs
    obtain ⟨rfl, rfl, rfl⟩ := hcs
    exact ⟨none, [], 0, rfl, Nat.le_refl _, by simp [maxLen], Rd.nil, fun x hx => by cases hx⟩
  · simp [Value.cells] at hcs
    obtain ⟨rfl, rfl, rfl⟩ := hcs
    obtain ⟨ps, hps, hp⟩ := choose_list (α := Pt) (p := fun i x => x.1 = A i ∧ x.2.1.length = L i ∧ x.2.2 = C i ∧ L i ≤ C i ∧ Rd b8 W W.heap.size x.1 x.2.1 ∧ W.cell? (a.add i) = some x.v) len (fun i hi => by
      obtain ⟨h1, h2, h3, h4, h5, h6, h7⟩ := hrow i (by omega)
      obtain ⟨bs, hb, hr⟩ := bytes_rd (W := W) (y := A i) h2 h4 h5 h6 (fun a' ha => (h7 a' ha).2)
      exact ⟨(A i, bs, C i), rfl, hb, rfl, h2, hr, by rw [h1]; show _ = some (Value.slice (A i) bs.length (C i)); rw [hb]⟩)
    subst hps
    refine ⟨some a, ps, cap, rfl, hl, hm, fun j hj => ?_, fun x hx => ?_⟩
    · obtain ⟨_, _, _, _, _, h6⟩ := hp j hj
      have hb := cell_lt h6
      rw [add_block] at hb
      exact ⟨a, rfl, hb, h6⟩
    · obtain ⟨j, hj, rfl⟩ := List.getElem_of_mem hx
      obtain ⟨_, h2, h3, h4, h5, _⟩ := hp j hj
      exact ⟨by rw [h2, h3]; exact h4, h5⟩
end Go.Proofs.Ytlibcpboooehlaa
