/- The register of crc is linear; it is the bitwise one; a bit's turn can be undone. No conditions. -/
import Derived.Test.YtfodefgihicafaaDoorCrcA
namespace Go.Proofs.YtfodefgihicafaaDoor
set_option linter.unusedVariables false
set_option linter.unusedSimpArgs false
open Go.RowKit
def bitC (r : BitVec 32) : BitVec 32 := if r.getLsbD 0 then (r >>> 1) ^^^ 0xEDB88320#32 else r >>> 1
def bitsC : Nat → BitVec 32 → BitVec 32
  | 0, r => r
  | n + 1, r => bitsC n (bitC r)
theorem xor_swap (a b c d : BitVec 32) : (a ^^^ b) ^^^ (c ^^^ d) = (a ^^^ c) ^^^ (b ^^^ d) := by
  rw [BitVec.xor_assoc, ← BitVec.xor_assoc b c d, BitVec.xor_comm b c, BitVec.xor_assoc c b d, ← BitVec.xor_assoc]
theorem shr_xor {n : Nat} (a b : BitVec n) (k : Nat) : (a ^^^ b) >>> k = (a >>> k) ^^^ (b >>> k) := by
  apply BitVec.eq_of_getLsbD_eq; intro i hi; simp
theorem set_xor (a b : BitVec 8) : (a ^^^ b).setWidth 32 = a.setWidth 32 ^^^ b.setWidth 32 := by
  apply BitVec.eq_of_getLsbD_eq; intro i hi; simp [hi]
/-- The n lowest bits. -/
def low_ {m : Nat} (n : Nat) (r : BitVec m) : BitVec m := r &&& (BitVec.allOnes m >>> (m - n))
theorem low_bit {m : Nat} (n : Nat) (hn : n ≤ m) (r : BitVec m) (i : Nat) : (low_ n r).getLsbD i = (r.getLsbD i && decide (i < n)) := by
  unfold low_
  rw [BitVec.getLsbD_and, BitVec.getLsbD_ushiftRight, BitVec.getLsbD_allOnes]
  congr 1
  rw [decide_eq_decide]; omega
theorem low_zero {m : Nat} (r : BitVec m) : low_ 0 r = 0#m := by
  apply BitVec.eq_of_getLsbD_eq; intro i hi; rw [low_bit 0 (by omega)]; simp
theorem low_all {m : Nat} (r : BitVec m) : low_ m r = r := by
  apply BitVec.eq_of_getLsbD_eq; intro i hi; rw [low_bit m (by omega)]; simp [hi]
theorem low_succ {m : Nat} (n : Nat) (hn : n < m) (r : BitVec m) : low_ (n + 1) r = low_ n r ^^^ (if r.getLsbD n then BitVec.twoPow m n else 0#m) := by
  apply BitVec.eq_of_getLsbD_eq
  intro i hi
  rw [low_bit _ (by omega), BitVec.getLsbD_xor, low_bit _ (by omega)]
  by_cases h : i = n
  · subst h
    by_cases hb : r.getLsbD i = true
    · rw [if_pos hb, BitVec.getLsbD_twoPow]; simp [hb, hi]
    · rw [if_neg hb]; simp at hb; simp [hb]
  · have e : (if r.getLsbD n then BitVec.twoPow m n else 0#m).getLsbD i = false := by
      split
      · rw [BitVec.getLsbD_twoPow]; simp; omega
      · simp
    rw [e, Bool.xor_false]
    congr 1
    rw [decide_eq_decide]; omega
/-- Two linear maps that agree on each single bit agree. -/
theorem lin_ext {m k : Nat} (f g : BitVec m → BitVec k) (hf : ∀ a b, f (a ^^^ b) = f a ^^^ f b) (hg : ∀ a b, g (a ^^^ b) = g a ^^^ g b)
    (h : ∀ i : Fin m, f (BitVec.twoPow m i.val) = g (BitVec.twoPow m i.val)) (r : BitVec m) : f r = g r := by
  have f0 : f 0#m = 0#k := by have := hf 0#m 0#m; simpa using this
  have g0 : g 0#m = 0#k := by have := hg 0#m 0#m; simpa using this
  have key : ∀ n, n ≤ m → f (low_ n r) = g (low_ n r) := by
    intro n
    induction n with
    | zero => intro _; rw [low_zero, f0, g0]
    | succ n ih =>
      intro hn
      rw [low_succ n (by omega), hf, hg, ih (by omega)]
      congr 1
      split
      · exact h ⟨n, by omega⟩
      · rw [f0, g0]
  have := key m (Nat.le_refl _)
  rwa [low_all] at this
theorem bitC_xor (r s : BitVec 32) : bitC (r ^^^ s) = bitC r ^^^ bitC s := by
  unfold bitC
  rw [BitVec.getLsbD_xor, shr_xor]
  cases r.getLsbD 0 <;> cases s.getLsbD 0
  · simp
  · simp [BitVec.xor_assoc]
  · simp only [Bool.xor_false, if_true, Bool.false_eq_true, if_false]
    rw [BitVec.xor_assoc, BitVec.xor_comm (s >>> 1), ← BitVec.xor_assoc]
  · simp only [Bool.xor_self, if_true, Bool.false_eq_true, if_false]
    rw [xor_swap, BitVec.xor_self, BitVec.xor_zero]
theorem bitsC_xor (n : Nat) : ∀ r s : BitVec 32, bitsC n (r ^^^ s) = bitsC n r ^^^ bitsC n s := by
  induction n with
  | zero => intro r s; rfl
  | succ n ih => intro r s; show bitsC n (bitC (r ^^^ s)) = _; rw [bitC_xor, ih]; rfl
theorem bitsC_add (a b : Nat) (r : BitVec 32) : bitsC (a + b) r = bitsC b (bitsC a r) := by
  induction a generalizing r with
  | zero => rw [Nat.zero_add]; rfl
  | succ n ih => rw [show n + 1 + b = (n + b) + 1 from by omega]; exact ih (bitC r)
theorem tab1_xor (i j : Nat) (hi : i < 16) (hj : j < 16) : tab1 (i ^^^ j) = tab1 i ^^^ tab1 j := by
  have h : ∀ i j : Fin 16, tab1 (i.val ^^^ j.val) = tab1 i.val ^^^ tab1 j.val := by decide +kernel
  exact h ⟨i, hi⟩ ⟨j, hj⟩
theorem idx_xor (r s : BitVec 32) : idx (r ^^^ s) = idx r ^^^ idx s := by
  unfold idx
  rw [← BitVec.toNat_xor]
  congr 1
  apply BitVec.eq_of_getLsbD_eq; intro i hi; simp only [BitVec.getLsbD_and, BitVec.getLsbD_xor]
  cases (15#32).getLsbD i <;> simp
theorem turnC_xor (r s : BitVec 32) : turnC (r ^^^ s) = turnC r ^^^ turnC s := by
  unfold turnC
  rw [idx_xor, tab1_xor _ _ (idx_lt _) (idx_lt _), shr_xor, xor_swap]
theorem turnC_bits (r : BitVec 32) : turnC r = bitsC 4 r := lin_ext turnC (bitsC 4) turnC_xor (bitsC_xor 4) (by decide +kernel) r
theorem stepC_bits (r : BitVec 32) (x : BitVec 8) : stepC r x = bitsC 8 (r ^^^ x.setWidth 32) := by
  unfold stepC
  rw [turnC_bits, turnC_bits, ← bitsC_add]
theorem stepC_xor (r s : BitVec 32) (x y : BitVec 8) : stepC (r ^^^ s) (x ^^^ y) = stepC r x ^^^ stepC s y := by
  rw [stepC_bits, stepC_bits, stepC_bits, set_xor, xor_swap, bitsC_xor]
def undoC (r : BitVec 32) : BitVec 32 := (r <<< 1) ^^^ (if r.getLsbD 31 then 0xDB710641#32 else 0#32)
theorem shl_xor (a b : BitVec 32) : (a ^^^ b) <<< 1 = (a <<< 1) ^^^ (b <<< 1) := by
  apply BitVec.eq_of_getLsbD_eq; intro i hi; simp only [BitVec.getLsbD_shiftLeft, BitVec.getLsbD_xor]
  cases decide (i < 32) <;> cases decide (i < 1) <;> simp
theorem undoC_xor (r s : BitVec 32) : undoC (r ^^^ s) = undoC r ^^^ undoC s := by
  unfold undoC
  rw [BitVec.getLsbD_xor, shl_xor]
  cases r.getLsbD 31 <;> cases s.getLsbD 31
  · simp
  · simp [BitVec.xor_assoc]
  · simp only [Bool.xor_false, if_true, Bool.false_eq_true, if_false, BitVec.xor_zero]
    rw [BitVec.xor_assoc, BitVec.xor_comm (s <<< 1), ← BitVec.xor_assoc]
  · simp only [Bool.xor_self, if_true, Bool.false_eq_true, if_false]
    rw [xor_swap, BitVec.xor_self]
theorem undo_bit (r : BitVec 32) : undoC (bitC r) = r :=
  lin_ext (fun r => undoC (bitC r)) (fun r => r) (fun a b => by rw [bitC_xor, undoC_xor]) (fun a b => rfl) (by decide +kernel) r
theorem bitsC_inj (n : Nat) : ∀ {r s : BitVec 32}, bitsC n r = bitsC n s → r = s := by
  induction n with
  | zero => intro r s h; exact h
  | succ n ih =>
    intro r s h
    have := ih (show bitsC n (bitC r) = bitsC n (bitC s) from h)
    rw [← undo_bit r, ← undo_bit s, this]
theorem bitsC_zero (n : Nat) : bitsC n 0#32 = 0#32 := by
  have := bitsC_xor n 0#32 0#32
  simpa using this
theorem fold_xor : ∀ (xs ys : List (BitVec 8)) (r s : BitVec 32), xs.length = ys.length →
    (xs.zipWith (· ^^^ ·) ys).foldl stepC (r ^^^ s) = xs.foldl stepC r ^^^ ys.foldl stepC s
  | [], [], r, s, _ => rfl
  | x :: xs, y :: ys, r, s, h => by
    rw [List.zipWith_cons_cons, List.foldl_cons, List.foldl_cons, List.foldl_cons, stepC_xor]
    exact fold_xor xs ys _ _ (by simpa using h)
theorem fold_zeros (n : Nat) : ∀ r : BitVec 32, (List.replicate n 0#8).foldl stepC r = bitsC (8 * n) r := by
  induction n with
  | zero => intro r; rfl
  | succ n ih =>
    intro r
    rw [List.replicate_succ, List.foldl_cons, ih, show stepC r 0#8 = bitsC 8 r from by rw [stepC_bits]; congr 1; simp, ← bitsC_add]
    congr 1; omega
theorem not_xor (a b : BitVec 32) : ~~~ a ^^^ b = ~~~ (a ^^^ b) := by
  apply BitVec.eq_of_getLsbD_eq; intro i hi; simp [hi]
theorem addC_append (s : BitVec 32) (a b : List (BitVec 8)) : addC s (a ++ b) = addC (addC s a) b := by
  unfold addC
  rw [List.foldl_append, BitVec.not_not]
theorem sumC_flat (ls : List (List (BitVec 8))) (s : BitVec 32) : ls.foldl addC s = addC s ls.flatten := by
  induction ls generalizing s with
  | nil => simp [addC]
  | cons a l ih => rw [List.foldl_cons, ih, List.flatten_cons, addC_append]
/-- What three sums tell of that of a difference. -/
theorem addC_xor3 (xs ys : List (BitVec 8)) (h : xs.length = ys.length) :
    addC 0#32 (xs.zipWith (· ^^^ ·) ys) = (addC 0#32 xs ^^^ addC 0#32 ys) ^^^ addC 0#32 (List.replicate xs.length 0#8) := by
  unfold addC
  have h1 := fold_xor (xs.zipWith (· ^^^ ·) ys) (List.replicate xs.length 0#8) (~~~ 0#32 ^^^ ~~~ 0#32) (~~~ 0#32) (by simp; omega)
  have h2 := fold_xor xs ys (~~~ 0#32) (~~~ 0#32) h
  have e : List.zipWith (· ^^^ ·) (xs.zipWith (· ^^^ ·) ys) (List.replicate xs.length 0#8) = xs.zipWith (· ^^^ ·) ys := by
    apply List.ext_getElem
    · simp [h]
    · intro i h1 h2; simp
  rw [e, h2, show ~~~ (0#32 : BitVec 32) ^^^ ~~~ 0#32 ^^^ ~~~ 0#32 = ~~~ 0#32 from by decide +kernel] at h1
  rw [h1]
  generalize List.foldl stepC (~~~0#32) xs = a
  generalize List.foldl stepC (~~~0#32) ys = b
  generalize List.foldl stepC (~~~0#32) (List.replicate xs.length 0#8) = c
  apply BitVec.eq_of_getLsbD_eq; intro i hi; simp [hi]
/-- One bit among zero bytes. -/
def oneB (n q : Nat) : List (BitVec 8) := (List.replicate n 0#8).set (q / 8) (1#8 <<< (q % 8))
theorem oneB_len (n q : Nat) : (oneB n q).length = n := by simp [oneB]
theorem fold_one (n q : Nat) (h : q < 8 * n) : (oneB n q).foldl stepC 0#32 = bitsC (8 * n - q) 1#32 := by
  have e : oneB n q = List.replicate (q / 8) 0#8 ++ (1#8 <<< (q % 8)) :: List.replicate (n - q / 8 - 1) 0#8 := by
    unfold oneB
    apply List.ext_getElem
    · simp; omega
    · intro i h1 h2
      rw [List.getElem_set, List.getElem_append]
      simp only [List.length_replicate, List.getElem_replicate]
      by_cases a : q / 8 = i
      · subst a; simp
      · rw [if_neg a]
        by_cases b : i < q / 8
        · rw [dif_pos b]
        · rw [dif_neg b, List.getElem_cons, dif_neg (by omega)]
          try simp
  rw [e, List.foldl_append, fold_zeros, bitsC_zero, List.foldl_cons, fold_zeros]
  have k : ∀ t : Fin 8, stepC 0#32 (1#8 <<< t.val) = bitsC (8 - t.val) 1#32 := by decide +kernel
  rw [k ⟨q % 8, by omega⟩, ← bitsC_add]
  congr 1
  simp only
  omega
theorem bits32_one : ∀ t : Fin 32, bitsC 32 (BitVec.twoPow 32 t.val) = bitsC (32 - t.val) 1#32 := by decide +kernel
/-- Byte by byte, b with the pattern's first n bits turned at k. -/
def turned (bs : List (BitVec 8)) (p : BitVec 32) (k : Nat) : Nat → List (BitVec 8)
  | 0 => bs
  | n + 1 => if p.getLsbD n then (turned bs p k n).set ((k + n) / 8) ((turned bs p k n).getD ((k + n) / 8) 0 ^^^ 1#8 <<< ((k + n) % 8)) else turned bs p k n
theorem turned_len (bs : List (BitVec 8)) (p : BitVec 32) (k n : Nat) : (turned bs p k n).length = bs.length := by
  induction n with
  | zero => rfl
  | succ n ih => unfold turned; split <;> simp [ih]
theorem set_as_xor (xs : List (BitVec 8)) (q : Nat) (h : q < 8 * xs.length) : xs.set (q / 8) (xs.getD (q / 8) 0 ^^^ 1#8 <<< (q % 8)) = xs.zipWith (· ^^^ ·) (oneB xs.length q) := by
  apply List.ext_getElem
  · simp [oneB]
  · intro i h1 h2
    have hi : i < xs.length := by simpa using h1
    rw [List.getElem_set, List.getElem_zipWith]
    unfold oneB
    rw [List.getElem_set]
    by_cases a : q / 8 = i
    · subst a
      rw [if_pos rfl, if_pos rfl, List.getD_eq_getElem?_getD, List.getElem?_eq_getElem hi]; rfl
    · rw [if_neg a, if_neg a]; simp
theorem fold_turned (bs : List (BitVec 8)) (p : BitVec 32) (k n : Nat) (hn : n ≤ 32) (hk : k + 32 ≤ 8 * bs.length) :
    (turned bs p k n).foldl stepC (~~~ 0#32) = bs.foldl stepC (~~~ 0#32) ^^^ bitsC (8 * bs.length - k - 32) (bitsC 32 (low_ n p)) := by
  induction n with
  | zero => rw [low_zero, bitsC_zero, bitsC_zero, BitVec.xor_zero]; rfl
  | succ n ih =>
    have ih := ih (by omega)
    unfold turned
    rw [low_succ n (by omega)]
    by_cases hb : p.getLsbD n = true
    · rw [if_pos hb, if_pos hb, set_as_xor _ _ (by rw [turned_len]; omega), turned_len]
      have h1 := fold_xor (turned bs p k n) (oneB bs.length (k + n)) (~~~ 0#32) 0#32 (by rw [turned_len, oneB_len])
      rw [BitVec.xor_zero] at h1
      rw [h1, ih, fold_one _ _ (by omega), bitsC_xor, bitsC_xor, BitVec.xor_assoc]
      congr 2
      rw [bits32_one ⟨n, by omega⟩, ← bitsC_add]
      congr 1
      simp only
      omega
    · rw [if_neg hb, if_neg hb, BitVec.xor_zero]
      exact ih
theorem turned_ne (bs : List (BitVec 8)) (p : BitVec 32) (k : Nat) (hk : k + 32 ≤ 8 * bs.length) (hp : p ≠ 0#32) : addC 0#32 (turned bs p k 32) ≠ addC 0#32 bs := by
  intro h
  unfold addC at h
  rw [fold_turned bs p k 32 (Nat.le_refl _) hk, low_all] at h
  have h2 := congrArg (fun x => ~~~ x) h
  simp only [BitVec.not_not] at h2
  generalize List.foldl stepC (~~~0#32) bs = a at h2
  have h3 : bitsC (8 * bs.length - k - 32) (bitsC 32 p) = 0#32 := by
    have := congrArg (fun x => a ^^^ x) h2
    simp only [← BitVec.xor_assoc, BitVec.xor_self, BitVec.zero_xor] at this
    exact this
  rw [← bitsC_zero (8 * bs.length - k - 32)] at h3
  have h4 := bitsC_inj _ h3
  rw [← bitsC_zero 32] at h4
  exact hp (bitsC_inj _ h4)
end Go.Proofs.YtfodefgihicafaaDoor
