/- What is written is what is read: numbers. What codec.Dec's Int, Left, Err answer. Conditions: lengths. -/
import Derived.Test.YtoigahkgdanjnaaDecB
import Derived.Test.YtoigahkgdanjnaaCrcD
namespace Go.Proofs.Ytoigahkgdanjnaa
set_option linter.unusedVariables false
set_option linter.unusedSimpArgs false
open Go.RowKit
theorem low7 (cur : BitVec 64) : ((cur.setWidth 8 ||| 128#8) &&& ~~~ 128#8).setWidth 64 = cur &&& 127#64 := by
  apply BitVec.eq_of_getLsbD_eq
  intro i hi
  have e : (127#64).getLsbD i = decide (i < 7) := by
    have : ∀ j : Fin 64, (127#64).getLsbD j.val = decide (j.val < 7) := by decide +kernel
    exact this ⟨i, hi⟩
  rw [BitVec.getLsbD_and, e, BitVec.getLsbD_setWidth]
  by_cases h8 : i < 8
  · have e2 : (128#8).getLsbD i = decide (i = 7) := by
      have : ∀ j : Fin 8, (128#8).getLsbD j.val = decide (j.val = 7) := by decide +kernel
      exact this ⟨i, h8⟩
    rw [BitVec.getLsbD_and, BitVec.getLsbD_or, BitVec.getLsbD_not, e2, BitVec.getLsbD_setWidth]
    by_cases h7 : i = 7
    · simp [h7]
    · simp [h7, h8, hi, show i < 7 from by omega]
  · simp [show ¬ i < 7 from by omega, BitVec.getLsbD_of_ge _ i (show 8 ≤ i by omega)]
theorem small7 (cur : BitVec 64) (h : cur.toNat < 128) : (cur.setWidth 8 &&& ~~~ 128#8).setWidth 64 = cur ∧ (cur.setWidth 8).toNat = cur.toNat ∧ (cur.setWidth 8 = 0#8 → cur = 0#64) := by
  have : ∀ n : Fin 128, ((BitVec.ofNat 64 n.val).setWidth 8 &&& ~~~ 128#8).setWidth 64 = BitVec.ofNat 64 n.val ∧ ((BitVec.ofNat 64 n.val).setWidth 8).toNat = n.val ∧ ((BitVec.ofNat 64 n.val).setWidth 8 = 0#8 → BitVec.ofNat 64 n.val = 0#64) := by decide +kernel
  have h2 := this ⟨cur.toNat, h⟩
  simp only [BitVec.ofNat_toNat, BitVec.setWidth_eq] at h2
  exact h2
theorem or128_big (x : BitVec 8) : 128 ≤ (x ||| 128#8).toNat ∧ x ||| 128#8 ≠ 0#8 := by
  have : ∀ n : Fin 256, 128 ≤ (BitVec.ofNat 8 n.val ||| 128#8).toNat ∧ BitVec.ofNat 8 n.val ||| 128#8 ≠ 0#8 := by decide +kernel
  have h2 := this ⟨x.toNat, x.isLt⟩
  simp only [BitVec.ofNat_toNat, BitVec.setWidth_eq] at h2
  exact h2
theorem glue7 (cur : BitVec 64) (k : Nat) : ((cur &&& 127#64) <<< (7 * k)) ||| ((cur >>> 7) <<< (7 * (k + 1))) = cur <<< (7 * k) := by
  apply BitVec.eq_of_getLsbD_eq
  intro i hi
  rw [BitVec.getLsbD_or, BitVec.getLsbD_shiftLeft, BitVec.getLsbD_shiftLeft, BitVec.getLsbD_shiftLeft, BitVec.getLsbD_and, BitVec.getLsbD_ushiftRight]
  by_cases h : i < 7 * k
  · simp [h, show i < 7 * (k + 1) from by omega]
  · by_cases h2 : i < 7 * (k + 1)
    · have e : (127#64).getLsbD (i - 7 * k) = true := by
        have : ∀ j : Fin 7, (127#64).getLsbD j.val = true := by decide +kernel
        exact this ⟨i - 7 * k, by omega⟩
      simp [h, h2, hi, e]
    · have e : (127#64).getLsbD (i - 7 * k) = false := by
        have : ∀ j : Fin 64, 7 ≤ j.val → (127#64).getLsbD j.val = false := by decide +kernel
        exact this ⟨i - 7 * k, by omega⟩ (by show 7 ≤ i - 7 * k; omega)
      simp [h, h2, hi, e, show 7 + (i - 7 * (k + 1)) = i - 7 * k from by omega]
theorem decF_uintF (rest : List (BitVec 8)) : ∀ (n k : Nat) (acc cur : BitVec 64), k + n = 9 → cur.toNat < 2 ^ (7 * n + 1) → (k = 0 ∨ cur ≠ 0#64) → decF k acc (uintF n cur ++ rest) = .inr (acc ||| (cur <<< (7 * k)), rest) := by
  intro n
  induction n with
  | zero =>
    intro k acc cur hk hc h0
    have hc' : cur.toNat < 2 := by simpa using hc
    obtain ⟨s1, s2, s3⟩ := small7 cur (by omega)
    show (if _ then _ else _) = _
    rw [if_neg, if_pos (by omega), s1]; · rfl
    rintro (⟨a, b⟩ | ⟨a, b⟩)
    · rcases h0 with h0 | h0
      · exact a h0
      · exact h0 (s3 b)
    · omega
  | succ n ih =>
    intro k acc cur hk hc h0
    by_cases hs : cur.toNat < 128
    · rw [uintF_small hs]
      obtain ⟨s1, s2, s3⟩ := small7 cur hs
      show (if _ then _ else _) = _
      rw [if_neg, if_pos (by omega), s1]; · rfl
      rintro (⟨a, b⟩ | ⟨a, b⟩)
      · rcases h0 with h0 | h0
        · exact a h0
        · exact h0 (s3 b)
      · omega
    · have e : uintF (n + 1) cur = (cur.setWidth 8 ||| 128#8) :: uintF n (cur >>> 7) := if_neg hs
      obtain ⟨b1, b2⟩ := or128_big (cur.setWidth 8)
      have hsh : (cur >>> 7).toNat = cur.toNat / 128 := by rw [BitVec.toNat_ushiftRight, Nat.shiftRight_eq_div_pow]
      rw [e, List.cons_append]
      show (if _ then _ else _) = _
      rw [if_neg (by rintro (⟨_, b⟩ | ⟨a, _⟩); · exact b2 b
                     · omega), if_neg (by omega), ih (k + 1) _ _ (by omega) (by
        rw [hsh]
        rw [show 7 * (n + 1) + 1 = (7 * n + 1) + 7 from by omega, Nat.pow_add] at hc
        exact Nat.div_lt_of_lt_mul (by omega)) (.inr (by intro h; have := congrArg BitVec.toNat h; rw [hsh] at this; simp at this; omega)), low7, BitVec.or_assoc, glue7]
theorem dec_uint_back (x : BitVec 64) (rest : List (BitVec 8)) : decF 0 0#64 (uintL x ++ rest) = .inr (x, rest) := by
  have h := decF_uintF rest 9 0 0#64 x rfl (by have := x.isLt; omega) (.inl rfl)
  unfold uintL
  rw [h]
  simp
theorem decF_cut : ∀ (n k : Nat) (acc cur : BitVec 64) (m : Nat), k + n = 9 → m < (uintF n cur).length → decF k acc ((uintF n cur).take m) = .inl 3 := by
  intro n
  induction n with
  | zero =>
    intro k acc cur m _ hm
    have : m = 0 := by simp [uintF] at hm; omega
    subst this; rfl
  | succ n ih =>
    intro k acc cur m hk hm
    cases m with
    | zero => rfl
    | succ m =>
      by_cases hs : cur.toNat < 128
      · rw [uintF_small hs] at hm; simp at hm
      · have e : uintF (n + 1) cur = (cur.setWidth 8 ||| 128#8) :: uintF n (cur >>> 7) := if_neg hs
        obtain ⟨b1, b2⟩ := or128_big (cur.setWidth 8)
        rw [e] at hm ⊢
        rw [List.take_succ_cons]
        show (if _ then _ else _) = _
        rw [if_neg (by rintro (⟨_, b⟩ | ⟨a, _⟩); · exact b2 b
                       · omega), if_neg (by omega)]
        exact ih (k + 1) _ _ m (by omega) (by simpa using hm)
theorem dec_uint_cut (x : BitVec 64) (m : Nat) (h : m < (uintL x).length) : decF 0 0#64 ((uintL x).take m) = .inl 3 := decF_cut 9 0 _ _ m rfl h
/-- Back from a number without a sign. -/
def zagL (u : BitVec 64) : BitVec 64 := (u >>> 1) ^^^ (if u.getLsbD 0 then BitVec.allOnes 64 else 0#64)
theorem zag_zig (x : BitVec 64) : zagL (zigL x) = x := by
  refine lin_ext (fun x => zagL (zigL x)) (fun x => x) ?_ (fun _ _ => rfl) (by decide +kernel) x
  intro a b
  have hz : zigL (a ^^^ b) = zigL a ^^^ zigL b := by
    unfold zigL
    apply BitVec.eq_of_getLsbD_eq
    intro i hi
    simp only [BitVec.getLsbD_xor, BitVec.getLsbD_shiftLeft, BitVec.getLsbD_sshiftRight, BitVec.msb_xor]
    simp only [hi, decide_true, Bool.true_and, show ¬ 64 ≤ i from by omega, decide_false, Bool.not_false]
    split <;> cases decide (i < 1) <;> simp <;> cases a.getLsbD (i - 1) <;> cases b.getLsbD (i - 1) <;> simp
  simp only [hz]
  unfold zagL
  rw [BitVec.getLsbD_xor, shr_xor]
  generalize zigL a >>> 1 = p
  generalize zigL b >>> 1 = q
  generalize BitVec.allOnes 64 = o
  cases (zigL a).getLsbD 0 <;> cases (zigL b).getLsbD 0 <;> simp only [Bool.xor_false, Bool.false_xor, Bool.xor_self, Bool.true_xor, Bool.not_false, if_true, Bool.false_eq_true, if_false] <;> apply BitVec.eq_of_getLsbD_eq <;> intro i hi <;> simp only [BitVec.getLsbD_xor, BitVec.getLsbD_zero] <;> cases p.getLsbD i <;> cases q.getLsbD i <;> cases o.getLsbD i <;> rfl
theorem wrapI64' (v : Int) : IntKind.i64.wrap v = wrap64 v := by
  rw [IntKind.wrap_i64, wrap64]
theorem xorI64 (x y : BitVec 64) : bits .xor .i64 (I64 x) (I64 y) = I64 (x ^^^ y) := by
  show IntKind.i64.wrap ((BitVec.ofInt 64 (I64 x) ^^^ BitVec.ofInt 64 (I64 y)).toNat : Int) = _
  have h : ∀ z : BitVec 64, BitVec.ofInt 64 (I64 z) = z := fun z => by unfold I64; exact BitVec.ofInt_toInt
  rw [h, h, show IntKind.i64.wrap ((x ^^^ y).toNat : Int) = wrap64 ((x ^^^ y).toNat : Int) from wrapI64' _]
  exact u64_i64 (x ^^^ y)
theorem and1U64 (r : BitVec 64) : bits .and .u64 (U64 r) 1 = if r.getLsbD 0 then 1 else 0 := by
  rw [show (1 : Int) = U64 1#64 from by decide +kernel, andU64]
  have e : r &&& 1#64 = if r.getLsbD 0 then 1#64 else 0#64 := by
    apply BitVec.eq_of_getLsbD_eq
    intro i hi
    rw [BitVec.getLsbD_and, BitVec.getLsbD_one]
    by_cases h : i = 0
    · subst h; cases r.getLsbD 0 <;> simp
    · cases r.getLsbD 0 <;> simp [h]
  rw [e]
  cases r.getLsbD 0 <;> decide +kernel
theorem half64 (x : BitVec 64) : U64 x / (2 : Int) = U64 (x >>> 1) := by
  have h := shrU64 x 1
  rw [← h]; rfl
/-- What a reader's call leaves that answers a number with a sign. -/
def DecIP (g : Nat) (r : Sum Int (BitVec 64 × List (BitVec 8))) (w : World) (e : Ending) (w' : World) : Prop := match r with
  | .inl err => e = .returned (.int .i64 0) ∧ DecAt w' g [] err ∧ Only w w' g
  | .inr (v, rest) => e = .returned (.int .i64 (I64 (zagL v))) ∧ DecAt w' g rest 0 ∧ Only w w' g
set_option maxHeartbeats 400000
theorem dec_left (w : World) (g : Nat) (bs : List (BitVec 8)) (err : Int) (h : DecAt w g bs err) :
    Calls Try.prog 27 #[.pointer (some ⟨g, 0, none⟩)] w fun e w' => e = .returned (.int .i64 bs.length) ∧ w' = w := by
  obtain ⟨A, c, hk, hc, hr, ha⟩ := h.ex
  obtain ⟨c1, c2⟩ := hk.two
  clear ha
  go_enter Try.func27, Try.ntmps27
  go_wp2
  go_ret
  exact ⟨rfl, rfl⟩
theorem dec_err (w : World) (g : Nat) (bs : List (BitVec 8)) (err : Int) (h : DecAt w g bs err) :
    Calls Try.prog 26 #[.pointer (some ⟨g, 0, none⟩)] w fun e w' => e = .returned (.int .i64 err) ∧ w' = w := by
  obtain ⟨A, c, hk, hc, hr, ha⟩ := h.ex
  obtain ⟨c1, c2⟩ := hk.two
  clear ha
  go_enter Try.func26, Try.ntmps26
  go_wp2
  go_ret
  exact ⟨rfl, rfl⟩
end Go.Proofs.Ytoigahkgdanjnaa
