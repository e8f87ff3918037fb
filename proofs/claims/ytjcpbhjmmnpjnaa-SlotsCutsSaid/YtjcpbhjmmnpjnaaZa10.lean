/- Texts joined: SlH. -/
import Derived.Test.YtjcpbhjmmnpjnaaZa9
/- Blocks by rising epochs on a disk: what lies in the slots. Conditions: numbers. -/
namespace Go.Proofs.Ytjcpbhjmmnpjnaa
set_option linter.unusedVariables false
set_option linter.unusedSimpArgs false
open Go.RowKit Go.Maps
set_option maxRecDepth 100000
set_option maxHeartbeats 1000000
def bT (f i : Nat) : Sb := ⟨BitVec.ofNat 64 (f + i), 64, 8, 64, 0, i, 0#64⟩
def dT (f : Nat) : Nat → DK
  | 0 => d70
  | i + 1 => (dT f i).put (bT f i)
theorem dT_size (f : Nat) : ∀ i, (dT f i).size = 64
  | 0 => rfl
  | i + 1 => dT_size f i
theorem dT_secs (f : Nat) : ∀ i, (dT f i).secs = 30
  | 0 => d70_secs
  | i + 1 => dT_secs f i
theorem dT_off (f : Nat) : ∀ i, (dT f i).off = false
  | 0 => rfl
  | i + 1 => dT_off f i
theorem dT_pend (f : Nat) : ∀ i, (dT f i).pend = []
  | 0 => rfl
  | _ + 1 => rfl
theorem dT_armed (f : Nat) : ∀ i, (dT f i).armed = 0
  | 0 => rfl
  | i + 1 => by show (dT f i).armed - 1 = 0; rw [dT_armed f i]
theorem dT_writes (f : Nat) : ∀ i, (dT f i).writes = i
  | 0 => rfl
  | i + 1 => by show (dT f i).writes + 1 = i + 1; rw [dT_writes f i]
theorem bT_at (f i : Nat) : (bT f i).at_ = (f + i) % 2 := by
  show (BitVec.ofNat 64 (f + i) &&& 1#64).toNat = _
  rw [BitVec.toNat_and, BitVec.toNat_ofNat]
  show (f + i) % 2 ^ 64 &&& 1 = _
  rw [Nat.and_one_is_mod]
  omega
theorem bT_good (f i : Nat) (h : i ≤ 64) : (bT f i).good := ⟨ok_64, by show (0 : Nat) ≤ 1; decide, h⟩
theorem bT_fit (f i k : Nat) : (bT f i).fit (dT f k) := ⟨by rw [dT_size]; rfl, by rw [dT_secs]; show totG 64 8 64 ≤ _; rw [tot_64]; decide⟩
theorem bT_fitB (f i k : Nat) : fitB (bT f i) (dT f k) = true := decide_eq_true (bT_fit f i k)
theorem bT_ep (f i : Nat) (h : f + i < 2 ^ 64) : U64 (bT f i).ep = ((f + i : Nat) : Int) := u64nat _ h
theorem dT_kept (f : Nat) : ∀ i, i ≤ 64 → (dT f i).kept.length = 1920
  | 0, _ => by show (List.replicate _ _).length = _; rw [List.length_replicate]; show d70.secs * 64 = 1920; rw [d70_secs]
  | i + 1, h => by
    have ih := dT_kept f i (by omega)
    show ((dT f i).put (bT f i)).kept.length = _
    rw [put_kept (dT_pend f i), layA_len, ih]
    rw [ih, Sb.len (bT_good f i (by omega)), dT_size, bT_at]
    show (f + i) % 2 * 64 + 64 ≤ _
    omega
theorem dT_cur (f : Nat) (i j : Nat) (h : i ≤ 63) : curL (dT f (i + 1)) j = if j = (f + i) % 2 then (bT f i).bytes else curL (dT f i) j := by
  have hl := dT_kept f i (by omega)
  have hb := Sb.len (bT_good f i (by omega))
  rw [cur_sec (dT_pend f (i + 1)), cur_sec (dT_pend f i)]
  unfold secL
  rw [show (dT f (i + 1)).kept = _ from put_kept (dT_pend f i) (bT f i), dT_size, dT_size, bT_at]
  split
  · rename_i e
    rw [e]
    exact sec_same _ _ _ _ hb (by rw [hl]; omega)
  · rename_i e
    exact sec_other _ _ _ _ _ hb (by rw [hl]; omega) (fun h => e h.symm)
/-- The block ahead of the last one. -/
def oT (f m : Nat) : Option Sb := if 2 ≤ m then some (bT f (m - 2)) else none
theorem dT_last (f m : Nat) (h1 : 1 ≤ m) (h2 : m ≤ 60) : DecOK (curL (dT f m) ((f + (m - 1)) % 2)) (some (bT f (m - 1))) := by
  obtain ⟨i, rfl⟩ : ∃ i, m = i + 1 := ⟨m - 1, by omega⟩
  rw [Nat.add_sub_cancel, dT_cur f i _ (by omega), if_pos rfl]
  exact DecOK.bytes (bT_good f i (by omega))
theorem dT_ahead (f m : Nat) (h1 : 1 ≤ m) (h2 : m ≤ 60) : DecOK (curL (dT f m) (1 - (f + (m - 1)) % 2)) (oT f m) := by
  obtain ⟨i, rfl⟩ : ∃ i, m = i + 1 := ⟨m - 1, by omega⟩
  rw [Nat.add_sub_cancel, dT_cur f i _ (by omega), if_neg (by omega)]
  unfold oT
  cases i with
  | zero =>
    rw [if_neg (by omega)]
    show DecOK (curL (fr0 64 8 64) _) none
    rw [fr0_sec (okG_out ok_64) _ (by omega)]
    exact DecOK.zeros 64 (by decide) (by decide)
  | succ k =>
    rw [dT_cur f k _ (by omega), if_pos (by omega), if_pos (by omega)]
    exact DecOK.bytes (bT_good f k (by omega))
theorem in_last (f m : Nat) : inSlot (dT f m) ((f + (m - 1)) % 2) (some (bT f (m - 1))) = some (bT f (m - 1)) := by
  show (if fitB _ _ && decide _ then _ else _) = _
  rw [bT_fitB, bT_at, decide_eq_true rfl]; rfl
theorem in_ahead (f m : Nat) (h1 : 1 ≤ m) : inSlot (dT f m) (1 - (f + (m - 1)) % 2) (oT f m) = oT f m := by
  unfold oT
  split
  · show (if fitB _ _ && decide _ then _ else _) = _
    rw [bT_fitB, bT_at, decide_eq_true (show (f + (m - 2)) % 2 = 1 - (f + (m - 1)) % 2 from by omega)]; rfl
  · rfl
section
variable {B : Nat} {X : Nat → Prop} {w : World} {g : Nat}
theorem turn_w (f k : Nat) (h : DiskX B X w g (dT f k)) (hX : ∀ k, X k → k < w.heap.size) (hB : B ≤ w.heap.size) (hk : k ≤ 30) (hf : f ≤ 4294967295) :
    Calls Try.prog 16 #[.pointer (some ⟨g, 0, none⟩), .agg #[.int .u64 ((f : Int) + (k : Int)), .int .i64 64, .int .i64 8, .int .i64 64, .int .i64 0, .int .i64 k, .int .u64 0]] w (DkP B X w g (dT f (k + 1)) (.int .i64 0)) := by
  have hc : (bT f k).cells = #[.int .u64 ((f : Int) + (k : Int)), .int .i64 64, .int .i64 8, .int .i64 64, .int .i64 0, .int .i64 k, .int .u64 0] := by
    show #[Value.int .u64 (U64 (bT f k).ep), _, _, _, _, _, _] = _
    rw [bT_ep f k (by omega)]
    rw [Int.natCast_add]
    kernel_rfl
  rw [← hc]
  exact swrite_ok h hX hB (bT f k) (bT_good f k (by omega)) (bT_fit f k k) (dT_off f k) (by rw [dT_armed]; decide) (by rw [dT_writes]; omega)
theorem turn_read (f m : Nat) (h : DiskX B X w g (dT f m)) (h1 : 1 ≤ m) (h2 : m ≤ 60) (hf : f ≤ 4294967295) : Calls Try.prog 10 #[.pointer (some ⟨g, 0, none⟩)] w (RetP (.tuple #[.agg (bT f (m - 1)).cells, .int .i64 0]) w) := by
  have hl := dT_last f m h1 h2
  have ha := dT_ahead f m h1 h2
  have il := in_last f m
  have ia := in_ahead f m h1
  have hep : ∀ b, oT f m = some b → U64 b.ep < U64 (bT f (m - 1)).ep := fun b e => by
    unfold oT at e
    split at e
    · injection e with e
      rw [← e, bT_ep _ _ (by omega), bT_ep _ _ (by omega)]; omega
    · cases e
  have h01 : (f + (m - 1)) % 2 = 0 ∨ (f + (m - 1)) % 2 = 1 := by omega
  rcases h01 with e | e
  · rw [e] at hl ha il ia
    have := read_c h (dT_off f m) (by rw [dT_secs]; decide) _ _ hl ha
    rw [il, ia] at this
    rw [show pickS (some (bT f (m - 1))) (oT f m) = some (bT f (m - 1)) from by
      cases ho : oT f m with
      | none => rfl
      | some b => show (if U64 b.ep < U64 (bT f (m - 1)).ep then some (bT f (m - 1)) else some b) = _; rw [if_pos (hep b ho)]] at this
    exact this
  · rw [e] at hl ha il ia
    have := read_c h (dT_off f m) (by rw [dT_secs]; decide) _ _ ha hl
    rw [il, ia] at this
    rw [show pickS (oT f m) (some (bT f (m - 1))) = some (bT f (m - 1)) from by
      cases ho : oT f m with
      | none => rfl
      | some b => show (if U64 (bT f (m - 1)).ep < U64 b.ep then some b else some (bT f (m - 1))) = _; rw [if_neg (by have := hep b ho; omega)]] at this
    exact this
theorem turn_both (f m : Nat) (h : DiskX B X w g (dT f m)) (h1 : 1 ≤ m) (h2 : m ≤ 60) (x0 x1 : Sb) (f0 f1 : Bool)
    (hx : ((f + (m - 1)) % 2 = 0 ∧ x0 = bT f (m - 1) ∧ f0 = true ∧ x1 = (oT f m).getD z0 ∧ f1 = (oT f m).isSome) ∨ ((f + (m - 1)) % 2 = 1 ∧ x1 = bT f (m - 1) ∧ f1 = true ∧ x0 = (oT f m).getD z0 ∧ f0 = (oT f m).isSome)) :
    Calls Try.prog 9 #[.pointer (some ⟨g, 0, none⟩)] w (RetP (.tuple #[.agg (c14 x0 x1), .agg #[.bool f0, .bool f1], .int .i64 0]) w) := by
  have hl := dT_last f m h1 h2
  have ha := dT_ahead f m h1 h2
  have il := in_last f m
  have ia := in_ahead f m h1
  rcases hx with ⟨e, rfl, rfl, rfl, rfl⟩ | ⟨e, rfl, rfl, rfl, rfl⟩
  · rw [e] at hl ha il ia
    have := both_c h (dT_off f m) (by rw [dT_secs]; decide) _ _ hl ha
    rw [il, ia] at this
    exact this
  · rw [e] at hl ha il ia
    have := both_c h (dT_off f m) (by rw [dT_secs]; decide) _ _ ha hl
    rw [il, ia] at this
    exact this
end
end Go.Proofs.Ytjcpbhjmmnpjnaa
