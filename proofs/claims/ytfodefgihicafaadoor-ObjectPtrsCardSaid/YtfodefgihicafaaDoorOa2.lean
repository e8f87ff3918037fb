/- Texts joined: MmB MmC MmD BitsF HeadA HeadB HeadC HeadD. -/
import Derived.Test.YtfodefgihicafaaDoorOa1
import Derived.Lib.SmallJoins
/- mem.Set. Conditions: lengths. -/
namespace Go.Proofs.YtfodefgihicafaaDoor
set_option linter.unusedVariables false
set_option linter.unusedSimpArgs false
open Go.RowKit
set_option maxHeartbeats 400000
/-- Set at a place of theirs. -/
theorem set_in (w : World) (B g : Nat) (v : Value) (ws : List (BitVec 64)) (i : Nat) (x : BitVec 64) (hi : i < ws.length) (hl : ws.length ≤ 100000) (h : MemAt w B g v ws) :
    Calls Tryd.prog 33 #[.pointer (some ⟨g, 0, none⟩), .int .i64 i, .int .u64 (U64 x)] w fun e w' => e = .returned (.int .i64 0) ∧ MemAt w' B g v (ws.set i x) ∧ w.grownBy w' v.ownBlock := by
  have HL := Lib.hid (len_c w B g v ws h)
  have HI := Lib.hid (insideM_c w (ws.length : Int) (i : Int) 1 (by omega) (by omega) (by omega) (by omega) (by decide) (by decide))
  rw [show inM (ws.length : Int) (i : Int) 1 = true from by unfold inM; simp; omega] at HI
  obtain ⟨A, c, e, hc⟩ := h.row.form
  subst e
  have c0 := h.blk.cell 0
  obtain ⟨q, rfl⟩ : ∃ q, A = some ⟨q, 0, none⟩ := by
    rcases h.row.2 with ⟨e, hn⟩ | ⟨q, _, _, e, _⟩
    · have hn' : ws.length = 0 := hn
      omega
    · injection e with e
      exact ⟨q, e⟩
  have hset := h.row.set hi x
  have hge := h.row.ge
  have hcell := h.row.cell hi
  have hfz := h.row.free i
  have hne : q ≠ g := fun e => h.ne (by rw [e]; rfl)
  have hfar := h.blk.far (p := ⟨q, i, none⟩) hne.symm (.int .u64 (U64 x))
  have hbel : w.grownBy (w.setCell ⟨q, i, none⟩ (.int .u64 (U64 x))) (some q) := grown_set w ⟨q, i, none⟩ _
  obtain ⟨y, hy⟩ : ∃ y, y = ws[i] := ⟨_, rfl⟩
  rw [← hy] at hcell
  unfold u64v at hcell
  have HR := Lib.hid (show MemAt (w.setCell ⟨q, i, none⟩ (.int .u64 (U64 x))) B g (.slice (some ⟨q, 0, none⟩) ws.length c) (ws.set i x) from ⟨hfar, h.ge, hset, h.ne⟩)
  have HC := Lib.hid hcell
  have HZ := Lib.hid hfz
  obtain ⟨N, hN⟩ : ∃ N, N = ws.length := ⟨_, rfl⟩
  rw [← hN] at c0 hi HL HI HR
  have p1 : (0 : Int) ≤ (i : Int) := by omega
  have p2 : (i : Int) < (N : Int) := by omega
  have HB := Lib.hid hbel
  have HN := Lib.hid hN
  clear hc hy hset hfar hbel hge hne h hcell hfz hN hi hl
  go_enter Tryd.func33, Tryd.ntmps33
  go_wp2_with fail
  refine Calls.mono HL.out ?_
  rintro e w1 ⟨rfl, rfl⟩
  go_wp2_with fail
  refine Calls.mono HI.out ?_
  rintro e w2 ⟨rfl, rfl⟩
  have hcell := HC.out
  have hfz := HZ.out
  have hN := HN.out
  have HF := Lib.hid (show ∀ w', w' = w2.setCell ⟨q, i, none⟩ (.int .u64 (U64 x)) → MemAt w' B g (.slice (some ⟨q, 0, none⟩) ws.length c) (ws.set i x) ∧ w2.grownBy w' (some q) from fun w' e => by rw [e, ← hN]; exact ⟨HR.out, HB.out⟩)
  clear HR HB HL HI hN HN HC HZ
  go_wp2_with fail
  go_ret
  exact ⟨rfl, HF.out _ rfl⟩
end Go.Proofs.YtfodefgihicafaaDoor
/- slices.Clone of words; mem.Words. Conditions: lengths. -/
namespace Go.Proofs.YtfodefgihicafaaDoor
set_option linter.unusedVariables false
set_option linter.unusedSimpArgs false
open Go.RowKit
theorem u64v_one : ∀ x : BitVec 64, (u64v x).oneCell' = true := fun _ => rfl
set_option maxHeartbeats 400000
set_option maxRecDepth 100000
theorem clone64_c (ws : List (BitVec 64)) (A : Option Addr) (c : Nat) (w : World) (hr : Rd u64v w w.heap.size A ws) (hl : ws.length ≤ 1000000) :
    Calls Tryd.prog 68 #[.slice A ws.length c] w (MkP u64v 68 ws w) := by
  have hn := fun (a : Option Addr) (n c : Nat) (W : World) => Lib.run_eql_slice_nil (P := Tryd.prog) W 22 68 a n c 0 0 (by kernel_rfl)
  rcases A with _ | ad
  · have hb : ws = [] := by
      cases ws with
      | nil => rfl
      | cons x xs => obtain ⟨ad, e, _⟩ := hr 0 (by simp); cases e
    subst hb
    go_enter Tryd.func68, Tryd.ntmps68
    go_wp2
    go_ret
    exact ⟨none, 0, rfl, Nat.le_refl _, Ow.nil_ _ _ _ _, (by repeat (first | with_reducible assumption | with_reducible exact Below.refl _ _ | with_reducible apply bdN | with_reducible apply Below.drew | with_reducible refine Below.alloc ?_ (by simp) _ | with_reducible refine Below.setCell ?_ (by simp) _))⟩
  · go_enter Tryd.func68, Tryd.ntmps68
    go_wp2_with (at_builtin; refine wp_app one64 u64v_one rfl (.tmp 5) (.tmp 6) rfl w.heap.size _ [] rfl (ow_empty u64v 68 w w.heap.size (Nat.le_refl _)) (some ad) ws.length c ws rfl rfl w.heap.size (hr.alloc (Nat.le_refl _) _) (by simp; omega) (by decide) (by simp) ?_; intro v4 w4 ho4 hb4 hg4 hv4)
    rw [List.nil_append] at ho4
    obtain ⟨A4, c4, rfl, hc4⟩ := ho4.form
    go_ret
    exact ⟨A4, c4, rfl, hc4, ho4, (Gw.alloc w _).trans hb4⟩
theorem words_c (w : World) (B g : Nat) (v : Value) (ws : List (BitVec 64)) (h : MemAt w B g v ws) (hl : ws.length ≤ 1000000) : Calls Tryd.prog 39 #[.pointer (some ⟨g, 0, none⟩)] w (MkP u64v 68 ws w) := by
  obtain ⟨A, c, e, hc⟩ := h.row.form
  subst e
  have c0 := h.blk.cell 0
  have HC := Lib.hid (clone64_c ws A c w h.row.rd hl)
  obtain ⟨N, hN⟩ : ∃ N, N = ws.length := ⟨_, rfl⟩
  rw [← hN] at c0 HC
  clear h hc hN hl
  go_enter Tryd.func39, Tryd.ntmps39
  go_wp2_with fail
  refine Calls.mono HC.out ?_
  rintro e w1 ⟨A2, c2, rfl, h2, r2, b2⟩
  go_wp2_with fail
  go_ret
  exact ⟨A2, c2, rfl, h2, r2, b2⟩
theorem of_in (w : World) (A : Option Addr) (c : Nat) (ws : List (BitVec 64)) (hr : Rd u64v w w.heap.size A ws) (hl : ws.length ≤ 8192) :
    Calls Tryd.prog 62 #[.slice A ws.length c] w fun e w' => ∃ g v, e = .returned (.tuple #[.pointer (some ⟨g, 0, none⟩), .int .i64 0]) ∧ MemAt w' w.heap.size g v ws ∧ Below w.heap.size w w' := by
  have HC := Lib.hid (clone64_c ws A c w hr (by omega))
  have t2 : decide ((8192 : Int) < (ws.length : Int)) = false := by simp; omega
  obtain ⟨N, hN⟩ : ∃ N, N = ws.length := ⟨_, rfl⟩
  rw [← hN] at HC t2 ⊢
  clear hr hN hl
  go_enter Tryd.func62, Tryd.ntmps62
  go_wp2_with fail
  refine Calls.mono HC.out ?_
  rintro e w1 ⟨A2, c2, rfl, h2, r2, b2⟩
  have HR := Lib.hid r2
  have HB := Lib.hid b2
  clear h2 r2 b2
  go_wp2_with fail
  go_ret2
  have hsz := HB.out.size
  refine ⟨w1.heap.size, _, rfl, ⟨Bk.new w1 _ _, hsz, HR.out.alloc _, fun e => ?_⟩, HB.out.alloc hsz _⟩
  have := (HR.out.lt _ e).2
  omega
end Go.Proofs.YtfodefgihicafaaDoor
/- mem: Set out of place, Of refused, Twin. Conditions: lengths. -/
namespace Go.Proofs.YtfodefgihicafaaDoor
set_option linter.unusedVariables false
set_option linter.unusedSimpArgs false
open Go.RowKit
set_option maxHeartbeats 400000
theorem set_out (w : World) (B g : Nat) (v : Value) (ws : List (BitVec 64)) (i x : Int) (hi : inM (ws.length : Int) i 1 = false) (hl : ws.length ≤ 100000) (ha : -9223372036854775808 ≤ i) (ha2 : i ≤ 9223372036854775807) (h : MemAt w B g v ws) :
    Calls Tryd.prog 33 #[.pointer (some ⟨g, 0, none⟩), .int .i64 i, .int .u64 x] w fun e w' => e = .returned (.int .i64 1) ∧ w' = w := by
  have HL := Lib.hid (len_c w B g v ws h)
  have HI := Lib.hid (insideM_c w (ws.length : Int) i 1 (by omega) (by omega) ha ha2 (by decide) (by decide))
  rw [hi] at HI
  clear hi h
  go_enter Tryd.func33, Tryd.ntmps33
  go_wp2_with fail
  refine Calls.mono HL.out ?_
  rintro e w1 ⟨rfl, rfl⟩
  go_wp2_with fail
  refine Calls.mono HI.out ?_
  rintro e w2 ⟨rfl, rfl⟩
  go_wp2_with fail
  go_ret
  exact ⟨rfl, rfl⟩
theorem of_out (w : World) (A : Option Addr) (c n : Nat) (hl : 8192 < n) :
    Calls Tryd.prog 62 #[.slice A n c] w fun e w' => e = .returned (.tuple #[.pointer none, .int .i64 1]) ∧ w' = w := by
  have t2 : decide ((8192 : Int) < (n : Int)) = true := by simp; omega
  go_enter Tryd.func62, Tryd.ntmps62
  go_wp2_with fail
  go_ret2
  exact ⟨rfl, rfl⟩
end Go.Proofs.YtfodefgihicafaaDoor
/- Facts on fields, turns and signs of words, bit by bit. No conditions. -/
namespace Go.Proofs.YtfodefgihicafaaDoor
set_option linter.unusedVariables false
set_option linter.unusedSimpArgs false
theorem field_bit (x : BitVec 64) (at_ n : Int) (h : wB at_ n = true) (i : Nat) : (fieldB x at_ n).getLsbD i = (x.getLsbD (at_.toNat + i) && decide (i < n.toNat)) := by
  obtain ⟨h1, h2, h3, h4, h5⟩ := wB_out h
  unfold fieldB
  rw [if_pos h, BitVec.getLsbD_and, lowB_bit n h3 h4, BitVec.getLsbD_ushiftRight]
theorem with_bit (x : BitVec 64) (at_ n : Int) (v : BitVec 64) (h : wB at_ n = true) (i : Nat) (hi : i < 64) :
    (withB x at_ n v).getLsbD i = if at_.toNat ≤ i ∧ i < at_.toNat + n.toNat then v.getLsbD (i - at_.toNat) else x.getLsbD i := by
  obtain ⟨h1, h2, h3, h4, h5⟩ := wB_out h
  unfold withB
  rw [if_pos h, BitVec.getLsbD_or, BitVec.getLsbD_and, BitVec.getLsbD_not, BitVec.getLsbD_shiftLeft, BitVec.getLsbD_shiftLeft, BitVec.getLsbD_and, lowB_bit n h3 h4]
  by_cases a : at_.toNat ≤ i
  · by_cases b : i < at_.toNat + n.toNat
    · have c : ¬ i < at_.toNat := by omega
      have d : i - at_.toNat < n.toNat := by omega
      simp [hi, a, b, c, d]
    · have c : ¬ i < at_.toNat := by omega
      have d : ¬ i - at_.toNat < n.toNat := by omega
      simp [hi, b, c, d]
  · have c : i < at_.toNat := by omega
    simp [hi, a, c]
theorem field_with (x : BitVec 64) (at_ n : Int) (v : BitVec 64) (h : wB at_ n = true) : fieldB (withB x at_ n v) at_ n = fieldB v 0 n := by
  obtain ⟨h1, h2, h3, h4, h5⟩ := wB_out h
  have h0 : wB 0 n = true := by unfold wB; rw [decide_eq_true_eq]; omega
  apply BitVec.eq_of_getLsbD_eq
  intro i hi
  rw [field_bit _ _ _ h, field_bit _ _ _ h0]
  by_cases hn : i < n.toNat
  · rw [with_bit _ _ _ _ h _ (by omega), if_pos (by omega)]
    simp [show at_.toNat + i - at_.toNat = i from by omega]
  · simp [hn]
theorem with_field (x : BitVec 64) (at_ n : Int) (v : BitVec 64) (h : wB at_ n = true) : withB (withB x at_ n v) at_ n (fieldB x at_ n) = x := by
  obtain ⟨h1, h2, h3, h4, h5⟩ := wB_out h
  apply BitVec.eq_of_getLsbD_eq
  intro i hi
  rw [with_bit _ _ _ _ h _ hi, with_bit _ _ _ _ h _ hi, field_bit _ _ _ h]
  by_cases a : at_.toNat ≤ i ∧ i < at_.toNat + n.toNat
  · have d : i - at_.toNat < n.toNat := by omega
    rw [if_pos a, show at_.toNat + (i - at_.toNat) = i from by omega]; simp [d]
  · rw [if_neg a, if_neg a]
theorem turn_bit (x : BitVec 64) (k : Int) (i : Nat) (hi : i < 64) : (turnB x k).getLsbD i = x.getLsbD (((i : Int) - k) % 64).toNat := by
  unfold turnB
  rw [BitVec.getLsbD_or, BitVec.getLsbD_shiftLeft, BitVec.getLsbD_ushiftRight]
  by_cases a : i < (k % 64).toNat
  · rw [show ((i : Int) - k) % 64 = i + (64 - k % 64) from by omega, show ((i : Int) + (64 - k % 64)).toNat = (64 - k % 64).toNat + i from by omega]
    simp [hi, a]
  · rw [show ((i : Int) - k) % 64 = i - (k % 64) from by omega, show ((i : Int) - (k % 64)).toNat = i - (k % 64).toNat from by omega]
    have b : x.getLsbD ((64 - k % 64).toNat + i) = false := by apply BitVec.getLsbD_of_ge; omega
    simp [hi, a, b]
theorem turn_turn (x : BitVec 64) (a b : Int) : turnB (turnB x a) b = turnB x (a + b) := by
  apply BitVec.eq_of_getLsbD_eq
  intro i hi
  rw [turn_bit _ _ _ hi, turn_bit _ _ _ (by omega), turn_bit _ _ _ hi]
  congr 1
  omega
theorem turn_whole (x : BitVec 64) (k : Int) (h : k % 64 = 0) : turnB x k = x := by
  apply BitVec.eq_of_getLsbD_eq
  intro i hi
  rw [turn_bit _ _ _ hi]
  congr 1
  omega
theorem signB_in (x : BitVec 64) (n : Int) (h1 : 1 ≤ n) (h2 : n ≤ 64) (i : Nat) (hi : i < 64) : (signB x n).getLsbD i = x.getLsbD (min i (n.toNat - 1)) := by
  unfold signB; rw [if_pos ⟨h1, h2⟩, signV_bit x n h1 h2 i hi]
theorem signB_signB (x : BitVec 64) (a b : Int) (h1 : 1 ≤ b) (h2 : b ≤ a) (h3 : a ≤ 64) : signB (signB x a) b = signB x b := by
  apply BitVec.eq_of_getLsbD_eq
  intro i hi
  rw [signB_in _ _ h1 (by omega) _ hi, signB_in _ _ (by omega) h3 _ (by omega), signB_in _ _ h1 (by omega) _ hi]
  congr 1
  omega
theorem signB_fits (x : BitVec 64) (a b : Int) (h1 : 1 ≤ b) (h2 : b ≤ a) (h3 : a ≤ 64) (h : signB x b = x) : signB x a = x := by
  rw [← h]
  apply BitVec.eq_of_getLsbD_eq
  intro i hi
  rw [signB_in _ _ (by omega) h3 _ hi, signB_in _ _ h1 (by omega) _ (by omega), signB_in _ _ h1 (by omega) _ hi]
  congr 1
  omega
theorem signB_64 (x : BitVec 64) : signB x 64 = x := by
  apply BitVec.eq_of_getLsbD_eq
  intro i hi
  rw [signB_in _ _ (by decide) (by decide) _ hi]
  congr 1
  omega
theorem signB_out (x : BitVec 64) (n : Int) (h : ¬ (1 ≤ n ∧ n ≤ 64)) : signB x n = 0 := if_neg h
theorem signB_range (x : BitVec 64) (n : Int) (h1 : 1 ≤ n) (h2 : n ≤ 63) : -(2 ^ (n - 1).toNat) ≤ I64 (signB x n) ∧ I64 (signB x n) < 2 ^ (n - 1).toNat := by
  rw [← signB_val x n h1 (by omega)]
  have hlo := I64_lo (x <<< (64 - n).toNat)
  have hhi := I64_hi (x <<< (64 - n).toNat)
  have e : (2 : Int) ^ (n - 1).toNat * 2 ^ (64 - n).toNat = 9223372036854775808 := by
    rw [← Int.pow_add, show (n - 1).toNat + (64 - n).toNat = 63 from by omega]; decide
  have hp : (0 : Int) < 2 ^ (64 - n).toNat := Int.pow_pos (by decide)
  constructor
  · apply Int.le_ediv_of_mul_le hp
    rw [Int.neg_mul, e]; exact hlo
  · apply Int.ediv_lt_of_lt_mul hp
    rw [e]; omega
theorem merge_with (w : BitVec 64) (c : Int) (h1 : 1 ≤ c) (h2 : c ≤ 63) : withB (fieldB w 0 c) c (64 - c) (fieldB w c (64 - c)) = w := by
  have a1 : wB 0 c = true := by unfold wB; rw [decide_eq_true_eq]; omega
  have a2 : wB c (64 - c) = true := by unfold wB; rw [decide_eq_true_eq]; omega
  apply BitVec.eq_of_getLsbD_eq
  intro i hi
  rw [with_bit _ _ _ _ a2 _ hi, field_bit _ _ _ a1, field_bit _ _ _ a2]
  by_cases b : i < c.toNat
  · rw [if_neg (by omega)]; simp [b]
  · have d : i - c.toNat < (64 - c).toNat := by omega
    rw [if_pos (by omega), show c.toNat + (i - c.toNat) = i from by omega]; simp [d]
theorem merge_or (w : BitVec 64) (c : Int) (h1 : 1 ≤ c) (h2 : c ≤ 63) : fieldB w 0 c ||| (fieldB w c (64 - c) <<< c.toNat) = w := by
  have a1 : wB 0 c = true := by unfold wB; rw [decide_eq_true_eq]; omega
  have a2 : wB c (64 - c) = true := by unfold wB; rw [decide_eq_true_eq]; omega
  apply BitVec.eq_of_getLsbD_eq
  intro i hi
  rw [BitVec.getLsbD_or, BitVec.getLsbD_shiftLeft, field_bit _ _ _ a1, field_bit _ _ _ a2]
  by_cases b : i < c.toNat
  · simp [b, hi]
  · have d : i - c.toNat < (64 - c).toNat := by omega
    rw [show c.toNat + (i - c.toNat) = i from by omega]; simp [b, d, hi]
theorem merge_turn (w : BitVec 64) (c : Int) (h1 : 1 ≤ c) (h2 : c ≤ 63) : turnB w (64 - c) = fieldB w c (64 - c) ||| (fieldB w 0 c <<< (64 - c).toNat) := by
  have a1 : wB 0 c = true := by unfold wB; rw [decide_eq_true_eq]; omega
  have a2 : wB c (64 - c) = true := by unfold wB; rw [decide_eq_true_eq]; omega
  apply BitVec.eq_of_getLsbD_eq
  intro i hi
  rw [turn_bit _ _ _ hi, BitVec.getLsbD_or, BitVec.getLsbD_shiftLeft, field_bit _ _ _ a1, field_bit _ _ _ a2]
  by_cases b : i < (64 - c).toNat
  · rw [show (((i : Int) - (64 - c)) % 64).toNat = c.toNat + i from by omega]; simp [b]
  · have d : i - (64 - c).toNat < c.toNat := by omega
    rw [show (((i : Int) - (64 - c)) % 64).toNat = i - (64 - c).toNat from by omega]; simp [b, d, hi]
end Go.Proofs.YtfodefgihicafaaDoor
/- What the functions of package head and their twins in loamref14 answer. No conditions. -/
namespace Go.Proofs.YtfodefgihicafaaDoor
set_option linter.unusedVariables false
set_option linter.unusedSimpArgs false
open Go.RowKit
structure Hd where
  p : Int
  b : Int
  m : Bool
  t : Int
def Hd.v (h : Hd) : Value := .agg #[.int .i64 h.p, .int .i64 h.b, .bool h.m, .int .i64 h.t]
def rightH (p b : Int) (m : Bool) (t : Int) : Bool := if m then decide (p = 0 ∧ b = 0 ∧ 0 ≤ t ∧ t < 8192) else decide (t = 0 ∧ 0 ≤ p ∧ p ≤ 64 ∧ 0 ≤ b ∧ b ≤ 1024)
theorem rightH_out {p b : Int} {m : Bool} {t : Int} (h : rightH p b m t = true) : (m = true ∧ p = 0 ∧ b = 0 ∧ 0 ≤ t ∧ t < 8192) ∨ (m = false ∧ t = 0 ∧ 0 ≤ p ∧ p ≤ 64 ∧ 0 ≤ b ∧ b ≤ 1024) := by
  cases m
  · right; exact ⟨rfl, by simpa [rightH] using h⟩
  · left; exact ⟨rfl, by simpa [rightH] using h⟩
def markB : BitVec 64 := 9223372036854775808
theorem U64_mark : (9223372036854775808 : Int) = U64 markB := by decide +kernel
theorem U64_mark1 : bits .or .u64 9223372036854775808 1 = U64 (markB ||| 1#64) := by decide +kernel
def packH (p b : Int) (m : Bool) (t : Int) : BitVec 64 := if rightH p b m t then (if m then withB (markB ||| 1#64) 32 16 (BitVec.ofInt 64 t) else withB (withB markB 1 8 (BitVec.ofInt 64 p)) 16 12 (BitVec.ofInt 64 b)) else 0
def errH (p b : Int) (m : Bool) (t : Int) : Int := if rightH p b m t then 0 else 1
set_option maxHeartbeats 400000
theorem right_c (p b : Int) (m : Bool) (t : Int) (w : World) : Calls Tryd.prog 76 #[.agg #[.int .i64 p, .int .i64 b, .bool m, .int .i64 t]] w (RetP (.bool (rightH p b m t)) w) := by
  cases m
  all_goals
    go_enter Tryd.func76, Tryd.ntmps76
    go_wp2
    all_goals go_ret
    all_goals refine ret_b ?_ (by repeat (first | with_reducible assumption | with_reducible exact Below.refl _ _ | with_reducible apply bdN | with_reducible apply Below.drew | with_reducible refine Below.alloc ?_ (by simp) _ | with_reducible refine Below.setCell ?_ (by simp) _))
    all_goals unfold rightH
    all_goals first | (rw [Bool.eq_iff_iff]; simp; omega) | (simp; omega)
theorem rright_c (p b : Int) (m : Bool) (t : Int) (w : World) : Calls Tryd.prog 78 #[.agg #[.int .i64 p, .int .i64 b, .bool m, .int .i64 t]] w (RetP (.bool (rightH p b m t)) w) := by
  cases m
  all_goals
    go_enter Tryd.func78, Tryd.ntmps78
    go_wp2
    all_goals go_ret
    all_goals refine ret_b ?_ (by repeat (first | with_reducible assumption | with_reducible exact Below.refl _ _ | with_reducible apply bdN | with_reducible apply Below.drew | with_reducible refine Below.alloc ?_ (by simp) _ | with_reducible refine Below.setCell ?_ (by simp) _))
    all_goals unfold rightH
    all_goals first | (rw [Bool.eq_iff_iff]; simp; omega) | (simp; omega)
attribute [local go_sem] U64_mark1 wrapu64
theorem pack_c (p b : Int) (m : Bool) (t : Int) (w : World) : Calls Tryd.prog 59 #[.agg #[.int .i64 p, .int .i64 b, .bool m, .int .i64 t]] w (RetP (.tuple #[.int .u64 (U64 (packH p b m t)), .int .i64 (errH p b m t)]) w) := by
  by_cases h : rightH p b m t = true
  · have e1 : errH p b m t = 0 := if_pos h
    have hr := rightH_out h
    have HR := Lib.hid hr; clear hr
    cases m
    · have e2 : packH p b false t = withB (withB markB 1 8 (BitVec.ofInt 64 p)) 16 12 (BitVec.ofInt 64 b) := if_pos h
      rw [e1, e2]
      clear e1 e2
      go_enter Tryd.func59, Tryd.ntmps59
      go_wp2_with (go_at_call 76; refine (right_c _ _ _ _ _).mono ?_; rintro e w1 ⟨rfl, hb1⟩; obtain ⟨hk, hB⟩ := boxed hb1; clear hb1; obtain ⟨hc0, hc1, hc2, hc3⟩ := hk.four; clear hk)
      rw [U64_mark]
      try simp only [wrapu64]
      refine (with_c _ _ _ _ _).go.mono ?_
      rintro e w2 ⟨rfl, m2, rfl⟩
      go_wp2_with fail
      try simp only [wrapu64]
      refine (with_c _ _ _ _ _).go.mono ?_
      rintro e w2 ⟨rfl, m3, rfl⟩
      go_wp2_with fail
      go_ret2
      exact ret_v rfl (by repeat (first | with_reducible assumption | with_reducible exact Below.refl _ _ | with_reducible apply bdN | with_reducible apply Below.drew | with_reducible refine Below.alloc ?_ (by simp) _ | with_reducible refine Below.setCell ?_ (by simp) _))
    · have e2 : packH p b true t = withB (markB ||| 1#64) 32 16 (BitVec.ofInt 64 t) := if_pos h
      rw [e1, e2]
      clear e1 e2
      go_enter Tryd.func59, Tryd.ntmps59
      go_wp2_with (go_at_call 76; refine (right_c _ _ _ _ _).mono ?_; rintro e w1 ⟨rfl, hb1⟩; obtain ⟨hk, hB⟩ := boxed hb1; clear hb1; obtain ⟨hc0, hc1, hc2, hc3⟩ := hk.four; clear hk)
      try simp only [wrapu64, U64_mark1]
      refine (with_c _ _ _ _ _).go.mono ?_
      rintro e w2 ⟨rfl, m2, rfl⟩
      go_wp2_with fail
      go_ret2
      exact ret_v rfl (by repeat (first | with_reducible assumption | with_reducible exact Below.refl _ _ | with_reducible apply bdN | with_reducible apply Below.drew | with_reducible refine Below.alloc ?_ (by simp) _ | with_reducible refine Below.setCell ?_ (by simp) _))
  · have h' : rightH p b m t = false := by simpa using h
    have e1 : errH p b m t = 1 := if_neg h
    have e2 : packH p b m t = 0 := if_neg h
    rw [e1, e2]
    clear e1 e2 h
    go_enter Tryd.func59, Tryd.ntmps59
    go_wp2_with (go_at_call 76; refine (right_c _ _ _ _ _).mono ?_; rintro e w1 ⟨rfl, hb1⟩; obtain ⟨hk, hB⟩ := boxed hb1; clear hb1; obtain ⟨hc0, hc1, hc2, hc3⟩ := hk.four; clear hk)
    go_ret2
    exact ret_v rfl (by repeat (first | with_reducible assumption | with_reducible exact Below.refl _ _ | with_reducible apply bdN | with_reducible apply Below.drew | with_reducible refine Below.alloc ?_ (by simp) _ | with_reducible refine Below.setCell ?_ (by simp) _))
end Go.Proofs.YtfodefgihicafaaDoor
/- What the twins of package head in loamref14 answer, and sizes. No conditions. -/
namespace Go.Proofs.YtfodefgihicafaaDoor
set_option linter.unusedVariables false
set_option linter.unusedSimpArgs false
open Go.RowKit
theorem small_bit (t : Int) (k : Nat) (h1 : 0 ≤ t) (h2 : t < 2 ^ k) (j : Nat) (hj : k ≤ j) : (BitVec.ofInt 64 t).getLsbD j = false := by
  obtain ⟨n, rfl⟩ := Int.eq_ofNat_of_zero_le h1
  have h3 : n < 2 ^ k := by exact_mod_cast h2
  rcases Nat.lt_or_ge j 64 with hj2 | hj2
  · rw [BitVec.ofInt_natCast, BitVec.getLsbD_ofNat]
    rw [Nat.testBit_lt_two_pow (Nat.lt_of_lt_of_le h3 (Nat.pow_le_pow_right (by decide) hj))]
    simp
  · exact BitVec.getLsbD_of_ge _ _ hj2
theorem mark_bit (i : Nat) : markB.getLsbD i = decide (i = 63) := by
  rcases Nat.lt_or_ge i 64 with h | h
  · have : ∀ k : Fin 64, markB.getLsbD k.val = decide (k.val = 63) := by decide +kernel
    exact this ⟨i, h⟩
  · rw [BitVec.getLsbD_of_ge _ _ h]; simp; omega
theorem one_bit (i : Nat) : (1#64).getLsbD i = decide (i = 0) := by
  rcases Nat.lt_or_ge i 64 with h | h
  · have : ∀ k : Fin 64, (1#64).getLsbD k.val = decide (k.val = 0) := by decide +kernel
    exact this ⟨i, h⟩
  · rw [BitVec.getLsbD_of_ge _ _ h]; simp; omega
theorem packM (t : Int) (h1 : 0 ≤ t) (h2 : t < 8192) : (markB ||| 1#64) + (BitVec.ofInt 64 t <<< 32) = withB (markB ||| 1#64) 32 16 (BitVec.ofInt 64 t) := by
  have hw : wB 32 16 = true := by decide
  rw [BitVec.add_eq_or_of_and_eq_zero]
  · apply BitVec.eq_of_getLsbD_eq
    intro i hi
    rw [with_bit _ _ _ _ hw _ hi, BitVec.getLsbD_or, BitVec.getLsbD_or, mark_bit, one_bit, BitVec.getLsbD_shiftLeft]
    by_cases a : 32 ≤ i ∧ i < 48
    · rw [if_pos (by omega)]
      have b1 : ¬ i = 63 := by omega
      have b2 : ¬ i = 0 := by omega
      have b3 : ¬ i < 32 := by omega
      simp [hi, b1, b2, b3]
    · rw [if_neg (by omega)]
      by_cases c : i < 32
      · simp [hi, c]
      · rw [small_bit t 13 h1 (by omega) (i - 32) (by omega)]; simp
  · apply BitVec.eq_of_getLsbD_eq
    intro i hi
    rw [BitVec.getLsbD_and, BitVec.getLsbD_or, mark_bit, one_bit, BitVec.getLsbD_shiftLeft, BitVec.getLsbD_zero]
    by_cases c : i < 32
    · simp [hi, c]
    · by_cases d : i = 63
      · rw [small_bit t 13 h1 (by omega) (i - 32) (by omega)]; simp
      · have e : ¬ i = 0 := by omega
        simp [d, e]
theorem packN (p b : Int) (h1 : 0 ≤ p) (h2 : p ≤ 64) (h3 : 0 ≤ b) (h4 : b ≤ 1024) : markB + (BitVec.ofInt 64 p <<< 1) + (BitVec.ofInt 64 b <<< 16) = withB (withB markB 1 8 (BitVec.ofInt 64 p)) 16 12 (BitVec.ofInt 64 b) := by
  have hw : wB 1 8 = true := by decide
  have hw2 : wB 16 12 = true := by decide
  have e1 : markB + (BitVec.ofInt 64 p <<< 1) = markB ||| (BitVec.ofInt 64 p <<< 1) := by
    apply BitVec.add_eq_or_of_and_eq_zero
    apply BitVec.eq_of_getLsbD_eq
    intro i hi
    rw [BitVec.getLsbD_and, mark_bit, BitVec.getLsbD_shiftLeft, BitVec.getLsbD_zero]
    by_cases d : i = 63
    · rw [small_bit p 7 h1 (by omega) (i - 1) (by omega)]; simp
    · simp [d]
  rw [e1, BitVec.add_eq_or_of_and_eq_zero]
  · apply BitVec.eq_of_getLsbD_eq
    intro i hi
    rw [with_bit _ _ _ _ hw2 _ hi, with_bit _ _ _ _ hw _ hi, BitVec.getLsbD_or, BitVec.getLsbD_or, mark_bit, BitVec.getLsbD_shiftLeft, BitVec.getLsbD_shiftLeft]
    by_cases a : 16 ≤ i
    · have b3 : ¬ i < 16 := by omega
      have b4 : ¬ i < 1 := by omega
      rw [small_bit p 7 h1 (by omega) (i - 1) (by omega)]
      by_cases c : i < 28
      · rw [if_pos (by omega)]
        have b1 : ¬ i = 63 := by omega
        simp [hi, b1, b3]
      · rw [if_neg (by omega), if_neg (by omega), small_bit b 11 h3 (by omega) (i - 16) (by omega)]
        simp
    · rw [if_neg (by omega)]
      have b1 : ¬ i = 63 := by omega
      have b3 : i < 16 := by omega
      by_cases c : 1 ≤ i ∧ i < 9
      · rw [if_pos (by omega)]
        have b4 : ¬ i < 1 := by omega
        simp [hi, b1, b3, b4]
      · rw [if_neg (by omega)]
        by_cases d : i < 1
        · simp [b1, b3, d]
        · rw [small_bit p 7 h1 (by omega) (i - 1) (by omega)]; simp [b1, b3]
  · apply BitVec.eq_of_getLsbD_eq
    intro i hi
    rw [BitVec.getLsbD_and, BitVec.getLsbD_or, mark_bit, BitVec.getLsbD_shiftLeft, BitVec.getLsbD_shiftLeft, BitVec.getLsbD_zero]
    by_cases a : i < 16
    · simp [a]
    · rw [small_bit p 7 h1 (by omega) (i - 1) (by omega)]
      by_cases d : i = 63
      · rw [small_bit b 11 h3 (by omega) (i - 16) (by omega)]; simp
      · simp [d]
def sizeH (p b : Int) (m : Bool) (t : Int) : Int := if rightH p b m t = true ∧ m = false then 1 + p + (b + 7) / 8 else 0
theorem mark_1 : BitVec.ofInt 64 9223372036854775809 = markB ||| 1#64 := by decide +kernel
theorem mark_0 : BitVec.ofInt 64 9223372036854775808 = markB := by decide +kernel
theorem sumM (t : Int) (h1 : 0 ≤ t) (h2 : t < 8192) : (9223372036854775809 : Int) + t * (4294967296 : Int) = U64 ((markB ||| 1#64) + (BitVec.ofInt 64 t <<< 32)) := by
  rw [← mark_1, show BitVec.ofInt 64 t <<< 32 = BitVec.ofInt 64 (t * 2 ^ 32) from (ofInt_mul_pow _ _ _).symm, ← BitVec.ofInt_add]
  exact U64_of (by omega) (by omega)
theorem sumN (p b : Int) (h1 : 0 ≤ p) (h2 : p ≤ 64) (h3 : 0 ≤ b) (h4 : b ≤ 1024) : (9223372036854775808 : Int) + p * (2 : Int) + b * (65536 : Int) = U64 (markB + (BitVec.ofInt 64 p <<< 1) + (BitVec.ofInt 64 b <<< 16)) := by
  rw [← mark_0, show BitVec.ofInt 64 p <<< 1 = BitVec.ofInt 64 (p * 2 ^ 1) from (ofInt_mul_pow _ _ _).symm, show BitVec.ofInt 64 b <<< 16 = BitVec.ofInt 64 (b * 2 ^ 16) from (ofInt_mul_pow _ _ _).symm, ← BitVec.ofInt_add, ← BitVec.ofInt_add]
  exact U64_of (by omega) (by omega)
theorem tup_ue' {a b : Int} {y : Int} (h : a = b) : Value.tuple #[.int .u64 a, .int .i64 y] = .tuple #[.int .u64 b, .int .i64 y] := by rw [h]
set_option maxHeartbeats 400000
theorem rpack_c (p b : Int) (m : Bool) (t : Int) (w : World) : Calls Tryd.prog 71 #[.agg #[.int .i64 p, .int .i64 b, .bool m, .int .i64 t]] w (RetP (.tuple #[.int .u64 (U64 (packH p b m t)), .int .i64 (errH p b m t)]) w) := by
  by_cases h : rightH p b m t = true
  · have e1 : errH p b m t = 0 := if_pos h
    rw [e1]
    clear e1
    cases m
    · have hr := rightH_out h
      simp only [Bool.false_eq_true, false_and, true_and, false_or] at hr
      obtain ⟨h0, h1, h2, h3, h4⟩ := hr
      have e2 : packH p b false t = withB (withB markB 1 8 (BitVec.ofInt 64 p)) 16 12 (BitVec.ofInt 64 b) := if_pos h
      rw [e2, ← packN p b h1 h2 h3 h4]
      have H0 := Lib.hid h0
      clear e2 h0
      go_enter Tryd.func71, Tryd.ntmps71
      go_wp2_with (go_at_call 78; refine (rright_c _ _ _ _ _).mono ?_; rintro e w1 ⟨rfl, hb1⟩; obtain ⟨hk, hB⟩ := boxed hb1; clear hb1; obtain ⟨hc0, hc1, hc2, hc3⟩ := hk.four; clear hk)
      go_ret2
      refine ret_v (tup_ue' ?_) (by repeat (first | with_reducible assumption | with_reducible exact Below.refl _ _ | with_reducible apply bdN | with_reducible apply Below.drew | with_reducible refine Below.alloc ?_ (by simp) _ | with_reducible refine Below.setCell ?_ (by simp) _))
      exact sumN p b h1 h2 h3 h4
    · have hr := rightH_out h
      simp only [Bool.true_eq_false, false_and, true_and, or_false] at hr
      obtain ⟨h0, h00, h1, h2⟩ := hr
      have e2 : packH p b true t = withB (markB ||| 1#64) 32 16 (BitVec.ofInt 64 t) := if_pos h
      rw [e2, ← packM t h1 h2]
      have H0 := Lib.hid (And.intro h0 h00)
      clear e2 h0 h00
      go_enter Tryd.func71, Tryd.ntmps71
      go_wp2_with (go_at_call 78; refine (rright_c _ _ _ _ _).mono ?_; rintro e w1 ⟨rfl, hb1⟩; obtain ⟨hk, hB⟩ := boxed hb1; clear hb1; obtain ⟨hc0, hc1, hc2, hc3⟩ := hk.four; clear hk)
      go_ret2
      refine ret_v (tup_ue' ?_) (by repeat (first | with_reducible assumption | with_reducible exact Below.refl _ _ | with_reducible apply bdN | with_reducible apply Below.drew | with_reducible refine Below.alloc ?_ (by simp) _ | with_reducible refine Below.setCell ?_ (by simp) _))
      exact sumM t h1 h2
  · have h' : rightH p b m t = false := by simpa using h
    have e1 : errH p b m t = 1 := if_neg h
    have e2 : packH p b m t = 0 := if_neg h
    rw [e1, e2]
    clear e1 e2 h
    go_enter Tryd.func71, Tryd.ntmps71
    go_wp2_with (go_at_call 78; refine (rright_c _ _ _ _ _).mono ?_; rintro e w1 ⟨rfl, hb1⟩; obtain ⟨hk, hB⟩ := boxed hb1; clear hb1; obtain ⟨hc0, hc1, hc2, hc3⟩ := hk.four; clear hk)
    go_ret2
    exact ret_v rfl (by repeat (first | with_reducible assumption | with_reducible exact Below.refl _ _ | with_reducible apply bdN | with_reducible apply Below.drew | with_reducible refine Below.alloc ?_ (by simp) _ | with_reducible refine Below.setCell ?_ (by simp) _))
theorem size_c (p b : Int) (m : Bool) (t : Int) (w : World) : Calls Tryd.prog 60 #[.agg #[.int .i64 p, .int .i64 b, .bool m, .int .i64 t]] w (RetP (.int .i64 (sizeH p b m t)) w) := by
  by_cases h : rightH p b m t = true
  · cases m
    · have hr := rightH_out h
      simp only [Bool.false_eq_true, false_and, true_and, false_or] at hr
      obtain ⟨h0, h1, h2, h3, h4⟩ := hr
      have e2 : sizeH p b false t = 1 + p + (b + 7) / 8 := if_pos ⟨h, rfl⟩
      rw [e2]
      have H0 := Lib.hid h0
      clear e2 h0
      go_enter Tryd.func60, Tryd.ntmps60
      go_wp2_with (go_at_call 76; refine (right_c _ _ _ _ _).mono ?_; rintro e w1 ⟨rfl, hb1⟩; obtain ⟨hk, hB⟩ := boxed hb1; clear hb1; obtain ⟨hc0, hc1, hc2, hc3⟩ := hk.four; clear hk)
      go_ret
      refine ret_i ?_ (by repeat (first | with_reducible assumption | with_reducible exact Below.refl _ _ | with_reducible apply bdN | with_reducible apply Below.drew | with_reducible refine Below.alloc ?_ (by simp) _ | with_reducible refine Below.setCell ?_ (by simp) _))
      omega
    · have e2 : sizeH p b true t = 0 := if_neg (by simp)
      rw [e2]
      clear e2
      go_enter Tryd.func60, Tryd.ntmps60
      go_wp2_with (go_at_call 76; refine (right_c _ _ _ _ _).mono ?_; rintro e w1 ⟨rfl, hb1⟩; obtain ⟨hk, hB⟩ := boxed hb1; clear hb1; obtain ⟨hc0, hc1, hc2, hc3⟩ := hk.four; clear hk)
      go_ret
      exact ret_i rfl (by repeat (first | with_reducible assumption | with_reducible exact Below.refl _ _ | with_reducible apply bdN | with_reducible apply Below.drew | with_reducible refine Below.alloc ?_ (by simp) _ | with_reducible refine Below.setCell ?_ (by simp) _))
  · have h' : rightH p b m t = false := by simpa using h
    have e2 : sizeH p b m t = 0 := if_neg (fun h2 => h h2.1)
    rw [e2]
    clear e2 h
    go_enter Tryd.func60, Tryd.ntmps60
    go_wp2_with (go_at_call 76; refine (right_c _ _ _ _ _).mono ?_; rintro e w1 ⟨rfl, hb1⟩; obtain ⟨hk, hB⟩ := boxed hb1; clear hb1; obtain ⟨hc0, hc1, hc2, hc3⟩ := hk.four; clear hk)
    go_ret
    exact ret_i rfl (by repeat (first | with_reducible assumption | with_reducible exact Below.refl _ _ | with_reducible apply bdN | with_reducible apply Below.drew | with_reducible refine Below.alloc ?_ (by simp) _ | with_reducible refine Below.setCell ?_ (by simp) _))
theorem rsize_c (p b : Int) (m : Bool) (t : Int) (w : World) : Calls Tryd.prog 65 #[.agg #[.int .i64 p, .int .i64 b, .bool m, .int .i64 t]] w (RetP (.int .i64 (sizeH p b m t)) w) := by
  by_cases h : rightH p b m t = true
  · cases m
    · have hr := rightH_out h
      simp only [Bool.false_eq_true, false_and, true_and, false_or] at hr
      obtain ⟨h0, h1, h2, h3, h4⟩ := hr
      have e2 : sizeH p b false t = 1 + p + (b + 7) / 8 := if_pos ⟨h, rfl⟩
      rw [e2]
      have H0 := Lib.hid h0
      clear e2 h0
      go_enter Tryd.func65, Tryd.ntmps65
      go_wp2_with (go_at_call 78; refine (rright_c _ _ _ _ _).mono ?_; rintro e w1 ⟨rfl, hb1⟩; obtain ⟨hk, hB⟩ := boxed hb1; clear hb1; obtain ⟨hc0, hc1, hc2, hc3⟩ := hk.four; clear hk)
      go_ret
      refine ret_i ?_ (by repeat (first | with_reducible assumption | with_reducible exact Below.refl _ _ | with_reducible apply bdN | with_reducible apply Below.drew | with_reducible refine Below.alloc ?_ (by simp) _ | with_reducible refine Below.setCell ?_ (by simp) _))
      omega
    · have e2 : sizeH p b true t = 0 := if_neg (by simp)
      rw [e2]
      clear e2
      go_enter Tryd.func65, Tryd.ntmps65
      go_wp2_with (go_at_call 78; refine (rright_c _ _ _ _ _).mono ?_; rintro e w1 ⟨rfl, hb1⟩; obtain ⟨hk, hB⟩ := boxed hb1; clear hb1; obtain ⟨hc0, hc1, hc2, hc3⟩ := hk.four; clear hk)
      go_ret
      exact ret_i rfl (by repeat (first | with_reducible assumption | with_reducible exact Below.refl _ _ | with_reducible apply bdN | with_reducible apply Below.drew | with_reducible refine Below.alloc ?_ (by simp) _ | with_reducible refine Below.setCell ?_ (by simp) _))
  · have h' : rightH p b m t = false := by simpa using h
    have e2 : sizeH p b m t = 0 := if_neg (fun h2 => h h2.1)
    rw [e2]
    clear e2 h
    go_enter Tryd.func65, Tryd.ntmps65
    go_wp2_with (go_at_call 78; refine (rright_c _ _ _ _ _).mono ?_; rintro e w1 ⟨rfl, hb1⟩; obtain ⟨hk, hB⟩ := boxed hb1; clear hb1; obtain ⟨hc0, hc1, hc2, hc3⟩ := hk.four; clear hk)
    go_ret
    exact ret_i rfl (by repeat (first | with_reducible assumption | with_reducible exact Below.refl _ _ | with_reducible apply bdN | with_reducible apply Below.drew | with_reducible refine Below.alloc ?_ (by simp) _ | with_reducible refine Below.setCell ?_ (by simp) _))
end Go.Proofs.YtfodefgihicafaaDoor
/- A header read out of a word: what is told is the same by either road. No conditions. -/
namespace Go.Proofs.YtfodefgihicafaaDoor
set_option linter.unusedVariables false
set_option linter.unusedSimpArgs false
open Go.RowKit
theorem field_zero (x : BitVec 64) (at_ n : Int) (h : wB at_ n = true) (hz : ∀ i, i < n.toNat → x.getLsbD (at_.toNat + i) = false) : fieldB x at_ n = 0 := by
  apply BitVec.eq_of_getLsbD_eq
  intro i hi
  rw [field_bit _ _ _ h]
  by_cases a : i < n.toNat
  · rw [hz i a]; simp
  · simp [a]
theorem field_small (t : Int) (n : Int) (h : wB 0 n = true) (h1 : 0 ≤ t) (h2 : t < 2 ^ n.toNat) : fieldB (BitVec.ofInt 64 t) 0 n = BitVec.ofInt 64 t := by
  apply BitVec.eq_of_getLsbD_eq
  intro i hi
  rw [field_bit _ _ _ h]
  by_cases a : i < n.toNat
  · simp [a]
  · simp only [a, decide_false, Bool.and_false]
    rw [small_bit t n.toNat h1 h2 i (by omega)]
theorem U64_ofInt (t : Int) (h1 : 0 ≤ t) (h2 : t < 2 ^ 64) : U64 (BitVec.ofInt 64 t) = t := (U64_of h1 h2).symm
theorem unM (v : BitVec 64) : fieldB (withB (markB ||| 1#64) 32 16 v) 1 8 = 0 ∧ fieldB (withB (markB ||| 1#64) 32 16 v) 16 12 = 0 ∧ fieldB (withB (markB ||| 1#64) 32 16 v) 32 16 = fieldB v 0 16 ∧ (withB (markB ||| 1#64) 32 16 v).getLsbD 0 = true := by
  have hw : wB 32 16 = true := by decide
  refine ⟨?_, ?_, field_with _ _ _ _ hw, ?_⟩
  · apply field_zero _ _ _ (by decide)
    intro i hi
    have : i < 8 := hi
    rw [with_bit _ _ _ _ hw _ (by omega), if_neg (by omega), BitVec.getLsbD_or, mark_bit, one_bit]
    simp; omega
  · apply field_zero _ _ _ (by decide)
    intro i hi
    have : i < 12 := hi
    rw [with_bit _ _ _ _ hw _ (by omega), if_neg (by omega), BitVec.getLsbD_or, mark_bit, one_bit]
    simp; omega
  · rw [with_bit _ _ _ _ hw _ (by omega), if_neg (by omega), BitVec.getLsbD_or, one_bit]; simp
theorem unN (p b : BitVec 64) : fieldB (withB (withB markB 1 8 p) 16 12 b) 1 8 = fieldB p 0 8 ∧ fieldB (withB (withB markB 1 8 p) 16 12 b) 16 12 = fieldB b 0 12 ∧ fieldB (withB (withB markB 1 8 p) 16 12 b) 32 16 = 0 ∧ (withB (withB markB 1 8 p) 16 12 b).getLsbD 0 = false := by
  have hw : wB 1 8 = true := by decide
  have hw2 : wB 16 12 = true := by decide
  refine ⟨?_, field_with _ _ _ _ hw2, ?_, ?_⟩
  · apply BitVec.eq_of_getLsbD_eq
    intro i hi
    rw [field_bit _ _ _ hw, field_bit _ _ _ (by decide)]
    by_cases a : i < Int.toNat 8
    · have : i < 8 := a
      rw [with_bit _ _ _ _ hw2 _ (by omega), if_neg (by omega), with_bit _ _ _ _ hw _ (by omega), if_pos (by omega)]
      simp
    · have a' : ¬ i < 8 := a
      simp [a']
  · apply field_zero _ _ _ (by decide)
    intro i hi
    have : i < 16 := hi
    rw [with_bit _ _ _ _ hw2 _ (by omega), if_neg (by omega), with_bit _ _ _ _ hw _ (by omega), if_neg (by omega), mark_bit]
    simp; omega
  · rw [with_bit _ _ _ _ hw2 _ (by omega), if_neg (by omega), with_bit _ _ _ _ hw _ (by omega), if_neg (by omega), mark_bit]; simp
def fP (x : BitVec 64) : Int := U64 (fieldB x 1 8)
def fB (x : BitVec 64) : Int := U64 (fieldB x 16 12)
def fT (x : BitVec 64) : Int := U64 (fieldB x 32 16)
def fM (x : BitVec 64) : Bool := x.getLsbD 0
def okU (x : BitVec 64) : Bool := rightH (fP x) (fB x) (fM x) (fT x) && (packH (fP x) (fB x) (fM x) (fT x) == x)
theorem field_lt (x : BitVec 64) (at_ n : Int) (k : Nat) (hk : (n.toNat : Nat) = k) (hk2 : k < 64) (h : wB at_ n = true) : U64 (fieldB x at_ n) < 2 ^ k := by
  obtain ⟨_, _, h3, h4, _⟩ := wB_out h
  unfold fieldB U64
  rw [if_pos h, BitVec.toNat_and, lowB_nat n h3 h4, hk, Nat.and_two_pow_sub_one_eq_mod]
  have : (x >>> at_.toNat).toNat % 2 ^ k < 2 ^ k := Nat.mod_lt _ (Nat.two_pow_pos k)
  exact_mod_cast this
theorem fP_lt (x : BitVec 64) : 0 ≤ U64 (fieldB x 1 8) ∧ U64 (fieldB x 1 8) ≤ 255 := ⟨U64_lo _, by have := field_lt x 1 8 8 rfl (by decide) (by decide); omega⟩
theorem fB_lt (x : BitVec 64) : 0 ≤ U64 (fieldB x 16 12) ∧ U64 (fieldB x 16 12) ≤ 4095 := ⟨U64_lo _, by have := field_lt x 16 12 12 rfl (by decide) (by decide); omega⟩
theorem fT_lt (x : BitVec 64) : 0 ≤ U64 (fieldB x 32 16) ∧ U64 (fieldB x 32 16) ≤ 65535 := ⟨U64_lo _, by have := field_lt x 32 16 16 rfl (by decide) (by decide); omega⟩
theorem U64_zero : U64 0 = 0 := by decide +kernel
/-- What is packed is told again. -/
theorem un_pack (p b : Int) (m : Bool) (t : Int) (h : rightH p b m t = true) : fP (packH p b m t) = p ∧ fB (packH p b m t) = b ∧ fM (packH p b m t) = m ∧ fT (packH p b m t) = t := by
  have hp : packH p b m t = if m then withB (markB ||| 1#64) 32 16 (BitVec.ofInt 64 t) else withB (withB markB 1 8 (BitVec.ofInt 64 p)) 16 12 (BitVec.ofInt 64 b) := if_pos h
  unfold fP fB fM fT
  rcases rightH_out h with ⟨rfl, rfl, rfl, h1, h2⟩ | ⟨rfl, rfl, h1, h2, h3, h4⟩
  · rw [if_pos rfl] at hp
    rw [hp]
    obtain ⟨e1, e2, e3, e4⟩ := unM (BitVec.ofInt 64 t)
    rw [e1, e2, e3, e4, field_small t 16 (by decide) h1 (by show t < 65536; omega), U64_zero]
    exact ⟨rfl, rfl, rfl, U64_ofInt t h1 (by omega)⟩
  · rw [if_neg (by simp)] at hp
    rw [hp]
    obtain ⟨e1, e2, e3, e4⟩ := unN (BitVec.ofInt 64 p) (BitVec.ofInt 64 b)
    rw [e1, e2, e3, e4, field_small p 8 (by decide) h1 (by show p < 256; omega), field_small b 12 (by decide) h3 (by show b < 4096; omega), U64_zero]
    exact ⟨U64_ofInt p h1 (by omega), U64_ofInt b h3 (by omega), rfl, rfl⟩
theorem ok_pack (p b : Int) (m : Bool) (t : Int) (h : rightH p b m t = true) : okU (packH p b m t) = true := by
  obtain ⟨e1, e2, e3, e4⟩ := un_pack p b m t h
  unfold okU
  rw [e1, e2, e3, e4, h]
  simp
/-- The document's road: a word that is marked moved has but To, another one but its numbers. -/
theorem ok_moved (x : BitVec 64) (hm : fM x = true) : (rightH 0 0 true (fT x) && (packH 0 0 true (fT x) == x)) = okU x ∧ (okU x = true → fP x = 0 ∧ fB x = 0) := by
  have key : rightH 0 0 true (fT x) = true → packH 0 0 true (fT x) = x → fP x = 0 ∧ fB x = 0 := by
    intro h e
    obtain ⟨e1, e2, _, _⟩ := un_pack 0 0 true (fT x) h
    rw [e] at e1 e2
    exact ⟨e1, e2⟩
  have key2 : okU x = true → fP x = 0 ∧ fB x = 0 := by
    intro h
    unfold okU at h
    rw [Bool.and_eq_true] at h
    rcases rightH_out h.1 with ⟨_, h1, h2, _⟩ | ⟨h1, _⟩
    · exact ⟨h1, h2⟩
    · rw [hm] at h1; cases h1
  refine ⟨?_, key2⟩
  rw [Bool.eq_iff_iff]
  constructor
  · intro h
    rw [Bool.and_eq_true, beq_iff_eq] at h
    obtain ⟨a, c⟩ := key h.1 h.2
    unfold okU
    rw [a, c, hm, h.1, h.2]; simp
  · intro h
    obtain ⟨a, c⟩ := key2 h
    unfold okU at h
    rw [a, c, hm] at h
    exact h
theorem ok_plain (x : BitVec 64) (hm : fM x = false) : (rightH (fP x) (fB x) false 0 && (packH (fP x) (fB x) false 0 == x)) = okU x ∧ (okU x = true → fT x = 0) := by
  have key : rightH (fP x) (fB x) false 0 = true → packH (fP x) (fB x) false 0 = x → fT x = 0 := by
    intro h e
    obtain ⟨_, _, _, e4⟩ := un_pack (fP x) (fB x) false 0 h
    rw [e] at e4
    exact e4
  have key2 : okU x = true → fT x = 0 := by
    intro h
    unfold okU at h
    rw [Bool.and_eq_true] at h
    rcases rightH_out h.1 with ⟨h1, _⟩ | ⟨_, h1, _⟩
    · rw [hm] at h1; cases h1
    · exact h1
  refine ⟨?_, key2⟩
  rw [Bool.eq_iff_iff]
  constructor
  · intro h
    rw [Bool.and_eq_true, beq_iff_eq] at h
    have a := key h.1 h.2
    unfold okU
    rw [a, hm, h.1, h.2]; simp
  · intro h
    have a := key2 h
    unfold okU at h
    rw [a, hm] at h
    exact h
end Go.Proofs.YtfodefgihicafaaDoor
/- What Unpack and its twin in loamref14 answer. No conditions. -/
namespace Go.Proofs.YtfodefgihicafaaDoor
set_option linter.unusedVariables false
set_option linter.unusedSimpArgs false
open Go.RowKit
def unP (x : BitVec 64) : Int := if okU x then fP x else 0
def unB (x : BitVec 64) : Int := if okU x then fB x else 0
def unM' (x : BitVec 64) : Bool := if okU x then fM x else false
def unT (x : BitVec 64) : Int := if okU x then fT x else 0
def unE (x : BitVec 64) : Int := if okU x then 0 else 2
def unV (x : BitVec 64) : Value := .tuple #[.agg #[.int .i64 (unP x), .int .i64 (unB x), .bool (unM' x), .int .i64 (unT x)], .int .i64 (unE x)]
attribute [local go_sem] and1 beqU64
theorem bit0_ne (x : BitVec 64) : (U64 (x &&& 1#64) != 0) = x.getLsbD 0 := by
  have h : (U64 (x &&& 1#64) == 1) = x.getLsbD 0 := by
    have := bit_one x 0
    rwa [BitVec.ushiftRight_zero] at this
  have h2 : U64 (x &&& 1#64) = 0 ∨ U64 (x &&& 1#64) = 1 := by
    unfold U64
    rw [BitVec.toNat_and, show (1#64).toNat = 2 ^ 1 - 1 from rfl, Nat.and_two_pow_sub_one_eq_mod]
    omega
  rw [← h]
  rcases h2 with e | e <;> rw [e] <;> rfl
theorem okU_no {x : BitVec 64} (h : okU x = false) : rightH (fP x) (fB x) (fM x) (fT x) = false ∨ (rightH (fP x) (fB x) (fM x) (fT x) = true ∧ (packH (fP x) (fB x) (fM x) (fT x) == x) = false) := by
  unfold okU at h
  cases h2 : rightH (fP x) (fB x) (fM x) (fT x)
  · exact .inl rfl
  · rw [h2] at h; exact .inr ⟨rfl, by simpa using h⟩
theorem okU_yes {x : BitVec 64} (h : okU x = true) : rightH (fP x) (fB x) (fM x) (fT x) = true ∧ (packH (fP x) (fB x) (fM x) (fT x) == x) = true := by
  unfold okU at h
  rwa [Bool.and_eq_true] at h
theorem unV_yes {x : BitVec 64} (h : okU x = true) : unV x = .tuple #[.agg #[.int .i64 (fP x), .int .i64 (fB x), .bool (fM x), .int .i64 (fT x)], .int .i64 0] := by
  unfold unV unP unB unM' unT unE; simp [h]
theorem unV_no {x : BitVec 64} (h : okU x = false) : unV x = .tuple #[.agg #[.int .i64 0, .int .i64 0, .bool false, .int .i64 0], .int .i64 2] := by
  unfold unV unP unB unM' unT unE; simp [h]
theorem ret_cells {v v' : Value} {w w' : World} (h : v = v') (hb : Below w.heap.size w w') : RetP v' w (.returned v) w' := ⟨by rw [h], hb⟩
set_option maxHeartbeats 400000
theorem unpack_c (x : BitVec 64) (w : World) : Calls Tryd.prog 80 #[.int .u64 (U64 x)] w (RetP (unV x) w) := by
  obtain ⟨p1, p2⟩ := fP_lt x
  obtain ⟨b1, b2⟩ := fB_lt x
  obtain ⟨t1, t2⟩ := fT_lt x
  obtain ⟨m, hm⟩ : ∃ m, fM x = m := ⟨_, rfl⟩
  have hmm : (U64 (x &&& 1#64) != 0) = m := by rw [bit0_ne]; exact hm
  cases hok : okU x
  · have hv := unV_no hok
    rcases okU_no hok with hn | ⟨hn, hp⟩
    · have hn' : rightH (U64 (fieldB x 1 8)) (U64 (fieldB x 16 12)) m (U64 (fieldB x 32 16)) = false := by rw [← hm]; exact hn
      have he : (errH (U64 (fieldB x 1 8)) (U64 (fieldB x 16 12)) m (U64 (fieldB x 32 16)) != 0) = true := by
        unfold errH; rw [hn']; rfl
      have HV := Lib.hid hv
      have HM := Lib.hid hm
      clear hv hn hn' hok hm
      go_enter Tryd.func80, Tryd.ntmps80
      go_wp2_with (first | (go_at_call 89; refine (field_c _ _ _ _).go.mono ?_; rintro e w' ⟨rfl, mm, rfl⟩))
      refine (pack_c _ _ _ _ _).mono ?_
      rintro e w1 ⟨rfl, hb1⟩
      obtain ⟨hk0, hk1, hB⟩ := boxed2 hb1
      clear hb1
      obtain ⟨c0, c1, c2, c3⟩ := hk0.four
      obtain ⟨d0, d1, d2, d3⟩ := hk1.four
      have f0 := hk0.free 0
      have f1 := hk0.free 1
      have f2 := hk0.free 2
      have f3 := hk0.free 3
      clear hk0 hk1
      go_wp2_with fail
      refine bodyPost_ret (v := .tuple #[.agg #[.int .i64 0, .int .i64 0, .bool false, .int .i64 0], .int .i64 2]) (by simp [results, Tryd.results80, go_sem, c0, c1, c2, c3]) rfl ⟨by rw [HV.out]; try rfl, (by repeat (first | with_reducible assumption | with_reducible exact Below.refl _ _ | with_reducible apply bdN | with_reducible apply Below.drew | with_reducible refine Below.alloc ?_ (by simp) _ | with_reducible refine Below.setCell ?_ (by simp) _))⟩
    · rw [hm] at hn hp
      have he : (errH (U64 (fieldB x 1 8)) (U64 (fieldB x 16 12)) m (U64 (fieldB x 32 16)) != 0) = false := by
        have hn' : rightH (U64 (fieldB x 1 8)) (U64 (fieldB x 16 12)) m (U64 (fieldB x 32 16)) = true := hn
        unfold errH; rw [hn']; rfl
      have hp' : (U64 (packH (U64 (fieldB x 1 8)) (U64 (fieldB x 16 12)) m (U64 (fieldB x 32 16))) != U64 x) = true := by
        rw [bne, beqU64, show (packH (U64 (fieldB x 1 8)) (U64 (fieldB x 16 12)) m (U64 (fieldB x 32 16)) == x) = false from hp]; rfl
      have HV := Lib.hid hv
      have HM := Lib.hid hm
      clear hv hn hok hm hp
      go_enter Tryd.func80, Tryd.ntmps80
      go_wp2_with (first | (go_at_call 89; refine (field_c _ _ _ _).go.mono ?_; rintro e w' ⟨rfl, mm, rfl⟩))
      refine (pack_c _ _ _ _ _).mono ?_
      rintro e w1 ⟨rfl, hb1⟩
      obtain ⟨hk0, hk1, hB⟩ := boxed2 hb1
      clear hb1
      obtain ⟨c0, c1, c2, c3⟩ := hk0.four
      obtain ⟨d0, d1, d2, d3⟩ := hk1.four
      have f0 := hk0.free 0
      have f1 := hk0.free 1
      have f2 := hk0.free 2
      have f3 := hk0.free 3
      clear hk0 hk1
      go_wp2_with fail
      refine bodyPost_ret (v := .tuple #[.agg #[.int .i64 0, .int .i64 0, .bool false, .int .i64 0], .int .i64 2]) (by simp [results, Tryd.results80, go_sem, c0, c1, c2, c3]) rfl ⟨by rw [HV.out]; try rfl, (by repeat (first | with_reducible assumption | with_reducible exact Below.refl _ _ | with_reducible apply bdN | with_reducible apply Below.drew | with_reducible refine Below.alloc ?_ (by simp) _ | with_reducible refine Below.setCell ?_ (by simp) _))⟩
  · have hv := unV_yes hok
    · obtain ⟨hn, hp⟩ := okU_yes hok
      rw [hm] at hn hp hv
      have he : (errH (U64 (fieldB x 1 8)) (U64 (fieldB x 16 12)) m (U64 (fieldB x 32 16)) != 0) = false := by
        have hn' : rightH (U64 (fieldB x 1 8)) (U64 (fieldB x 16 12)) m (U64 (fieldB x 32 16)) = true := hn
        unfold errH; rw [hn']; rfl
      have hp' : (U64 (packH (U64 (fieldB x 1 8)) (U64 (fieldB x 16 12)) m (U64 (fieldB x 32 16))) != U64 x) = false := by
        rw [bne, beqU64, show (packH (U64 (fieldB x 1 8)) (U64 (fieldB x 16 12)) m (U64 (fieldB x 32 16)) == x) = true from hp]; rfl
      have hv2 : unV x = .tuple #[.agg #[.int .i64 (U64 (fieldB x 1 8)), .int .i64 (U64 (fieldB x 16 12)), .bool m, .int .i64 (U64 (fieldB x 32 16))], .int .i64 0] := hv
      have HV := Lib.hid hv2
      clear hv2
      have HM := Lib.hid hm
      clear hv hn hok hm hp
      go_enter Tryd.func80, Tryd.ntmps80
      go_wp2_with (first | (go_at_call 89; refine (field_c _ _ _ _).go.mono ?_; rintro e w' ⟨rfl, mm, rfl⟩))
      refine (pack_c _ _ _ _ _).mono ?_
      rintro e w1 ⟨rfl, hb1⟩
      obtain ⟨hk0, hk1, hB⟩ := boxed2 hb1
      clear hb1
      obtain ⟨c0, c1, c2, c3⟩ := hk0.four
      obtain ⟨d0, d1, d2, d3⟩ := hk1.four
      have f0 := hk0.free 0
      have f1 := hk0.free 1
      have f2 := hk0.free 2
      have f3 := hk0.free 3
      clear hk0 hk1
      go_wp2_with fail
      refine bodyPost_ret (v := .tuple #[.agg #[.int .i64 (U64 (fieldB x 1 8)), .int .i64 (U64 (fieldB x 16 12)), .bool m, .int .i64 (U64 (fieldB x 32 16))], .int .i64 0]) (by simp [results, Tryd.results80, go_sem, c0, c1, c2, c3]) rfl (ret_cells HV.out.symm (by repeat (first | with_reducible assumption | with_reducible exact Below.refl _ _ | with_reducible apply bdN | with_reducible apply Below.drew | with_reducible refine Below.alloc ?_ (by simp) _ | with_reducible refine Below.setCell ?_ (by simp) _)))
end Go.Proofs.YtfodefgihicafaaDoor
