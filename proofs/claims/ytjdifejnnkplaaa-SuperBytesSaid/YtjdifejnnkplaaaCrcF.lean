/- What Low, Seal, Right of loamref2 answer. Conditions: at most 2^30 bytes. -/
import Derived.Test.YtjdifejnnkplaaaCrcE
import Derived.Test.YtjdifejnnkplaaaKnown2
namespace Go.Proofs.Ytjdifejnnkplaaa
set_option linter.unusedVariables false
set_option linter.unusedSimpArgs false
open Go.RowKit
set_option maxRecDepth 100000
set_option maxHeartbeats 400000
attribute [local go_sem] m8_0 sh8 sh16 sh24 u32_u8
theorem rseal_c (bs : List (BitVec 8)) (A : Option Addr) (c : Nat) (w : World) (hr : Rd b8 w w.heap.size A bs) (hl : bs.length ≤ 1073741824) :
    Calls Try.prog 22 #[.slice A bs.length c] w (MkP b8 5 (sealC bs) w) := by
  have ho0 := ow_empty b8 5 w w.heap.size (Nat.le_refl _)
  go_enter Try.func22, Try.ntmps22
  go_wp2_with (first
    | (at_builtin; refine wp_app one8 b8_one rfl (.tmp 3) (.tmp 4) rfl w.heap.size _ [] rfl ho0 A bs.length c bs rfl rfl w.heap.size (hr.alloc (Nat.le_refl _) _) (by simp; omega) (by decide) (by simp) ?_; intro v4 w4 ho4 hb4 hg4 _)
    | (go_at_call 34; refine (rsum_c bs A c w.heap.size _ ((hr.alloc (Nat.le_refl _) _).below hb4) (by omega)).mono ?_; rintro e w5 ⟨rfl, rfl⟩)
    | (go_at_call 33; refine (rlow_c _ _).mono ?_; rintro e w6 ⟨A6, c6, rfl, hc6, ho6, hb6⟩)
    | (at_builtin; refine wp_app one8 b8_one rfl (.tmp 5) (.tmp 8) rfl w.heap.size v4 ([] ++ bs) rfl (ho4.below hb6) A6 (tailL (addC 0 bs)).length c6 (tailL (addC 0 bs)) rfl rfl w6.heap.size ho6.rd (by simp [tailL]; omega) (by decide) (Nat.le_trans ((Gw.alloc w _).trans hb4).size hb6.size) ?_; intro v7 w7 ho7 hb7 _ _))
  go_ret
  exact MkP.of (by simpa [sealC] using ho7) ((((Gw.alloc w _).trans hb4).trans (hb6.mono ((Gw.alloc w _).trans hb4).size)).trans hb7)
def rightL (bs : List (BitVec 8)) : Bool := decide (4 ≤ bs.length) && tailL (addC 0#32 (bs.take (bs.length - 4))) == bs.drop (bs.length - 4)
theorem sum_r (xs : List (BitVec 8)) (A : Option Addr) (c n : Nat) (w : World) (hn : n = xs.length) (hr : Rd b8 w w.heap.size A xs) (hl : xs.length ≤ 2147483648) : Calls Try.prog 34 #[.slice A n c] w fun e w2 => ∃ v, e = .returned v ∧ Below w.heap.size w w2 ∧ IsV (.int .u32 (U32 (addC 0#32 xs))) v w2 := by
  subst hn
  exact (rsum_c xs A c _ w hr hl).mono fun e w2 h => ⟨_, h.1, by rw [h.2]; exact Below.refl _ _, rfl⟩
theorem low_r (s : BitVec 32) (w : World) : Calls Try.prog 33 #[.int .u32 (U32 s)] w fun e w2 => ∃ v, e = .returned v ∧ Below w.heap.size w w2 ∧ SlV b8 (tailL s) v w2 :=
  (rlow_c s w).mono fun e w2 h => by
    obtain ⟨A, c, rfl, hc, ho, hb⟩ := h
    exact ⟨_, rfl, hb, A, c, rfl, hc, ho.rd⟩
theorem strB_beq (x y : List (BitVec 8)) : ((strB x).toList == (strB y).toList) = (x == y) := by
  rw [Bool.eq_iff_iff, beq_iff_eq, beq_iff_eq]
  constructor
  · intro h
    apply strB_inj
    rw [ByteArray.toList_eq, ByteArray.toList_eq] at h
    have h2 := Array.ext' h
    exact congrArg ByteArray.mk h2
  · intro h; rw [h]
theorem rightL_no (bs : List (BitVec 8)) (h : bs.length < 4) : rightL bs = false := by
  unfold rightL
  rw [Bool.and_eq_false_iff]; left
  rw [decide_eq_false_iff_not]; omega
theorem rightL_yes (bs : List (BitVec 8)) (h : 4 ≤ bs.length) : rightL bs = (tailL (addC 0#32 (bs.take (bs.length - 4))) == bs.drop (bs.length - 4)) := by
  unfold rightL
  have : decide (4 ≤ bs.length) = true := by rw [decide_eq_true_eq]; exact h
  rw [this, Bool.true_and]
theorem right_l (bs : List (BitVec 8)) (A : Option Addr) (c : Nat) (w : World) (hr : Rd b8 w w.heap.size A bs) (hc : bs.length ≤ c) (hl : bs.length ≤ 1073741824) :
    Calls Try.prog 23 #[.slice A bs.length c] w (RetP (.bool (rightL bs)) w) := by
  rcases Nat.lt_or_ge bs.length 4 with h4 | h4
  · rw [rightL_no bs h4]
    exact right_short A bs.length c w (by omega)
  · obtain ⟨xs, y0, y1, y2, y3, rfl⟩ : ∃ xs y0 y1 y2 y3, bs = xs ++ [y0, y1, y2, y3] := by
      refine ⟨bs.take (bs.length - 4), bs[bs.length - 4], bs[bs.length - 3], bs[bs.length - 2], bs[bs.length - 1], ?_⟩
      apply List.ext_getElem
      · simp; omega
      · intro i h1 h2
        rw [List.getElem_append]
        split
        · rw [List.getElem_take]
        · rename_i h
          simp at h h2
          have : i = bs.length - 4 ∨ i = bs.length - 3 ∨ i = bs.length - 2 ∨ i = bs.length - 1 := by omega
          have e : (bs.take (bs.length - 4)).length = bs.length - 4 := by simp
          simp only [e]
          rcases this with e | e | e | e <;> subst e
          · simp
          · simp [show bs.length - 3 - (bs.length - 4) = 1 from by omega]
          · simp [show bs.length - 2 - (bs.length - 4) = 2 from by omega]
          · simp [show bs.length - 1 - (bs.length - 4) = 3 from by omega]
    have hL : (xs ++ [y0, y1, y2, y3]).length = xs.length + 4 := by simp
    rw [rightL_yes _ h4, hL]
    have h := right_c xs y0 y1 y2 y3 A c w hr (by rw [hL] at hc; exact hc) (by omega)
    have e : right4 xs y0 y1 y2 y3 = (tailL (addC 0#32 ((xs ++ [y0, y1, y2, y3]).take (xs.length + 4 - 4))) == (xs ++ [y0, y1, y2, y3]).drop (xs.length + 4 - 4)) := by
      rw [Nat.add_sub_cancel, List.take_left, List.drop_left]
      unfold right4 tailL
      rw [Bool.eq_iff_iff]
      simp
    rw [e] at h
    exact h
end Go.Proofs.Ytjdifejnnkplaaa
