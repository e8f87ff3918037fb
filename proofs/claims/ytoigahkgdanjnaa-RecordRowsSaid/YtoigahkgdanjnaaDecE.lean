/- What codec.Dec's Words reads of what was written. Conditions: lengths. -/
import Derived.Test.YtoigahkgdanjnaaDecD
namespace Go.Proofs.Ytoigahkgdanjnaa
set_option linter.unusedVariables false
set_option linter.unusedSimpArgs false
open Go.RowKit
theorem leN_lowN (v : BitVec 64) : ∀ n : Nat, n ≤ 8 → ∀ i, i < 64 → (leN (lowN v n)).getLsbD i = (v.getLsbD i && decide (i < 8 * n))
  | 0, _, i, _ => by simp [lowN, leN]
  | n + 1, hn, i, hi => by
    rw [lowN_snoc, leN_snoc, BitVec.getLsbD_or, leN_lowN v n (by omega) i hi, lowN_len, BitVec.getLsbD_shiftLeft]
    by_cases a : i < 8 * n
    · have b : i < 8 * (n + 1) := by omega
      simp [a, b]
    · by_cases b : i < 8 * (n + 1)
      · simp [hi, a, b, show i - 8 * n < 8 from by omega, show 8 * n + (i - 8 * n) = i from by omega, show i - 8 * n < 64 from by omega]
      · simp [hi, a, b, show ¬ i - 8 * n < 8 from by omega]
def flatW (ws : List (BitVec 64)) : List (BitVec 8) := (ws.map fun x => lowN x 8).flatten
theorem flatW_len (ws : List (BitVec 64)) : (flatW ws).length = 8 * ws.length := by
  unfold flatW
  induction ws with
  | nil => rfl
  | cons a l ih => simp only [List.map_cons, List.flatten_cons, List.length_append, ih, lowN_len, List.length_cons]; omega
theorem flatW_append (a b : List (BitVec 64)) : flatW (a ++ b) = flatW a ++ flatW b := by unfold flatW; rw [List.map_append, List.flatten_append]
theorem flatW_cons (x : BitVec 64) (b : List (BitVec 64)) : flatW (x :: b) = lowN x 8 ++ flatW b := rfl
theorem flatW_split (ws : List (BitVec 64)) (k : Nat) (hk : k < ws.length) : flatW ws = flatW (ws.take k) ++ (lowN ws[k] 8 ++ flatW (ws.drop (k + 1))) := by
  have h : ws = ws.take k ++ (ws[k] :: ws.drop (k + 1)) := by rw [← List.drop_eq_getElem_cons hk, List.take_append_drop]
  exact (congrArg flatW h).trans (by rw [flatW_append, flatW_cons])
theorem get_word (ws : List (BitVec 64)) (rest : List (BitVec 8)) (k : Nat) (hk : k < ws.length) : getB (flatW ws ++ rest) ((k : Int) * 8) 8 = ws[k] ∧ errB ((flatW ws ++ rest).length : Int) ((k : Int) * 8) 8 = 0 := by
  have hl := flatW_len ws
  have hin : inB ((flatW ws ++ rest).length : Int) ((k : Int) * 8) 8 = true := by
    unfold inB
    rw [decide_eq_true_eq, List.length_append]
    omega
  refine ⟨?_, by unfold errB; rw [if_pos hin]⟩
  unfold getB
  rw [if_pos hin]
  have hs : seg (flatW ws ++ rest) ((k : Int) * 8) 8 = lowN ws[k] 8 := by
    unfold seg
    have e1 : ((k : Int) * 8).toNat = 8 * k := by omega
    rw [e1, show (8 : Int).toNat = 8 from rfl, flatW_split ws k hk, List.append_assoc, List.append_assoc]
    have h1 : (flatW (ws.take k)).length = 8 * k := by rw [flatW_len, List.length_take]; omega
    rw [← h1, List.drop_left]
    rw [List.take_append_of_le_length (by rw [lowN_len]; omega), List.take_of_length_le (by rw [lowN_len]; omega)]
  rw [hs]
  apply BitVec.eq_of_getLsbD_eq
  intro i hi
  rw [leN_lowN _ 8 (by omega) i hi]
  simp [hi]
def WrdP (g : Nat) (ws : List (BitVec 64)) (rest : List (BitVec 8)) (w : World) (e : Ending) (w' : World) : Prop := ∃ q, e = .returned (.slice (some ⟨q, 0, none⟩) ws.length ws.length) ∧ Rd u64v w' w'.heap.size (some ⟨q, 0, none⟩) ws ∧ DecAt w' g rest 0 ∧ Only w w' g ∧ w.heap.size ≤ q
def partW (ws : List (BitVec 64)) (k : Nat) : List (BitVec 64) := ws.take k ++ List.replicate (ws.length - k) 0#64
theorem partW_len (ws : List (BitVec 64)) (k : Nat) (h : k ≤ ws.length) : (partW ws k).length = ws.length := by unfold partW; simp; omega
theorem part_set (ws : List (BitVec 64)) (k : Nat) (hk : k < ws.length) : (partW ws k).set k ws[k] = partW ws (k + 1) := by
  have e : List.replicate (ws.length - k) 0#64 = 0#64 :: List.replicate (ws.length - (k + 1)) 0#64 := by
    rw [← List.replicate_succ]; congr 1; omega
  unfold partW
  rw [e, take_snoc' _ _ hk, List.set_append_right _ _ (by simp; omega)]
  have e3 : k - (ws.take k).length = 0 := by simp; omega
  rw [e3, List.append_assoc]
  simp
set_option maxHeartbeats 800000
set_option maxRecDepth 100000
end Go.Proofs.Ytoigahkgdanjnaa
