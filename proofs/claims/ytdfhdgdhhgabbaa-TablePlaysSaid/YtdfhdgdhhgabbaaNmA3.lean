/- loamlaw19.rising: a row's texts in their order. Conditions: lengths. -/
import Derived.Test.YtdfhdgdhhgabbaaNmA2
import Derived.Test.YtdfhdgdhhgabbaaRegS
namespace Go.Proofs.Ytdfhdgdhhgabbaa
set_option linter.unusedVariables false
set_option linter.unusedSimpArgs false
open Go.RowKit Go.Maps Go.Sort
set_option maxHeartbeats 2000000
set_option maxRecDepth 100000
theorem toList_strB (a : Nm) : (strB a).toList = a.map UInt8.ofBitVec := by
  rw [Lib.toList_data]
  unfold strB strL
  simp
theorem less_cmp : ∀ a b : Nm, Op.bytesLess (a.map UInt8.ofBitVec) (b.map UInt8.ofBitVec) = decide (cmpB a b < 0)
  | [], [] => by unfold Op.bytesLess cmpB; rfl
  | [], y :: b => by unfold cmpB; rfl
  | x :: a, [] => by unfold cmpB; rfl
  | x :: a, y :: b => by
    have hlt : (UInt8.ofBitVec x < UInt8.ofBitVec y) ↔ x.toNat < y.toNat := Iff.rfl
    have heq : (UInt8.ofBitVec x == UInt8.ofBitVec y) = decide (x = y) := by
      by_cases e : x = y
      · subst e; simp
      · have : UInt8.ofBitVec x ≠ UInt8.ofBitVec y := fun h => e (by injection h)
        simp [e, this]
    rw [List.map_cons, List.map_cons]
    unfold Op.bytesLess cmpB
    rw [less_cmp a b, heq]
    by_cases h1 : x.toNat < y.toNat
    · rw [if_pos h1]; simp [hlt, h1]
    · rw [if_neg h1]
      by_cases h2 : y.toNat < x.toNat
      · rw [if_pos h2]
        have : x ≠ y := fun e => by rw [e] at h2; omega
        simp [hlt, h1, this]
      · rw [if_neg h2]
        have : x = y := BitVec.eq_of_toNat_eq (by omega)
        subst this
        simp [hlt]
/-- One text behind another, as the semantics asks. -/
theorem gt_cmp (a b : Nm) : (!(Op.bytesLess (strB a).toList (strB b).toList || (strB a).toList == (strB b).toList)) = decide (0 < cmpB a b) := by
  rw [str_eq, toList_strB, toList_strB, less_cmp]
  by_cases e : a = b
  · subst e
    simp [cmpB_self]
  · have h0 : cmpB a b ≠ 0 := fun h => e (cmpB_zero h)
    by_cases h : cmpB a b < 0
    · simp [h, e]; omega
    · simp [h, e]; omega
theorem srt_ins {o : Rw} {x : Nm × Int} {k : Nat} (hs : srt o) (hk : k ≤ o.length) (hb : ∀ j (h : j < o.length), k ≤ j → 0 < cmpB (o[j]).1 x.1) (ha : k = 0 ∨ ∃ h : k - 1 < o.length, 1 ≤ k ∧ ¬ 0 < cmpB (o[k - 1]).1 x.1) : srt (o.take k ++ [x] ++ o.drop k) := by
  unfold srt at hs ⊢
  have e : o.take k ++ o.drop k = o := List.take_append_drop k o
  rw [← e, List.pairwise_append] at hs
  obtain ⟨s1, s2, s3⟩ := hs
  have hd : ∀ y ∈ o.drop k, 0 < cmpB y.1 x.1 := fun y hy => by
    obtain ⟨j, hj, rfl⟩ := List.getElem_of_mem hy
    rw [List.getElem_drop]
    exact hb _ (by rw [List.length_drop] at hj; omega) (by omega)
  have ht : ∀ y ∈ o.take k, ¬ 0 < cmpB y.1 x.1 := fun y hy => by
    rcases ha with rfl | ⟨h, h1, h2⟩
    · rw [List.take_zero] at hy; cases hy
    · obtain ⟨j, hj, rfl⟩ := List.getElem_of_mem hy
      rw [List.getElem_take]
      rw [List.length_take] at hj
      by_cases ej : j = k - 1
      · subst ej; exact h2
      · have hjk : ¬ cmpB (o[k - 1]).1 (o[j]'(by omega)).1 < 0 := by
          have := List.pairwise_iff_getElem.1 s1 j (k - 1) (by rw [List.length_take]; omega) (by rw [List.length_take]; omega) (by omega)
          rw [List.getElem_take, List.getElem_take] at this
          exact this
        have n1 := cmpB_neg (o[k - 1]).1 (o[j]'(by omega)).1
        have n2 := cmpB_neg (o[k - 1]).1 x.1
        have n3 := cmpB_neg (o[j]'(by omega)).1 x.1
        have := @cmpB_ge x.1 (o[k - 1]).1 (o[j]'(by omega)).1 (by omega) (by omega)
        omega
  rw [List.append_assoc, List.pairwise_append]
  refine ⟨s1, ?_, fun a h1 b h2 => ?_⟩
  · rw [List.singleton_append, List.pairwise_cons]
    refine ⟨fun y hy => ?_, s2⟩
    have := hd y hy
    omega
  · rcases List.mem_append.1 h2 with h2 | h2
    · have e : b = x := by simpa using h2
      subst e
      have := ht a h1
      have := cmpB_neg a.1 b.1
      omega
    · exact s3 a h1 b h2
theorem ins_perm {o : Rw} {x : Nm × Int} {k : Nat} : (o.take k ++ [x] ++ o.drop k).Perm (o ++ [x]) := by
  have e : o.take k ++ o.drop k = o := List.take_append_drop k o
  have h1 : (o.take k ++ [x] ++ o.drop k).Perm (o.take k ++ (o.drop k ++ [x])) := by
    rw [List.append_assoc]
    exact (List.perm_append_comm).append_left _
  rw [← List.append_assoc, e] at h1
  exact h1
end Go.Proofs.Ytdfhdgdhhgabbaa
