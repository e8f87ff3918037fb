/- Texts joined: OpenW RegP. -/
import Derived.Test.YtfodefgihicafaaDoorOd7
import Derived.Test.YtfodefgihicafaaDoorFrame
import Derived.Test.YtfodefgihicafaaDoorMmA
import Derived.Test.YtfodefgihicafaaDoorRegS
/- How an argument of type []uint64 is opened. No conditions. -/
namespace Go.Proofs.YtfodefgihicafaaDoor
set_option linter.unusedVariables false
set_option linter.unusedSimpArgs false
open Go.ChangeShapes Go.WideShapes Go.ChangeAt Go.RowKit
theorem open_words {H : Type} {enc : TypeId × Value → H} {P : Program} {W : World} {base : Nat} {sp : Nat → Bool} {hd : Bool} {r : Reach} {b0 : Nat} {t e : TypeId} {v : Value} {d : DataW H} {p : List MemPlace}
    (ht : P.underlying t = some (.slice e)) (he : P.underlying e = some (.int .u64)) (hc : P.cellsOf e = 1)
    (hv : Value.okWide P W r b0 t v) (h : DataW.Trod enc P W base sp hd t v d p) :
    ∃ (A : Option Addr) (bs : List (BitVec 64)) (c : Nat), v = .slice A bs.length c ∧ bs.length ≤ c ∧ c ≤ maxLen ∧ Rd u64v W W.heap.size A bs := by
  obtain ⟨a0, len, cap, rfl⟩ := okWide_slice ht hv
  obtain ⟨fuel, hf⟩ := h
  rcases open_ints ht he hc hf with ⟨hcs, _⟩ | ⟨x, l, c, zs, hcs, _, hl, hm, hz, _, hcell, hwz⟩
  · simp [Value.cells] at hcs
    obtain ⟨rfl, rfl, rfl⟩ := hcs
    exact ⟨none, [], 0, rfl, Nat.le_refl _, by simp [maxLen], Rd.nil⟩
  · simp [Value.cells] at hcs
    obtain ⟨rfl, rfl, rfl⟩ := hcs
    have hlen : len ≤ zs.length := by rw [hz]; split <;> omega
    refine ⟨some x, (zs.take len).map (BitVec.ofInt 64), cap, by simp; omega, by simp; omega, hm, fun j hj => ?_⟩
    have hj' : j < len := by simp at hj; omega
    have hc1 := hcell j (by omega)
    have hb := cell_lt hc1
    rw [add_block] at hb
    refine ⟨x, rfl, hb, ?_⟩
    rw [hc1]
    have hw := hwz (zs.getD j 0) (by rw [List.getD_eq_getElem?_getD, List.getElem?_eq_getElem (by omega)]; exact List.getElem_mem _)
    rw [wfu64 hw]
    have e : zs.getD j 0 = zs[j]'(by omega) := by rw [List.getD_eq_getElem?_getD, List.getElem?_eq_getElem (by omega)]; rfl
    rw [e]
    simp [u64v]
end Go.Proofs.YtfodefgihicafaaDoor
/- What putA leaves in a slot. No conditions. -/
namespace Go.Proofs.YtfodefgihicafaaDoor
set_option linter.unusedVariables false
set_option linter.unusedSimpArgs false
open Go.RowKit
theorem putp_size (a : Act) (t : Tmp) (v : Value) : (a.put (some t) v).tmps.size = a.tmps.size := by simp [Act.put]
theorem putp_ne (a : Act) (t u : Tmp) (v : Value) (h : u ≠ t) : (a.put (some u) v).tmps.getD t undef = a.tmps.getD t undef := by
  simp [Act.put, Array.getD_eq_getD_getElem?, Array.getElem?_setIfInBounds, h]
theorem putp_eq (a : Act) (t : Tmp) (v : Value) (h : t < a.tmps.size) : (a.put (some t) v).tmps.getD t undef = v := by
  simp [Act.put, Array.getD_eq_getD_getElem?, Array.getElem?_setIfInBounds, h]
theorem putA_old : ∀ (fl : List (Nat × Tmp × Value)) (a : Act) (t : Tmp), (fl.all fun x => x.2.1 != t) = true → (putA fl a).tmps.getD t undef = a.tmps.getD t undef
  | [], _, _, _ => rfl
  | x :: l, a, t, h => by
    rw [List.all_cons, Bool.and_eq_true] at h
    show (putA l (a.put (some x.2.1) x.2.2)).tmps.getD t undef = _
    rw [putA_old l _ t h.2, putp_ne _ _ _ _ (by simpa using h.1)]
theorem putA_app : ∀ (l l2 : List (Nat × Tmp × Value)) (a : Act), putA (l ++ l2) a = putA l2 (putA l a)
  | [], _, _ => rfl
  | x :: l, l2, a => putA_app l l2 _
theorem putA_size : ∀ (l : List (Nat × Tmp × Value)) (a : Act), (putA l a).tmps.size = a.tmps.size
  | [], _ => rfl
  | x :: l, a => by
    show (putA l (a.put (some x.2.1) x.2.2)).tmps.size = _
    rw [putA_size l, putp_size]
theorem putA_new (fl l1 l2 : List (Nat × Tmp × Value)) (a : Act) (k : Nat) (t : Tmp) (v : Value) (e : fl = l1 ++ (k, t, v) :: l2) (h : (l2.all fun x => x.2.1 != t) = true) (ht : t < a.tmps.size) : (putA fl a).tmps.getD t undef = v := by
  rw [e, putA_app]
  show (putA l2 ((putA l1 a).put (some t) v)).tmps.getD t undef = v
  rw [putA_old l2 _ t h, putp_eq _ _ _ (by rw [putA_size]; exact ht)]
end Go.Proofs.YtfodefgihicafaaDoor
