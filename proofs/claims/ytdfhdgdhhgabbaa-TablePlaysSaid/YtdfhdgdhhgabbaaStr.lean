/- Bytes as a string: the conversion, as an equation for the walk. No conditions. -/
import Derived.Test.YtdfhdgdhhgabbaaBitsB
import Derived.Laws.BytesArg
import Derived.Laws.IdiomStrings
namespace Go.Proofs.Ytdfhdgdhhgabbaa
set_option linter.unusedVariables false
set_option linter.unusedSimpArgs false
open Go.RowKit
def strL (bs : List (BitVec 8)) : List UInt8 := bs.map UInt8.ofBitVec
def strB (bs : List (BitVec 8)) : ByteArray := ⟨(strL bs).toArray⟩
theorem strB_inj {x y : List (BitVec 8)} (h : strB x = strB y) : x = y := by
  unfold strB strL at h
  injection h with h
  have h2 := congrArg Array.toList h
  simp only at h2
  have inj : ∀ a b : BitVec 8, UInt8.ofBitVec a = UInt8.ofBitVec b → a = b := fun a b e => by injection e
  induction x generalizing y with
  | nil => cases y <;> simp_all
  | cons a x ih => cases y with
    | nil => simp at h2
    | cons b y =>
      simp only [List.map_cons, List.cons.injEq] at h2
      rw [inj _ _ h2.1, ih (by simp [h2.2]) h2.2]
theorem str_conv (bs : List (BitVec 8)) (A : Option Addr) (c B : Nat) (w : World) (h : Rd b8 w B A bs) :
    (convert 52 9 (.slice A bs.length c)).run Try.prog w = .ok (.string (strB bs)) w := by
  rcases Nat.eq_zero_or_pos bs.length with h0 | hp
  · have : bs = [] := List.eq_nil_of_length_eq_zero h0
    subst this
    rcases A with _ | ad
    · exact run_convert_bytes_nil w _ 5 (by kernel_rfl) (by kernel_rfl) 0 c _ (by kernel_rfl)
    · exact run_convert_bytes_back w _ _ 5 ad c [] (by kernel_rfl) (by kernel_rfl) (by kernel_rfl) (fun j hj => absurd hj (by simp))
  · obtain ⟨ad, rfl, _, hc⟩ := h.addr hp
    have e : bs.length = (strL bs).length := by simp [strL]
    rw [e]
    refine run_convert_bytes_back w _ _ 5 ad c (strL bs) (by kernel_rfl) (by kernel_rfl) (by kernel_rfl) (fun j hj => ?_)
    have hj' : j < bs.length := by rw [e]; exact hj
    rw [hc j hj']
    simp [b8, U8, strL]
end Go.Proofs.Ytdfhdgdhhgabbaa
