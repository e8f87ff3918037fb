/- Bytes as a string: the conversion, as an equation for the walk. No conditions. -/
import Derived.Test.YtgddehhigamkkaaBitsB
import Derived.Laws.BytesArg
import Derived.Laws.IdiomStrings
namespace Go.Proofs.Ytgddehhigamkkaa
set_option linter.unusedVariables false
set_option linter.unusedSimpArgs false
open Go.RowKit
def strL (bs : List (BitVec 8)) : List UInt8 := bs.map UInt8.ofBitVec
def strB (bs : List (BitVec 8)) : ByteArray := ⟨(strL bs).toArray⟩
theorem strB_inj {x y : List (BitVec 8)} (h : strB x = strB y) : x = y := by
  unfold strB strL at h
  injection h with h
  have h2 := congrArg Array.toList h
  simp only at h2
  have inj : ∀ a b : BitVec 8, UInt8.ofBitVec a = UInt8.ofBitVec b → a = b := fun a b e => by injection e
  induction x generalizing y with
  | nil => cases y <;> simp_all
  | cons a x ih => cases y with
    | nil => simp at h2
    | cons b y =>
      simp only [List.map_cons, List.cons.injEq] at h2
      rw [inj _ _ h2.1, ih (by simp [h2.2]) h2.2]
end Go.Proofs.Ytgddehhigamkkaa
