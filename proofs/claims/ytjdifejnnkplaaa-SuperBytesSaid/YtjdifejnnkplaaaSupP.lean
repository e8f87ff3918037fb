/- What both Encodes answer of any numbers. No conditions. -/
import Derived.Test.YtjdifejnnkplaaaSupK
import Derived.Test.YtjdifejnnkplaaaSupM
namespace Go.Proofs.Ytjdifejnnkplaaa
set_option linter.unusedVariables false
set_option linter.unusedSimpArgs false
open Go.RowKit
set_option maxRecDepth 100000
set_option maxHeartbeats 2000000
theorem encD_both (ep : BitVec 64) (s l n sp wd : Nat) (lg : BitVec 64) : ∃ er xs, (∀ W, Calls Try.prog 9 #[blkV ep s l n sp wd lg] W (EncD er xs W)) ∧ (∀ W, Calls Try.prog 10 #[blkV ep s l n sp wd lg] W (EncD er xs W)) ∧
    ((er = 1 ∧ xs = []) ∨ (er = 0 ∧ xs = encSB ep s l n sp wd lg ∧ 64 ≤ s ∧ s ≤ 1024)) := by
  by_cases hb : badS s l n sp wd
  · exact ⟨1, [], fun W => (enc6_bad ep s l n sp wd lg W hb).mono fun _ _ h => ⟨none, 0, h.1, Nat.le_refl _, Rd.nil, h.2⟩, fun W => (renc6_bad ep s l n sp wd lg W hb).mono fun _ _ h => ⟨none, 0, h.1, Nat.le_refl _, Rd.nil, h.2⟩, .inl ⟨rfl, rfl⟩⟩
  · have hg : okG s l n = true := by
      cases hg : okG s l n with
      | true => rfl
      | false => exact absurd (.inl hg) hb
    have og := okG_out hg
    have h1 := og.s1
    have h2 := og.s2
    have h4 : ¬ ((sp : Int) < 0 ∨ (1 : Int) < sp ∨ (wd : Int) < 0 ∨ (n : Int) < wd) := fun e => hb (.inr e)
    have gd : goodS s l n sp wd := ⟨hg, by omega, by omega⟩
    exact ⟨0, encSB ep s l n sp wd lg, fun W => (enc6_ok ep s l n sp wd lg W gd).mono fun _ _ ⟨A, c, q1, q2, q3, q4, _⟩ => ⟨A, c, q1, q2, q3, q4⟩, fun W => (renc6_ok ep s l n sp wd lg W gd).mono fun _ _ ⟨A, c, q1, q2, q3, q4, _⟩ => ⟨A, c, q1, q2, q3, q4⟩, .inr ⟨rfl, rfl, by omega, by omega⟩⟩
end Go.Proofs.Ytjdifejnnkplaaa
