/- Bytes of a number, the lowest first, and that number. No conditions. -/
import Derived.Test.YtjdifejnnkplaaaBitsB
namespace Go.Proofs.Ytjdifejnnkplaaa
set_option linter.unusedVariables false
set_option linter.unusedSimpArgs false
open Go.RowKit
theorem leN_lowN (v : BitVec 64) : ∀ n : Nat, n ≤ 8 → ∀ i, i < 64 → (leN (lowN v n)).getLsbD i = (v.getLsbD i && decide (i < 8 * n))
  | 0, _, i, _ => by simp [lowN, leN]
  | n + 1, hn, i, hi => by
    rw [lowN_snoc, leN_snoc, BitVec.getLsbD_or, leN_lowN v n (by omega) i hi, lowN_len, BitVec.getLsbD_shiftLeft]
    by_cases a : i < 8 * n
    · have b : i < 8 * (n + 1) := by omega
      simp [a, b]
    · by_cases b : i < 8 * (n + 1)
      · simp [hi, a, b, show i - 8 * n < 8 from by omega, show 8 * n + (i - 8 * n) = i from by omega, show i - 8 * n < 64 from by omega]
      · simp [hi, a, b, show ¬ i - 8 * n < 8 from by omega]
end Go.Proofs.Ytjdifejnnkplaaa
