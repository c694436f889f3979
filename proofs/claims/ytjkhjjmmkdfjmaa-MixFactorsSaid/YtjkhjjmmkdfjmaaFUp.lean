/- What is rounded up. -/
import Derived.Test.YtjkhjjmmkdfjmaaFRatio
import Derived.Test.YtjkhjjmmkdfjmaaNums
namespace Go.Proofs.Ytjkhjjmmkdfjmaa
set_option linter.unusedVariables false
theorem up_nn {n d : Int} (h0 : 0 ≤ n) (h2 : 0 < d) : upI n d = (n + d - 1) / d := by
  unfold upI
  have h := Int.emod_add_mul_ediv n d
  have hl := Int.emod_lt_of_pos n h2
  have h1 := Int.emod_nonneg n (show d ≠ 0 by omega)
  by_cases hr : n % d = 0
  · rw [ceil_z h0 h2 hr]
    have e : -n = d * (-(n / d)) := by rw [Int.mul_neg]; omega
    rw [e, Int.mul_ediv_cancel_left _ (by omega)]
    omega
  · rw [ceil_s h0 h2 (by omega)]
    have e : -n = (d - n % d) + d * (-(n / d) - 1) := by rw [Int.mul_sub, Int.mul_neg]; omega
    rw [e, Int.add_mul_ediv_left _ _ (by omega), Int.ediv_eq_zero_of_lt (by omega) (by omega)]
    omega
end Go.Proofs.Ytjkhjjmmkdfjmaa
