import Derived.Test.YtijdphlejokijaaEJLeaf
import Derived.Outline
namespace Go.Proofs.Ytijdphlejokijaa
open Go.ChangeShapes Go.WideShapes Go.ChangeAt Go.RowKit
set_option linter.unusedVariables false

theorem ceil_z {n d : Int} (h0 : 0 ≤ n) (h2 : 0 < d) (hr : n % d = 0) : (n + d - 1) / d = n / d := by
  have h := Int.emod_add_mul_ediv n d
  rw [hr, Int.zero_add] at h
  rw [← h, show d * (n / d) + d - 1 = (d - 1) + d * (n / d) by omega, Int.add_mul_ediv_left _ _ (by omega), Int.ediv_eq_zero_of_lt (by omega) (by omega), Int.mul_ediv_cancel_left _ (by omega)]
  omega
theorem ceil_s {n d : Int} (h0 : 0 ≤ n) (h2 : 0 < d) (hr : 0 < n % d) : (n + d - 1) / d = n / d + 1 := by
  have h := Int.emod_add_mul_ediv n d
  have hl := Int.emod_lt_of_pos n h2
  have e : n + d - 1 = (n % d - 1) + d * (n / d + 1) := by rw [Int.mul_add]; omega
  rw [e, Int.add_mul_ediv_left _ _ (by omega), Int.ediv_eq_zero_of_lt (by omega) (by omega)]
  omega
end Go.Proofs.Ytijdphlejokijaa
