/- base.Floor and base.Ceil of numbers that are not negative, by the names of what they return. -/
import Derived.Test.YtjkhjjmmkdfjmaaFUp
import Derived.Outline
namespace Go.Proofs.Ytjkhjjmmkdfjmaa
open Go.ChangeShapes Go.WideShapes Go.ChangeAt Go.RowKit
set_option linter.unusedVariables false
set_option linter.unusedSimpArgs false
attribute [local go_sem ↓] Go.wp_at_zero Go.wp_at_succ
theorem baseFloor_q (n d q : Int) (w : World) (h0 : 0 ≤ n) (h1 : n ≤ 1000000000000000000) (h2 : 0 < d) (h3 : d ≤ 1000000000000000000) (hq : Hid (n / d = q)) :
    Calls Try.prog 88 #[.int .i64 n, .int .i64 d] w fun e w' => e = .returned (.int .i64 q) ∧ w = w' := by
  rw [← hq.out]; exact baseFloor_nn n d w h0 h1 h2 h3
theorem baseCeil_q (n d q : Int) (w : World) (h0 : 0 ≤ n) (h1 : n ≤ 1000000000000000000) (h2 : 0 < d) (h3 : d ≤ 1000000000000000000) (hq : Hid (upI n d = q)) :
    Calls Try.prog 89 #[.int .i64 n, .int .i64 d] w fun e w' => e = .returned (.int .i64 q) ∧ w = w' := by
  rw [← hq.out, up_nn h0 h2]; exact baseCeil_nn n d w h0 h1 h2 h3
end Go.Proofs.Ytjkhjjmmkdfjmaa
