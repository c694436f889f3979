/- What the specifications of limits, aims and depths return. -/
import Derived.Test.YtpagbkbaphjmdaaDoorFirst
import Derived.Test.YtpagbkbaphjmdaaDoorPress
import Derived.Test.YtpagbkbaphjmdaaDoorNums
import Derived.Deep.DrawnRows
import Derived.Outline
namespace Go.Proofs.YtpagbkbaphjmdaaDoor
open Go.ChangeShapes Go.WideShapes Go.ChangeAt Go.RowKit
set_option linter.unusedVariables false
attribute [local go_sem ↓] Go.wp_at_zero Go.wp_at_succ

theorem baseWithin_t (n a b : Int) (w : World) (h1 : a ≤ n) (h2 : n ≤ b) :
    Calls Tryd.prog 22 #[.int .i64 n, .int .i64 a, .int .i64 b] w fun e w' => e = .returned (.bool true) ∧ w = w' := by
  have := baseWithin_any n a b w
  rw [inB_true h1 h2] at this
  exact this
theorem baseWithin_b (n a b : Int) (x : Bool) (w : World) (hb : Hid (inB n a b = x)) :
    Calls Tryd.prog 22 #[.int .i64 n, .int .i64 a, .int .i64 b] w fun e w' => e = .returned (.bool x) ∧ w = w' := by
  have := baseWithin_any n a b w
  rw [hb.out] at this
  exact this
theorem limE_val (a b : Int) : limE a b = if inB a 1 4000 = true ∧ inB b 1 4000 = true then (if a ≤ b then 0 else 9) else 2 := by
  unfold limE rng2E rngE
  rcases inB_cases a 1 4000 with h1 | h1 <;> rcases inB_cases b 1 4000 with h2 | h2 <;> simp [h1, h2, firE]
end Go.Proofs.YtpagbkbaphjmdaaDoor
