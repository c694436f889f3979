import Derived.Test.YtijdphlejokijaaEWECpR
import Derived.Test.YtijdphlejokijaaEWLeaf
import Derived.Outline
import Derived.BigQuiet
namespace Go.Proofs.Ytijdphlejokijaa
open Go.ChangeShapes Go.WideShapes Go.ChangeAt Go.RowKit
set_option linter.unusedVariables false
set_option linter.unusedSimpArgs false
attribute [local go_sem ↓] Go.wp_at_zero Go.wp_at_succ

theorem bW_r (n a b : Int) (r : Bool) (w : World) (h : Hid (inB n a b = r)) : Calls Try.prog 20 #[.int .i64 n, .int .i64 a, .int .i64 b] w fun e w' => e = .returned (.bool r) ∧ w = w' := by rw [← h.out]; exact baseWithin_any n a b w
end Go.Proofs.Ytijdphlejokijaa
