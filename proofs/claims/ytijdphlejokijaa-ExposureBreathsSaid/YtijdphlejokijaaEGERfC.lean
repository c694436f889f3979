import Derived.Test.YtijdphlejokijaaEGECpR
import Derived.Test.YtijdphlejokijaaEGNums
import Derived.BigQuiet
import Derived.Outline
namespace Go.Proofs.Ytijdphlejokijaa
open Go.ChangeShapes Go.WideShapes Go.ChangeAt Go.RowKit
set_option linter.unusedVariables false
set_option linter.unusedSimpArgs false
attribute [local go_sem ↓] Go.wp_at_zero Go.wp_at_succ

theorem bW_r (n a b : Int) (r : Bool) (w : World) (h : Hid (inB n a b = r)) : Calls Try.prog 20 #[.int .i64 n, .int .i64 a, .int .i64 b] w fun e w' => e = .returned (.bool r) ∧ w = w' := by rw [← h.out]; exact baseWithin_any n a b w
theorem isBreath_any (n : Int) (w : World) : Calls Try.prog 43 #[.int .i64 n] w fun e w' => e = .returned (.bool (inB n 1 100000)) ∧ w = w' := by
  go_enter Try.func43, Try.ntmps43
  go_wp2_with ((go_at_call 20; ((with_reducible refine (baseWithin_any _ _ _ _).mono ?_)); rintro e w' ⟨rfl, rfl⟩))
  go_ret
  exact ⟨rfl, rfl⟩
theorem isBreath_r (n : Int) (r : Bool) (w : World) (h : Hid (inB n 1 100000 = r)) : Calls Try.prog 43 #[.int .i64 n] w fun e w' => e = .returned (.bool r) ∧ w = w' := by rw [← h.out]; exact isBreath_any n w
theorem baseCeil_e (n d q : Int) (w : World) (h0 : 0 ≤ n) (h1 : n ≤ 1000000000000000000) (h2 : 0 < d) (h3 : d ≤ 1000000000000000000) (hq : Hid (upE n d = q)) : Calls Try.prog 78 #[.int .i64 n, .int .i64 d] w fun e w' => e = .returned (.int .i64 q) ∧ w = w' := by
  rw [← hq.out]; exact baseCeil_nn n d w h0 h1 h2 h3
end Go.Proofs.Ytijdphlejokijaa
