import Derived.Test.YtjkhjjmmkdfjmaaMAFShare2
import Derived.Test.YtjkhjjmmkdfjmaaMAFNamed
import Derived.Test.YtjkhjjmmkdfjmaaMALastReg
import Derived.Outline
namespace Go.Proofs.Ytjkhjjmmkdfjmaa
open Go.ChangeShapes Go.WideShapes Go.ChangeAt Go.RowKit
set_option linter.unusedVariables false
set_option linter.unusedSimpArgs false
attribute [local go_sem ↓] Go.wp_at_zero Go.wp_at_succ
theorem refSum_b (a b c s : Int) (w : World) (a0 : 0 ≤ a) (a1 : a ≤ 1000000000) (b0 : 0 ≤ b) (b1 : b ≤ 1000000000) (c0 : 0 ≤ c) (c1 : c ≤ 1000000000) (hs : Hid (a + b + c = s)) : Calls Try.prog 30 #[.agg #[.int .i64 a, .int .i64 b, .int .i64 c]] w fun e w' => e = .returned (.int .i64 s) ∧ Below w.heap.size w w' := by
  go_enter Try.func30, Try.ntmps30
  go_wp2
  go_ret
  exact ⟨ret_int hs.out, belA⟩
theorem refSum_ok (a b c s : Int) (w : World) (h : Hid (conB a b c = true)) (hs : Hid (a + b + c = s)) : Calls Try.prog 30 #[.agg #[.int .i64 a, .int .i64 b, .int .i64 c]] w fun e w' => e = .returned (.int .i64 s) ∧ Below w.heap.size w w' := by
  obtain ⟨h1, h2, h3, h4⟩ := conB_iff.1 h.out
  exact refSum_b a b c s w h1 (by omega) h2 (by omega) h3 (by omega) hs
end Go.Proofs.Ytjkhjjmmkdfjmaa
