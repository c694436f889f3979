import Derived.Test.YtjkhjjmmkdfjmaaBBFShM
import Derived.Test.YtjkhjjmmkdfjmaaBBFRefM
import Derived.Test.YtjkhjjmmkdfjmaaBBVes2
import Derived.Test.YtjkhjjmmkdfjmaaBBBri
import Derived.Test.YtjkhjjmmkdfjmaaBBLeaf
import Derived.Deep.DrawnRows
import Derived.Outline
namespace Go.Proofs.Ytjkhjjmmkdfjmaa
open Go.ChangeShapes Go.WideShapes Go.ChangeAt Go.RowKit
set_option linter.unusedVariables false
set_option linter.unusedSimpArgs false
attribute [local go_sem ↓] Go.wp_at_zero Go.wp_at_succ
theorem refPlus_any (a b c x y z p q r : Int) (w : World) (a0 : 0 ≤ a) (a1 : a ≤ 1000000000000) (b0 : 0 ≤ b) (b1 : b ≤ 1000000000000) (c0 : 0 ≤ c) (c1 : c ≤ 1000000000000) (x0 : 0 ≤ x) (x1 : x ≤ 1000000000000) (y0 : 0 ≤ y) (y1 : y ≤ 1000000000000) (z0 : 0 ≤ z) (z1 : z ≤ 1000000000000) (hp : Hid (a + x = p ∧ b + y = q ∧ c + z = r)) :
    Calls Try.prog 34 #[.agg #[.int .i64 a, .int .i64 b, .int .i64 c], .agg #[.int .i64 x, .int .i64 y, .int .i64 z]] w fun e w' => e = .returned (.agg #[.int .i64 p, .int .i64 q, .int .i64 r]) ∧ Below w.heap.size w w' := by
  have e1 : a + x = p := hp.out.1
  have e2 : b + y = q := hp.out.2.1
  have e3 : c + z = r := hp.out.2.2
  clear hp
  go_enter Try.func34, Try.ntmps34
  go_wp2
  refine bodyPost_ret (v := .agg #[.int .i64 p, .int .i64 q, .int .i64 r]) (by simp [results, Try.results34, go_sem]) rfl ⟨rfl, ?_⟩
  exact belA
end Go.Proofs.Ytjkhjjmmkdfjmaa
