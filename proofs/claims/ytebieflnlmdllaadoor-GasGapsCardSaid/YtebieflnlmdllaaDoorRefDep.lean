/- What the specification of the depths for a gas returns. -/
import Derived.Test.YtebieflnlmdllaaDoorRefDep0
import Derived.Test.YtebieflnlmdllaaDoorRefDep1
import Derived.Deep.Cut
import Derived.Outline
namespace Go.Proofs.YtebieflnlmdllaaDoor
open Go.ChangeShapes Go.WideShapes Go.ChangeAt Go.RowKit
set_option linter.unusedVariables false
set_option linter.unusedSimpArgs false
attribute [local go_sem ↓] Go.wp_at_zero Go.wp_at_succ

theorem refDepthsFor_k (o h s a b : Int) (x : Bool) (w : World) (k1 : 1 ≤ o) (k2 : o ≤ 1000) (k3 : 400 ≤ s) (k4 : s ≤ 1100) (k5 : 1 ≤ a) (k6 : a ≤ 4000) (k7 : 1 ≤ b) (k8 : b ≤ 4000) (hx : decide (depLo o s a ≤ depHi o s b) = x) :
    Calls Tryd.prog 33 #[.agg #[.int .i64 o, .int .i64 h], .int .i64 s, .agg #[.int .i64 a, .int .i64 b]] w fun e w' => e = .returned (.tuple #[.agg #[.int .i64 (depLo o s a), .int .i64 (depHi o s b)], .bool x]) ∧ Below w.heap.size w w' := by
  have q1 : 0 ≤ (1000 * a + o - 1) / o := Int.ediv_nonneg (by omega) (by omega)
  have q2 : (1000 * a + o - 1) / o ≤ 1000 * a + o - 1 := Int.ediv_le_self _ (by omega)
  have q3 : 0 ≤ 1000 * b / o := Int.ediv_nonneg (by omega) (by omega)
  have q4 : 1000 * b / o ≤ 1000 * b := Int.ediv_le_self _ (by omega)
  rcases depLo_cases o s a with ⟨c1, e1⟩ | ⟨c1, e1⟩ <;> rcases depHi_cases o s b with ⟨c2, e2⟩ | ⟨c2, e2⟩
  all_goals
    rw [e1.out, e2.out] at hx
    rw [e1.out, e2.out]
  · exact refDep_11 o h s a b _ _ x w k1 k2 k3 k4 k5 k6 k7 k8 q1 (by omega) q3 (by omega) rfl rfl c1 c2 hx
  · exact refDep_10 o h s a b _ _ x w k1 k2 k3 k4 k5 k6 k7 k8 q1 (by omega) q3 (by omega) rfl rfl c1 c2 hx
  · exact refDep_01 o h s a b _ _ x w k1 k2 k3 k4 k5 k6 k7 k8 q1 (by omega) q3 (by omega) rfl rfl c1 c2 hx
  · exact refDep_00 o h s a b _ _ x w k1 k2 k3 k4 k5 k6 k7 k8 q1 (by omega) q3 (by omega) rfl rfl c1 c2 hx
end Go.Proofs.YtebieflnlmdllaaDoor
