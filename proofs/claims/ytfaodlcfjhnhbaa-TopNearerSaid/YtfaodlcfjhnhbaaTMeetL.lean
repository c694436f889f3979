/- The statements' meet. -/
import Derived.Test.YtfaodlcfjhnhbaaTLoadN
import Derived.Deep.DrawnRows
import Derived.Outline
namespace Go.Proofs.Ytfaodlcfjhnhbaa
open Go.ChangeShapes Go.WideShapes Go.ChangeAt Go.RowKit
set_option linter.unusedVariables false
set_option linter.unusedSimpArgs false
attribute [local go_sem ↓] Go.wp_at_zero Go.wp_at_succ
/-- Loads that meet. -/
def MeetL (P Q : List Ld) : Prop := ∀ k, (h1 : k < P.length) → (h2 : k < Q.length) → P[k].a ≤ Q[k].b ∧ Q[k].a ≤ P[k].b ∧ P[k].c ≤ Q[k].d ∧ Q[k].c ≤ P[k].d
end Go.Proofs.Ytfaodlcfjhnhbaa
