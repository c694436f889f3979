/- Whether loads lie in others: what tissue.Inside, and the specification's checks of one load, return. -/
import Derived.Test.YtfaodlcfjhnhbaaMLimits
import Derived.Deep.DrawnRows
import Derived.Deep.Cut
import Derived.Deep.RegionHeld
import Derived.Outline
namespace Go.Proofs.Ytfaodlcfjhnhbaa
open Go.ChangeShapes Go.WideShapes Go.ChangeAt Go.RowKit
set_option linter.unusedVariables false
set_option linter.unusedSimpArgs false
attribute [local go_sem ↓] Go.wp_at_zero Go.wp_at_succ
/-- The range from a to b lies in that from c to d. -/
def liB (a b c d : Int) : Bool := decide (c ≤ a ∧ b ≤ d)
def insB (x y : Ld) : Bool := liB x.a x.b y.a y.b && liB x.c x.d y.c y.d
end Go.Proofs.Ytfaodlcfjhnhbaa
