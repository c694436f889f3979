import Derived.Test.YtojaompfffpofaaGreatZOSUniq
import Derived.Test.YtojaompfffpofaaGreatZOSSlk
import Derived.Test.YtojaompfffpofaaGreatZOSAwk2
import Derived.BigQuiet
import Derived.Outline
namespace Go.Proofs.YtojaompfffpofaaGreat
open Go.ChangeShapes Go.WideShapes Go.ChangeAt Go.RowKit
set_option linter.unusedVariables false
set_option linter.unusedSimpArgs false
attribute [local go_sem ↓] Go.wp_at_zero Go.wp_at_succ
theorem ob_some {g n c k : Nat} (h : (Value.slice (some ⟨g, 0, none⟩) n c).ownBlock = some k) : k = g := by
  simp [Value.ownBlock] at h; exact h.symm
end Go.Proofs.YtojaompfffpofaaGreat
