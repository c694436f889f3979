import Derived.Test.YtchfhhmmjioajaaZRMRefChk
import Derived.Test.YtchfhhmmjioajaaZRMLimits
import Derived.Outline
namespace Go.Proofs.Ytchfhhmmjioajaa
open Go.ChangeShapes Go.WideShapes Go.ChangeAt Go.RowKit
set_option linter.unusedVariables false
set_option linter.unusedSimpArgs false
attribute [local go_sem ↓] Go.wp_at_zero Go.wp_at_succ
theorem legE_5 {f t s o h : Int} (k : inB f 400 31100 = true) (k2 : inB t 400 31100 = true) (k3 : inB s 0 100000 = true) (k4 : gasE o h = 0) : legE f t s o h = if s = 0 ∧ f ≠ t then 11 else 0 := by
  unfold legE
  rw [rngE_t k, rngE_t k2, rngE_t k3, k4]; simp [firE]
end Go.Proofs.Ytchfhhmmjioajaa
