import Derived.Test.YtchfhhmmjioajaaZRTLoadN
import Derived.Test.YtchfhhmmjioajaaZRTRefStep2
import Derived.Test.YtchfhhmmjioajaaZRMMarks
import Derived.Test.YtchfhhmmjioajaaZRTRefSat
import Derived.Outline
namespace Go.Proofs.Ytchfhhmmjioajaa
open Go.ChangeShapes Go.WideShapes Go.ChangeAt Go.RowKit
set_option linter.unusedVariables false
set_option linter.unusedSimpArgs false
theorem refSame_g (P : List Ld) (n : Nat) (A B : Option Addr) (cap cap' : Nat) (w : World) (hn : P.length = n) (hl : n ≤ 1000) (hP : SlLd w A P) (hR : SlLd w B P) :
    Calls Try.prog 30 #[.slice A n cap, .slice B n cap'] w fun e w' => e = .returned (.bool true) ∧ Below w.heap.size w w' := by
  subst hn
  exact refSame_t P A B cap cap' w hl hP hR
end Go.Proofs.Ytchfhhmmjioajaa
