import Derived.Test.YtjkhjjmmkdfjmaaBBAft
import Derived.Test.YtjkhjjmmkdfjmaaBBCopyV
import Derived.Test.YtjkhjjmmkdfjmaaBBFAwakeB
import Derived.Outline
namespace Go.Proofs.Ytjkhjjmmkdfjmaa
open Go.ChangeShapes Go.WideShapes Go.ChangeAt Go.RowKit
set_option linter.unusedVariables false
set_option linter.unusedSimpArgs false
attribute [local go_sem ↓] Go.wp_at_zero Go.wp_at_succ
theorem copyVe_n (L : List Ve) (A : Option Addr) (cap n : Nat) (w : World) (hn : Hid (n = L.length)) (hl : n ≤ 1000000) (hc : A = none → cap = 0) (hS : SlRows veV 3 w A L) : Calls Try.prog 15 #[.slice A n cap] w (CopiedVe n L w) := by
  rw [hn.out] at hl ⊢; exact copyVe_any L A cap w hl hc hS
theorem copyFl_n (L : List Fl) (A : Option Addr) (cap n : Nat) (w : World) (hn : Hid (n = L.length)) (hl : n ≤ 1000000) (hc : A = none → cap = 0) (hS : SlRows flV 8 w A L) : Calls Try.prog 16 #[.slice A n cap] w (CopiedFl n L w) := by
  rw [hn.out] at hl ⊢; exact copyFl_any L A cap w hl hc hS
end Go.Proofs.Ytjkhjjmmkdfjmaa
