import Derived.Test.YtijdphlejokijaaEWIWeighD
import Derived.Test.YtijdphlejokijaaEWIECpR
import Derived.Test.YtijdphlejokijaaEWILeaf
import Derived.Test.YtijdphlejokijaaEWIEDpts
import Derived.Test.YtijdphlejokijaaEWIERfC
import Derived.Outline
namespace Go.Proofs.Ytijdphlejokijaa
open Go.ChangeShapes Go.WideShapes Go.ChangeAt Go.RowKit
set_option linter.unusedVariables false
set_option linter.unusedSimpArgs false
attribute [local go_sem ↓] Go.wp_at_zero Go.wp_at_succ

theorem BlkF.belowN {u u' : World} {B b N : Nat} {vs : List Value} (h : BlkF u B b vs) (hb : Below N u u') (hlt : b < N) : BlkF u' B b vs :=
  ⟨h.ge, Nat.lt_of_lt_of_le h.lt hb.size, fun i v hv => (hb.cell (p := ⟨b, i, none⟩) hlt).trans (h.at' i v hv), fun j => (hb.frozen (p := ⟨b, j, none⟩) hlt).trans (h.fz j)⟩
/-- A row of the call's own. -/
def OwR (N : Nat) (v : Value) (n : Nat) (xs : List Value) (w : World) : Prop := w.ownsRow N 3 1 v n xs
theorem OwR.below {N : Nat} {v : Value} {n : Nat} {xs : List Value} {w w' : World} (h : OwR N v n xs w) (hb : Below w.heap.size w w') : OwR N v n xs w' := own_belowG h hb (Nat.le_refl _)
/-- The kinds that are broken between two pressures. -/
def brkL (r : Ru) (o h s lo hi : Int) : List Int := (if o * lo < 1000 * r.a then [1] else []) ++ kndL r o h s (hi - s)
end Go.Proofs.Ytijdphlejokijaa
