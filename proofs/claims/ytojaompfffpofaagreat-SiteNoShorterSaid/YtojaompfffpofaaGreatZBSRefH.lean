import Derived.Test.YtojaompfffpofaaGreatZBSAwk2
import Derived.Test.YtojaompfffpofaaGreatZBLeaf
import Derived.Test.YtojaompfffpofaaGreatZBSqrt
import Derived.Outline
namespace Go.Proofs.YtojaompfffpofaaGreat
open Go.ChangeShapes Go.WideShapes Go.ChangeAt Go.RowKit
set_option linter.unusedVariables false
set_option linter.unusedSimpArgs false
attribute [local go_sem ↓] Go.wp_at_zero Go.wp_at_succ
def cPr (p : Pt) : List Value := [.int .i64 p.a, .int .i64 p.b]
def sPr (p : Pt) : List Value := [.int .i64 p.c, .int .i64 p.d]
/-- Where the loop over halves stands. -/
structure RhS (k : Nat) (w X : World) : Prop where
  c : ∀ j, j < k → X.rangeAt (w.heap.size + 1 + 1) (j * 2) (cPr (hv j))
  s : ∀ j, j < k → X.rangeAt (w.heap.size + 1 + 1 + 1) (j * 2) (sPr (hv j))
  tc : X.there (w.heap.size + 1 + 1) 0 22
  ts : X.there (w.heap.size + 1 + 1 + 1) 0 22
  t0 : X.there w.heap.size 0 22
  t1 : X.there (w.heap.size + 1) 0 22
  sz : w.heap.size + 4 ≤ X.heap.size
  be : Below w.heap.size w X
theorem RhS.below {k : Nat} {w X X' : World} (h : RhS k w X) (hb : Below X.heap.size X X') : RhS k w X' := by
  have z := hb.size
  have l := h.sz
  exact ⟨fun j hj => range_below (h.c j hj) hb (by omega), fun j hj => range_below (h.s j hj) hb (by omega), there_below h.tc hb (by omega), there_below h.ts hb (by omega), there_below h.t0 hb (by omega), there_below h.t1 hb (by omega), by omega, h.be.trans (hb.mono h.be.size)⟩
end Go.Proofs.YtojaompfffpofaaGreat
