import Derived.Test.YtojaompfffpofaaGreatZCSAwk2
import Derived.Test.YtojaompfffpofaaGreatZCLeaf
import Derived.Test.YtojaompfffpofaaGreatZCSqrt
import Derived.Outline
import Derived.Test.YtojaompfffpofaaGreatZCSApp
import Derived.Test.YtojaompfffpofaaGreatZCSAt
import Derived.Test.YtojaompfffpofaaGreatZCSPts
namespace Go.Proofs.YtojaompfffpofaaGreat
open Go.ChangeShapes Go.WideShapes Go.ChangeAt Go.RowKit
set_option linter.unusedVariables false
set_option linter.unusedSimpArgs false
attribute [local go_sem ↓] Go.wp_at_zero Go.wp_at_succ
def cPr (p : Pt) : List Value := [.int .i64 p.a, .int .i64 p.b]
def sPr (p : Pt) : List Value := [.int .i64 p.c, .int .i64 p.d]
/-- Where the loop over halves stands. -/
structure RhS (k : Nat) (w X : World) : Prop where
  c : ∀ j, j < k → X.rangeAt (w.heap.size + 1 + 1) (j * 2) (cPr (hv j))
  s : ∀ j, j < k → X.rangeAt (w.heap.size + 1 + 1 + 1) (j * 2) (sPr (hv j))
  tc : X.there (w.heap.size + 1 + 1) 0 22
  ts : X.there (w.heap.size + 1 + 1 + 1) 0 22
  t0 : X.there w.heap.size 0 22
  t1 : X.there (w.heap.size + 1) 0 22
  sz : w.heap.size + 4 ≤ X.heap.size
  be : Below w.heap.size w X
theorem RhS.below {k : Nat} {w X X' : World} (h : RhS k w X) (hb : Below X.heap.size X X') : RhS k w X' := by
  have z := hb.size
  have l := h.sz
  exact ⟨fun j hj => range_below (h.c j hj) hb (by omega), fun j hj => range_below (h.s j hj) hb (by omega), there_below h.tc hb (by omega), there_below h.ts hb (by omega), there_below h.t0 hb (by omega), there_below h.t1 hb (by omega), by omega, h.be.trans (hb.mono h.be.size)⟩
end Go.Proofs.YtojaompfffpofaaGreat

namespace Go.Proofs.YtojaompfffpofaaGreat
open Go.ChangeShapes Go.WideShapes Go.ChangeAt Go.RowKit
set_option linter.unusedVariables false
set_option linter.unusedSimpArgs false
attribute [local go_sem ↓] Go.wp_at_zero Go.wp_at_succ
/-- Two cells of a block of two. -/
def Two (X : World) (b : Nat) (u v : Int) : Prop := X.cell? ⟨b, 0, none⟩ = some (.int .i64 u) ∧ X.cell? ⟨b, 1, none⟩ = some (.int .i64 v)
/-- Where the loop stands: the halves' blocks, the two enclosures so far, the results' cells. -/
structure BoS (w : World) (n k : Nat) (C S : List Value) (p : Pt) (X : World) : Prop where
  c : X.rangeAt n 0 C
  s : X.rangeAt (n + 1) 0 S
  x : Two X k p.a p.b
  y : Two X (k + 1) p.c p.d
  tx : X.there k 0 2
  ty : X.there (k + 1) 0 2
  t0 : X.there w.heap.size 0 2
  t1 : X.there (w.heap.size + 1) 0 2
  nw : w.heap.size + 2 ≤ n
  kn : n + 2 ≤ k
  sz : k + 2 ≤ X.heap.size
  be : Below w.heap.size w X
theorem Two.below {X X' : World} {b : Nat} {u v : Int} (h : Two X b u v) (hb : Below X.heap.size X X') (hl : b < X.heap.size) : Two X' b u v := ⟨(hb.cell (p := ⟨b, 0, none⟩) hl).trans h.1, (hb.cell (p := ⟨b, 1, none⟩) hl).trans h.2⟩
theorem BoS.below {w X X' : World} {n k : Nat} {C S : List Value} {p : Pt} (h : BoS w n k C S p X) (hb : Below X.heap.size X X') : BoS w n k C S p X' := by
  have z := hb.size
  have l := h.sz
  have l2 := h.nw
  have l3 := h.kn
  exact ⟨range_below h.c hb (by omega), range_below h.s hb (by omega), h.x.below hb (by omega), h.y.below hb (by omega), there_below h.tx hb (by omega), there_below h.ty hb (by omega), there_below h.t0 hb (by omega), there_below h.t1 hb (by omega), h.nw, h.kn, by omega, h.be.trans (hb.mono h.be.size)⟩
end Go.Proofs.YtojaompfffpofaaGreat
