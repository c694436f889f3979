import Derived.Test.YtojaompfffpofaaGreatZBSAwk2
import Derived.Test.YtojaompfffpofaaGreatZBLeaf
import Derived.Outline
import Derived.Laws.StructEq
import Derived.Test.YtojaompfffpofaaGreatZBSWof
import Derived.Test.YtojaompfffpofaaGreatZBSComb
namespace Go.Proofs.YtojaompfffpofaaGreat
open Go.ChangeShapes Go.WideShapes Go.ChangeAt Go.RowKit
set_option linter.unusedVariables false
set_option linter.unusedSimpArgs false
attribute [local go_sem ↓] Go.wp_at_zero Go.wp_at_succ
structure OwnS (m : Int) (A : Option Addr) (n cap : Nat) (w X : World) : Prop where
  c0 : X.cell? ⟨w.heap.size, 0, none⟩ = some (.int .i64 m)
  c1 : X.cell? ⟨w.heap.size, 1, none⟩ = some (.slice A n cap)
  r0 : X.cell? ⟨w.heap.size + 1, 0, none⟩ = some (.int .i64 0)
  r1 : X.cell? ⟨w.heap.size + 1, 1, none⟩ = some (.slice none 0 0)
  fr : ∀ j, X.frozen? ⟨w.heap.size + 1, j, none⟩ = false
  be : Below w.heap.size w X
  lt : w.heap.size + 1 < X.heap.size
theorem OwnS.below {m : Int} {A : Option Addr} {n cap : Nat} {w X X' : World} (h : OwnS m A n cap w X) (hb : Below X.heap.size X X') : OwnS m A n cap w X' := by
  have z := hb.size
  have l := h.lt
  have l0 : w.heap.size < X.heap.size := by omega
  exact ⟨(hb.cell (p := ⟨w.heap.size, 0, none⟩) l0).trans h.c0, (hb.cell (p := ⟨w.heap.size, 1, none⟩) l0).trans h.c1, (hb.cell (p := ⟨w.heap.size + 1, 0, none⟩) l).trans h.r0, (hb.cell (p := ⟨w.heap.size + 1, 1, none⟩) l).trans h.r1, fun j => (hb.frozen (p := ⟨w.heap.size + 1, j, none⟩) l).trans (h.fr j), h.be.trans (hb.mono h.be.size), by omega⟩
end Go.Proofs.YtojaompfffpofaaGreat

namespace Go.Proofs.YtojaompfffpofaaGreat
open Go.ChangeShapes Go.WideShapes Go.ChangeAt Go.RowKit
set_option linter.unusedVariables false
set_option linter.unusedSimpArgs false
attribute [local go_sem ↓] Go.wp_at_zero Go.wp_at_succ
structure WiS (a b : Int) (F : Value) (w X : World) : Prop where
  c0 : X.cell? ⟨w.heap.size, 0, none⟩ = some (.int .i64 a)
  c1 : X.cell? ⟨w.heap.size, 1, none⟩ = some (.int .i64 b)
  c2 : X.cell? ⟨w.heap.size + 1, 0, none⟩ = some F
  be : Below w.heap.size w X
  lt : w.heap.size + 1 < X.heap.size
theorem WiS.below {a b : Int} {F : Value} {w X X' : World} (h : WiS a b F w X) (hb : Below X.heap.size X X') : WiS a b F w X' := by
  have z := hb.size
  have l := h.lt
  have l0 : w.heap.size < X.heap.size := by omega
  exact ⟨(hb.cell (p := ⟨w.heap.size, 0, none⟩) l0).trans h.c0, (hb.cell (p := ⟨w.heap.size, 1, none⟩) l0).trans h.c1, (hb.cell (p := ⟨w.heap.size + 1, 0, none⟩) l).trans h.c2, h.be.trans (hb.mono h.be.size), by omega⟩
end Go.Proofs.YtojaompfffpofaaGreat
