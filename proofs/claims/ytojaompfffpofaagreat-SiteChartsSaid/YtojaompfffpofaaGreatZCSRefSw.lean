import Derived.Test.YtojaompfffpofaaGreatZCSAwk2
import Derived.Test.YtojaompfffpofaaGreatZCLeaf
import Derived.Outline
import Derived.Laws.StructEq
import Derived.Test.YtojaompfffpofaaGreatZCSWof
import Derived.Test.YtojaompfffpofaaGreatZCSComb
import Derived.Test.YtojaompfffpofaaGreatZCSRefB
import Derived.Test.YtojaompfffpofaaGreatZCSCosw
import Derived.Test.YtojaompfffpofaaGreatZCSLat
import Derived.Test.YtojaompfffpofaaGreatZCSApp
import Derived.Test.YtojaompfffpofaaGreatZCSCat
import Derived.Test.YtojaompfffpofaaGreatZCSWin
namespace Go.Proofs.YtojaompfffpofaaGreat
open Go.ChangeShapes Go.WideShapes Go.ChangeAt Go.RowKit
set_option linter.unusedVariables false
set_option linter.unusedSimpArgs false
attribute [local go_sem ↓] Go.wp_at_zero Go.wp_at_succ
structure OwnS (m : Int) (A : Option Addr) (n cap : Nat) (w X : World) : Prop where
  c0 : X.cell? ⟨w.heap.size, 0, none⟩ = some (.int .i64 m)
  c1 : X.cell? ⟨w.heap.size, 1, none⟩ = some (.slice A n cap)
  r0 : X.cell? ⟨w.heap.size + 1, 0, none⟩ = some (.int .i64 0)
  r1 : X.cell? ⟨w.heap.size + 1, 1, none⟩ = some (.slice none 0 0)
  fr : ∀ j, X.frozen? ⟨w.heap.size + 1, j, none⟩ = false
  be : Below w.heap.size w X
  lt : w.heap.size + 1 < X.heap.size
theorem OwnS.below {m : Int} {A : Option Addr} {n cap : Nat} {w X X' : World} (h : OwnS m A n cap w X) (hb : Below X.heap.size X X') : OwnS m A n cap w X' := by
  have z := hb.size
  have l := h.lt
  have l0 : w.heap.size < X.heap.size := by omega
  exact ⟨(hb.cell (p := ⟨w.heap.size, 0, none⟩) l0).trans h.c0, (hb.cell (p := ⟨w.heap.size, 1, none⟩) l0).trans h.c1, (hb.cell (p := ⟨w.heap.size + 1, 0, none⟩) l).trans h.r0, (hb.cell (p := ⟨w.heap.size + 1, 1, none⟩) l).trans h.r1, fun j => (hb.frozen (p := ⟨w.heap.size + 1, j, none⟩) l).trans (h.fr j), h.be.trans (hb.mono h.be.size), by omega⟩
end Go.Proofs.YtojaompfffpofaaGreat

namespace Go.Proofs.YtojaompfffpofaaGreat
open Go.ChangeShapes Go.WideShapes Go.ChangeAt Go.RowKit
set_option linter.unusedVariables false
set_option linter.unusedSimpArgs false
attribute [local go_sem ↓] Go.wp_at_zero Go.wp_at_succ
structure WiS (a b : Int) (F : Value) (w X : World) : Prop where
  c0 : X.cell? ⟨w.heap.size, 0, none⟩ = some (.int .i64 a)
  c1 : X.cell? ⟨w.heap.size, 1, none⟩ = some (.int .i64 b)
  c2 : X.cell? ⟨w.heap.size + 1, 0, none⟩ = some F
  be : Below w.heap.size w X
  lt : w.heap.size + 1 < X.heap.size
theorem WiS.below {a b : Int} {F : Value} {w X X' : World} (h : WiS a b F w X) (hb : Below X.heap.size X X') : WiS a b F w X' := by
  have z := hb.size
  have l := h.lt
  have l0 : w.heap.size < X.heap.size := by omega
  exact ⟨(hb.cell (p := ⟨w.heap.size, 0, none⟩) l0).trans h.c0, (hb.cell (p := ⟨w.heap.size, 1, none⟩) l0).trans h.c1, (hb.cell (p := ⟨w.heap.size + 1, 0, none⟩) l).trans h.c2, h.be.trans (hb.mono h.be.size), by omega⟩
end Go.Proofs.YtojaompfffpofaaGreat

namespace Go.Proofs.YtojaompfffpofaaGreat
open Go.ChangeShapes Go.WideShapes Go.ChangeAt Go.RowKit
set_option linter.unusedVariables false
set_option linter.unusedSimpArgs false
attribute [local go_sem ↓] Go.wp_at_zero Go.wp_at_succ
structure AskS (m : Int) (A : Option Addr) (n cap : Nat) (l a b : Int) (s : Bool) (w X : World) : Prop where
  t0 : X.cell? ⟨w.heap.size, 0, none⟩ = some (.int .i64 m)
  t1 : X.cell? ⟨w.heap.size, 1, none⟩ = some (.slice A n cap)
  c0 : X.cell? ⟨w.heap.size + 1, 0, none⟩ = some (.int .i64 l)
  c1 : X.cell? ⟨w.heap.size + 1, 1, none⟩ = some (.int .i64 a)
  c2 : X.cell? ⟨w.heap.size + 1, 2, none⟩ = some (.int .i64 b)
  c3 : X.cell? ⟨w.heap.size + 1, 3, none⟩ = some (.bool s)
  be : Below w.heap.size w X
  lt : w.heap.size + 1 < X.heap.size
theorem AskS.below {m : Int} {A : Option Addr} {n cap : Nat} {l a b : Int} {s : Bool} {w X X' : World} (h : AskS m A n cap l a b s w X) (hb : Below X.heap.size X X') : AskS m A n cap l a b s w X' := by
  have z := hb.size
  have l' := h.lt
  have l0 : w.heap.size < X.heap.size := by omega
  exact ⟨(hb.cell (p := ⟨w.heap.size, 0, none⟩) l0).trans h.t0, (hb.cell (p := ⟨w.heap.size, 1, none⟩) l0).trans h.t1, (hb.cell (p := ⟨w.heap.size + 1, 0, none⟩) l').trans h.c0, (hb.cell (p := ⟨w.heap.size + 1, 1, none⟩) l').trans h.c1, (hb.cell (p := ⟨w.heap.size + 1, 2, none⟩) l').trans h.c2, (hb.cell (p := ⟨w.heap.size + 1, 3, none⟩) l').trans h.c3, h.be.trans (hb.mono h.be.size), by omega⟩
theorem bWth_is (n a b : Int) (p : Bool) (w : World) (hp : Hid (inB n a b = p)) :
    Calls Tryz.prog 23 #[.int .i64 n, .int .i64 a, .int .i64 b] w fun e w' => e = .returned (.bool p) ∧ w = w' := by
  rw [← hp.out]; exact baseWithin_any n a b w
end Go.Proofs.YtojaompfffpofaaGreat
