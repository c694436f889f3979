import Derived.Test.YtjkhjjmmkdfjmaaBBRmMath
import Derived.Test.YtjkhjjmmkdfjmaaBBRefCt
import Derived.Test.YtjkhjjmmkdfjmaaBBAdd0
import Derived.Test.YtjkhjjmmkdfjmaaBBRm
import Derived.Outline
namespace Go.Proofs.Ytjkhjjmmkdfjmaa
open Go.ChangeShapes Go.WideShapes Go.ChangeAt Go.RowKit
set_option linter.unusedVariables false
set_option linter.unusedSimpArgs false
def ctC (g : Hd) : List Value := [.int .i64 g.a, .int .i64 g.b, .int .i64 g.c]
/-- Where a store lies. -/
structure StAt (w : World) (sb ib n ic : Nat) (r : Rm) : Prop where
  s0 : w.cell? ⟨sb, 0, none⟩ = some (.slice (some ⟨ib, 0, none⟩) n ic)
  s1 : w.cell? ⟨sb, 1, none⟩ = some (.int .i64 r.g0)
  s2 : w.cell? ⟨sb, 2, none⟩ = some (.int .i64 r.g1)
  s3 : w.cell? ⟨sb, 3, none⟩ = some (.int .i64 r.g2)
  s4 : w.cell? ⟨sb, 4, none⟩ = some (.int .i64 r.k0)
  s5 : w.cell? ⟨sb, 5, none⟩ = some (.int .i64 r.k1)
  s6 : w.cell? ⟨sb, 6, none⟩ = some (.int .i64 r.k2)
  s7 : w.cell? ⟨sb, 7, none⟩ = some (.int .i64 r.dy)
  sf : ∀ j, w.frozen? ⟨sb, j, none⟩ = false
  vf : ∀ j, w.frozen? ⟨ib, j, none⟩ = false
  ls : sb < w.heap.size
  li : ib < w.heap.size
  nsi : sb ≠ ib
  hn : n = r.H.length
  nic : n ≤ ic
  hR : RowsAt ctC 3 w ib 0 r.H
def EntPost (sb ib n ic : Nat) (r : Rm) (x : Fl) (w : World) (e : Ending) (w' : World) : Prop :=
  e = .returned (.int .i64 (posF r x)) ∧ (posF r x = 0 → StAt w' sb ib n ic (stpR r x)) ∧ BelowD sb ib w.heap.size w w' ∧ (posF r x ≠ 0 → Below w.heap.size w w')
theorem EntPost.bad {sb ib n ic : Nat} {r : Rm} {x : Fl} {w w' : World} {E : Int} {e : Ending} (hE : posF r x = E) (hz : ¬ E = 0) (he : e = .returned (.int .i64 E)) (hb : Below w.heap.size w w') : EntPost sb ib n ic r x w e w' :=
  ⟨by rw [he, hE], fun h => absurd (hE ▸ h) hz, BelowD.of hb (Nat.le_refl _), fun _ => hb⟩
end Go.Proofs.Ytjkhjjmmkdfjmaa
