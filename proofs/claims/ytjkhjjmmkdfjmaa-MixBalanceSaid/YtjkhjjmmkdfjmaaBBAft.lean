import Derived.Test.YtjkhjjmmkdfjmaaBBRmEnt
import Derived.Test.YtjkhjjmmkdfjmaaBBBeh2
import Derived.Outline
namespace Go.Proofs.Ytjkhjjmmkdfjmaa
open Go.ChangeShapes Go.WideShapes Go.ChangeAt Go.RowKit
set_option linter.unusedVariables false
set_option linter.unusedSimpArgs false
attribute [local go_sem ↓] Go.wp_at_zero Go.wp_at_succ
theorem wp_world {P : Program} {c : Code} {Q : Exit → Act → World → Prop} {a : Act} {w : World} (R : World → Prop) (h : R w) (k : ∀ X, R X → Code.wp P c Q a X) : Code.wp P c Q a w := k w h
theorem StAt.below {w w' : World} {sb ib n ic : Nat} {r : Rm} (h : StAt w sb ib n ic r) (hb : Below w.heap.size w w') : StAt w' sb ib n ic r := by
  have z := hb.size
  obtain ⟨s0, s1, s2, s3, s4, s5, s6, s7, sf, vf, ls, li, nsi, hn, nic, hR⟩ := h
  exact ⟨(hb.cell (p := ⟨sb, 0, none⟩) ls).trans s0, (hb.cell (p := ⟨sb, 1, none⟩) ls).trans s1, (hb.cell (p := ⟨sb, 2, none⟩) ls).trans s2, (hb.cell (p := ⟨sb, 3, none⟩) ls).trans s3, (hb.cell (p := ⟨sb, 4, none⟩) ls).trans s4, (hb.cell (p := ⟨sb, 5, none⟩) ls).trans s5, (hb.cell (p := ⟨sb, 6, none⟩) ls).trans s6, (hb.cell (p := ⟨sb, 7, none⟩) ls).trans s7, fun j => (hb.frozen (p := ⟨sb, j, none⟩) ls).trans (sf j), fun j => (hb.frozen (p := ⟨ib, j, none⟩) li).trans (vf j), by omega, by omega, nsi, hn, nic, hR.below hb li⟩
/-- Where the loop of After stands. -/
structure AfS (sb ib n : Nat) (w : World) (r : Rm) (X : World) : Prop where
  st : StAt X sb ib n n r
  z0 : X.cell? ⟨w.heap.size, 0, none⟩ = some (.slice none 0 0)
  z1 : X.cell? ⟨w.heap.size, 1, none⟩ = some (.int .i64 0)
  z2 : X.cell? ⟨w.heap.size, 2, none⟩ = some (.int .i64 0)
  z3 : X.cell? ⟨w.heap.size, 3, none⟩ = some (.int .i64 0)
  z4 : X.cell? ⟨w.heap.size, 4, none⟩ = some (.int .i64 0)
  z5 : X.cell? ⟨w.heap.size, 5, none⟩ = some (.int .i64 0)
  z6 : X.cell? ⟨w.heap.size, 6, none⟩ = some (.int .i64 0)
  z7 : X.cell? ⟨w.heap.size, 7, none⟩ = some (.int .i64 0)
  zf : ∀ j, X.frozen? ⟨w.heap.size, j, none⟩ = false
  be : Below w.heap.size w X
  gs : w.heap.size < sb
  gi : w.heap.size < ib
theorem AfS.next {sb ib n : Nat} {w : World} {r r' : Rm} {X X' : World} (h : AfS sb ib n w r X) (hs : StAt X' sb ib n n r') (hD : BelowD sb ib X.heap.size X X') : AfS sb ib n w r' X' := by
  have l := h.st.ls
  have g1 := h.gs
  have g2 := h.gi
  have zz := h.be.size
  have c : ∀ j, X'.cell? ⟨w.heap.size, j, none⟩ = X.cell? ⟨w.heap.size, j, none⟩ := fun j => hD.cell (by omega) (by omega) (by omega)
  exact ⟨hs, (c 0).trans h.z0, (c 1).trans h.z1, (c 2).trans h.z2, (c 3).trans h.z3, (c 4).trans h.z4, (c 5).trans h.z5, (c 6).trans h.z6, (c 7).trans h.z7, fun j => (hD.frozen (by omega) (by omega) (by omega)).trans (h.zf j), ⟨hD.os.trans h.be.os, hD.tape.trans h.be.tape, hD.output.trans h.be.output, Nat.le_trans h.be.size hD.size, fun i hi => (hD.block i (by omega) (by omega) (by omega)).trans (h.be.block i hi)⟩, g1, g2⟩
theorem AfS.below {sb ib n : Nat} {w : World} {r : Rm} {X X' : World} (h : AfS sb ib n w r X) (hb : Below X.heap.size X X') : AfS sb ib n w r X' := h.next (h.st.below hb) (BelowD.of hb (Nat.le_refl _))
theorem rm0_map (L : List Ve) : (rm0 L).H.map hdS = L := by
  show (L.map hd0).map hdS = L
  rw [List.map_map]
  conv => rhs; rw [← List.map_id L]
  exact List.map_congr_left fun g _ => rfl
end Go.Proofs.Ytjkhjjmmkdfjmaa
