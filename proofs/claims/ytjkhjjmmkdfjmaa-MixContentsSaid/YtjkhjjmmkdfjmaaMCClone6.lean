import Derived.Test.YtjkhjjmmkdfjmaaMCCont
import Derived.Test.YtjkhjjmmkdfjmaaMCBal
import Derived.Outline
import Derived.Test.YtjkhjjmmkdfjmaaMCCopyV
import Derived.Test.YtjkhjjmmkdfjmaaMCBeh2
import Derived.Maps.AppendAt
import Derived.Laws.AppendOwnNone
import Derived.OwnWalk
namespace Go.Proofs.Ytjkhjjmmkdfjmaa
open Go.ChangeShapes Go.WideShapes Go.ChangeAt Go.RowKit
set_option linter.unusedVariables false
set_option linter.unusedSimpArgs false
attribute [local go_sem ↓] Go.wp_at_zero Go.wp_at_succ
theorem beh_all {L : List Ve} {X : List Fl} {N : Nat} (h : behP L X = (N, 0)) : RmOk (runR (rm0 L) X) X.length ∧ Bal (runR (rm0 L) X) ∧ Prs (runR (rm0 L) X).H ∧ (runR (rm0 L) X).H.map hdS = L := by
  unfold behP at h
  by_cases h1 : ctV L = 0
  · rw [if_pos h1] at h
    by_cases h2 : 200 < X.length
    · rw [if_pos h2] at h; exact absurd (Prod.mk.inj h).2 (by decide)
    · rw [if_neg h2] at h
      have h0 := rm0_ok h1
      obtain ⟨a, b, c, d⟩ := run_all X (rm0 L) 0 0 h0 (bal0 L) (prs0 h0) h
      exact ⟨by rw [Nat.zero_add] at a; exact a, b, c, d.trans (rm0_map L)⟩
  · rw [if_neg h1] at h; exact absurd (Prod.mk.inj h).2 h1
theorem ctr_at {w : World} {b off : Nat} {H : List Hd} (h : RowsAt ctC 3 w b off H) {k : Nat} (hk : k < H.length) : w.cell? ⟨b, off + k * 3, none⟩ = some (.int .i64 H[k].a) ∧ w.cell? ⟨b, off + k * 3 + 1, none⟩ = some (.int .i64 H[k].b) ∧ w.cell? ⟨b, off + k * 3 + 2, none⟩ = some (.int .i64 H[k].c) := ⟨h k hk 0 (by omega), h k hk 1 (by omega), h k hk 2 (by omega)⟩
/-- Where the loop stands: what came in, the sum so far, the contents, the vessels. -/
structure BaS (sb zb ab ao vb vo : Nat) (r : Rm) (s0 s1 s2 : Int) (w X : World) : Prop where
  g0 : X.cell? ⟨sb, 0, none⟩ = some (.int .i64 r.g0)
  g1 : X.cell? ⟨sb, 1, none⟩ = some (.int .i64 r.g1)
  g2 : X.cell? ⟨sb, 2, none⟩ = some (.int .i64 r.g2)
  z0 : X.cell? ⟨zb, 0, none⟩ = some (.int .i64 s0)
  z1 : X.cell? ⟨zb, 1, none⟩ = some (.int .i64 s1)
  z2 : X.cell? ⟨zb, 2, none⟩ = some (.int .i64 s2)
  zf : ∀ j, X.frozen? ⟨zb, j, none⟩ = false
  ls : sb < X.heap.size
  lz : zb < X.heap.size
  ne : sb ≠ zb
  be : Below w.heap.size w X
  gs : w.heap.size ≤ zb
  ra : r.H = [] ∨ (ab < X.heap.size ∧ ab ≠ zb ∧ RowsAt ctC 3 X ab ao r.H)
  rv : r.H = [] ∨ (vb < X.heap.size ∧ vb ≠ zb ∧ RowsAt veV 3 X vb vo (r.H.map hdS))
theorem BaS.below {sb zb ab ao vb vo : Nat} {r : Rm} {s0 s1 s2 : Int} {w X X' : World} (h : BaS sb zb ab ao vb vo r s0 s1 s2 w X) (hb : Below X.heap.size X X') : BaS sb zb ab ao vb vo r s0 s1 s2 w X' := by
  have z := hb.size
  obtain ⟨g0, g1, g2, z0, z1, z2, zf, ls, lz, ne, be, gs, ra, rv⟩ := h
  exact ⟨(hb.cell (p := ⟨sb, 0, none⟩) ls).trans g0, (hb.cell (p := ⟨sb, 1, none⟩) ls).trans g1, (hb.cell (p := ⟨sb, 2, none⟩) ls).trans g2, (hb.cell (p := ⟨zb, 0, none⟩) lz).trans z0, (hb.cell (p := ⟨zb, 1, none⟩) lz).trans z1, (hb.cell (p := ⟨zb, 2, none⟩) lz).trans z2, fun j => (hb.frozen (p := ⟨zb, j, none⟩) lz).trans (zf j), by omega, by omega, ne, be.trans (hb.mono be.size), gs, ra.imp id fun h => ⟨by have := h.1; omega, h.2.1, h.2.2.below hb h.1⟩, rv.imp id fun h => ⟨by have := h.1; omega, h.2.1, h.2.2.below hb h.1⟩⟩
theorem BaS.drew {sb zb ab ao vb vo : Nat} {r : Rm} {s0 s1 s2 : Int} {w X : World} (h : BaS sb zb ab ao vb vo r s0 s1 s2 w X) : BaS sb zb ab ao vb vo r s0 s1 s2 w X.drew := h.below (Below.refl _ _).drew
theorem BaS.add {sb zb ab ao vb vo : Nat} {r : Rm} {s0 s1 s2 : Int} {w X : World} (h : BaS sb zb ab ao vb vo r s0 s1 s2 w X) (t0 t1 t2 : Int) : BaS sb zb ab ao vb vo r t0 t1 t2 w (((X.setCell ⟨zb, 0, none⟩ (.int .i64 t0)).setCell ⟨zb, 1, none⟩ (.int .i64 t1)).setCell ⟨zb, 2, none⟩ (.int .i64 t2)) := by
  obtain ⟨g0, g1, g2, z0, z1, z2, zf, ls, lz, ne, be, gs, ra, rv⟩ := h
  have off : ∀ b, b ≠ zb → (((X.setCell ⟨zb, 0, none⟩ (.int .i64 t0)).setCell ⟨zb, 1, none⟩ (.int .i64 t1)).setCell ⟨zb, 2, none⟩ (.int .i64 t2)).heap[b]? = X.heap[b]? := fun b hb => (Below.heap_setCell _ _ _ _ hb).trans ((Below.heap_setCell _ _ _ _ hb).trans (Below.heap_setCell _ _ _ _ hb))
  have oc : ∀ b i, b ≠ zb → (((X.setCell ⟨zb, 0, none⟩ (.int .i64 t0)).setCell ⟨zb, 1, none⟩ (.int .i64 t1)).setCell ⟨zb, 2, none⟩ (.int .i64 t2)).cell? ⟨b, i, none⟩ = X.cell? ⟨b, i, none⟩ := fun b i hb => World.cell?_of_block (a := ⟨b, i, none⟩) (off b hb)
  exact ⟨(oc _ _ ne).trans g0, (oc _ _ ne).trans g1, (oc _ _ ne).trans g2, by simp [go_sem, *], by simp [go_sem, *], by simp [go_sem, *], fun j => by rw [World.frozen?_setCell, World.frozen?_setCell, World.frozen?_setCell]; exact zf j, by simpa using ls, by simpa using lz, ne,
    ((be.setCell (p := ⟨zb, 0, none⟩) gs _).setCell (p := ⟨zb, 1, none⟩) gs _).setCell (p := ⟨zb, 2, none⟩) gs _, gs, ra.imp id fun h => ⟨by simpa using h.1, h.2.1, fun k hk i hi => (oc _ _ h.2.1).trans (h.2.2 k hk i hi)⟩, rv.imp id fun h => ⟨by simpa using h.1, h.2.1, fun k hk i hi => (oc _ _ h.2.1).trans (h.2.2 k hk i hi)⟩⟩
end Go.Proofs.Ytjkhjjmmkdfjmaa

namespace Go.Proofs.Ytjkhjjmmkdfjmaa
open Go.ChangeShapes Go.WideShapes Go.ChangeAt Go.RowKit
set_option linter.unusedVariables false
set_option linter.unusedSimpArgs false
theorem beh_len {L : List Ve} {X : List Fl} (h : (behP L X).2 = 0) : L.length ≤ 20 ∧ X.length ≤ 200 := by
  unfold behP at h
  by_cases h1 : ctV L = 0
  · rw [if_pos h1] at h
    refine ⟨?_, ?_⟩
    · unfold ctV at h1
      by_cases h3 : 20 < L.length
      · rw [if_pos h3] at h1; exact absurd h1 (by decide)
      · omega
    · by_cases h2 : 200 < X.length
      · rw [if_pos h2] at h; exact absurd h (by decide)
      · omega
  · rw [if_neg h1] at h; exact absurd h h1
end Go.Proofs.Ytjkhjjmmkdfjmaa
