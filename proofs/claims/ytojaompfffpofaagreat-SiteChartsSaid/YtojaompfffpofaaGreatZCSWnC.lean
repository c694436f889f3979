import Derived.Test.YtojaompfffpofaaGreatZCSCht8
import Derived.Outline
namespace Go.Proofs.YtojaompfffpofaaGreat
open Go.ChangeShapes Go.WideShapes Go.ChangeAt Go.RowKit
set_option linter.unusedVariables false
set_option linter.unusedSimpArgs false
attribute [local go_sem ↓] Go.wp_at_zero Go.wp_at_succ
theorem gr_grown {α : Type} {f : α → List Value} {n : Nat} {w w' : World} {A : Option Addr} {L : List α} (h : SlRows f n w A L) (hb : ∀ a, A = some a → w'.heap[a.block]? = w.heap[a.block]?) (hs : w.heap.size ≤ w'.heap.size) : SlRows f n w' A L := by
  rcases h with h | ⟨b, off, rfl, hlt, h⟩
  · exact Or.inl h
  · exact Or.inr ⟨b, off, rfl, by omega, fun k hk i hi => (World.cell?_of_block (a := ⟨b, off + k * n + i, none⟩) (hb ⟨b, off, none⟩ rfl)).trans (h k hk i hi)⟩
theorem gr_lt {α : Type} {f : α → List Value} {n : Nat} {w : World} {A : Option Addr} {L : List α} (h : SlRows f n w A L) : L = [] ∨ ∀ a, A = some a → a.block < w.heap.size := by
  rcases h with h | ⟨b, off, rfl, hlt, h⟩
  · exact Or.inl h
  · exact Or.inr fun a ha => by cases ha; exact hlt
theorem gr_none {α : Type} {f : α → List Value} {n : Nat} {w : World} {L : List α} (h : SlRows f n w none L) : L = [] := by
  rcases h with h | ⟨b, o, h, _⟩
  · exact h
  · cases h
/-- Lists of windows, each a slice of its own; no list: no room. -/
def SlWnC (w : World) (B : Option Addr) (W : List (List Rg)) : Prop := W = [] ∨ ∃ b off, B = some ⟨b, off, none⟩ ∧ b < w.heap.size ∧ ∀ k, k < W.length → ∃ A cap, w.cell? ⟨b, off + k, none⟩ = some (.slice A (W.getD k []).length cap) ∧ SlRows rgV 2 w A (W.getD k []) ∧ (A = none → cap = 0)
theorem SlWnC.below {w w' : World} {B : Option Addr} {W : List (List Rg)} (h : SlWnC w B W) (hb : Below w.heap.size w w') : SlWnC w' B W := by
  rcases h with h | ⟨b, off, rfl, hlt, h⟩
  · exact Or.inl h
  · refine Or.inr ⟨b, off, rfl, Nat.lt_of_lt_of_le hlt hb.size, fun k hk => ?_⟩
    obtain ⟨A, cap, h1, h2, h3⟩ := h k hk
    exact ⟨A, cap, (hb.cell (p := ⟨b, _, none⟩) hlt).trans h1, h2.below hb, h3⟩
/-- The lists of windows that were copied so far. -/
structure CpW (M : List (List Rg)) (G : Option Addr) (k : Nat) (vals : List Value) (w : World) : Prop where
  len : vals.length = k
  row : ∀ j, j < k → ∃ A cap, vals[j]? = some (.slice A (M.getD j []).length cap) ∧ SlRows rgV 2 w A (M.getD j []) ∧ (∀ a, A = some a → M.getD j [] ≠ [] → a.block < w.heap.size ∧ ∀ g, G = some g → a.block ≠ g.block)
theorem CpW.nil (M : List (List Rg)) (G : Option Addr) (w : World) : CpW M G 0 [] w := ⟨rfl, fun j hj => by omega⟩
theorem CpW.below {M : List (List Rg)} {G : Option Addr} {k : Nat} {vals : List Value} {w w' : World} (h : CpW M G k vals w) (hb : Below w.heap.size w w') : CpW M G k vals w' := by
  have z := hb.size
  refine ⟨h.len, fun j hj => ?_⟩
  obtain ⟨A, cap, r1, r2, r3⟩ := h.row j hj
  exact ⟨A, cap, r1, r2.below hb, fun a ha hne => ⟨by have := (r3 a ha hne).1; omega, (r3 a ha hne).2⟩⟩
/-- One more list was copied, and appended. -/
theorem CpW.push {M : List (List Rg)} {G G1 : Option Addr} {k c1 g5 : Nat} {vals : List Value} {R : List Rg} {w x1 y x5 : World} (h : CpW M G k vals w) (hR : M.getD k [] = R) (hb1 : Below w.heap.size w x1) (hS : SlRows rgV 2 x1 G1 R) (hge : ∀ ad, G1 = some ad → w.heap.size ≤ ad.block) (hby : Below x1.heap.size x1 y) (hgo : ∀ g, G = some g → g.block < w.heap.size)
    (hgb : ∀ b, b < x1.heap.size → (∀ g, G = some g → b ≠ g.block) → x5.heap[b]? = y.heap[b]?) (hz : x1.heap.size ≤ x5.heap.size) (hng : ∀ b : Nat, b < x1.heap.size → (∀ g, G = some g → b ≠ g.block) → b ≠ g5) :
    CpW M (some ⟨g5, 0, none⟩) (k + 1) (vals ++ [.slice G1 R.length c1]) x5 := by
  have z1 := hb1.size
  have hall : ∀ (A : Option Addr) (L : List Rg), SlRows rgV 2 x1 A L → (∀ a, A = some a → L ≠ [] → a.block < x1.heap.size ∧ ∀ g, G = some g → a.block ≠ g.block) → SlRows rgV 2 x5 A L := fun A L hs hne => by
    by_cases hL : L = []
    · exact Or.inl hL
    cases A with
    | none => exact Or.inl (gr_none hs)
    | some a => exact gr_grown hs (fun a' ha' => by
        cases ha'
        exact (hgb a.block (hne a rfl hL).1 (hne a rfl hL).2).trans (hby.block a.block (hne a rfl hL).1)) hz
  have hG1 : ∀ a, G1 = some a → R ≠ [] → a.block < x1.heap.size ∧ ∀ g, G = some g → a.block ≠ g.block := fun a ha hne => by
    rcases gr_lt hS with h | h
    · exact absurd h hne
    · exact ⟨h a ha, fun g hg => by have := hge a ha; have := hgo g hg; omega⟩
  refine ⟨by rw [List.length_append, h.len]; rfl, fun j hj => ?_⟩
  by_cases e : j = k
  · subst e
    refine ⟨G1, c1, ?_, ?_, fun a ha hne => ⟨?_, fun g hg => ?_⟩⟩
    · rw [List.getElem?_append_right (by rw [h.len]; exact Nat.le_refl _), h.len, Nat.sub_self, hR]; rfl
    · rw [hR]; exact hall G1 R hS hG1
    · have := (hG1 a ha (by rw [← hR]; exact hne)).1; omega
    · cases hg; exact hng _ (hG1 a ha (by rw [← hR]; exact hne)).1 (hG1 a ha (by rw [← hR]; exact hne)).2
  · obtain ⟨A, cp, r1, r2, r4⟩ := h.row j (by omega)
    have hq : ∀ a, A = some a → M.getD j [] ≠ [] → a.block < x1.heap.size ∧ ∀ g, G = some g → a.block ≠ g.block := fun a ha hne => ⟨by have := (r4 a ha hne).1; omega, (r4 a ha hne).2⟩
    refine ⟨A, cp, ?_, hall A _ (r2.below hb1) hq, fun a ha hne => ⟨?_, fun g hg => ?_⟩⟩
    · rw [List.getElem?_append_left (by rw [h.len]; omega)]; exact r1
    · have := (hq a ha hne).1; omega
    · cases hg; exact hng _ (hq a ha hne).1 (hq a ha hne).2
/-- A chart, a run in memory: what lies in their cells. -/
structure RuS (A B Aq As : Option Addr) (n m ca cb l l2 cq cs : Nat) (bg : Int) (w X : World) : Prop where
  c0 : X.cell? ⟨w.heap.size, 0, none⟩ = some (.slice A n ca)
  c1 : X.cell? ⟨w.heap.size, 1, none⟩ = some (.slice B m cb)
  r0 : X.cell? ⟨w.heap.size + 1, 0, none⟩ = some (.int .i64 bg)
  r1 : X.cell? ⟨w.heap.size + 1, 1, none⟩ = some (.slice Aq l cq)
  r2 : X.cell? ⟨w.heap.size + 1, 2, none⟩ = some (.slice As l2 cs)
  be : Below w.heap.size w X
  lt : w.heap.size + 1 < X.heap.size
theorem RuS.below {A B Aq As : Option Addr} {n m ca cb l l2 cq cs : Nat} {bg : Int} {w X X' : World} (h : RuS A B Aq As n m ca cb l l2 cq cs bg w X) (hb : Below X.heap.size X X') : RuS A B Aq As n m ca cb l l2 cq cs bg w X' := by
  have z := hb.size
  have q := h.lt
  have q0 : w.heap.size < X.heap.size := by omega
  exact ⟨(hb.cell (p := ⟨w.heap.size, 0, none⟩) q0).trans h.c0, (hb.cell (p := ⟨w.heap.size, 1, none⟩) q0).trans h.c1, (hb.cell (p := ⟨w.heap.size + 1, 0, none⟩) q).trans h.r0, (hb.cell (p := ⟨w.heap.size + 1, 1, none⟩) q).trans h.r1, (hb.cell (p := ⟨w.heap.size + 1, 2, none⟩) q).trans h.r2, h.be.trans (hb.mono h.be.size), by omega⟩
/-- The copy of the run in a new block. -/
structure RuX (bg : Int) (Q Z : List Int) (l l2 bx : Nat) (G1 G2 : Option Addr) (k1 k2 : Nat) (X : World) : Prop where
  x0 : X.cell? ⟨bx, 0, none⟩ = some (.int .i64 bg)
  x1 : X.cell? ⟨bx, 1, none⟩ = some (.slice G1 l k1)
  x2 : X.cell? ⟨bx, 2, none⟩ = some (.slice G2 l2 k2)
  lx : bx < X.heap.size
  g1 : SlRows intV 1 X G1 Q
  g2 : SlRows intV 1 X G2 Z
theorem RuX.below {bg : Int} {Q Z : List Int} {l l2 bx : Nat} {G1 G2 : Option Addr} {k1 k2 : Nat} {X X' : World} (h : RuX bg Q Z l l2 bx G1 G2 k1 k2 X) (hb : Below X.heap.size X X') : RuX bg Q Z l l2 bx G1 G2 k1 k2 X' := by
  have z := hb.size
  have q := h.lx
  exact ⟨(hb.cell (p := ⟨bx, 0, none⟩) q).trans h.x0, (hb.cell (p := ⟨bx, 1, none⟩) q).trans h.x1, (hb.cell (p := ⟨bx, 2, none⟩) q).trans h.x2, by omega, h.g1.below hb, h.g2.below hb⟩
/-- A new run's block, before its numbers are stored. -/
structure NwR (bx : Nat) (B : Nat) (X : World) : Prop where
  c0 : X.cell? ⟨bx, 0, none⟩ = some (.int .i64 0)
  c1 : X.cell? ⟨bx, 1, none⟩ = some (.slice none 0 0)
  c2 : X.cell? ⟨bx, 2, none⟩ = some (.slice none 0 0)
  fr : ∀ j, X.frozen? ⟨bx, j, none⟩ = false
  lt : bx < X.heap.size
  ge : B ≤ bx
theorem NwR.below {bx B : Nat} {X X' : World} (h : NwR bx B X) (hb : Below X.heap.size X X') : NwR bx B X' := by
  have z := hb.size
  have l := h.lt
  exact ⟨(hb.cell (p := ⟨bx, 0, none⟩) l).trans h.c0, (hb.cell (p := ⟨bx, 1, none⟩) l).trans h.c1, (hb.cell (p := ⟨bx, 2, none⟩) l).trans h.c2, fun j => (hb.frozen (p := ⟨bx, j, none⟩) l).trans (h.fr j), by omega, h.ge⟩
/-- Numbers that don't lie in a block. -/
def Off (bx : Nat) (G : Option Addr) (L : List Int) : Prop := L = [] ∨ ∀ a, G = some a → a.block ≠ bx
/-- The copy of the run lies in a new block. -/
def RuR (bg : Int) (Q Z : List Int) (l l2 : Nat) (u : World) (s9 : Value) (X : World) : Prop := ∃ (bx : Nat) (G1 G2 : Option Addr) (k1 k2 : Nat), s9 = .pointer (some ⟨bx, 0, none⟩) ∧ RuX bg Q Z l l2 bx G1 G2 k1 k2 X ∧ Below u.heap.size u X
/-- The numbers of the copy are stored. -/
theorem RuR.stored {bg : Int} {Q Z : List Int} {l l2 bx : Nat} {G1 G2 : Option Addr} {k1 k2 : Nat} {u v : World} (hN : NwR bx u.heap.size v) (h1 : SlRows intV 1 v G1 Q) (h2 : SlRows intV 1 v G2 Z) (o1 : Off bx G1 Q) (o2 : Off bx G2 Z) (hb : Below u.heap.size u v) :
    RuR bg Q Z l l2 u (.pointer (some ⟨bx, 0, none⟩)) (((v.setCell ⟨bx, 0, none⟩ (.int .i64 bg)).setCell ⟨bx, 1, none⟩ (.slice G1 l k1)).setCell ⟨bx, 2, none⟩ (.slice G2 l2 k2)) := by
  obtain ⟨q0, q1, q2, _, ql, qg⟩ := hN
  have nb : ∀ b, b ≠ bx → (((v.setCell ⟨bx, 0, none⟩ (.int .i64 bg)).setCell ⟨bx, 1, none⟩ (.slice G1 l k1)).setCell ⟨bx, 2, none⟩ (.slice G2 l2 k2)).heap[b]? = v.heap[b]? := fun b h => (Below.heap_setCell _ _ _ _ h).trans ((Below.heap_setCell _ _ _ _ h).trans (Below.heap_setCell _ _ _ _ h))
  have oth : ∀ (G : Option Addr) (L : List Int), SlRows intV 1 v G L → Off bx G L → SlRows intV 1 (((v.setCell ⟨bx, 0, none⟩ (.int .i64 bg)).setCell ⟨bx, 1, none⟩ (.slice G1 l k1)).setCell ⟨bx, 2, none⟩ (.slice G2 l2 k2)) G L := fun G L hs ho => by
    rcases ho with h | h
    · exact Or.inl h
    · exact gr_grown hs (fun a ha => nb _ (h a ha)) (by simp)
  refine ⟨bx, G1, G2, k1, k2, rfl, ⟨by simp [go_sem, *], by simp [go_sem, *], by simp [go_sem, *], by simpa using ql, oth G1 Q h1 o1, oth G2 Z h2 o2⟩, ((hb.setCell (p := ⟨bx, 0, none⟩) qg _).setCell (p := ⟨bx, 1, none⟩) qg _).setCell (p := ⟨bx, 2, none⟩) qg _⟩
theorem Off.ge {bx : Nat} {G : Option Addr} {L : List Int} {N : Nat} (h : ∀ a, G = some a → N ≤ a.block) (hb : bx < N) : Off bx G L := .inr fun a ha => by have := h a ha; omega
theorem Off.lt {bx : Nat} {G : Option Addr} {L : List Int} {w : World} (h : SlRows intV 1 w G L) (hb : w.heap.size ≤ bx) : Off bx G L := by
  rcases gr_lt h with h | h
  · exact .inl h
  · exact .inr fun a ha => by have := h a ha; omega
end Go.Proofs.YtojaompfffpofaaGreat
