/- Stores of four and of five numbers into a block, and what a new block holds. -/
import Derived.Test.YtbdiljbjddppcaaTSet
import Derived.Outline
namespace Go.Proofs.Ytbdiljbjddppcaa
open Go.ChangeShapes Go.WideShapes Go.ChangeAt Go.RowKit
set_option linter.unusedVariables false
set_option linter.unusedSimpArgs false
def set2 (X : World) (b : Nat) (u0 u1 : Value) : World := ((X).setCell ⟨b, 0, none⟩ u0).setCell ⟨b, 1, none⟩ u1
theorem set2_is {X : World} {b : Nat} (u0 u1 : Value) (h : ∀ i, i < 2 → ∃ v, X.cell? ⟨b, i, none⟩ = some v) (hf : ∀ j, X.frozen? ⟨b, j, none⟩ = false) :
    (set2 X b u0 u1).cell? ⟨b, 0, none⟩ = some u0 ∧ (set2 X b u0 u1).cell? ⟨b, 1, none⟩ = some u1 ∧ (∀ j, (set2 X b u0 u1).frozen? ⟨b, j, none⟩ = false) ∧ (∀ c o, c ≠ b → (set2 X b u0 u1).cell? ⟨c, o, none⟩ = X.cell? ⟨c, o, none⟩) ∧ (∀ k, k ≠ b → (set2 X b u0 u1).heap[k]? = X.heap[k]?) ∧ (set2 X b u0 u1).heap.size = X.heap.size := by
  obtain ⟨v0, h0⟩ := h 0 (by omega)
  obtain ⟨v1, h1⟩ := h 1 (by omega)
  unfold set2
  refine ⟨?_, ?_, ?_, ?_, ?_, ?_⟩
  · rw [cell_off (Or.inr (by omega))]; exact cell_same h0
  · refine cell_same (v := v1) ?_; rw [cell_off (Or.inr (by omega))]; exact h1
  · intro j; simp only [World.frozen?_setCell]; exact hf j
  · intro c o hc; rw [cell_off (Or.inl hc)]; rw [cell_off (Or.inl hc)]
  · intro k hk; rw [Below.heap_setCell _ _ _ _ hk]; rw [Below.heap_setCell _ _ _ _ hk]
  · simp only [size_set]
theorem set2_below {a X : World} {N b : Nat} {u0 u1 : Value} (h : Below N a X) (hb : N ≤ b) : Below N a (set2 X b u0 u1) := ((((h).setCell (p := ⟨b, 0, none⟩) hb u0)).setCell (p := ⟨b, 1, none⟩) hb u1)
theorem new2_is (w : World) (u0 u1 : Value) (T : TypeId) : (∀ i, i < 2 → ∃ v, (w.alloc (.cells #[u0, u1] T)).cell? ⟨w.heap.size, i, none⟩ = some v) ∧ (∀ j, (w.alloc (.cells #[u0, u1] T)).frozen? ⟨w.heap.size, j, none⟩ = false) := by
  constructor
  · intro i hi
    obtain rfl | rfl : i = 0 ∨ i = 1 := by omega
    all_goals exact ⟨_, by simp [go_sem]; rfl⟩
  · intro j; simp [go_sem]
theorem has2_below {w w' : World} {b N : Nat} (h : (∀ i, i < 2 → ∃ v, w.cell? ⟨b, i, none⟩ = some v) ∧ (∀ j, w.frozen? ⟨b, j, none⟩ = false)) (hB : Below N w w') (hb : b < N) : (∀ i, i < 2 → ∃ v, w'.cell? ⟨b, i, none⟩ = some v) ∧ (∀ j, w'.frozen? ⟨b, j, none⟩ = false) :=
  ⟨fun i hi => by obtain ⟨v, hv⟩ := h.1 i hi; exact ⟨v, (hB.cell (p := ⟨b, i, none⟩) hb).trans hv⟩, fun j => (hB.frozen (p := ⟨b, j, none⟩) hb).trans (h.2 j)⟩
end Go.Proofs.Ytbdiljbjddppcaa
