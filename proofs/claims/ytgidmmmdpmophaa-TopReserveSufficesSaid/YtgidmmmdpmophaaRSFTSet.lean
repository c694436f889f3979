import Derived.Test.YtgidmmmdpmophaaRSFLeaf
import Derived.Outline
namespace Go.Proofs.Ytgidmmmdpmophaa
open Go.ChangeShapes Go.WideShapes Go.ChangeAt Go.RowKit
set_option linter.unusedVariables false
set_option linter.unusedSimpArgs false
theorem cell_same {w : World} {b i : Nat} {u v : Value} (h : w.cell? ⟨b, i, none⟩ = some v) : (w.setCell ⟨b, i, none⟩ u).cell? ⟨b, i, none⟩ = some u := World.cell?_setCell_same' _ _ _ (by rw [h]; rfl)
theorem cell_off {w : World} {b i c j : Nat} {u : Value} (h : c ≠ b ∨ j ≠ i) : (w.setCell ⟨b, i, none⟩ u).cell? ⟨c, j, none⟩ = w.cell? ⟨c, j, none⟩ := by
  have h1 : (b = c → i ≠ j) := by
    intro e e2
    rcases h with h | h
    · exact h e.symm
    · exact h e2.symm
  by_cases hb : b = c
  · subst hb
    have := h1 rfl
    simp [go_sem, this]
  · simp [go_sem, hb]
theorem size_set (w : World) (a : Addr) (u : Value) : (w.setCell a u).heap.size = w.heap.size := by simp [World.setCell]
def set4 (X : World) (b : Nat) (u0 u1 u2 u3 : Value) : World := ((((X).setCell ⟨b, 0, none⟩ u0).setCell ⟨b, 1, none⟩ u1).setCell ⟨b, 2, none⟩ u2).setCell ⟨b, 3, none⟩ u3
theorem set4_is {X : World} {b : Nat} (u0 u1 u2 u3 : Value) (h : ∀ i, i < 4 → ∃ v, X.cell? ⟨b, i, none⟩ = some v) (hf : ∀ j, X.frozen? ⟨b, j, none⟩ = false) :
    (set4 X b u0 u1 u2 u3).cell? ⟨b, 0, none⟩ = some u0 ∧ (set4 X b u0 u1 u2 u3).cell? ⟨b, 1, none⟩ = some u1 ∧ (set4 X b u0 u1 u2 u3).cell? ⟨b, 2, none⟩ = some u2 ∧ (set4 X b u0 u1 u2 u3).cell? ⟨b, 3, none⟩ = some u3 ∧ (∀ j, (set4 X b u0 u1 u2 u3).frozen? ⟨b, j, none⟩ = false) ∧ (∀ c o, c ≠ b → (set4 X b u0 u1 u2 u3).cell? ⟨c, o, none⟩ = X.cell? ⟨c, o, none⟩) ∧ (∀ k, k ≠ b → (set4 X b u0 u1 u2 u3).heap[k]? = X.heap[k]?) ∧ (set4 X b u0 u1 u2 u3).heap.size = X.heap.size := by
  obtain ⟨v0, h0⟩ := h 0 (by omega)
  obtain ⟨v1, h1⟩ := h 1 (by omega)
  obtain ⟨v2, h2⟩ := h 2 (by omega)
  obtain ⟨v3, h3⟩ := h 3 (by omega)
  unfold set4
  refine ⟨?_, ?_, ?_, ?_, ?_, ?_, ?_, ?_⟩
  · rw [cell_off (Or.inr (by omega))]; rw [cell_off (Or.inr (by omega))]; rw [cell_off (Or.inr (by omega))]; exact cell_same h0
  · rw [cell_off (Or.inr (by omega))]; rw [cell_off (Or.inr (by omega))]; refine cell_same (v := v1) ?_; rw [cell_off (Or.inr (by omega))]; exact h1
  · rw [cell_off (Or.inr (by omega))]; refine cell_same (v := v2) ?_; rw [cell_off (Or.inr (by omega))]; rw [cell_off (Or.inr (by omega))]; exact h2
  · refine cell_same (v := v3) ?_; rw [cell_off (Or.inr (by omega))]; rw [cell_off (Or.inr (by omega))]; rw [cell_off (Or.inr (by omega))]; exact h3
  · intro j; simp only [World.frozen?_setCell]; exact hf j
  · intro c o hc; rw [cell_off (Or.inl hc)]; rw [cell_off (Or.inl hc)]; rw [cell_off (Or.inl hc)]; rw [cell_off (Or.inl hc)]
  · intro k hk; rw [Below.heap_setCell _ _ _ _ hk]; rw [Below.heap_setCell _ _ _ _ hk]; rw [Below.heap_setCell _ _ _ _ hk]; rw [Below.heap_setCell _ _ _ _ hk]
  · simp only [size_set]
theorem set4_below {a X : World} {N b : Nat} {u0 u1 u2 u3 : Value} (h : Below N a X) (hb : N ≤ b) : Below N a (set4 X b u0 u1 u2 u3) := ((((((((h).setCell (p := ⟨b, 0, none⟩) hb u0)).setCell (p := ⟨b, 1, none⟩) hb u1)).setCell (p := ⟨b, 2, none⟩) hb u2)).setCell (p := ⟨b, 3, none⟩) hb u3)
end Go.Proofs.Ytgidmmmdpmophaa
