/- Loads that hold just what is breathed: tissue.Saturated. -/
import Derived.Test.YtfaodlcfjhnhbaaMLimits
import Derived.Test.YtfaodlcfjhnhbaaMMarks
import Derived.Test.YtfaodlcfjhnhbaaMSmall
import Derived.Test.YtfaodlcfjhnhbaaTClone
import Derived.Deep.DrawnRows
import Derived.Deep.CutRange
import Derived.Deep.CutBlock
import Derived.Outline
namespace Go.Proofs.Ytfaodlcfjhnhbaa
open Go.ChangeShapes Go.WideShapes Go.ChangeAt Go.RowKit
set_option linter.unusedVariables false
set_option linter.unusedSimpArgs false
attribute [local go_sem ↓] Go.wp_at_zero Go.wp_at_succ
/-- A block of n loads of which k are filled. -/
def FillAt (w : World) (b n k : Nat) (x y : Int) : Prop := b < w.heap.size ∧ (∀ j, j < k → w.cell? ⟨b, j * 4, none⟩ = some (.int .i64 x) ∧ w.cell? ⟨b, j * 4 + 1, none⟩ = some (.int .i64 x) ∧ w.cell? ⟨b, j * 4 + 2, none⟩ = some (.int .i64 y) ∧ w.cell? ⟨b, j * 4 + 3, none⟩ = some (.int .i64 y)) ∧ (∀ j, k ≤ j → j < n → ∀ i, i < 4 → ∃ v, w.cell? ⟨b, j * 4 + i, none⟩ = some v) ∧ (∀ j, w.frozen? ⟨b, j, none⟩ = false)
theorem fill_step {w : World} {b n k : Nat} {x y : Int} (h : FillAt w b n k x y) (hk : k < n) : FillAt ((((w.setCell ⟨b, k * 4, none⟩ (.int .i64 x)).setCell ⟨b, k * 4 + 1, none⟩ (.int .i64 x)).setCell ⟨b, k * 4 + 2, none⟩ (.int .i64 y)).setCell ⟨b, k * 4 + 3, none⟩ (.int .i64 y)) b n (k + 1) x y := by
  obtain ⟨h1, h2, h3, h4⟩ := h
  refine ⟨by simpa [size_set] using h1, ?_, ?_, ?_⟩
  · intro j hj
    by_cases e : j = k
    · subst e
      obtain ⟨v0, g0⟩ := h3 j (Nat.le_refl _) hk 0 (by omega)
      obtain ⟨v1, g1⟩ := h3 j (Nat.le_refl _) hk 1 (by omega)
      obtain ⟨v2, g2⟩ := h3 j (Nat.le_refl _) hk 2 (by omega)
      obtain ⟨v3, g3⟩ := h3 j (Nat.le_refl _) hk 3 (by omega)
      refine ⟨?_, ?_, ?_, ?_⟩
      · rw [cell_off (Or.inr (by omega)), cell_off (Or.inr (by omega)), cell_off (Or.inr (by omega))]
        exact cell_same g0
      · rw [cell_off (Or.inr (by omega)), cell_off (Or.inr (by omega))]
        exact cell_same (v := v1) (by rw [cell_off (Or.inr (by omega))]; exact g1)
      · rw [cell_off (Or.inr (by omega))]
        exact cell_same (v := v2) (by rw [cell_off (Or.inr (by omega)), cell_off (Or.inr (by omega))]; exact g2)
      · exact cell_same (v := v3) (by rw [cell_off (Or.inr (by omega)), cell_off (Or.inr (by omega)), cell_off (Or.inr (by omega))]; exact g3)
    · have hj' : j < k := by omega
      obtain ⟨g0, g1, g2, g3⟩ := h2 j hj'
      have O : ∀ o, o < 4 → ((((w.setCell ⟨b, k * 4, none⟩ (.int .i64 x)).setCell ⟨b, k * 4 + 1, none⟩ (.int .i64 x)).setCell ⟨b, k * 4 + 2, none⟩ (.int .i64 y)).setCell ⟨b, k * 4 + 3, none⟩ (.int .i64 y)).cell? ⟨b, j * 4 + o, none⟩ = w.cell? ⟨b, j * 4 + o, none⟩ := fun o ho => by
        rw [cell_off (Or.inr (by omega)), cell_off (Or.inr (by omega)), cell_off (Or.inr (by omega)), cell_off (Or.inr (by omega))]
      exact ⟨(O 0 (by omega)).trans g0, (O 1 (by omega)).trans g1, (O 2 (by omega)).trans g2, (O 3 (by omega)).trans g3⟩
  · intro j hj hjn i hi
    obtain ⟨v, g⟩ := h3 j (by omega) hjn i hi
    exact ⟨v, by rw [cell_off (Or.inr (by omega)), cell_off (Or.inr (by omega)), cell_off (Or.inr (by omega)), cell_off (Or.inr (by omega))]; exact g⟩
  · intro j
    rw [World.frozen?_setCell, World.frozen?_setCell, World.frozen?_setCell, World.frozen?_setCell]
    exact h4 j
theorem fill_done {w : World} {b n : Nat} {x y : Int} (h : FillAt w b n n x y) : SlLd w (some ⟨b, 0, none⟩) (List.replicate n ⟨x, x, y, y⟩) := by
  refine Or.inr ⟨b, 0, rfl, h.1, fun k hk => ?_⟩
  have hk' : k < n := by simpa using hk
  obtain ⟨g0, g1, g2, g3⟩ := h.2.1 k hk'
  simp only [List.getElem_replicate, Nat.zero_add]
  exact ⟨g0, g1, g2, g3⟩
theorem fill_new {w : World} {n : Nat} {x y : Int} {T : TypeId} : FillAt (w.alloc (.cells (Array.replicate (n * 4) (.int .i64 0)) T)) w.heap.size n 0 x y := by
  refine ⟨by simp, fun j hj => by omega, fun j _ hj i hi => ⟨.int .i64 0, ?_⟩, fun j => by simp [go_sem]⟩
  have h : j * 4 + i < n * 4 := by omega
  show (w.alloc _).cell? ⟨w.heap.size, j * 4 + i, none⟩ = _
  first | (rw [World.cell?_alloc_new]; simp [h]; done) | (simp [go_sem, h]; done)
theorem mkLd {n : Nat} (h1 : 1 ≤ n) (h16 : n ≤ 16) (w : World) : (Instr.makeSlice 23 (.int .i64 n) (.int .i64 n)).run Try.prog w = .ok (.slice (some ⟨w.heap.size, 0, none⟩) n n) (w.alloc (.cells (Array.replicate (n * 4) (.int .i64 0)) 49)) := by
  rcases (show n = 1 ∨ n = 2 ∨ n = 3 ∨ n = 4 ∨ n = 5 ∨ n = 6 ∨ n = 7 ∨ n = 8 ∨ n = 9 ∨ n = 10 ∨ n = 11 ∨ n = 12 ∨ n = 13 ∨ n = 14 ∨ n = 15 ∨ n = 16 by omega) with rfl | rfl | rfl | rfl | rfl | rfl | rfl | rfl | rfl | rfl | rfl | rfl | rfl | rfl | rfl | rfl <;> kernel_rfl
end Go.Proofs.Ytfaodlcfjhnhbaa
