import Derived.Test.YtijdphlejokijaaEWEBr
import Derived.Outline
namespace Go.Proofs.Ytijdphlejokijaa
open Go.ChangeShapes Go.WideShapes Go.ChangeAt Go.RowKit
set_option linter.unusedVariables false
set_option linter.unusedSimpArgs false
attribute [local go_sem ↓] Go.wp_at_zero Go.wp_at_succ
theorem sl_setE {α : Type} {f : α → List Value} {n : Nat} {w : World} {A : Option Addr} {L : List α} {N b i : Nat} {v : Value} (h : SlRows f n w A L) (hA : ∀ ad, A = some ad → N ≤ ad.block) (hb : b < N) : SlRows f n (w.setCell ⟨b, i, none⟩ v) A L := by
  rcases h with h | ⟨c, off, rfl, hlt, h⟩
  · exact Or.inl h
  · have hc : N ≤ c := hA _ rfl
    have hne : c ≠ b := by omega
    exact Or.inr ⟨c, off, rfl, by simpa using hlt, fun k hk j hj => by rw [show (w.setCell ⟨b, i, none⟩ v).cell? ⟨c, off + k * n + j, none⟩ = w.cell? ⟨c, off + k * n + j, none⟩ by simp [go_sem, hne]]; exact h k hk j hj⟩
end Go.Proofs.Ytijdphlejokijaa
