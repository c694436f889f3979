import Derived.Test.YtgidmmmdpmophaaRSFELgs
import Derived.Test.YtgidmmmdpmophaaRSFCol
import Derived.Outline
namespace Go.Proofs.Ytgidmmmdpmophaa
open Go.Shelf Go.ChangeShapes Go.WideShapes Go.ChangeAt Go.RowKit
set_option linter.unusedVariables false
set_option linter.unusedSimpArgs false
attribute [local go_sem ↓] Go.wp_at_zero Go.wp_at_succ
attribute [local go_sem] Oper.semAt_some
theorem _root_.Go.Boxed.below' {W W' : World} {b : Nat} {t : TypeId} {v : Value} (h : Boxed W b t v) (hb : Below W.heap.size W W') : Boxed W' b t v := (hb.block b h.lt).trans h
theorem slk_of {α : Type} {f : α → List Value} {n : Nat} {w : World} {bs : List Nat} {A : Option Addr} {L : List α} (h : SlRows f n w A L) (hb : ∀ b ∈ bsO A L, b ∈ bs) : SlK f n w bs A L := by
  rcases h with rfl | ⟨c, off, rfl, hl, hR⟩
  · exact Or.inl rfl
  · cases L with
    | nil => exact Or.inl rfl
    | cons x l => exact Or.inr ⟨c, off, rfl, hb c (by simp [bsO]), hl, hR⟩
end Go.Proofs.Ytgidmmmdpmophaa
