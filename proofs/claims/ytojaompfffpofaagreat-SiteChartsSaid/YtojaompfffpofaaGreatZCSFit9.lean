import Derived.Test.YtojaompfffpofaaGreatZCSRun2
import Derived.Test.YtojaompfffpofaaGreatZCSCht
import Derived.Test.YtojaompfffpofaaGreatZCSAwk
import Derived.Outline
namespace Go.Proofs.YtojaompfffpofaaGreat
open Go.ChangeShapes Go.WideShapes Go.ChangeAt Go.RowKit
set_option linter.unusedVariables false
set_option linter.unusedSimpArgs false
attribute [local go_sem ↓] Go.wp_at_zero Go.wp_at_succ
/-- A chart without an error is right. -/
theorem chtE_ok {Pl : List ByteArray} {M : List (List Int)} (hsz : ∀ s ∈ Pl, s.size ≤ 1000000) (h : chtE Pl M = 0) : ChOk Pl M := by
  unfold chtE at h
  by_cases h1 : 12 < Pl.length
  · rw [if_pos h1] at h; omega
  rw [if_neg h1] at h
  by_cases h2 : nmlE [] Pl = 0
  · rw [if_pos h2] at h
    by_cases h3 : M.length ≠ Pl.length ∨ othB Pl.length M = true
    · rw [if_pos h3] at h; omega
    rw [if_neg h3] at h
    have hl : M.length = Pl.length := by
      by_cases e : M.length = Pl.length
      · exact e
      · exact absurd (Or.inl e) h3
    have ho : othB Pl.length M = false := by
      cases e : othB Pl.length M with
      | false => rfl
      | true => exact absurd (Or.inr e) h3
    have hc : ∀ i j, i < Pl.length → j < Pl.length → celE i j (mAt M i j) = 0 := fun i j hi hj => fsN_all (fsN_all h i hi) j hj
    refine ⟨by omega, h2, hsz, hl, fun i hi => othB_row ho i (by omega), fun i j hi hj => ?_, fun i hi => ?_⟩
    · have := hc i j hi hj
      unfold celE at this
      split at this
      · rename_i h9; exact rngE_0 h9
      · omega
    · have := hc i i hi hi
      unfold celE at this
      split at this
      · by_cases e : mAt M i i = 0
        · exact e
        · rw [if_pos ⟨rfl, e⟩] at this; omega
      · omega
  · rw [if_neg h2] at h; exact absurd h h2
end Go.Proofs.YtojaompfffpofaaGreat

namespace Go.Proofs.YtojaompfffpofaaGreat
open Go.ChangeShapes Go.WideShapes Go.ChangeAt Go.RowKit
set_option linter.unusedVariables false
set_option linter.unusedSimpArgs false
attribute [local go_sem ↓] Go.wp_at_zero Go.wp_at_succ
/-- Lists of windows, each a slice of its own. -/
def WnAt (w : World) (b off : Nat) (W : List (List Rg)) : Prop := ∀ k, k < W.length → ∃ A cap, w.cell? ⟨b, off + k, none⟩ = some (.slice A (W.getD k []).length cap) ∧ SlRows rgV 2 w A (W.getD k [])
def SlWn (w : World) (B : Option Addr) (W : List (List Rg)) : Prop := W = [] ∨ ∃ b off, B = some ⟨b, off, none⟩ ∧ b < w.heap.size ∧ WnAt w b off W
theorem SlWn.below {w w' : World} {B : Option Addr} {W : List (List Rg)} (h : SlWn w B W) (hb : Below w.heap.size w w') : SlWn w' B W := by
  rcases h with h | ⟨b, off, rfl, hlt, h⟩
  · exact Or.inl h
  · refine Or.inr ⟨b, off, rfl, Nat.lt_of_lt_of_le hlt hb.size, fun k hk => ?_⟩
    obtain ⟨A, cap, h1, h2⟩ := h k hk
    exact ⟨A, cap, (hb.cell (p := ⟨b, _, none⟩) hlt).trans h1, h2.below hb⟩
end Go.Proofs.YtojaompfffpofaaGreat
