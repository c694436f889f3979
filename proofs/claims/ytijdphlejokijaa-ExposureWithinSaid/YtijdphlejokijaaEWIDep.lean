import Derived.Test.YtijdphlejokijaaEWILeaf
namespace Go.Proofs.Ytijdphlejokijaa
open Go.ChangeShapes Go.WideShapes Go.ChangeAt Go.RowKit
set_option linter.unusedVariables false

theorem firE2_z {x y : Int} (h : firE [x, y] = 0) : x = 0 ∧ y = 0 := by
  simp only [firE] at h
  split at h
  · split at h
    · exact ⟨‹_›, ‹_›⟩
    · exact absurd h ‹_›
  · exact absurd h ‹_›
theorem rngE_z {n a b : Int} (h : rngE n a b = 0) : a ≤ n ∧ n ≤ b := by
  rcases inB_cases n a b with k | k
  · exact inB_iff.1 k
  · rw [rngE_f k] at h; omega
theorem gasE_z {o h : Int} (k : gasE o h = 0) : 0 ≤ o ∧ o ≤ 1000 ∧ 0 ≤ h ∧ h ≤ 1000 ∧ o + h ≤ 1000 := by
  unfold gasE at k
  split at k
  · obtain ⟨k1, k2⟩ := ‹_ ∧ _›
    have := inB_iff.1 k1
    have := inB_iff.1 k2
    split at k <;> omega
  · omega
theorem limE_z {a b : Int} (k : limE a b = 0) : 1 ≤ a ∧ a ≤ 4000 ∧ 1 ≤ b ∧ b ≤ 4000 ∧ a ≤ b := by
  unfold limE at k
  split at k
  · obtain ⟨k1, k2⟩ := firE2_z (x := rngE a 1 4000) (y := rngE b 1 4000) ‹_›
    have := rngE_z k1
    have := rngE_z k2
    split at k <;> omega
  · exact absurd k ‹_›
end Go.Proofs.Ytijdphlejokijaa
