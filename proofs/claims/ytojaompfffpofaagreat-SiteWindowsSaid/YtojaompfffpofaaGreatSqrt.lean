/- Square roots, rounded down: what tissue.squareRoot and the base's Root return. -/
import Derived.Test.YtojaompfffpofaaGreatLeaf
import Derived.Outline
namespace Go.Proofs.YtojaompfffpofaaGreat
open Go.ChangeShapes Go.WideShapes Go.ChangeAt Go.RowKit
set_option linter.unusedVariables false
set_option linter.unusedSimpArgs false

theorem isq_ex (n : Nat) : ∃ r, r * r ≤ n ∧ n < (r + 1) * (r + 1) := by
  induction n with
  | zero => exact ⟨0, by omega, by omega⟩
  | succ n ih =>
    obtain ⟨r, h1, h2⟩ := ih
    by_cases h : n + 1 < (r + 1) * (r + 1)
    · exact ⟨r, by omega, h⟩
    · refine ⟨r + 1, by omega, ?_⟩
      have : (r + 1 + 1) * (r + 1 + 1) = (r + 1) * (r + 1) + 2 * (r + 1) + 1 := by grind
      omega
/-- The square root, rounded down. -/
noncomputable def isq (n : Nat) : Nat := Classical.choose (isq_ex n)
theorem isq_le (n : Nat) : isq n * isq n ≤ n := (Classical.choose_spec (isq_ex n)).1
theorem isq_lt (n : Nat) : n < (isq n + 1) * (isq n + 1) := (Classical.choose_spec (isq_ex n)).2
theorem sq_mono {a b : Nat} (h : a ≤ b) : a * a ≤ b * b := Nat.mul_le_mul h h
theorem isq_one {n r : Nat} (h1 : r * r ≤ n) (h2 : n < (r + 1) * (r + 1)) : isq n = r := by
  have h3 := isq_le n
  have h4 := isq_lt n
  rcases Nat.lt_trichotomy (isq n) r with h | h | h
  · have := sq_mono (show isq n + 1 ≤ r by omega); omega
  · exact h
  · have := sq_mono (show r + 1 ≤ isq n by omega); omega
/-- A step from above comes nearer, and stays at or above the root. -/
theorem newton {n r : Nat} (hr : 0 < r) : n < ((r + n / r) / 2 + 1) * ((r + n / r) / 2 + 1) := by
  have h1 : n < r * (n / r + 1) := by
    have := Nat.div_add_mod n r
    have := Nat.mod_lt n hr
    rw [Nat.mul_add, Nat.mul_one]
    omega
  generalize n / r = q at h1
  have h2 : r + q + 1 ≤ 2 * ((r + q) / 2 + 1) := by omega
  generalize (r + q) / 2 + 1 = m at h2
  have h3 := sq_mono h2
  have h4 : 4 * (r * (q + 1)) ≤ (r + q + 1) * (r + q + 1) := by
    rcases Nat.le_total r (q + 1) with h | h
    · obtain ⟨d, hd⟩ := Nat.exists_eq_add_of_le h
      have : r + q + 1 = 2 * r + d := by omega
      rw [this, hd]; grind
    · obtain ⟨d, hd⟩ := Nat.exists_eq_add_of_le h
      have : r + q + 1 = 2 * (q + 1) + d := by omega
      rw [this, hd]; grind
  have h5 : 2 * m * (2 * m) = 4 * (m * m) := by grind
  omega
theorem newton_lt {n r : Nat} (hr : 0 < r) (h : n < r * r) : (r + n / r) / 2 < r := by
  have : n / r < r := (Nat.div_lt_iff_lt_mul hr).2 h
  omega
end Go.Proofs.YtojaompfffpofaaGreat
