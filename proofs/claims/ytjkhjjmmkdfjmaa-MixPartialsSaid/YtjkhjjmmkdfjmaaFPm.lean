/- The mathematics of what must be added. -/
import Derived.Test.YtjkhjjmmkdfjmaaFMatch
import Derived.Test.YtjkhjjmmkdfjmaaFUp
namespace Go.Proofs.Ytjkhjjmmkdfjmaa
set_option linter.unusedVariables false
/-- What PartialFill returns where nothing is wrong with the arguments. -/
theorem pf_math {a b c o h p q T : Int} (hc : conB a b c = true) (hG : gasE o h = 0) (hG2 : gasE p q = 0) (hT : a + b + c ≤ T ∧ T ≤ 1000000000) (m0 : ¬ 1000 - p - q = 0)
    (z0 : ¬ (T * o - 1000 * a) * (1000 - p - q) - (T * (1000 - o - h) - 1000 * c) * p < 0) (z1 : ¬ (T * h - 1000 * b) * (1000 - p - q) - (T * (1000 - o - h) - 1000 * c) * q < 0) (z2 : ¬ T * (1000 - o - h) - 1000 * c < 0) {r0 r1 r2 R0 R1 R2 : Int}
    (h0 : ((T * o - 1000 * a) * (1000 - p - q) - (T * (1000 - o - h) - 1000 * c) * p) / (1000 * (1000 - p - q)) = r0) (h1 : ((T * h - 1000 * b) * (1000 - p - q) - (T * (1000 - o - h) - 1000 * c) * q) / (1000 * (1000 - p - q)) = r1) (h2 : (T * (1000 - o - h) - 1000 * c) / (1000 - p - q) = r2)
    (H0 : upI ((T * o - 1000 * a) * (1000 - p - q) - (T * (1000 - o - h) - 1000 * c) * p) (1000 * (1000 - p - q)) = R0) (H1 : upI ((T * h - 1000 * b) * (1000 - p - q) - (T * (1000 - o - h) - 1000 * c) * q) (1000 * (1000 - p - q)) = R1) (H2 : upI (T * (1000 - o - h) - 1000 * c) (1000 - p - q) = R2) :
    (0 ≤ r0 ∧ r0 ≤ R0 ∧ R0 ≤ r0 + 1 ∧ R0 ≤ 2000000000) ∧ (0 ≤ r1 ∧ r1 ≤ R1 ∧ R1 ≤ r1 + 1 ∧ R1 ≤ 2000000000) ∧ (0 ≤ r2 ∧ r2 ≤ R2 ∧ R2 ≤ r2 + 1 ∧ R2 ≤ 2000000000) ∧ 0 ≤ T - (a + b + c + r0 + r1 + r2) ∧ T - (a + b + c + r0 + r1 + r2) ≤ 3 := by
  obtain ⟨a0, b0, c0, s1⟩ := conB_iff.1 hc
  obtain ⟨p0, p1, q0, q1, pq⟩ := gasE_zF hG2
  have up : ∀ n d : Int, 0 ≤ n → 0 < d → n / d ≤ upI n d ∧ upI n d ≤ n / d + 1 := fun n d h0 h2 => by
    rw [up_nn h0 h2]
    have h := Int.emod_add_mul_ediv n d
    have h1 := Int.emod_nonneg n (show d ≠ 0 by omega)
    by_cases hr : n % d = 0
    · rw [ceil_z h0 h2 hr]; omega
    · rw [ceil_s h0 h2 (by omega)]; omega
  generalize hm : 1000 - p - q = m at *
  have mp : 0 < m := by omega
  have e : ((T * o - 1000 * a) * m - (T * (1000 - o - h) - 1000 * c) * p) + ((T * h - 1000 * b) * m - (T * (1000 - o - h) - 1000 * c) * q) + 1000 * (T * (1000 - o - h) - 1000 * c) = 1000 * m * (T - (a + b + c)) := by
    generalize hz : T * (1000 - o - h) - 1000 * c = Z
    have e1 : Z * p + Z * q = 1000 * Z - Z * m := by rw [← hm, Int.mul_sub, Int.mul_sub]; omega
    have e2 : (T * o - 1000 * a) * m + (T * h - 1000 * b) * m + Z * m = 1000 * m * (T - (a + b + c)) := by
      rw [← Int.add_mul, ← Int.add_mul, show 1000 * m * (T - (a + b + c)) = 1000 * (T - (a + b + c)) * m by rw [Int.mul_assoc, Int.mul_comm m, ← Int.mul_assoc]]
      congr 1
      rw [← hz, Int.mul_sub, Int.mul_sub]; omega
    omega
  generalize (T * o - 1000 * a) * m - (T * (1000 - o - h) - 1000 * c) * p = A0 at *
  generalize (T * h - 1000 * b) * m - (T * (1000 - o - h) - 1000 * c) * q = A1 at *
  generalize T * (1000 - o - h) - 1000 * c = Z at *
  have u0 := up A0 (1000 * m) (by omega) (by omega)
  have u1 := up A1 (1000 * m) (by omega) (by omega)
  have u2 := up Z m (by omega) mp
  have n0 : 0 ≤ A0 / (1000 * m) := Int.ediv_nonneg (by omega) (by omega)
  have n1 : 0 ≤ A1 / (1000 * m) := Int.ediv_nonneg (by omega) (by omega)
  have n2 : 0 ≤ Z / m := Int.ediv_nonneg (by omega) (by omega)
  have g0 := Int.mul_ediv_add_emod A0 (1000 * m)
  have g1 := Int.mul_ediv_add_emod A1 (1000 * m)
  have g2 := Int.mul_ediv_add_emod Z m
  have k0 := Int.emod_nonneg A0 (show 1000 * m ≠ 0 by omega)
  have k1 := Int.emod_nonneg A1 (show 1000 * m ≠ 0 by omega)
  have k2 := Int.emod_nonneg Z (show m ≠ 0 by omega)
  have l0 := Int.emod_lt_of_pos A0 (show 0 < 1000 * m by omega)
  have l1 := Int.emod_lt_of_pos A1 (show 0 < 1000 * m by omega)
  have l2 := Int.emod_lt_of_pos Z mp
  rw [h0, H0] at u0
  rw [h1, H1] at u1
  rw [h2, H2] at u2
  rw [h0] at n0 g0
  rw [h1] at n1 g1
  rw [h2] at n2 g2
  generalize A0 % (1000 * m) = e0 at *
  generalize A1 % (1000 * m) = e1 at *
  generalize Z % m = e2 at *
  have f : 1000 * m * (T - (a + b + c) - r0 - r1 - r2) = e0 + e1 + 1000 * e2 := by
    have : 1000 * m * (T - (a + b + c) - r0 - r1 - r2) = 1000 * m * (T - (a + b + c)) - 1000 * m * r0 - 1000 * m * r1 - 1000 * (m * r2) := by
      rw [Int.mul_sub, Int.mul_sub, Int.mul_sub, Int.mul_assoc 1000 m r2]
    omega
  generalize hD : T - (a + b + c) - r0 - r1 - r2 = D at *
  have d0 : 0 ≤ D := by
    refine Int.not_lt.1 fun hl => ?_
    have := Int.mul_le_mul_of_nonneg_left (show D ≤ -1 by omega) (show 0 ≤ 1000 * m by omega)
    omega
  have d1 : D ≤ 3 := by
    refine Int.not_lt.1 fun hl => ?_
    have := Int.mul_le_mul_of_nonneg_left (show 4 ≤ D by omega) (show 0 ≤ 1000 * m by omega)
    omega
  refine ⟨⟨?_, ?_, ?_, ?_⟩, ⟨?_, ?_, ?_, ?_⟩, ⟨?_, ?_, ?_, ?_⟩, ?_, ?_⟩ <;> omega
end Go.Proofs.Ytjkhjjmmkdfjmaa
