/- The gas that BestGas finds is the first one that meets an aim, in the order of rising helium and of falling oxygen; and no gas that meets the aim has less helium, or more oxygen. -/
import Derived.Test.YtpagbkbaphjmdaaDoorBest
namespace Go.Proofs.YtpagbkbaphjmdaaDoor
open Go.ChangeShapes Go.WideShapes Go.ChangeAt Go.RowKit
set_option linter.unusedVariables false

theorem metB_iff {o h s a b n p : Int} : metB o h s a b n p = true ↔ (1000 * a ≤ o * p ∧ o * p ≤ 1000 * b) ∧ (1000 - h) * p ≤ 1000 * (s + n) := by
  unfold metB
  rw [Bool.and_eq_true, inB_iff, decide_eq_true_iff]
theorem bestHe_le {s p n h : Int} (hp : 0 < p) (h0 : 0 ≤ h) : (1000 - h) * p ≤ 1000 * (s + n) ↔ bestHe s p n ≤ h := by
  rw [← Int.le_ediv_iff_mul_le hp]
  unfold bestHe
  split <;> omega
theorem bestHe_bd {s p n : Int} (hp : 0 < p) (h0 : 0 ≤ s + n) : 0 ≤ bestHe s p n ∧ bestHe s p n ≤ 1000 := by
  have := Int.ediv_nonneg (show 0 ≤ 1000 * (s + n) by omega) (show 0 ≤ p by omega)
  unfold bestHe
  split <;> omega
theorem bestOx_bd {s p n b : Int} (hp : 0 < p) (h0 : 0 ≤ s + n) (hb : 0 ≤ b) : 0 ≤ bestOx s p n b ∧ bestOx s p n b ≤ 1000 - bestHe s p n ∧ bestOx s p n b * p ≤ 1000 * b := by
  have h1 := Int.ediv_nonneg (show 0 ≤ 1000 * b by omega) (show 0 ≤ p by omega)
  have h2 := bestHe_bd hp h0
  rw [← Int.le_ediv_iff_mul_le hp]
  unfold bestOx
  split <;> omega
theorem bestOx_ge {s p n b o : Int} (hp : 0 < p) (h1 : o * p ≤ 1000 * b) (h2 : o ≤ 1000 - bestHe s p n) : o ≤ bestOx s p n b := by
  rw [← Int.le_ediv_iff_mul_le hp] at h1
  unfold bestOx
  split <;> omega
theorem best_all {o h s a b n p : Int} (hp : 0 < p) (hsn : 0 ≤ s + n) (hb : 0 ≤ b) (h0 : 0 ≤ h) (hs : o + h ≤ 1000) (hm : metB o h s a b n p = true) :
    bestHe s p n ≤ h ∧ o ≤ bestOx s p n b ∧ metB (bestOx s p n b) (bestHe s p n) s a b n p = true := by
  obtain ⟨⟨m1, m2⟩, m3⟩ := metB_iff.1 hm
  have g1 := (bestHe_le hp h0).1 m3
  have g2 := bestOx_ge (s := s) (n := n) hp m2 (by omega)
  obtain ⟨q1, q2, q3⟩ := bestOx_bd (b := b) hp hsn hb
  refine ⟨g1, g2, metB_iff.2 ⟨⟨Int.le_trans m1 (Int.mul_le_mul_of_nonneg_right g2 (by omega)), q3⟩, (bestHe_le hp (bestHe_bd hp hsn).1).2 (Int.le_refl _)⟩⟩
/-- No gas with less helium than this meets the aim. -/
def NoneTo (k s a b n p : Int) : Prop := ∀ h o : Int, 0 ≤ h → h < k → 0 ≤ o → o + h ≤ 1000 → metB o h s a b n p = false
/-- No gas with this helium and more oxygen meets the aim. -/
def NoneOver (o k s a b n p : Int) : Prop := ∀ x : Int, o < x → x + k ≤ 1000 → metB x k s a b n p = false
theorem first_is {o h s a b n p : Int} (hp : 0 < p) (hsn : 0 ≤ s + n) (hb : 0 ≤ b) (h0 : 0 ≤ h) (o0 : 0 ≤ o) (hs : o + h ≤ 1000) (hm : metB o h s a b n p = true) (g1 : NoneTo h s a b n p) (g2 : NoneOver o h s a b n p) :
    o = bestOx s p n b ∧ h = bestHe s p n ∧ metB (bestOx s p n b) (bestHe s p n) s a b n p = true := by
  obtain ⟨b1, b2, b3⟩ := best_all hp hsn hb h0 hs hm
  obtain ⟨q1, q2, q3⟩ := bestOx_bd (b := b) hp hsn hb
  obtain ⟨e1, e2⟩ := bestHe_bd hp hsn
  have hh : h = bestHe s p n := by
    by_cases c : bestHe s p n < h
    · have := g1 _ (bestOx s p n b) e1 c q1 (by omega)
      rw [b3] at this; exact absurd this (by decide)
    · omega
  have ho : o = bestOx s p n b := by
    by_cases c : o < bestOx s p n b
    · have := g2 (bestOx s p n b) c (by omega)
      rw [hh, b3] at this; exact absurd this (by decide)
    · omega
  exact ⟨ho, hh, b3⟩
theorem none_is {s a b n p : Int} (hp : 0 < p) (hsn : 0 ≤ s + n) (hb : 0 ≤ b) (g : NoneTo 1001 s a b n p) : metB (bestOx s p n b) (bestHe s p n) s a b n p = false := by
  obtain ⟨q1, q2, q3⟩ := bestOx_bd (b := b) hp hsn hb
  obtain ⟨e1, e2⟩ := bestHe_bd hp hsn
  exact g _ _ e1 (by omega) q1 (by omega)
/-- Where oxygen is too little, or all is too narcotic, less oxygen will not do either. -/
theorem none_low {o k s a b n p : Int} (hp : 0 < p) (h : o * p < 1000 * a ∨ 1000 * (s + n) < (1000 - k) * p) (g : NoneOver o k s a b n p) : ∀ x : Int, x + k ≤ 1000 → metB x k s a b n p = false := by
  intro x hx
  by_cases c : o < x
  · exact g x c hx
  · cases hm : metB x k s a b n p
    · rfl
    · obtain ⟨⟨m1, m2⟩, m3⟩ := metB_iff.1 hm
      have := Int.mul_le_mul_of_nonneg_right (show x ≤ o by omega) (show 0 ≤ p by omega)
      omega
theorem noneTo_succ {k s a b n p : Int} (g : NoneTo k s a b n p) (h : ∀ x : Int, 0 ≤ x → x + k ≤ 1000 → metB x k s a b n p = false) : NoneTo (k + 1) s a b n p := by
  intro y o hy hk ho hs
  by_cases c : y < k
  · exact g y o hy c ho hs
  · obtain rfl : y = k := by omega
    exact h o ho hs
theorem noneOver_step {o k s a b n p : Int} (g : NoneOver o k s a b n p) (h : metB o k s a b n p = false) : NoneOver (o - 1) k s a b n p := by
  intro x hx hs
  by_cases c : o < x
  · exact g x c hs
  · obtain rfl : x = o := by omega
    exact h
end Go.Proofs.YtpagbkbaphjmdaaDoor
