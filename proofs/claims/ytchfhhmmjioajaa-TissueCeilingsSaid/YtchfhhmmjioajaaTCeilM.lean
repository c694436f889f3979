/- What the ceiling says of the limits: at its upper end they are surely kept, below its lower end surely not, and a greater factor never makes it greater. -/
import Derived.Test.YtchfhhmmjioajaaTRefCeil
namespace Go.Proofs.Ytchfhhmmjioajaa
open Go.ChangeShapes Go.WideShapes Go.ChangeAt Go.RowKit
set_option linter.unusedVariables false
set_option linter.unusedSimpArgs false
theorem lst_iff {B S x p : Int} (s0 : 0 < S) (p0 : 0 ≤ p) : lstP B S x ≤ p ↔ 1000 * x ≤ B + S * p := by
  unfold lstP
  have hp : 0 ≤ S * p := Int.mul_nonneg (by omega) p0
  have h1 : (max 0 (1000 * x - B) + S - 1) / S ≤ p ↔ (max 0 (1000 * x - B) + S - 1) / S < p + 1 := by omega
  rw [h1, Int.ediv_lt_iff_lt_mul s0, Int.add_mul, Int.one_mul, Int.mul_comm p S]
  omega
theorem lst_nn {B S x : Int} (s0 : 0 < S) : 0 ≤ lstP B S x := by
  unfold lstP
  exact Int.ediv_nonneg (by omega) (by omega)
theorem ceilR_mono (f : Int) : ∀ (T : List Cm) (L : List Ld) (lo hi : Int), lo ≤ (ceilR f T L lo hi).1 ∧ hi ≤ (ceilR f T L lo hi).2
  | [], _, lo, hi => by simp [ceilR]
  | _ :: _, [], lo, hi => by simp [ceilR]
  | x :: T, y :: L, lo, hi => by
    rw [ceilR]
    have := ceilR_mono f T L (max lo (lstP (f * 1000 * x.b) (1000000 + f * (x.s - 1000)) (y.a + y.c))) (max hi (lstP (f * 1000 * x.b) (1000000 + f * (x.s - 1000)) (y.b + y.d)))
    omega
theorem kept_above {f p : Int} (f0 : 0 ≤ f) (f1 : f ≤ 1000) (p0 : 0 ≤ p) : ∀ (T : List Cm) (L : List Ld) (lo hi a : Int), (∀ x ∈ T, compE x = 0) → (∀ y ∈ L, loadE y = 0) → (ceilR f T L lo hi).2 ≤ p → keptR p f T L a = a
  | [], _, lo, hi, a, _, _, _ => by simp [keptR]
  | _ :: _, [], lo, hi, a, _, _, _ => by simp [keptR]
  | x :: T, y :: L, lo, hi, a, hT, hL, hp => by
    rw [ceilR] at hp
    obtain ⟨_, _, ⟨b0, b1⟩, ⟨s0, s1⟩⟩ := cmp_ok (hT x (by simp))
    obtain ⟨⟨l1, l2, l3⟩, ⟨l4, l5, l6⟩⟩ := lodE_ok (hL y (by simp))
    have ss := slope_bd f0 f1 s0 s1
    have hm := ceilR_mono f T L (max lo (lstP (f * 1000 * x.b) (1000000 + f * (x.s - 1000)) (y.a + y.c))) (max hi (lstP (f * 1000 * x.b) (1000000 + f * (x.s - 1000)) (y.b + y.d)))
    have h1 : lstP (f * 1000 * x.b) (1000000 + f * (x.s - 1000)) (y.b + y.d) ≤ p := by omega
    rw [lst_iff (by omega) p0] at h1
    have h2 : 1000 * (y.b + y.d) ≤ limV x.b x.s f p := h1
    rw [keptR, if_pos (by omega), if_pos h2]
    exact kept_above f0 f1 p0 T L _ _ a (fun x hx => hT x (by simp [hx])) (fun y hy => hL y (by simp [hy])) hp
theorem kept_below {f : Int} (f0 : 0 ≤ f) (f1 : f ≤ 1000) : ∀ (T : List Cm) (L : List Ld) (lo hi a : Int), (∀ x ∈ T, compE x = 0) → (∀ y ∈ L, loadE y = 0) → lo < (ceilR f T L lo hi).1 → 1 ≤ (ceilR f T L lo hi).1 → keptR ((ceilR f T L lo hi).1 - 1) f T L a = 0
  | [], _, lo, hi, a, _, _, h, _ => by simp [ceilR] at h
  | _ :: _, [], lo, hi, a, _, _, h, _ => by simp [ceilR] at h
  | x :: T, y :: L, lo, hi, a, hT, hL, h, h1 => by
    rw [ceilR] at h h1 ⊢
    obtain ⟨_, _, ⟨b0, b1⟩, ⟨s0, s1⟩⟩ := cmp_ok (hT x (by simp))
    have ss := slope_bd f0 f1 s0 s1
    generalize hlo : max lo (lstP (f * 1000 * x.b) (1000000 + f * (x.s - 1000)) (y.a + y.c)) = lo' at h h1 ⊢
    generalize hhi : max hi (lstP (f * 1000 * x.b) (1000000 + f * (x.s - 1000)) (y.b + y.d)) = hi' at h h1 ⊢
    by_cases hk : 1000 * (y.a + y.c) ≤ limV x.b x.s f ((ceilR f T L lo' hi').1 - 1)
    · have h2 : lstP (f * 1000 * x.b) (1000000 + f * (x.s - 1000)) (y.a + y.c) ≤ (ceilR f T L lo' hi').1 - 1 := (lst_iff (by omega) (by omega)).2 hk
      rw [keptR, if_pos hk]
      exact kept_below f0 f1 T L lo' hi' _ (fun x hx => hT x (by simp [hx])) (fun y hy => hL y (by simp [hy])) (by omega) h1
    · rw [keptR, if_neg hk]
theorem ceil_factor {f g : Int} (f0 : 0 ≤ f) (fg : f ≤ g) (g1 : g ≤ 1000) : ∀ (T : List Cm) (L : List Ld) (lo hi lo' hi' : Int), (∀ x ∈ T, compE x = 0) → (∀ y ∈ L, loadE y = 0) → lo' ≤ lo → hi' ≤ hi → (ceilR g T L lo' hi').1 ≤ (ceilR f T L lo hi).1 ∧ (ceilR g T L lo' hi').2 ≤ (ceilR f T L lo hi).2
  | [], _, lo, hi, lo', hi', _, _, h1, h2 => by simp [ceilR, h1, h2]
  | _ :: _, [], lo, hi, lo', hi', _, _, h1, h2 => by simp [ceilR, h1, h2]
  | x :: T, y :: L, lo, hi, lo', hi', hT, hL, h1, h2 => by
    rw [ceilR, ceilR]
    obtain ⟨_, _, ⟨b0, b1⟩, ⟨s0, s1⟩⟩ := cmp_ok (hT x (by simp))
    have sf := slope_bd f0 (by omega) s0 s1
    have sg := slope_bd (show 0 ≤ g by omega) g1 s0 s1
    have eB : f * 1000 * x.b ≤ g * 1000 * x.b := Int.mul_le_mul_of_nonneg_right (by omega) b0
    have eS : 1000000 + f * (x.s - 1000) ≤ 1000000 + g * (x.s - 1000) := by
      have := Int.mul_le_mul_of_nonneg_right fg (show 0 ≤ x.s - 1000 by omega)
      omega
    have K : ∀ z, lstP (g * 1000 * x.b) (1000000 + g * (x.s - 1000)) z ≤ lstP (f * 1000 * x.b) (1000000 + f * (x.s - 1000)) z := fun z => by
      have hn := lst_nn (B := f * 1000 * x.b) (S := 1000000 + f * (x.s - 1000)) (x := z) (by omega)
      rw [lst_iff (by omega) hn]
      have h3 := (lst_iff (B := f * 1000 * x.b) (S := 1000000 + f * (x.s - 1000)) (x := z) (by omega) hn).1 (Int.le_refl _)
      have h4 := Int.mul_le_mul_of_nonneg_right eS hn
      omega
    have k1 := K (y.a + y.c)
    have k2 := K (y.b + y.d)
    exact ceil_factor f0 fg g1 T L _ _ _ _ (fun x hx => hT x (by simp [hx])) (fun y hy => hL y (by simp [hy])) (by omega) (by omega)
theorem Fit.allC {T : List Cm} {L : List Ld} (h : Fit T L) : ∀ x ∈ T, compE x = 0 := fun x hx => by
  obtain ⟨k, hk, e⟩ := List.mem_iff_getElem.1 hx
  rw [← e]; exact h.cm k hk
theorem Fit.allL {T : List Cm} {L : List Ld} (h : Fit T L) : ∀ y ∈ L, loadE y = 0 := fun y hy => by
  obtain ⟨k, hk, e⟩ := List.mem_iff_getElem.1 hy
  rw [← e]; exact h.ld k hk
theorem ceilR_le (f : Int) (f0 : 0 ≤ f) (f1 : f ≤ 1000) : ∀ (T : List Cm) (L : List Ld) (lo hi : Int), (∀ x ∈ T, compE x = 0) → (∀ y ∈ L, loadE y = 0) → lo ≤ 200001 → hi ≤ 200001 → (ceilR f T L lo hi).1 ≤ 200001 ∧ (ceilR f T L lo hi).2 ≤ 200001
  | [], _, lo, hi, _, _, h1, h2 => by simp [ceilR, h1, h2]
  | _ :: _, [], lo, hi, _, _, h1, h2 => by simp [ceilR, h1, h2]
  | x :: T, y :: L, lo, hi, hT, hL, h1, h2 => by
    rw [ceilR]
    obtain ⟨_, _, ⟨b0, b1⟩, ⟨s0, s1⟩⟩ := cmp_ok (hT x (by simp))
    obtain ⟨⟨l1, l2, l3⟩, ⟨l4, l5, l6⟩⟩ := lodE_ok (hL y (by simp))
    have sf := slope_bd f0 f1 s0 s1
    have bf := base_bd f0 f1 b0 b1
    have k1 := lst_bd bf.1 sf.1 (show 0 ≤ y.a + y.c by omega) (by omega)
    have k2 := lst_bd bf.1 sf.1 (show 0 ≤ y.b + y.d by omega) (by omega)
    exact ceilR_le f f0 f1 T L _ _ (fun x hx => hT x (by simp [hx])) (fun y hy => hL y (by simp [hy])) (by omega) (by omega)
end Go.Proofs.Ytchfhhmmjioajaa
