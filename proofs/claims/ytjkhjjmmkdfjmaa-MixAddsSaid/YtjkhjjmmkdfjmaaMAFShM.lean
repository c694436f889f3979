import Derived.Test.YtjkhjjmmkdfjmaaMAFShare2
namespace Go.Proofs.Ytjkhjjmmkdfjmaa
set_option linter.unusedVariables false
/-- As shr, with -1 in place of what has been given. -/
def shq : Nat → Int → Int → Int → Int → Int → Int → Int × Int × Int
  | 0, x, y, z, _, _, _ => (x, y, z)
  | k + 1, x, y, z, r, s, t => if s ≤ r ∧ t ≤ r then shq k (x + 1) y z (-1) s t else if t ≤ s then shq k x (y + 1) z r (-1) t else shq k x y (z + 1) r s (-1)
theorem shq_shr {K : Nat} (x y z : Int) {r s t S : Int} (hK : K ≤ 2) (r0 : 0 ≤ r) (r1 : r < S) (s0 : 0 ≤ s) (s1 : s < S) (t0 : 0 ≤ t) (t1 : t < S) (hs : r + s + t = S * K) : shq K x y z r s t = shr K x y z r s t := by
  rcases K with _ | _ | _ | K
  · rfl
  · simp only [shq, shr]
  · simp only [shq, shr]
    have e : S * ((0 + 1 + 1 : Nat) : Int) = S * 2 := rfl
    rw [e] at hs
    repeat' split
    all_goals first | rfl | (exfalso; omega)
  · omega
theorem shr_props {K : Nat} {x y z r s t S X Y Z : Int} (hK : K ≤ 2) (r0 : 0 ≤ r) (r1 : r < S) (s0 : 0 ≤ s) (s1 : s < S) (t0 : 0 ≤ t) (t1 : t < S) (hs : r + s + t = S * K) (h : shr K x y z r s t = (X, Y, Z)) :
    (0 ≤ X - x ∧ X - x ≤ 1 ∧ (X - x = 1 → 0 < r)) ∧ (0 ≤ Y - y ∧ Y - y ≤ 1 ∧ (Y - y = 1 → 0 < s)) ∧ (0 ≤ Z - z ∧ Z - z ≤ 1 ∧ (Z - z = 1 → 0 < t)) ∧ (X - x) + (Y - y) + (Z - z) = K := by
  rcases K with _ | _ | _ | K
  · simp only [shr, Prod.mk.injEq] at h
    obtain ⟨rfl, rfl, rfl⟩ := h
    simp
  · simp only [shr] at h
    have e : S * ((0 + 1 : Nat) : Int) = S * 1 := rfl
    rw [e] at hs
    repeat' split at h
    all_goals
      simp only [Prod.mk.injEq] at h
      obtain ⟨rfl, rfl, rfl⟩ := h
      refine ⟨⟨?_, ?_, ?_⟩, ⟨?_, ?_, ?_⟩, ⟨?_, ?_, ?_⟩, ?_⟩
      all_goals first | omega | (intro _; omega) | (simp; omega)
  · simp only [shr] at h
    have e : S * ((0 + 1 + 1 : Nat) : Int) = S * 2 := rfl
    rw [e] at hs
    repeat' split at h
    all_goals
      simp only [Prod.mk.injEq] at h
      obtain ⟨rfl, rfl, rfl⟩ := h
      refine ⟨⟨?_, ?_, ?_⟩, ⟨?_, ?_, ?_⟩, ⟨?_, ?_, ?_⟩, ?_⟩
      all_goals first | omega | (intro _; omega) | (simp; omega)
  · omega
/-- One part of a share: rounded down, or one more where something is left over. -/
theorem part_ok {a m S X : Int} (a0 : 0 ≤ a) (m0 : 0 ≤ m) (m1 : m ≤ S) (s0 : 0 < S) (h : 0 ≤ X - a * m / S ∧ X - a * m / S ≤ 1 ∧ (X - a * m / S = 1 → 0 < a * m % S)) : 0 ≤ X ∧ X ≤ a ∧ -S ≤ X * S - a * m ∧ X * S - a * m ≤ S := by
  have p0 : 0 ≤ a * m := Int.mul_nonneg a0 m0
  have p1 : a * m ≤ a * S := Int.mul_le_mul_of_nonneg_left m1 a0
  have e := Int.mul_ediv_add_emod (a * m) S
  have r0 := Int.emod_nonneg (a * m) (show S ≠ 0 by omega)
  have r1 := Int.emod_lt_of_pos (a * m) s0
  have q0 : 0 ≤ a * m / S := Int.ediv_nonneg p0 (by omega)
  generalize a * m / S = q at *
  generalize a * m % S = r at *
  generalize a * m = P at *
  obtain ⟨h0, h1, h2⟩ := h
  have hX : X = q ∨ X = q + 1 := by omega
  have e' : q * S = S * q := Int.mul_comm _ _
  rcases hX with rfl | rfl
  · refine ⟨by omega, ?_, by omega, by omega⟩
    refine Int.not_lt.1 fun hl => ?_
    have := Int.mul_le_mul_of_nonneg_left (show a + 1 ≤ X by omega) (show 0 ≤ S by omega)
    have e2 : S * (a + 1) = a * S + S := by rw [Int.mul_add, Int.mul_comm S a]; omega
    omega
  · have g := h2 (by omega)
    have e3 : (q + 1) * S = S * q + S := by rw [Int.add_mul, Int.mul_comm q S]; omega
    refine ⟨by omega, ?_, by omega, by omega⟩
    refine Int.not_lt.1 fun hl => ?_
    have := Int.mul_le_mul_of_nonneg_left (show a ≤ q by omega) (show 0 ≤ S by omega)
    have e2 : S * a = a * S := Int.mul_comm _ _
    omega
theorem emod_bd (P : Int) {S : Int} (s0 : 0 < S) : 0 ≤ P % S ∧ P % S < S := ⟨Int.emod_nonneg _ (by omega), Int.emod_lt_of_pos _ s0⟩
theorem share_ok {a b c m X Y Z : Int} (hc : conB a b c = true) (m0 : 0 ≤ m) (m1 : m ≤ a + b + c) (h : shareR a b c m = (X, Y, Z)) :
    X + Y + Z = m ∧ (0 ≤ X ∧ X ≤ a ∧ -(a + b + c) ≤ X * (a + b + c) - a * m ∧ X * (a + b + c) - a * m ≤ a + b + c) ∧ (0 ≤ Y ∧ Y ≤ b ∧ -(a + b + c) ≤ Y * (a + b + c) - b * m ∧ Y * (a + b + c) - b * m ≤ a + b + c) ∧ (0 ≤ Z ∧ Z ≤ c ∧ -(a + b + c) ≤ Z * (a + b + c) - c * m ∧ Z * (a + b + c) - c * m ≤ a + b + c) := by
  obtain ⟨a0, b0, c0, _⟩ := conB_iff.1 hc
  unfold shareR at h
  by_cases hz : a + b + c = 0
  · rw [if_pos hz] at h
    obtain rfl : a = 0 := by omega
    obtain rfl : b = 0 := by omega
    obtain rfl : c = 0 := by omega
    obtain rfl : m = 0 := by omega
    simp only [Prod.mk.injEq] at h
    obtain ⟨rfl, rfl, rfl⟩ := h
    simp
  · rw [if_neg hz] at h
    have s0 : 0 < a + b + c := by omega
    obtain ⟨k0, k1, k2⟩ := miss_bd a0 b0 c0 s0 m0
    obtain ⟨K, hK⟩ := Int.eq_ofNat_of_zero_le k0
    rw [hK] at h k1 k2
    have ea := emod_bd (a * m) s0
    have eb := emod_bd (b * m) s0
    have ec := emod_bd (c * m) s0
    obtain ⟨p1, p2, p3, p4⟩ := shr_props (by omega) ea.1 ea.2 eb.1 eb.2 ec.1 ec.2 k2 (by simpa using h)
    exact ⟨by omega, part_ok a0 m0 m1 s0 p1, part_ok b0 m0 m1 s0 p2, part_ok c0 m0 m1 s0 p3⟩
end Go.Proofs.Ytjkhjjmmkdfjmaa
