/- A mixture of turned parts is the same; a mixture lies between the least and the greatest of its parts; its parts add up. -/
import Derived.Test.YtlhogcbodgimdaaDoorRefMix
import Derived.Outline
namespace Go.Proofs.YtlhogcbodgimdaaDoor
open Go.ChangeShapes Go.WideShapes Go.ChangeAt Go.RowKit
set_option linter.unusedVariables false

theorem sumF_app (f : Part → Int) (P Q : List Part) : sumF f (P ++ Q) = sumF f P + sumF f Q := by
  unfold sumF; rw [List.map_append, List.sum_append]
theorem sumF_rev (f : Part → Int) (P : List Part) : sumF f P.reverse = sumF f P := by
  induction P with
  | nil => rfl
  | cons p r ih =>
    rw [List.reverse_cons, sumF_app, ih, sumF_cons, sumF_cons]
    simp [sumF]; omega
/-- The least, and the greatest, of a quantity of the parts, as the law's loop finds it from the end. -/
def lowF (f : Part → Int) : List Part → Int
  | [] => 1000
  | p :: r => min (lowF f r) (f p)
def highF (f : Part → Int) : List Part → Int
  | [] => 0
  | p :: r => max (highF f r) (f p)
theorem lowF_le {f : Part → Int} : ∀ {P : List Part} {p}, p ∈ P → lowF f P ≤ f p
  | q :: r, p, h => by
    unfold lowF
    rcases List.mem_cons.1 h with rfl | h
    · omega
    · have := lowF_le (f := f) h; omega
theorem highF_ge {f : Part → Int} : ∀ {P : List Part} {p}, p ∈ P → f p ≤ highF f P
  | q :: r, p, h => by
    unfold highF
    rcases List.mem_cons.1 h with rfl | h
    · omega
    · have := highF_ge (f := f) h; omega
theorem lowF_bd {f : Part → Int} : ∀ {P : List Part}, (∀ p ∈ P, 0 ≤ f p ∧ f p ≤ 1000) → 0 ≤ lowF f P ∧ lowF f P ≤ 1000
  | [], _ => by unfold lowF; omega
  | q :: r, h => by
    have h1 := lowF_bd (f := f) (P := r) fun p hp => h p (by simp [hp])
    have h2 := h q (by simp)
    unfold lowF
    omega
theorem highF_bd {f : Part → Int} : ∀ {P : List Part}, (∀ p ∈ P, 0 ≤ f p ∧ f p ≤ 1000) → 0 ≤ highF f P ∧ highF f P ≤ 1000
  | [], _ => by unfold highF; omega
  | q :: r, h => by
    have h1 := highF_bd (f := f) (P := r) fun p hp => h p (by simp [hp])
    have h2 := h q (by simp)
    unfold highF
    omega
theorem low_sum (x : Part → Int) (lo : Int) : ∀ P : List Part, (∀ p ∈ P, 0 ≤ p.a ∧ lo ≤ x p) → lo * sumF pA P ≤ sumF (fun p => p.a * x p) P
  | [], _ => by simp [sumF]
  | p :: r, h => by
    rw [sumF_cons, sumF_cons, Int.mul_add]
    have h1 := h p (by simp)
    have h2 := low_sum x lo r (fun q hq => h q (by simp [hq]))
    have h3 : lo * p.a ≤ p.a * x p := by rw [Int.mul_comm lo]; exact Int.mul_le_mul_of_nonneg_left h1.2 h1.1
    have h4 : lo * pA p = lo * p.a := rfl
    omega
theorem high_sum (x : Part → Int) (hi : Int) : ∀ P : List Part, (∀ p ∈ P, 0 ≤ p.a ∧ x p ≤ hi) → sumF (fun p => p.a * x p) P ≤ hi * sumF pA P
  | [], _ => by simp [sumF]
  | p :: r, h => by
    rw [sumF_cons, sumF_cons, Int.mul_add]
    have h1 := h p (by simp)
    have h2 := high_sum x hi r (fun q hq => h q (by simp [hq]))
    have h3 : p.a * x p ≤ hi * p.a := by rw [Int.mul_comm hi]; exact Int.mul_le_mul_of_nonneg_left h1.2 h1.1
    have h4 : hi * pA p = hi * p.a := rfl
    omega
theorem gcd_mul_n (n d : Int) : n / gcdI n d * gcdI n d = n := Int.ediv_mul_cancel (Int.gcd_dvd_left (a := n) (b := d))
theorem gcd_mul_d (n d : Int) : d / gcdI n d * gcdI n d = d := Int.ediv_mul_cancel (Int.gcd_dvd_right (a := n) (b := d))
theorem gcdI_mul (n d k : Int) (hk : 0 < k) : gcdI (n * k) (d * k) = gcdI n d * k := by
  unfold gcdI
  rw [Int.gcd_mul_right]
  have : ((k.natAbs : Nat) : Int) = k := by omega
  rw [Int.natCast_mul, this]
theorem lowest_eq {n d m k : Int} (hd : 0 < d) (hk : 0 < k) (h : n * k = m * d) : n / gcdI n d = m / gcdI m k ∧ d / gcdI n d = k / gcdI m k := by
  have e1 := gcdI_mul n d k hk
  have e2 := gcdI_mul m k d hd
  rw [h, Int.mul_comm d k] at e1
  have e3 : gcdI n d * k = gcdI m k * d := e1.symm.trans e2
  have g0 := gcdI_pos n d hd
  have k0 := gcdI_pos m k hk
  have a1 := gcd_mul_n n d
  have a2 := gcd_mul_d n d
  have a3 := gcd_mul_n m k
  have a4 := gcd_mul_d m k
  revert e3 g0 k0 a1 a2 a3 a4
  generalize gcdI n d = g
  generalize gcdI m k = x
  generalize n / g = n'
  generalize d / g = d'
  generalize m / x = m'
  generalize k / x = k'
  intro e3 g0 x0 a1 a2 a3 a4
  subst a1 a2 a3 a4
  have gx : g * x ≠ 0 := by have := Int.mul_pos g0 x0; omega
  have e4 : d' = k' := Int.eq_of_mul_eq_mul_left gx (by grind)
  subst e4
  have d0 : d' ≠ 0 := by intro e; subst e; simp at hd
  have hh : (g * x * d') ≠ 0 := Int.mul_ne_zero gx d0
  exact ⟨Int.eq_of_mul_eq_mul_left hh (by grind), rfl⟩
theorem both_eq {N0 D0 N1 D1 N2 D2 T p0 p1 p2 : Int} (hT : 0 < T) (h0 : N0 * T = p0 * D0) (h1 : N1 * T = p1 * D1) (h2 : N2 * T = p2 * D2) (hs : p0 + p1 + p2 = T) (a b g : Int) (ha : a * g = D1) (hb : b * g = D0) :
    (N0 * a + N1 * b) * D2 = (D2 - N2) * (b * D1) := by
  refine Int.eq_of_mul_eq_mul_left (show T ≠ 0 by omega) ?_
  subst ha hb hs
  grind
theorem prt_rev (P : List Part) (i : Nat) : prt P.reverse i = prt P i := by
  unfold prt
  split <;> exact sumF_rev _ _
theorem all3_rev (P : List Part) : all3 P.reverse = all3 P := by unfold all3; rw [sumF_rev]
theorem mixD_rev (P : List Part) (i : Nat) : mixD P.reverse i = mixD P i := by unfold mixD; rw [prt_rev, all3_rev]
theorem mixN_rev (P : List Part) (i : Nat) : mixN P.reverse i = mixN P i := by unfold mixN; rw [prt_rev, all3_rev]
theorem partsE1_all {P : List Part} (h : partsE1 P = 0) : ∀ p ∈ P, partE p = 0 := by
  induction P with
  | nil => simp
  | cons p r ih =>
    unfold partsE1 at h
    by_cases hp : partE p = 0
    · rw [if_pos hp] at h
      intro q hq
      rcases List.mem_cons.1 hq with rfl | hq
      · exact hp
      · exact ih h q hq
    · rw [if_neg hp] at h; exact absurd h hp
theorem checkPartsE_rev {P : List Part} (h : checkPartsE P = 0) : checkPartsE P.reverse = 0 := by
  unfold checkPartsE at h ⊢
  rw [List.length_reverse]
  by_cases hl : 12 < P.length
  · rw [if_pos hl] at h; omega
  · rw [if_neg hl] at h ⊢
    by_cases h1 : partsE1 P = 0
    · rw [if_pos h1] at h
      have h2 : partsE1 P.reverse = 0 := partsE1_z fun k hk => partsE1_all h1 _ (List.mem_reverse.1 (List.getElem_mem hk))
      have h3 : noneB P.reverse = noneB P := by unfold noneB; exact List.all_reverse
      rw [if_pos h2, h3]
      exact h
    · rw [if_neg h1] at h; exact absurd h h1
theorem mixE_rev {P : List Part} (h : checkPartsE P = 0) : mixE P.reverse = mixE P := by
  unfold mixE; rw [if_pos h, if_pos (checkPartsE_rev h), mixD_rev, mixD_rev, mixD_rev]
theorem mixR_rev {P : List Part} (h : checkPartsE P = 0) (j : Nat) : mixR P.reverse j = mixR P j := by
  unfold mixR mixV
  rw [mixE_rev h, mixN_rev, mixD_rev]
theorem mix_mul (P : List Part) (i : Nat) : mixN P i * all3 P = prt P i * mixD P i := by
  have h1 : mixN P i * gcdI (prt P i) (all3 P) = prt P i := gcd_mul_n _ _
  have h2 : mixD P i * gcdI (prt P i) (all3 P) = all3 P := gcd_mul_d _ _
  generalize gcdI (prt P i) (all3 P) = g at h1 h2
  rw [← h1, ← h2]; grind
theorem all3_pos {P : List Part} (hc : checkPartsE P = 0) : 0 < all3 P := by
  obtain ⟨_, hR, hn⟩ := checkPartsE_z hc
  have := sumA_pos hR hn
  unfold all3; omega
theorem low_mix {P : List Part} (hc : checkPartsE P = 0) (i : Nat) (x : Part → Int) (hx : prt P i = sumF (fun p => p.a * x p) P) (lo : Int) (h : ∀ p ∈ P, lo ≤ x p) : lo * mixD P i ≤ 1000 * mixN P i := by
  obtain ⟨_, hR, hn⟩ := checkPartsE_z hc
  have h0 := all3_pos hc
  have h1 := low_sum x lo P fun p hp => ⟨(hR p hp).a0, h p hp⟩
  have h2 := mix_mul P i
  rw [← hx] at h1
  refine Int.le_of_mul_le_mul_right ?_ h0
  have hd : 0 ≤ mixD P i := by have := (mix_bd (checkPartsE_z hc).1 hR hn i).2.2; omega
  have e1 : lo * mixD P i * all3 P = 1000 * (lo * sumF pA P) * mixD P i := by unfold all3; grind
  have e2 : 1000 * mixN P i * all3 P = 1000 * prt P i * mixD P i := by rw [Int.mul_assoc, h2]; grind
  rw [e1, e2]
  exact Int.mul_le_mul_of_nonneg_right (by omega) hd
theorem high_mix {P : List Part} (hc : checkPartsE P = 0) (i : Nat) (x : Part → Int) (hx : prt P i = sumF (fun p => p.a * x p) P) (hi : Int) (h : ∀ p ∈ P, x p ≤ hi) : 1000 * mixN P i ≤ hi * mixD P i := by
  obtain ⟨_, hR, hn⟩ := checkPartsE_z hc
  have h0 := all3_pos hc
  have h1 := high_sum x hi P fun p hp => ⟨(hR p hp).a0, h p hp⟩
  have h2 := mix_mul P i
  rw [← hx] at h1
  refine Int.le_of_mul_le_mul_right ?_ h0
  have hd : 0 ≤ mixD P i := by have := (mix_bd (checkPartsE_z hc).1 hR hn i).2.2; omega
  have e1 : hi * mixD P i * all3 P = 1000 * (hi * sumF pA P) * mixD P i := by unfold all3; grind
  have e2 : 1000 * mixN P i * all3 P = 1000 * prt P i * mixD P i := by rw [Int.mul_assoc, h2]; grind
  rw [e1, e2]
  exact Int.mul_le_mul_of_nonneg_right (by omega) hd
theorem prt_sum (P : List Part) : prt P 0 + prt P 1 + prt P 2 = all3 P := by
  have := sumN_eq P
  show sumF pO P + sumF pH P + sumF pN P = 1000 * sumF pA P
  omega
/-- Oxygen and helium together are what nitrogen leaves. -/
theorem both_rest {P : List Part} (hc : checkPartsE P = 0) (n0 d0 n1 d1 n2 d2 g : Int) (h0 : mixN P 0 = n0) (h1 : mixD P 0 = d0) (h2 : mixN P 1 = n1) (h3 : mixD P 1 = d1) (h4 : mixN P 2 = n2) (h5 : mixD P 2 = d2) (hg : gcdI d0 d1 = g) :
    (n0 * (d1 / g) + n1 * (d0 / g)) / gcdI (n0 * (d1 / g) + n1 * (d0 / g)) (d0 / g * d1) = (d2 - n2) / gcdI (d2 - n2) d2 ∧ d0 / g * d1 / gcdI (n0 * (d1 / g) + n1 * (d0 / g)) (d0 / g * d1) = d2 / gcdI (d2 - n2) d2 := by
  obtain ⟨hl, hR, hn⟩ := checkPartsE_z hc
  have b0 := mix_bd hl hR hn 0
  have b1 := mix_bd hl hR hn 1
  have b2 := mix_bd hl hR hn 2
  have m0 := mix_mul P 0
  have m1 := mix_mul P 1
  have m2 := mix_mul P 2
  have hs := prt_sum P
  have hT := all3_pos hc
  rw [h0, h1] at b0 m0
  rw [h2, h3] at b1 m1
  rw [h4, h5] at b2 m2
  have ga := gcd_mul_d d0 d1
  have gb := gcd_mul_n d0 d1
  rw [hg] at ga gb
  have g0 : 0 < g := by rw [← hg]; exact gcdI_pos _ _ (by omega)
  have q1 : 0 < d0 / g := by
    rcases Int.lt_or_le 0 (d0 / g) with h | h
    · exact h
    · exfalso
      have := Int.mul_nonpos_of_nonpos_of_nonneg h (Int.le_of_lt g0)
      omega
  have q2 : 0 < d0 / g * d1 := Int.mul_pos q1 (by omega)
  exact lowest_eq q2 (by omega) (both_eq hT m0 m1 m2 hs (d1 / g) (d0 / g) g ga gb)
theorem quo_bd {d g : Int} (h0 : 1 ≤ d) (h1 : d ≤ 1000000000) (hg : 0 < g) (hd : g ≤ d) : 1 ≤ d / g ∧ d / g ≤ 1000000000 :=
  ⟨(Int.le_ediv_iff_mul_le hg).2 (by omega), Int.le_trans (Int.ediv_le_self _ (by omega)) h1⟩
theorem mul9 {a b : Int} (a0 : 0 ≤ a) (a1 : a ≤ 1000000000) (b0 : 0 ≤ b) (b1 : b ≤ 1000000000) : 0 ≤ a * b ∧ a * b ≤ 1000000000000000000 :=
  ⟨Int.mul_nonneg a0 b0, Int.le_trans (Int.mul_le_mul a1 b1 b0 (by omega)) (by omega)⟩
end Go.Proofs.YtlhogcbodgimdaaDoor
