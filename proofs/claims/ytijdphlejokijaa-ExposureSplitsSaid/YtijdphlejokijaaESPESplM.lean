import Derived.Test.YtijdphlejokijaaESPERct
import Derived.Test.YtijdphlejokijaaESPEClkOf
import Derived.Outline
namespace Go.Proofs.Ytijdphlejokijaa
set_option linter.unusedVariables false
set_option linter.unusedSimpArgs false
theorem upE_add {x y d : Int} (d0 : 0 < d) : upE (x + y) d ≤ upE x d + upE y d ∧ upE x d + upE y d ≤ upE (x + y) d + 1 := by
  obtain ⟨h1, h2⟩ := upE_spec (n := x) d0
  obtain ⟨h3, h4⟩ := upE_spec (n := y) d0
  obtain ⟨h5, h6⟩ := upE_spec (n := x + y) d0
  obtain ⟨a, ha⟩ : ∃ a, upE x d = a := ⟨_, rfl⟩
  obtain ⟨b, hb⟩ : ∃ b, upE y d = b := ⟨_, rfl⟩
  obtain ⟨c, hc⟩ : ∃ c, upE (x + y) d = c := ⟨_, rfl⟩
  rw [ha] at h1 h2 ⊢
  rw [hb] at h3 h4 ⊢
  rw [hc] at h5 h6 ⊢
  constructor
  · refine Int.not_lt.1 fun h => ?_
    have : d * (a + b) ≤ d * (c - 1) := Int.mul_le_mul_of_nonneg_left (by omega) (by omega)
    rw [Int.mul_add] at this
    rw [Int.mul_sub] at h2 h4
    have k : c ≤ a + b - 1 + 0 ∨ True := Or.inr trivial
    have e : d * c ≤ d * (a + b - 1) := Int.mul_le_mul_of_nonneg_left (by omega) (by omega)
    have e2 := Int.mul_le_mul_of_nonneg_left (show a + b ≤ c - 1 by omega) (show 0 ≤ d by omega)
    rw [Int.mul_add, Int.mul_sub] at e2
    rw [Int.mul_sub] at h6
    omega
  · refine Int.not_lt.1 fun h => ?_
    have e2 := Int.mul_le_mul_of_nonneg_left (show c + 2 ≤ a + b by omega) (show 0 ≤ d by omega)
    rw [Int.mul_add, Int.mul_add] at e2
    rw [Int.mul_sub] at h2 h4
    omega
theorem clkW_add {T : List Ox} (hT : OxOk T) {lo mid hi : Int} (h1 : lo ≤ mid) (h2 : mid ≤ hi) {k : Nat} (hk : k < T.length) : clkW T lo hi k = clkW T lo mid k + clkW T mid hi k := by
  unfold clkW
  by_cases e : k + 1 < T.length
  · rw [if_pos e]
    have := hT.m k e
    omega
  · rw [if_neg e]
    omega
theorem clkS_add {T : List Ox} (hT : OxOk T) {lo mid hi : Int} (h1 : lo ≤ mid) (h2 : mid ≤ hi) : ∀ k, k ≤ T.length → clkS T lo hi k = clkS T lo mid k + clkS T mid hi k
  | 0, _ => rfl
  | k + 1, hk => by
    unfold clkS
    rw [clkS_add hT h1 h2 k (by omega), clkW_add hT h1 h2 (show k < T.length by omega), Int.mul_add]
    omega
theorem clk_part {q s e f S : Int} (s0 : 0 < s) (e0 : 0 < e) (f0 : 0 < f) (h : f * s = e * q) : upE (q * S) f = upE (s * S) e := by
  rw [← upE_cancel (n := q * S) f0 e0, ← upE_cancel (n := s * S) e0 f0, Int.mul_comm f e]
  congr 1
  rw [show q * S * e = S * (e * q) by rw [Int.mul_comm q S, Int.mul_assoc, Int.mul_comm q e], ← h, show s * S * f = S * (f * s) by rw [Int.mul_comm s S, Int.mul_assoc, Int.mul_comm s f]]
/-- One clock and two. -/
theorem clk_two {T : List Ox} (hT : OxOk T) {s q1 q2 lo mid hi : Int} (a0 : 1 ≤ q1) (b0 : 1 ≤ q2) (hs : q1 + q2 = s) (h1 : lo < mid) (h2 : mid < hi) (hr : (mid - lo) * s = (hi - lo) * q1) :
    clkV T s lo hi ≤ clkV T q1 lo mid + clkV T q2 mid hi ∧ clkV T q1 lo mid + clkV T q2 mid hi ≤ clkV T s lo hi + 1 := by
  unfold clkV
  rw [if_neg (by omega), if_neg (by omega), if_neg (by omega)]
  have hr2 : (hi - mid) * s = (hi - lo) * q2 := by
    have e1 : (hi - lo) * s = (hi - lo) * q1 + (hi - lo) * q2 := by rw [← hs, Int.mul_add]
    have e2 : (hi - lo) * s = (hi - mid) * s + (mid - lo) * s := by rw [← Int.add_mul]; congr 1; omega
    omega
  rw [clk_part (s := s) (e := hi - lo) (by omega) (by omega) (by omega) hr, clk_part (s := s) (e := hi - lo) (by omega) (by omega) (by omega) hr2, clkS_add hT (show lo ≤ mid by omega) (show mid ≤ hi by omega) _ (Nat.le_refl _), Int.mul_add]
  exact upE_add (by omega)
theorem clkV_le {T : List Ox} (hT : OxOk T) {s lo hi : Int} (s1 : 1 ≤ s) (s2 : s ≤ 1000000) (h0 : 0 ≤ lo) (h1 : lo ≤ hi) : 0 ≤ clkV T s lo hi ∧ clkV T s lo hi ≤ 100000000000 := by
  unfold clkV
  by_cases e : lo = hi
  · rw [if_pos e]
    have h := rateG_bd hT lo T.length (Nat.le_refl _)
    have := mul_bd (show 0 ≤ s by omega) s2 h.1 h.2
    unfold rateV
    omega
  · rw [if_neg e]
    have hS := clkS_bd hT h0 h1 T.length (Nat.le_refl _)
    have hU := clkU_bd hT h0 h1 T.length (Nat.le_refl _)
    obtain ⟨S, hSS⟩ : ∃ S, clkS T lo hi T.length = S := ⟨_, rfl⟩
    rw [hSS] at hS ⊢
    refine ⟨upE_ge0 (Int.mul_nonneg (by omega) hS.1) (by omega), upE_le (by omega) ?_⟩
    have a1 : s * S ≤ s * (100000 * (hi - lo)) := Int.mul_le_mul_of_nonneg_left (by omega) (by omega)
    have a2 : s * (100000 * (hi - lo)) ≤ 1000000 * (100000 * (hi - lo)) := Int.mul_le_mul_of_nonneg_right s2 (by omega)
    omega
theorem clk_cut {T : List Ox} (hT : OxOk T) {a d s o u m q : Int} (q0 : 1 ≤ q) (q1 : q < s) (o1 : 0 ≤ o) (hm : (d - a) * q = s * m) :
    clkV T s (o * (u + min a d)) (o * (u + max a d)) ≤ clkV T q (o * (u + min a (a + m))) (o * (u + max a (a + m))) + clkV T (s - q) (o * (u + min (a + m) d)) (o * (u + max (a + m) d)) ∧
    clkV T q (o * (u + min a (a + m))) (o * (u + max a (a + m))) + clkV T (s - q) (o * (u + min (a + m) d)) (o * (u + max (a + m) d)) ≤ clkV T s (o * (u + min a d)) (o * (u + max a d)) + 1 := by
  -- the ratio of the parts
  have hmono : ∀ {x z : Int}, x < z → 0 < o → o * (u + x) < o * (u + z) := fun hx ho => Int.mul_lt_mul_of_pos_left (by omega) ho
  have hc : ∀ (x : Int), clkV T s x x = clkV T q x x + clkV T (s - q) x x := fun x => by
    unfold clkV
    rw [if_pos rfl, if_pos rfl, if_pos rfl, ← Int.add_mul]
    congr 1
    omega
  by_cases o0 : o = 0
  · subst o0
    simp only [Int.zero_mul]
    have := hc 0
    omega
  rcases Int.lt_trichotomy a d with hlt | heq | hgt
  · have m1 : 0 < m := by
      refine Int.not_le.1 fun hle => ?_
      have k1 : 0 < (d - a) * q := Int.mul_pos (by omega) (by omega)
      have k2 : s * m ≤ 0 := Int.mul_nonpos_of_nonneg_of_nonpos (by omega) hle
      omega
    have m2 : a + m < d := by
      refine Int.not_le.1 fun hle => ?_
      have k1 : s * (d - a) ≤ s * m := Int.mul_le_mul_of_nonneg_left (by omega) (by omega)
      have k2 : (d - a) * q < (d - a) * s := Int.mul_lt_mul_of_pos_left (by omega) (by omega)
      rw [Int.mul_comm s (d - a)] at k1
      omega
    rw [show min a d = a by omega, show max a d = d by omega, show min a (a + m) = a by omega, show max a (a + m) = a + m by omega, show min (a + m) d = a + m by omega, show max (a + m) d = d by omega]
    refine clk_two hT q0 (by omega) (by omega) (hmono (by omega) (by omega)) (hmono (by omega) (by omega)) ?_
    rw [← Int.mul_sub, ← Int.mul_sub, show u + (a + m) - (u + a) = m by omega, show u + d - (u + a) = d - a by omega, Int.mul_assoc, Int.mul_assoc, hm, Int.mul_comm m s]
  · subst heq
    have m0 : m = 0 := by
      have : s * m = 0 := by rw [← hm]; simp
      rcases Int.mul_eq_zero.1 this with h | h <;> omega
    subst m0
    simp only [Int.add_zero, Int.min_self, Int.max_self]
    have := hc (o * (u + a))
    omega
  · have m1 : m < 0 := by
      refine Int.not_le.1 fun hle => ?_
      have k1 : 0 < (a - d) * q := Int.mul_pos (by omega) (by omega)
      have k2 : 0 ≤ s * m := Int.mul_nonneg (by omega) hle
      have k3 : (d - a) * q = -((a - d) * q) := by rw [← Int.neg_mul]; congr 1; omega
      omega
    have m2 : d < a + m := by
      refine Int.not_le.1 fun hle => ?_
      have k1 : s * m ≤ s * (d - a) := Int.mul_le_mul_of_nonneg_left (by omega) (by omega)
      have k2 : (a - d) * q < (a - d) * s := Int.mul_lt_mul_of_pos_left (by omega) (by omega)
      have k3 : (d - a) * q = -((a - d) * q) := by rw [← Int.neg_mul]; congr 1; omega
      have k4 : s * (d - a) = -((a - d) * s) := by rw [← Int.neg_mul, Int.mul_comm]; congr 1; omega
      omega
    rw [show min a d = d by omega, show max a d = a by omega, show min a (a + m) = a + m by omega, show max a (a + m) = a by omega, show min (a + m) d = d by omega, show max (a + m) d = a + m by omega, Int.add_comm (clkV T q _ _)]
    refine clk_two hT (by omega) (by omega) (by omega) (hmono (by omega) (by omega)) (hmono (by omega) (by omega)) ?_
    rw [← Int.mul_sub, ← Int.mul_sub, show u + (a + m) - (u + d) = a + m - d by omega, show u + a - (u + d) = a - d by omega, Int.mul_assoc, Int.mul_assoc]
    congr 1
    have k3 : (d - a) * q = -((a - d) * q) := by rw [← Int.neg_mul]; congr 1; omega
    rw [Int.mul_sub, show a + m - d = (a - d) + m by omega, Int.add_mul, Int.mul_comm m s]
    omega
/-- The clock of a leg that is divided. -/
theorem clkX_split {T : List Ox} (hT : OxOk T) {y y1 y2 : Pl} {m q : Int} (h : PlOk y) (q0 : 1 ≤ q) (q1 : q < y.s) (hm : (y.d - y.bd) * q = y.s * m)
    (e1 : y1.s = q) (e2 : y1.bd = y.bd) (e3 : y1.d = y.bd + m) (e4 : y1.su = y.su) (e5 : y1.o = y.o) (f1 : y2.s = y.s - q) (f2 : y2.bd = y.bd + m) (f3 : y2.d = y.d) (f4 : y2.su = y.su) (f5 : y2.o = y.o) :
    (0 ≤ clkX T y ∧ clkX T y ≤ 1000000000000000) ∧ clkX T y ≤ clkX T y1 + clkX T y2 ∧ clkX T y1 + clkX T y2 ≤ clkX T y + 1 := by
  have hs := h.s
  have ho := (gasE_o h.ga)
  have hb := ox_bd h
  refine ⟨by have := clkV_le hT hs.1 hs.2 hb.1 hb.2.1; unfold clkX; omega, ?_⟩
  unfold clkX oxLo oxHi
  rw [e1, e2, e3, e4, e5, f1, f2, f3, f4, f5]
  exact clk_cut hT q0 q1 ho.1 hm
/-- What a leg that is divided breathes. -/
theorem brV_split {b : Int} {y y1 y2 : Pl} {m q : Int} (h : PlOk y) (b0 : 1 ≤ b) (b1 : b ≤ 100000) (hm : (y.d - y.bd) * q = y.s * m)
    (e1 : y1.s = q) (e2 : y1.bd = y.bd) (e3 : y1.d = y.bd + m) (e4 : y1.su = y.su) (f1 : y2.s = y.s - q) (f2 : y2.bd = y.bd + m) (f3 : y2.d = y.d) (f4 : y2.su = y.su) :
    brV y b ≤ brV y1 b + brV y2 b ∧ brV y1 b + brV y2 b ≤ brV y b + 1 := by
  unfold brV
  rw [e1, e2, e3, e4, f1, f2, f3, f4]
  have : b * (y.su + y.bd + (y.su + y.d)) * y.s = b * (y.su + y.bd + (y.su + (y.bd + m))) * q + b * (y.su + (y.bd + m) + (y.su + y.d)) * (y.s - q) := by
    rw [Int.mul_assoc, Int.mul_assoc, Int.mul_assoc, ← Int.mul_add]
    congr 1
    obtain ⟨a, ha⟩ : ∃ a, y.bd = a := ⟨_, rfl⟩
    obtain ⟨d, hd⟩ : ∃ d, y.d = d := ⟨_, rfl⟩
    obtain ⟨s, hss⟩ : ∃ s, y.s = s := ⟨_, rfl⟩
    obtain ⟨u, hu⟩ : ∃ u, y.su = u := ⟨_, rfl⟩
    rw [ha, hd, hss] at hm
    rw [ha, hd, hss, hu]
    simp only [Int.mul_add, Int.add_mul, Int.mul_sub, Int.sub_mul] at hm ⊢
    simp only [Int.mul_comm, Int.mul_left_comm] at hm ⊢
    omega
  rw [this]
  exact upE_add (by decide)
end Go.Proofs.Ytijdphlejokijaa
