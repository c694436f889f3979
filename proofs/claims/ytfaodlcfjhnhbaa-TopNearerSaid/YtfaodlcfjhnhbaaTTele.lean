/- Chains of steps by their seconds. -/
import Derived.Test.YtfaodlcfjhnhbaaTMeetM
import Derived.Outline
namespace Go.Proofs.Ytfaodlcfjhnhbaa
open Go.ChangeShapes Go.WideShapes Go.ChangeAt Go.RowKit
set_option linter.unusedVariables false
set_option linter.unusedSimpArgs false
theorem sum_tele (m : Nat → Int) : ∀ k, (∀ i, i < k → m i ≤ m (i + 1)) → ((sumS (fun i => (m (i + 1) - m i).toNat) k : Nat) : Int) = m k - m 0
  | 0, _ => by simp [sumS]
  | k + 1, hm => by
    have i := sum_tele m k (fun j hj => hm j (by omega))
    have a := hm k (by omega)
    simp only [sumS]
    rw [Int.natCast_add, i, Int.toNat_of_nonneg (by omega)]
    omega
theorem one_tele (m : Nat → Int) (h : Int) (M N : Nat) (hh : 1 ≤ h) (p l : Int) (q u : Nat → Int) (k : Nat) (hm : ∀ i, i < k → m i ≤ m (i + 1)) (hu0 : l ≤ u 0) (hs : ∀ i, i < k → p ≤ q i ∧ u (i + 1) = apH (u i) (q i) (decL (m (i + 1) - m i) h M) (decH (m (i + 1) - m i) h M)) :
    apL l p (decL (m k - m 0) h N) (decH (m k - m 0) h N) ≤ u k := by
  obtain ⟨n, rfl⟩ := Int.eq_ofNat_of_zero_le (show 0 ≤ h by omega)
  have := one_chain (fun i => (m (i + 1) - m i).toNat) n M N (by omega) p l q u k hu0 (fun i hi => by
    obtain ⟨a, b⟩ := hs i hi
    refine ⟨a, ?_⟩
    show u (i + 1) = apH (u i) (q i) (decL ((m (i + 1) - m i).toNat : Int) n M) (decH ((m (i + 1) - m i).toNat : Int) n M)
    rw [Int.toNat_of_nonneg (by have := hm i hi; omega)]; exact b)
  rw [sum_tele m k hm] at this
  exact this
theorem tele_one (m : Nat → Int) (h : Int) (M N : Nat) (hh : 1 ≤ h) (q u : Int) (p l : Nat → Int) (k : Nat) (hm : ∀ i, i < k → m i ≤ m (i + 1)) (hl0 : l 0 ≤ u) (hs : ∀ i, i < k → p i ≤ q ∧ l (i + 1) = apL (l i) (p i) (decL (m (i + 1) - m i) h M) (decH (m (i + 1) - m i) h M)) :
    l k ≤ apH u q (decL (m k - m 0) h N) (decH (m k - m 0) h N) := by
  obtain ⟨n, rfl⟩ := Int.eq_ofNat_of_zero_le (show 0 ≤ h by omega)
  have := chain_one (fun i => (m (i + 1) - m i).toNat) n M N (by omega) q u p l k hl0 (fun i hi => by
    obtain ⟨a, b⟩ := hs i hi
    refine ⟨a, ?_⟩
    show l (i + 1) = apL (l i) (p i) (decL ((m (i + 1) - m i).toNat : Int) n M) (decH ((m (i + 1) - m i).toNat : Int) n M)
    rw [Int.toNat_of_nonneg (by have := hm i hi; omega)]; exact b)
  rw [sum_tele m k hm] at this
  exact this
/-- The k-th load at the next mark. -/
theorem ldR_at {f t s o h : Int} {n : Nat} {T : List Cm} {P : List Ld} {k : Nat} (hk : k < T.length) (i : Nat) : (ldR f t s n o h T P (i + 1)).getD k default = stepR (mkS s n ((i + 1 : Nat) : Int) - mkS s n i) (8 + 2 * n) T (ldR f t s n o h T P i) ((1000 - o - h) * (arLo f t s n i - 63)) ((1000 - o - h) * (arHi f t s n i - 63)) (h * (arLo f t s n i - 63)) (h * (arHi f t s n i - 63)) k := by
  rw [show ldR f t s n o h T P (i + 1) = (List.range T.length).map (stepR (mkS s n ((i + 1 : Nat) : Int) - mkS s n i) (8 + 2 * n) T (ldR f t s n o h T P i) ((1000 - o - h) * (arLo f t s n i - 63)) ((1000 - o - h) * (arHi f t s n i - 63)) (h * (arLo f t s n i - 63)) (h * (arHi f t s n i - 63))) from rfl, getD_of (by simpa using hk)]
  simp
theorem mkS_0 (s : Int) (n : Nat) : mkS s n ((0 : Nat) : Int) = 0 := by
  unfold mkS
  split
  · rfl
  · simp
theorem mkS_K {s : Int} {n : Nat} (s0 : 0 ≤ s) : mkS s n ((stK s n : Nat) : Int) = s := by
  unfold mkS stK
  by_cases hs : s = 0
  · rw [if_pos hs]; omega
  · rw [if_neg hs, if_neg hs]
    have := Nat.two_pow_pos n
    exact Int.mul_ediv_cancel_left s (by omega)
end Go.Proofs.Ytfaodlcfjhnhbaa
