/- Enclosures of one load meet: one step against a chain of steps of the same time, whatever their roots' levels. -/
import Derived.Test.YtfaodlcfjhnhbaaMMath
import Derived.Outline
namespace Go.Proofs.Ytfaodlcfjhnhbaa
open Go.ChangeShapes Go.WideShapes Go.ChangeAt Go.RowKit
set_option linter.unusedVariables false
set_option linter.unusedSimpArgs false
/-- The seconds of the first k steps. -/
def sumS (s : Nat → Nat) : Nat → Nat
  | 0 => 0
  | k + 1 => sumS s k + s k
/-- Products of the decays of the first k steps. -/
noncomputable def prL (s : Nat → Nat) (h M : Nat) : Nat → Nat
  | 0 => 1
  | k + 1 => prL s h M k * (decL (s k) h M).toNat
noncomputable def prH (s : Nat → Nat) (h M : Nat) : Nat → Nat
  | 0 => 1
  | k + 1 => prH s h M k * (decH (s k) h M).toNat
theorem decN (s h M : Nat) (hh : 0 < h) : decL s h M = ((decL s h M).toNat : Int) ∧ decH s h M = ((decH s h M).toNat : Int) ∧ (decL s h M).toNat ^ h * 2 ^ s ≤ 1000000000 ^ h ∧ 1000000000 ^ h ≤ (decH s h M).toNat ^ h * 2 ^ s := by
  obtain ⟨x, y, e1, e2, h1, h2⟩ := dec_pow s h M hh
  rw [e1, e2]
  exact ⟨by simp, by simp, by simpa using h1, by simpa using h2⟩
theorem prL_pow (s : Nat → Nat) (h M : Nat) (hh : 0 < h) : ∀ k, prL s h M k ^ h * 2 ^ sumS s k ≤ (1000000000 ^ k) ^ h
  | 0 => by simp [prL, sumS]
  | k + 1 => by
    have i := prL_pow s h M hh k
    have d := (decN (s k) h M hh).2.2.1
    simp only [prL, sumS]
    rw [Nat.mul_pow, Nat.pow_add 2, Nat.pow_succ, Nat.mul_pow]
    have := Nat.mul_le_mul i d
    calc prL s h M k ^ h * (decL (s k) h M).toNat ^ h * (2 ^ sumS s k * 2 ^ s k) = (prL s h M k ^ h * 2 ^ sumS s k) * ((decL (s k) h M).toNat ^ h * 2 ^ s k) := by
          rw [Nat.mul_assoc, Nat.mul_assoc]; congr 1; rw [← Nat.mul_assoc, ← Nat.mul_assoc, Nat.mul_comm ((decL (s k) h M).toNat ^ h)]
      _ ≤ (1000000000 ^ k) ^ h * 1000000000 ^ h := this
theorem prH_pow (s : Nat → Nat) (h M : Nat) (hh : 0 < h) : ∀ k, (1000000000 ^ k) ^ h ≤ prH s h M k ^ h * 2 ^ sumS s k
  | 0 => by simp [prH, sumS]
  | k + 1 => by
    have i := prH_pow s h M hh k
    have d := (decN (s k) h M hh).2.2.2
    simp only [prH, sumS]
    rw [Nat.mul_pow, Nat.pow_add 2, Nat.pow_succ, Nat.mul_pow]
    have := Nat.mul_le_mul i d
    calc (1000000000 ^ k) ^ h * 1000000000 ^ h ≤ (prH s h M k ^ h * 2 ^ sumS s k) * ((decH (s k) h M).toNat ^ h * 2 ^ s k) := this
      _ = prH s h M k ^ h * (decH (s k) h M).toNat ^ h * (2 ^ sumS s k * 2 ^ s k) := by
          rw [Nat.mul_assoc, Nat.mul_assoc]; congr 1; rw [← Nat.mul_assoc, ← Nat.mul_assoc, Nat.mul_comm ((decH (s k) h M).toNat ^ h)]
/-- The products against the decay of all seconds together, of any level. -/
theorem prL_le (s : Nat → Nat) (h M N k : Nat) (hh : 0 < h) : prL s h M k * 1000000000 ≤ (decH (sumS s k) h N).toNat * 1000000000 ^ k := by
  have a := prL_pow s h M hh k
  have b := (decN (sumS s k) h N hh).2.2.2
  refine pow_down (n := h) (by omega) (Nat.le_of_mul_le_mul_right (c := 2 ^ sumS s k) ?_ (Nat.two_pow_pos _))
  rw [Nat.mul_pow, Nat.mul_pow]
  calc prL s h M k ^ h * 1000000000 ^ h * 2 ^ sumS s k = (prL s h M k ^ h * 2 ^ sumS s k) * 1000000000 ^ h := by rw [Nat.mul_assoc, Nat.mul_comm (1000000000 ^ h), ← Nat.mul_assoc]
    _ ≤ (1000000000 ^ k) ^ h * ((decH (sumS s k) h N).toNat ^ h * 2 ^ sumS s k) := Nat.mul_le_mul a b
    _ = (decH (sumS s k) h N).toNat ^ h * (1000000000 ^ k) ^ h * 2 ^ sumS s k := by rw [Nat.mul_comm, Nat.mul_assoc, Nat.mul_assoc, Nat.mul_comm (2 ^ sumS s k)]
theorem prH_ge (s : Nat → Nat) (h M N k : Nat) (hh : 0 < h) : (decL (sumS s k) h N).toNat * 1000000000 ^ k ≤ prH s h M k * 1000000000 := by
  have a := prH_pow s h M hh k
  have b := (decN (sumS s k) h N hh).2.2.1
  refine pow_down (n := h) (by omega) (Nat.le_of_mul_le_mul_right (c := 2 ^ sumS s k) ?_ (Nat.two_pow_pos _))
  rw [Nat.mul_pow, Nat.mul_pow]
  calc (decL (sumS s k) h N).toNat ^ h * (1000000000 ^ k) ^ h * 2 ^ sumS s k = ((decL (sumS s k) h N).toNat ^ h * 2 ^ sumS s k) * (1000000000 ^ k) ^ h := by rw [Nat.mul_assoc, Nat.mul_comm ((1000000000 ^ k) ^ h), ← Nat.mul_assoc]
    _ ≤ 1000000000 ^ h * (prH s h M k ^ h * 2 ^ sumS s k) := Nat.mul_le_mul b a
    _ = prH s h M k ^ h * 1000000000 ^ h * 2 ^ sumS s k := by rw [Nat.mul_comm, Nat.mul_assoc, Nat.mul_assoc, Nat.mul_comm (2 ^ sumS s k)]
/-- The upper ends of a chain, seen from below: from l at least p. -/
theorem up_ge (s : Nat → Nat) (h M : Nat) (hh : 0 < h) (p l : Int) (q u : Nat → Int) (hl : p ≤ l) (hu0 : l ≤ u 0) : ∀ k, (∀ i, i < k → p ≤ q i ∧ u (i + 1) = apH (u i) (q i) (decL (s i) h M) (decH (s i) h M)) → (l - p) * (prH s h M k : Int) ≤ (u k - p) * ((1000000000 ^ k : Nat) : Int)
  | 0, _ => by simp [prH]; omega
  | k + 1, hs => by
    have i := up_ge s h M hh p l q u hl hu0 k (fun j hj => hs j (by omega))
    obtain ⟨hq, hu⟩ := hs k (by omega)
    obtain ⟨e1, e2, _, _⟩ := decN (s k) h M hh
    have bd := dec_bd (s := (s k : Int)) (h := (h : Int)) (by omega) M
    have ord := dec_le (s k) h M hh
    have a := le_apH (m := u k) (q := q k) (x := decL (s k) h M) (y := decH (s k) h M) (d := decH (s k) h M) ord (Int.le_refl _)
    have b := mix_le (l := u k) (m := u k) (p := p) (q := q k) (d := decH (s k) h M) (Int.le_refl _) hq bd.2.2.1 bd.2.2.2
    rw [← hu] at a
    have c : (u k - p) * decH (s k) h M ≤ (u (k + 1) - p) * 1000000000 := by omega
    simp only [prH]
    rw [Int.natCast_mul, ← e2, Nat.pow_succ, Int.natCast_mul, ← Int.mul_assoc]
    have d := Int.mul_le_mul_of_nonneg_right i bd.2.2.1
    have f := Int.mul_le_mul_of_nonneg_right c (Int.natCast_nonneg (1000000000 ^ k))
    have g1 : (u k - p) * ((1000000000 ^ k : Nat) : Int) * decH (s k) h M = (u k - p) * decH (s k) h M * ((1000000000 ^ k : Nat) : Int) := by rw [Int.mul_assoc, Int.mul_comm ((1000000000 ^ k : Nat) : Int), ← Int.mul_assoc]
    have g2 : (u (k + 1) - p) * (((1000000000 ^ k : Nat) : Int) * ((1000000000 : Nat) : Int)) = (u (k + 1) - p) * 1000000000 * ((1000000000 ^ k : Nat) : Int) := by rw [Int.mul_assoc, Int.mul_comm ((1000000000 ^ k : Nat) : Int)]; rfl
    rw [g2]
    exact Int.le_trans d (by rw [g1]; exact f)
/-- The same from l below p. -/
theorem up_lt (s : Nat → Nat) (h M : Nat) (hh : 0 < h) (p l : Int) (q u : Nat → Int) (hl : l < p) (hu0 : l ≤ u 0) : ∀ k, (∀ i, i < k → p ≤ q i ∧ u (i + 1) = apH (u i) (q i) (decL (s i) h M) (decH (s i) h M)) → (p - u k) * ((1000000000 ^ k : Nat) : Int) ≤ (p - l) * (prL s h M k : Int)
  | 0, _ => by simp [prL]; omega
  | k + 1, hs => by
    have i := up_lt s h M hh p l q u hl hu0 k (fun j hj => hs j (by omega))
    obtain ⟨hq, hu⟩ := hs k (by omega)
    obtain ⟨e1, e2, _, _⟩ := decN (s k) h M hh
    have bd := dec_bd (s := (s k : Int)) (h := (h : Int)) (by omega) M
    have ord := dec_le (s k) h M hh
    have a := le_apH (m := u k) (q := q k) (x := decL (s k) h M) (y := decH (s k) h M) (d := decL (s k) h M) (Int.le_refl _) ord
    have b := mix_le (l := u k) (m := u k) (p := p) (q := q k) (d := decL (s k) h M) (Int.le_refl _) hq bd.1 bd.2.1
    rw [← hu] at a
    have e3 : (u k - p) * decL (s k) h M = -((p - u k) * decL (s k) h M) := by rw [← Int.neg_mul]; congr 1; omega
    have c : (p - u (k + 1)) * 1000000000 ≤ (p - u k) * decL (s k) h M := by omega
    simp only [prL]
    rw [Int.natCast_mul, ← e1, Nat.pow_succ, Int.natCast_mul, ← Int.mul_assoc (p - l)]
    have d := Int.mul_le_mul_of_nonneg_right i bd.1
    have f := Int.mul_le_mul_of_nonneg_right c (Int.natCast_nonneg (1000000000 ^ k))
    have g1 : (p - u k) * ((1000000000 ^ k : Nat) : Int) * decL (s k) h M = (p - u k) * decL (s k) h M * ((1000000000 ^ k : Nat) : Int) := by rw [Int.mul_assoc, Int.mul_comm ((1000000000 ^ k : Nat) : Int), ← Int.mul_assoc]
    have g2 : (p - u (k + 1)) * (((1000000000 ^ k : Nat) : Int) * ((1000000000 : Nat) : Int)) = (p - u (k + 1)) * 1000000000 * ((1000000000 ^ k : Nat) : Int) := by rw [Int.mul_assoc, Int.mul_comm ((1000000000 ^ k : Nat) : Int)]; rfl
    rw [g2]
    exact Int.le_trans f (by rw [← g1]; exact d)
theorem w_pos (k : Nat) : (0 : Int) < ((1000000000 ^ k : Nat) : Int) := by
  have : 0 < 1000000000 ^ k := Nat.pow_pos (by omega)
  exact_mod_cast this
/-- THE LOWER END of one step is not above the upper end of a chain of steps of the same time. -/
theorem one_chain (s : Nat → Nat) (h M N : Nat) (hh : 0 < h) (p l : Int) (q u : Nat → Int) (k : Nat) (hu0 : l ≤ u 0) (hs : ∀ i, i < k → p ≤ q i ∧ u (i + 1) = apH (u i) (q i) (decL (s i) h M) (decH (s i) h M)) : apL l p (decL (sumS s k) h N) (decH (sumS s k) h N) ≤ u k := by
  obtain ⟨e1, e2, _, _⟩ := decN (sumS s k) h N hh
  have ord := dec_le (sumS s k) h N hh
  have hw := w_pos k
  refine Int.le_of_mul_le_mul_right (a := 1000000000 * ((1000000000 ^ k : Nat) : Int)) ?_ (by omega)
  by_cases hl : p ≤ l
  · have a := up_ge s h M hh p l q u hl hu0 k hs
    have b0 := Int.ofNat_le.2 (prH_ge s h M N k hh)
    rw [Int.natCast_mul, Int.natCast_mul] at b0
    have b : ((decL (sumS s k) h N).toNat : Int) * ((1000000000 ^ k : Nat) : Int) ≤ (prH s h M k : Int) * 1000000000 := b0
    clear b0
    have c := apL_le (l := l) (p := p) (x := decL (sumS s k) h N) (y := decH (sumS s k) h N) (d := decL (sumS s k) h N) (Int.le_refl _) ord
    rw [← e1] at b
    generalize apL l p (decL (sumS s k) h N) (decH (sumS s k) h N) = z at *
    generalize decL (sumS s k) h N = X at *
    generalize ((1000000000 ^ k : Nat) : Int) = W at *
    generalize (prH s h M k : Int) = Y at *
    have b' := Int.mul_le_mul_of_nonneg_left b (show 0 ≤ l - p by omega)
    have c' := Int.mul_le_mul_of_nonneg_right (show (z - p) * 1000000000 ≤ (l - p) * X by omega) (show 0 ≤ W by omega)
    have a' := Int.mul_le_mul_of_nonneg_right a (show (0 : Int) ≤ 1000000000 by omega)
    have r1 : (z - p) * 1000000000 * W ≤ (u k - p) * W * 1000000000 := by
      refine Int.le_trans c' (Int.le_trans ?_ a')
      rw [Int.mul_assoc, Int.mul_assoc]; exact b'
    have r2 : (z - p) * 1000000000 * W = z * (1000000000 * W) - p * (1000000000 * W) := by rw [Int.mul_assoc, Int.sub_mul]
    have r3 : (u k - p) * W * 1000000000 = u k * (1000000000 * W) - p * (1000000000 * W) := by rw [Int.mul_assoc, Int.mul_comm W, Int.sub_mul]
    omega
  · have a := up_lt s h M hh p l q u (by omega) hu0 k hs
    have b0 := Int.ofNat_le.2 (prL_le s h M N k hh)
    rw [Int.natCast_mul, Int.natCast_mul] at b0
    have b : (prL s h M k : Int) * 1000000000 ≤ ((decH (sumS s k) h N).toNat : Int) * ((1000000000 ^ k : Nat) : Int) := b0
    clear b0
    have c := apL_le (l := l) (p := p) (x := decL (sumS s k) h N) (y := decH (sumS s k) h N) (d := decH (sumS s k) h N) ord (Int.le_refl _)
    rw [← e2] at b
    generalize apL l p (decL (sumS s k) h N) (decH (sumS s k) h N) = z at *
    generalize decH (sumS s k) h N = X at *
    generalize ((1000000000 ^ k : Nat) : Int) = W at *
    generalize (prL s h M k : Int) = Y at *
    have b' := Int.mul_le_mul_of_nonneg_left b (show 0 ≤ p - l by omega)
    have e3 : (l - p) * X = -((p - l) * X) := by rw [← Int.neg_mul]; congr 1; omega
    have c' := Int.mul_le_mul_of_nonneg_right (show (p - l) * X ≤ (p - z) * 1000000000 by omega) (show 0 ≤ W by omega)
    have a' := Int.mul_le_mul_of_nonneg_right a (show (0 : Int) ≤ 1000000000 by omega)
    have r1 : (p - u k) * W * 1000000000 ≤ (p - z) * 1000000000 * W := by
      refine Int.le_trans a' (Int.le_trans ?_ c')
      rw [Int.mul_assoc, Int.mul_assoc]; exact b'
    have r2 : (p - z) * 1000000000 * W = p * (1000000000 * W) - z * (1000000000 * W) := by rw [Int.mul_assoc, Int.sub_mul]
    have r3 : (p - u k) * W * 1000000000 = p * (1000000000 * W) - u k * (1000000000 * W) := by rw [Int.mul_assoc, Int.mul_comm W, Int.sub_mul]
    omega
/-- Turned over: an approach from the other side. -/
theorem apL_neg (l p x y : Int) : apL (-l) (-p) x y = -apH l p x y ∨ l = p := by
  by_cases h : l = p
  · exact Or.inr h
  · left
    unfold apL apH
    by_cases k : p ≤ l
    · rw [if_neg (by omega), if_pos k, show -p - -l = l - p by omega]; omega
    · rw [if_pos (by omega), if_neg k, show -l - -p = p - l by omega]; omega
theorem ap_self (p x y : Int) : apL p p x y = p ∧ apH p p x y = p := by
  unfold apL apH shLo shHi
  simp
theorem apL_turn (l p x y : Int) : apL (-l) (-p) x y = -apH l p x y := by
  rcases apL_neg l p x y with h | rfl
  · exact h
  · rw [(ap_self (-l) x y).1, (ap_self l x y).2]
theorem apH_turn (l p x y : Int) : apH (-l) (-p) x y = -apL l p x y := by
  have := apL_turn (-l) (-p) x y
  rw [Int.neg_neg, Int.neg_neg] at this
  omega
/-- THE UPPER END of one step is not below the lower end of a chain of steps of the same time. -/
theorem chain_one (s : Nat → Nat) (h M N : Nat) (hh : 0 < h) (q u : Int) (p l : Nat → Int) (k : Nat) (hl0 : l 0 ≤ u) (hs : ∀ i, i < k → p i ≤ q ∧ l (i + 1) = apL (l i) (p i) (decL (s i) h M) (decH (s i) h M)) : l k ≤ apH u q (decL (sumS s k) h N) (decH (sumS s k) h N) := by
  have := one_chain s h M N hh (-q) (-u) (fun i => -p i) (fun i => -l i) k (by show -u ≤ -l 0; omega) (fun i hi => by
    obtain ⟨h1, h2⟩ := hs i hi
    refine ⟨by show -q ≤ -p i; omega, ?_⟩
    show -l (i + 1) = apH (-l i) (-p i) _ _
    rw [apH_turn, h2])
  rw [apL_turn] at this
  have h2 : -apH u q (decL (sumS s k) h N) (decH (sumS s k) h N) ≤ -l k := this
  omega
end Go.Proofs.Ytfaodlcfjhnhbaa
