import Derived.Test.YtfaodlcfjhnhbaaDecM
import Derived.Test.YtfaodlcfjhnhbaaTLoadG
import Derived.Outline
/- DECAYS MULTIPLY: the ends of a decay, to the power of the half time, lie about what the seconds leave of all; so the ends of two decays have a product that meets the decay of both times together. -/
namespace Go.Proofs.Ytfaodlcfjhnhbaa
open Go.ChangeShapes Go.WideShapes Go.ChangeAt Go.RowKit
set_option linter.unusedVariables false
set_option linter.unusedSimpArgs false
theorem pow_down {a b n : Nat} (hn : n ≠ 0) (h : a ^ n ≤ b ^ n) : a ≤ b := by
  rcases Nat.lt_or_ge b a with h1 | h1
  · exact absurd h (Nat.not_le.2 (Nat.pow_lt_pow_left h1 hn))
  · exact h1
theorem two_pow_succ (k : Nat) : (2 : Nat) ^ (k + 1) = 2 ^ k + 2 ^ k := by rw [Nat.pow_succ]; omega
/-- The root of a level, to the power of so many parts, is half of all at most, at least. -/
theorem root_pow : ∀ k, (rootP k).1 ^ (2 ^ k) * 2 ≤ 1000000000 ^ (2 ^ k) ∧ 1000000000 ^ (2 ^ k) ≤ (rootP k).2 ^ (2 ^ k) * 2
  | 0 => by simp [rootP]
  | k + 1 => by
    obtain ⟨h1, h2⟩ := root_pow k
    obtain ⟨b1, b2, b3, b4⟩ := rootP_bd k
    have e1 : (rootP (k + 1)).1 = isq (1000000000 * (rootP k).1) := rfl
    have e2 : (rootP (k + 1)).2 = isq (1000000000 * (rootP k).2 - 1) + 1 := rfl
    rw [e1, e2]
    generalize hW : 1000000000 = W at *
    generalize hx : (rootP k).1 = x at *
    generalize hy : (rootP k).2 = y at *
    have q1 := isq_le (W * x)
    have q2 := isq_lt (W * y - 1)
    have hwy : 1 ≤ W * y := Nat.mul_pos (by omega) (by omega)
    have q3 : W * y ≤ (isq (W * y - 1) + 1) * (isq (W * y - 1) + 1) := by omega
    generalize isq (W * x) = x' at *
    generalize isq (W * y - 1) + 1 = y' at *
    generalize hK : 2 ^ k = K at *
    have ek : 2 ^ (k + 1) = K + K := by rw [two_pow_succ, hK]
    rw [ek]
    constructor
    · have a1 : x' ^ (K + K) ≤ W ^ K * x ^ K := by
        rw [Nat.pow_add, ← Nat.mul_pow, ← Nat.mul_pow]; exact Nat.pow_le_pow_left q1 K
      calc x' ^ (K + K) * 2 ≤ W ^ K * x ^ K * 2 := Nat.mul_le_mul_right _ a1
        _ = W ^ K * (x ^ K * 2) := by rw [Nat.mul_assoc]
        _ ≤ W ^ K * W ^ K := Nat.mul_le_mul_left _ h1
        _ = W ^ (K + K) := by rw [Nat.pow_add]
    · have a1 : W ^ K * y ^ K ≤ y' ^ (K + K) := by
        rw [Nat.pow_add, ← Nat.mul_pow, ← Nat.mul_pow]; exact Nat.pow_le_pow_left q3 K
      calc W ^ (K + K) = W ^ K * W ^ K := by rw [Nat.pow_add]
        _ ≤ W ^ K * (y ^ K * 2) := Nat.mul_le_mul_left _ h2
        _ = W ^ K * y ^ K * 2 := by rw [Nat.mul_assoc]
        _ ≤ y' ^ (K + K) * 2 := Nat.mul_le_mul_right _ a1
theorem hv_pow : ∀ k, ∃ x y : Nat, hv k = ((x : Int), (y : Int)) ∧ x * 2 ^ k ≤ 1000000000 ∧ 1000000000 ≤ y * 2 ^ k
  | 0 => ⟨1000000000, 1000000000, rfl, by simp, by simp⟩
  | k + 1 => by
    obtain ⟨x, y, h, h1, h2⟩ := hv_pow k
    refine ⟨x / 2, (y + 2 - 1) / 2, ?_, ?_, ?_⟩
    · rw [hv, h]; simp only [Prod.mk.injEq]; omega
    · rw [two_pow_succ]
      have a : x / 2 * (2 ^ k + 2 ^ k) = (x / 2 * 2) * 2 ^ k := by rw [← Nat.two_mul, Nat.mul_assoc]
      rw [a]
      exact Nat.le_trans (Nat.mul_le_mul_right _ (Nat.div_mul_le_self x 2)) h1
    · rw [two_pow_succ]
      have a : (y + 2 - 1) / 2 * (2 ^ k + 2 ^ k) = ((y + 2 - 1) / 2 * 2) * 2 ^ k := by rw [← Nat.two_mul, Nat.mul_assoc]
      rw [a]
      exact Nat.le_trans h2 (Nat.mul_le_mul_right _ (by omega))
set_option maxRecDepth 100000 in
theorem hv_30 : hv 30 = (0, 1) := by decide +kernel
/-- How far a share is, as powers. -/
theorem lo_step {x a x' K E : Nat} (h : x' * 1000000000 ≤ x * a) (hx : x ^ K * E ≤ 1000000000 ^ K) (ha : a ^ K * 2 ≤ 1000000000 ^ K) : x' ^ K * (E * 2) ≤ 1000000000 ^ K := by
  generalize hW : 1000000000 = W at *
  have hp : 0 < W ^ K := Nat.pow_pos (by omega)
  have a1 : x' ^ K * W ^ K ≤ x ^ K * a ^ K := by rw [← Nat.mul_pow, ← Nat.mul_pow]; exact Nat.pow_le_pow_left h K
  refine Nat.le_of_mul_le_mul_right ?_ hp
  calc x' ^ K * (E * 2) * W ^ K = (x' ^ K * W ^ K) * (E * 2) := by ac_rfl
    _ ≤ (x ^ K * a ^ K) * (E * 2) := Nat.mul_le_mul_right _ a1
    _ = (x ^ K * E) * (a ^ K * 2) := by ac_rfl
    _ ≤ W ^ K * W ^ K := Nat.mul_le_mul hx ha
theorem hi_step {y a y' K E : Nat} (h : y * a ≤ y' * 1000000000) (hy : 1000000000 ^ K ≤ y ^ K * E) (ha : 1000000000 ^ K ≤ a ^ K * 2) : 1000000000 ^ K ≤ y' ^ K * (E * 2) := by
  generalize hW : 1000000000 = W at *
  have hp : 0 < W ^ K := Nat.pow_pos (by omega)
  have a1 : y ^ K * a ^ K ≤ y' ^ K * W ^ K := by rw [← Nat.mul_pow, ← Nat.mul_pow]; exact Nat.pow_le_pow_left h K
  refine Nat.le_of_mul_le_mul_right ?_ hp
  calc W ^ K * W ^ K ≤ (y ^ K * E) * (a ^ K * 2) := Nat.mul_le_mul hy ha
    _ = (y ^ K * a ^ K) * (E * 2) := by ac_rfl
    _ ≤ (y' ^ K * W ^ K) * (E * 2) := Nat.mul_le_mul_right _ a1
    _ = y' ^ K * (E * 2) * W ^ K := by ac_rfl
theorem shLo_nat (x a : Nat) : shLo x a = ((x * a / 1000000000 : Nat) : Int) ∧ x * a / 1000000000 * 1000000000 ≤ x * a := by
  refine ⟨?_, Nat.div_mul_le_self _ _⟩
  unfold shLo
  rw [← Int.natCast_mul]
  omega
theorem shHi_nat (x a : Nat) : shHi x a = (((x * a + 999999999) / 1000000000 : Nat) : Int) ∧ x * a ≤ (x * a + 999999999) / 1000000000 * 1000000000 := by
  unfold shHi
  rw [← Int.natCast_mul]
  omega
/-- The state of a decay, as powers. -/
theorem dst_pow (s h : Nat) (hh : 0 < h) : ∀ k, ∃ m r x y : Nat, dst s h k = ((r : Int), (x : Int), (y : Int)) ∧ s * 2 ^ k = m * h + r ∧ r < h ∧ x ^ (2 ^ k) * 2 ^ m ≤ 1000000000 ^ (2 ^ k) ∧ 1000000000 ^ (2 ^ k) ≤ y ^ (2 ^ k) * 2 ^ m
  | 0 => by
    by_cases hq : s / h ≤ 30
    · obtain ⟨x, y, h1, h2, h3⟩ := hv_pow (s / h)
      refine ⟨s / h, s % h, x, y, ?_, ?_, Nat.mod_lt _ hh, by simpa using h2, by simpa using h3⟩
      · have e : (min ((s : Int) / h) 30).toNat = s / h := by
          rw [← Int.natCast_ediv, Int.min_eq_left (by omega)]; rfl
        rw [dst, e, h1]
        simp
      · rw [Nat.pow_zero, Nat.mul_one, Nat.mul_comm]; exact (Nat.div_add_mod s h).symm
    · refine ⟨s / h, s % h, 0, 1, ?_, ?_, Nat.mod_lt _ hh, by simp, ?_⟩
      · have e : (min ((s : Int) / h) 30).toNat = 30 := by
          rw [← Int.natCast_ediv, Int.min_eq_right (by omega)]; rfl
        rw [dst, e, hv_30]
        simp
      · rw [Nat.pow_zero, Nat.mul_one, Nat.mul_comm]; exact (Nat.div_add_mod s h).symm
      · have : (2 : Nat) ^ 30 ≤ 2 ^ (s / h) := Nat.pow_le_pow_right (by omega) (by omega)
        simp
        omega
  | k + 1 => by
    obtain ⟨m, r, x, y, h0, h1, h2, h3, h4⟩ := dst_pow s h hh k
    obtain ⟨r1, r2⟩ := root_pow (k + 1)
    have d3 : x ^ (2 ^ (k + 1)) * 2 ^ (m + m) ≤ 1000000000 ^ (2 ^ (k + 1)) := by
      rw [two_pow_succ, Nat.pow_add, Nat.pow_add, Nat.pow_add]
      calc x ^ 2 ^ k * x ^ 2 ^ k * (2 ^ m * 2 ^ m) = (x ^ 2 ^ k * 2 ^ m) * (x ^ 2 ^ k * 2 ^ m) := by ac_rfl
        _ ≤ _ := Nat.mul_le_mul h3 h3
    have d4 : 1000000000 ^ (2 ^ (k + 1)) ≤ y ^ (2 ^ (k + 1)) * 2 ^ (m + m) := by
      rw [two_pow_succ, Nat.pow_add, Nat.pow_add, Nat.pow_add]
      calc _ ≤ (y ^ 2 ^ k * 2 ^ m) * (y ^ 2 ^ k * 2 ^ m) := Nat.mul_le_mul h4 h4
        _ = y ^ 2 ^ k * y ^ 2 ^ k * (2 ^ m * 2 ^ m) := by ac_rfl
    have d1 : s * 2 ^ (k + 1) = (m + m) * h + (r + r) := by
      rw [two_pow_succ, Nat.mul_add, h1, Nat.add_mul]; omega
    by_cases hc : h ≤ r * 2
    · refine ⟨m + m + 1, r * 2 - h, x * (rootP (k + 1)).1 / 1000000000, (y * (rootP (k + 1)).2 + 999999999) / 1000000000, ?_, ?_, by omega, ?_, ?_⟩
      · rw [dst, h0]
        rw [if_pos (by show (h : Int) ≤ (r : Int) * 2; omega)]
        show ((r : Int) * 2 - h, shLo x _, shHi y _) = _
        rw [(shLo_nat _ _).1, (shHi_nat _ _).1]
        simp only [Prod.mk.injEq, and_true]
        omega
      · rw [d1, Nat.add_mul (m + m) 1 h]; omega
      · rw [Nat.pow_succ]; exact lo_step (shLo_nat _ _).2 d3 r1
      · rw [Nat.pow_succ]; exact hi_step (shHi_nat _ _).2 d4 r2
    · refine ⟨m + m, r * 2, x, y, ?_, by omega, by omega, d3, d4⟩
      rw [dst, h0]
      rw [if_neg (by show ¬ (h : Int) ≤ (r : Int) * 2; omega)]
      simp
/-- A DECAY ENCLOSES: its ends, to the power of the half time, lie about what the seconds leave of all. -/
theorem dec_pow (s h L : Nat) (hh : 0 < h) : ∃ x y : Nat, decL s h L = x ∧ decH s h L = y ∧ x ^ h * 2 ^ s ≤ 1000000000 ^ h ∧ 1000000000 ^ h ≤ y ^ h * 2 ^ s := by
  obtain ⟨m, r, x, y, h0, h1, h2, h3, h4⟩ := dst_pow s h hh L
  obtain ⟨r1, r2⟩ := root_pow L
  have hK : 2 ^ L ≠ 0 := by have := Nat.two_pow_pos L; omega
  generalize hKK : 2 ^ L = K at *
  have hi : 1000000000 ^ h ≤ y ^ h * 2 ^ s := by
    refine pow_down hK ?_
    rw [← Nat.pow_mul, Nat.mul_pow, ← Nat.pow_mul, ← Nat.pow_mul, h1]
    have := Nat.pow_le_pow_left h4 h
    rw [Nat.mul_pow, ← Nat.pow_mul, ← Nat.pow_mul, ← Nat.pow_mul] at this
    rw [Nat.mul_comm h K]
    refine Nat.le_trans this (Nat.mul_le_mul_left _ (Nat.pow_le_pow_right (by omega) (by omega)))
  have lo : ∀ (z M : Nat), z ^ K * 2 ^ M ≤ 1000000000 ^ K → s * K ≤ M * h → z ^ h * 2 ^ s ≤ 1000000000 ^ h := by
    intro z M hz hM
    refine pow_down hK ?_
    rw [← Nat.pow_mul, Nat.mul_pow, ← Nat.pow_mul, ← Nat.pow_mul]
    have := Nat.pow_le_pow_left hz h
    rw [Nat.mul_pow, ← Nat.pow_mul, ← Nat.pow_mul, ← Nat.pow_mul] at this
    rw [Nat.mul_comm h K]
    exact Nat.le_trans (Nat.mul_le_mul_left _ (Nat.pow_le_pow_right (by omega) hM)) this
  by_cases hr : r = 0
  · refine ⟨x, y, ?_, by rw [decH, h0], lo x m h3 (by omega), hi⟩
    rw [decL, h0, if_pos (by show (r : Int) = 0; omega)]
  · refine ⟨x * (rootP L).1 / 1000000000, y, ?_, by rw [decH, h0], lo _ (m + 1) ?_ (by rw [Nat.add_mul]; omega), hi⟩
    · rw [decL, h0, if_neg (by show ¬ (r : Int) = 0; omega)]
      exact (shLo_nat _ _).1
    · rw [Nat.pow_succ]; exact lo_step (shLo_nat _ _).2 h3 r1
/-- The three comparisons of decays of two times and of both together. -/
theorem dec_products (s t h L M N : Nat) (hh : 0 < h) :
    decL s h L * decL t h M ≤ decH (s + t : Nat) h N * 1000000000 ∧ decL (s + t : Nat) h N * 1000000000 ≤ decH s h L * decH t h M ∧ decL (s + t : Nat) h N ≤ decH s h L ∧ decL (s + t : Nat) h N ≤ decH t h M := by
  obtain ⟨a, a', ea, ea', a1, a2⟩ := dec_pow s h L hh
  obtain ⟨b, b', eb, eb', b1, b2⟩ := dec_pow t h M hh
  obtain ⟨c, c', ec, ec', c1, c2⟩ := dec_pow (s + t) h N hh
  rw [ea, ea', eb, eb', ec, ec']
  have hn : h ≠ 0 := by omega
  have p1 : 0 < 2 ^ s := Nat.two_pow_pos s
  have p2 : 0 < 2 ^ t := Nat.two_pow_pos t
  have p3 : 0 < 2 ^ (s + t) := Nat.two_pow_pos _
  have pe : 2 ^ (s + t) = 2 ^ s * 2 ^ t := Nat.pow_add 2 s t
  have q1 : a * b ≤ c' * 1000000000 := by
    refine pow_down hn (Nat.le_of_mul_le_mul_right ?_ p3)
    rw [Nat.mul_pow, Nat.mul_pow]
    generalize 1000000000 ^ h = V at *
    calc a ^ h * b ^ h * 2 ^ (s + t) = (a ^ h * 2 ^ s) * (b ^ h * 2 ^ t) := by rw [pe]; ac_rfl
      _ ≤ V * V := Nat.mul_le_mul a1 b1
      _ ≤ V * (c' ^ h * 2 ^ (s + t)) := Nat.mul_le_mul_left _ c2
      _ = c' ^ h * V * 2 ^ (s + t) := by ac_rfl
  have q2 : c * 1000000000 ≤ a' * b' := by
    refine pow_down hn (Nat.le_of_mul_le_mul_right ?_ p3)
    rw [Nat.mul_pow, Nat.mul_pow]
    generalize 1000000000 ^ h = V at *
    calc c ^ h * V * 2 ^ (s + t) = (c ^ h * 2 ^ (s + t)) * V := by ac_rfl
      _ ≤ V * V := Nat.mul_le_mul_right _ c1
      _ ≤ (a' ^ h * 2 ^ s) * (b' ^ h * 2 ^ t) := Nat.mul_le_mul a2 b2
      _ = a' ^ h * b' ^ h * 2 ^ (s + t) := by rw [pe]; ac_rfl
  have q3 : c ≤ a' := by
    refine pow_down hn (Nat.le_of_mul_le_mul_right ?_ p3)
    refine Nat.le_trans c1 (Nat.le_trans a2 (Nat.mul_le_mul_left _ (Nat.pow_le_pow_right (by omega) (by omega))))
  have q4 : c ≤ b' := by
    refine pow_down hn (Nat.le_of_mul_le_mul_right ?_ p3)
    refine Nat.le_trans c1 (Nat.le_trans b2 (Nat.mul_le_mul_left _ (Nat.pow_le_pow_right (by omega) (by omega))))
  rw [← Int.natCast_mul, ← Int.natCast_mul]
  omega
theorem dec_le (s h L : Nat) (hh : 0 < h) : decL s h L ≤ decH s h L := by
  obtain ⟨a, a', ea, ea', a1, a2⟩ := dec_pow s h L hh
  have : a ≤ a' := pow_down (n := h) (by omega) (Nat.le_of_mul_le_mul_right (Nat.le_trans a1 a2) (Nat.two_pow_pos s))
  omega
end Go.Proofs.Ytfaodlcfjhnhbaa

/- The enclosure of an approach: what it encloses, and that its ends lie in order. -/
namespace Go.Proofs.Ytfaodlcfjhnhbaa
open Go.ChangeShapes Go.WideShapes Go.ChangeAt Go.RowKit
set_option linter.unusedVariables false
set_option linter.unusedSimpArgs false
theorem apL_le {l p x y d : Int} (h1 : x ≤ d) (h2 : d ≤ y) : 1000000000 * apL l p x y ≤ 1000000000 * p + (l - p) * d := by
  unfold apL
  split
  · rename_i h
    have e := Int.mul_le_mul_of_nonneg_left h1 (show 0 ≤ l - p by omega)
    unfold shLo
    generalize (l - p) * x = u at *
    omega
  · rename_i h
    have e := Int.mul_le_mul_of_nonneg_left h2 (show 0 ≤ p - l by omega)
    have e2 : (l - p) * d = -((p - l) * d) := by rw [← Int.neg_mul]; congr 1; omega
    unfold shHi
    rw [e2]
    generalize (p - l) * y = u at *
    generalize (p - l) * d = v at *
    omega
theorem le_apH {m q x y d : Int} (h1 : x ≤ d) (h2 : d ≤ y) : 1000000000 * q + (m - q) * d ≤ 1000000000 * apH m q x y := by
  unfold apH
  split
  · rename_i h
    have e := Int.mul_le_mul_of_nonneg_left h2 (show 0 ≤ m - q by omega)
    unfold shHi
    generalize (m - q) * y = u at *
    generalize (m - q) * d = v at *
    omega
  · rename_i h
    have e := Int.mul_le_mul_of_nonneg_left h1 (show 0 ≤ q - m by omega)
    have e2 : (m - q) * d = -((q - m) * d) := by rw [← Int.neg_mul]; congr 1; omega
    unfold shLo
    rw [e2]
    generalize (q - m) * x = u at *
    generalize (q - m) * d = v at *
    omega
theorem mix_le {l m p q d : Int} (hl : l ≤ m) (hp : p ≤ q) (d0 : 0 ≤ d) (d1 : d ≤ 1000000000) : 1000000000 * p + (l - p) * d ≤ 1000000000 * q + (m - q) * d := by
  have a := Int.mul_nonneg (show 0 ≤ m - l by omega) d0
  have b := Int.mul_nonneg (show 0 ≤ q - p by omega) (show 0 ≤ 1000000000 - d by omega)
  simp only [Int.sub_mul, Int.mul_sub] at *
  omega
theorem ap_le {l m p q x y : Int} (hl : l ≤ m) (hp : p ≤ q) (x0 : 0 ≤ x) (hxy : x ≤ y) (y1 : y ≤ 1000000000) : apL l p x y ≤ apH m q x y := by
  have a := apL_le (l := l) (p := p) (Int.le_refl x) hxy
  have b := le_apH (m := m) (q := q) (Int.le_refl x) hxy
  have c := mix_le hl hp x0 (Int.le_trans hxy y1)
  omega
/-- Loads whose ends lie in order. -/
def LdOrd (P : List Ld) : Prop := ∀ k, (hk : k < P.length) → P[k].a ≤ P[k].b ∧ P[k].c ≤ P[k].d
theorem mk_le {f t s : Int} {n : Nat} {j : Int} (s0 : 0 ≤ s) : mkLo f t s n j ≤ mkHi f t s n j := by
  unfold mkLo mkHi
  split
  · exact Int.le_refl _
  · exact Int.ediv_le_ediv (by omega) (by omega)
theorem ar_le {f t s : Int} {n j : Nat} (s0 : 0 ≤ s) : arLo f t s n j ≤ arHi f t s n j := by
  have := mk_le (f := f) (t := t) (n := n) (j := (j : Int)) s0
  unfold arLo arHi
  omega
theorem decle {s h : Int} (s0 : 0 ≤ s) (h0 : 1 ≤ h) (L : Nat) : decL s h L ≤ decH s h L := by
  obtain ⟨a, rfl⟩ := Int.eq_ofNat_of_zero_le s0
  obtain ⟨b, rfl⟩ := Int.eq_ofNat_of_zero_le (show 0 ≤ h by omega)
  exact dec_le a b L (by omega)
theorem stepR_ord {s : Int} {L : Nat} {T : List Cm} {P : List Ld} {p0 p1 p2 p3 : Int} (s0 : 0 ≤ s) (hPl : P.length = T.length) (hc : ∀ k, (hk : k < T.length) → (1 ≤ T[k].n ∧ T[k].n ≤ 100000) ∧ 1 ≤ T[k].h ∧ T[k].h ≤ 100000) (hP : LdOrd P) (h1 : p0 ≤ p1) (h2 : p2 ≤ p3) : LdOrd ((List.range T.length).map (stepR s L T P p0 p1 p2 p3)) := by
  intro k hk
  have hkt : k < T.length := by simpa using hk
  have hkp : k < P.length := by omega
  obtain ⟨⟨n0, _⟩, n2, _⟩ := hc k hkt
  obtain ⟨a, b⟩ := hP k hkp
  have e1 := dec_bd (s := s) (h := T[k].n) (by omega) L
  have e2 := dec_bd (s := s) (h := T[k].h) (by omega) L
  simp only [List.getElem_map, List.getElem_range]
  unfold stepR decAt
  rw [getD_of hkt, getD_of hkp]
  exact ⟨ap_le a h1 e1.1 (decle s0 n0 L) e1.2.2.2, ap_le b h2 e2.1 (decle s0 n2 L) e2.2.2.2⟩
theorem ldR_ord {f t s o h : Int} {n : Nat} {T : List Cm} {P : List Ld} (hPl : P.length = T.length) (hc : ∀ k, (hk : k < T.length) → (1 ≤ T[k].n ∧ T[k].n ≤ 100000) ∧ 1 ≤ T[k].h ∧ T[k].h ≤ 100000) (hP : LdOrd P) (s0 : 0 ≤ s) (o0 : 0 ≤ o) (h0 : 0 ≤ h) (oh : o + h ≤ 1000) : ∀ j, (ldR f t s n o h T P j).length = T.length ∧ LdOrd (ldR f t s n o h T P j)
  | 0 => ⟨hPl, hP⟩
  | j + 1 => by
    obtain ⟨i1, i2⟩ := ldR_ord hPl hc hP s0 o0 h0 oh j
    have a := ar_le (f := f) (t := t) (n := n) (j := j) s0
    have m := mkS_mono (s := s) (n := n) (j := j) s0
    refine ⟨by simp [ldR], ?_⟩
    unfold ldR
    exact stepR_ord (by omega) i1 hc i2 (Int.mul_le_mul_of_nonneg_left (by omega) (by omega)) (Int.mul_le_mul_of_nonneg_left (by omega) h0)
theorem ldord_of {T : List Cm} {L : List Ld} (hF : Fit T L) : LdOrd L := fun k hk => by
  have := lodE_ok (hF.ld k hk)
  omega
theorem tab_of {T : List Cm} {L : List Ld} (hq : loadsE T L = 0) : tabE T = 0 := by
  unfold loadsE at hq
  by_cases ht : tabE T = 0
  · exact ht
  · rw [if_neg ht] at hq; exact absurd hq ht
/-- The loads behind a leg are right loads for the table. -/
theorem ldR_fit {f t s o h : Int} {n : Nat} {T : List Cm} {L : List Ld} (hq : loadsE T L = 0) (hl : legE f t s o h = 0) (hn : n ≤ 6) {j : Nat} (hj : j ≤ stK s n) : loadsE T (ldR f t s n o h T L j) = 0 := by
  have hF := fit_of hq
  obtain ⟨a, b, c, d⟩ := leg_of hl
  obtain ⟨o0, o1, h0, h1, oh⟩ := gasE_z d
  obtain ⟨k1, k2⟩ := ldR_ok (f := f) (t := t) (s := s) (o := o) (h := h) (n := n) hF.len (tb_of hF).2.2 (ldok_of hF) a.1 a.2 b.1 b.2 c.1 hn o0 h0 oh j hj
  obtain ⟨_, k3⟩ := ldR_ord (f := f) (t := t) (s := s) (o := o) (h := h) (n := n) hF.len (tb_of hF).2.2 (ldord_of hF) c.1 o0 h0 oh j
  unfold loadsE
  rw [if_pos (tab_of hq), if_pos k1]
  refine fstE_z fun k hk => ?_
  obtain ⟨u1, u2, u3, u4⟩ := k2 k hk
  obtain ⟨v1, v2⟩ := k3 k hk
  exact lodE_7 (inB_true u1.1 u1.2) (inB_true u2.1 u2.2) (inB_true u3.1 u3.2) (inB_true u4.1 u4.2) (by omega) (by omega)
end Go.Proofs.Ytfaodlcfjhnhbaa
