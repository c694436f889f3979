/- The loads at the marks of a leg, as numbers. -/
import Derived.Test.YtfaodlcfjhnhbaaTSteps
import Derived.Test.YtfaodlcfjhnhbaaMMarks
import Derived.Outline
namespace Go.Proofs.Ytfaodlcfjhnhbaa
open Go.ChangeShapes Go.WideShapes Go.ChangeAt Go.RowKit
set_option linter.unusedVariables false
set_option linter.unusedSimpArgs false
/-- The k-th load behind a step of s seconds at p0 to p1 of nitrogen and p2 to p3 of helium. -/
noncomputable def stepR (s : Int) (L : Nat) (T : List Cm) (P : List Ld) (p0 p1 p2 p3 : Int) (k : Nat) : Ld := ⟨apL (P.getD k default).a p0 (decAt s L T k).a (decAt s L T k).b, apH (P.getD k default).b p1 (decAt s L T k).a (decAt s L T k).b, apL (P.getD k default).c p2 (decAt s L T k).c (decAt s L T k).d, apH (P.getD k default).d p3 (decAt s L T k).c (decAt s L T k).d⟩
theorem stepR_eq {s : Int} {L : Nat} {T : List Cm} {P : List Ld} {p0 p1 p2 p3 : Int} {n k : Nat} (hk : k < n) : stepAt p0 p1 p2 p3 P ((List.range n).map (decAt s L T)) k = stepR s L T P p0 p1 p2 p3 k := by
  have e : ((List.range n).map (decAt s L T)).getD k default = decAt s L T k := by
    rw [getD_of (by simpa using hk)]; simp
  unfold stepAt stepR
  rw [e]
def stK (s : Int) (n : Nat) : Nat := if s = 0 then 0 else 2 ^ n
/-- The least and the greatest pressure between the j-th mark and the next. -/
def arLo (f t s : Int) (n j : Nat) : Int := min (mkLo f t s n j) (mkLo f t s n ((j + 1 : Nat) : Int))
def arHi (f t s : Int) (n j : Nat) : Int := max (mkHi f t s n j) (mkHi f t s n ((j + 1 : Nat) : Int))
/-- The loads at the j-th mark. -/
noncomputable def ldR (f t s : Int) (n : Nat) (o h : Int) (T : List Cm) (P : List Ld) : Nat → List Ld
  | 0 => P
  | j + 1 => (List.range T.length).map (stepR (mkS s n ((j + 1 : Nat) : Int) - mkS s n j) (8 + 2 * n) T (ldR f t s n o h T P j) ((1000 - o - h) * (arLo f t s n j - 63)) ((1000 - o - h) * (arHi f t s n j - 63)) (h * (arLo f t s n j - 63)) (h * (arHi f t s n j - 63)))
/-- Loads within the limits. -/
def LdOk (P : List Ld) : Prop := ∀ k, (hk : k < P.length) → (0 ≤ P[k].a ∧ P[k].a ≤ 100000000) ∧ (0 ≤ P[k].b ∧ P[k].b ≤ 100000000) ∧ (0 ≤ P[k].c ∧ P[k].c ≤ 100000000) ∧ 0 ≤ P[k].d ∧ P[k].d ≤ 100000000
theorem stK_le {s : Int} {n j : Nat} (h : j ≤ stK s n) : (j : Int) ≤ ((2 ^ n : Nat) : Int) := by
  unfold stK at h
  split at h
  · have := Nat.one_le_two_pow (n := n); omega
  · exact_mod_cast h
theorem ar_bd {f t s : Int} {n j : Nat} (f0 : 400 ≤ f) (f1 : f ≤ 31100) (t0 : 400 ≤ t) (t1 : t ≤ 31100) (s0 : 0 ≤ s) (hn : n ≤ 6) (hj : j + 1 ≤ stK s n) : (400 ≤ arLo f t s n j ∧ arLo f t s n j ≤ 31100) ∧ 400 ≤ arHi f t s n j ∧ arHi f t s n j ≤ 31100 := by
  have a := mk_bd (j := (j : Int)) f0 f1 t0 t1 s0 hn (by omega) (stK_le (s := s) (by omega))
  have b := mk_bd (j := ((j + 1 : Nat) : Int)) f0 f1 t0 t1 s0 hn (by omega) (stK_le (s := s) hj)
  unfold arLo arHi
  omega
theorem mkS_mono {s : Int} {n j : Nat} (s0 : 0 ≤ s) : mkS s n j ≤ mkS s n ((j + 1 : Nat) : Int) := by
  unfold mkS
  split
  · omega
  · refine Int.ediv_le_ediv (by have := Nat.one_le_two_pow (n := n); omega) (Int.mul_le_mul_of_nonneg_right (by omega) s0)
theorem brz_bd {N p : Int} (n0 : 0 ≤ N) (n1 : N ≤ 1000) (p0 : 400 ≤ p) (p1 : p ≤ 31100) : 0 ≤ N * (p - 63) ∧ N * (p - 63) ≤ 100000000 :=
  ⟨Int.mul_nonneg n0 (by omega), Int.le_trans (Int.mul_le_mul n1 (show p - 63 ≤ 31037 by omega) (by omega) (by omega)) (by omega)⟩
theorem stepR_ok {s : Int} {L : Nat} {T : List Cm} {P : List Ld} {p0 p1 p2 p3 : Int} (hPl : P.length = T.length) (hc : ∀ k, (hk : k < T.length) → (1 ≤ T[k].n ∧ T[k].n ≤ 100000) ∧ 1 ≤ T[k].h ∧ T[k].h ≤ 100000) (hP : LdOk P) (h0 : 0 ≤ p0 ∧ p0 ≤ 100000000) (h1 : 0 ≤ p1 ∧ p1 ≤ 100000000) (h2 : 0 ≤ p2 ∧ p2 ≤ 100000000) (h3 : 0 ≤ p3 ∧ p3 ≤ 100000000) : LdOk ((List.range T.length).map (stepR s L T P p0 p1 p2 p3)) := by
  intro k hk
  have hkt : k < T.length := by simpa using hk
  have hkp : k < P.length := by omega
  obtain ⟨⟨n0, _⟩, n2, _⟩ := hc k hkt
  obtain ⟨a, b, c, d⟩ := hP k hkp
  have e1 := dec_bd (s := s) (h := T[k].n) (by omega) L
  have e2 := dec_bd (s := s) (h := T[k].h) (by omega) L
  simp only [List.getElem_map, List.getElem_range]
  unfold stepR decAt
  rw [getD_of hkt, getD_of hkp]
  exact ⟨apL_bd a.1 a.2 h0.1 h0.2 e1.1 e1.2.1 e1.2.2.1 e1.2.2.2, apH_bd b.1 b.2 h1.1 h1.2 e1.1 e1.2.1 e1.2.2.1 e1.2.2.2, apL_bd c.1 c.2 h2.1 h2.2 e2.1 e2.2.1 e2.2.2.1 e2.2.2.2, apH_bd d.1 d.2 h3.1 h3.2 e2.1 e2.2.1 e2.2.2.1 e2.2.2.2⟩
theorem ldR_ok {f t s o h : Int} {n : Nat} {T : List Cm} {P : List Ld} (hPl : P.length = T.length) (hc : ∀ k, (hk : k < T.length) → (1 ≤ T[k].n ∧ T[k].n ≤ 100000) ∧ 1 ≤ T[k].h ∧ T[k].h ≤ 100000) (hP : LdOk P) (f0 : 400 ≤ f) (f1 : f ≤ 31100) (t0 : 400 ≤ t) (t1 : t ≤ 31100) (s0 : 0 ≤ s) (hn : n ≤ 6) (o0 : 0 ≤ o) (h0 : 0 ≤ h) (oh : o + h ≤ 1000) : ∀ j, j ≤ stK s n → (ldR f t s n o h T P j).length = T.length ∧ LdOk (ldR f t s n o h T P j)
  | 0, _ => ⟨hPl, hP⟩
  | j + 1, hj => by
    obtain ⟨i1, i2⟩ := ldR_ok hPl hc hP f0 f1 t0 t1 s0 hn o0 h0 oh j (by omega)
    obtain ⟨⟨a1, a2⟩, b1, b2⟩ := ar_bd f0 f1 t0 t1 s0 hn hj
    refine ⟨by simp [ldR], ?_⟩
    unfold ldR
    exact stepR_ok i1 hc i2 (brz_bd (by omega) (by omega) a1 a2) (brz_bd (by omega) (by omega) b1 b2) (brz_bd h0 (by omega) a1 a2) (brz_bd h0 (by omega) b1 b2)
def LoadedL (n : Nat) (P : List Ld) (w : World) (e : Ending) (w' : World) : Prop := ∃ A cap, e = .returned (.slice A n cap) ∧ SlLd w' A P ∧ Below w.heap.size w w'
end Go.Proofs.Ytfaodlcfjhnhbaa
