/- Loads with two finenesses meet; loads inside others stay so. -/
import Derived.Test.YtfaodlcfjhnhbaaTTele
import Derived.Test.YtfaodlcfjhnhbaaTMeetL
import Derived.Outline
namespace Go.Proofs.Ytfaodlcfjhnhbaa
open Go.ChangeShapes Go.WideShapes Go.ChangeAt Go.RowKit
set_option linter.unusedVariables false
set_option linter.unusedSimpArgs false
/-- A mark of a coarser fineness is one of a finer. -/
theorem mkS_fine {s : Int} {n d : Nat} (j : Nat) : mkS s n j = mkS s (n + d) ((j * 2 ^ d : Nat) : Int) := by
  unfold mkS
  by_cases hs : s = 0
  · rw [if_pos hs, if_pos hs]
  · rw [if_neg hs, if_neg hs]
    have h2 : (0 : Int) < ((2 ^ d : Nat) : Int) := by exact_mod_cast Nat.two_pow_pos d
    rw [Nat.pow_add, Int.natCast_mul, Int.natCast_mul, show (j : Int) * ((2 ^ d : Nat) : Int) * s = j * s * ((2 ^ d : Nat) : Int) by rw [Int.mul_assoc, Int.mul_comm ((2 ^ d : Nat) : Int) s, ← Int.mul_assoc]]
    exact (Int.mul_ediv_mul_of_pos_left _ _ h2).symm
theorem mk_fine {f t s : Int} {n d : Nat} (j : Nat) : mkLo f t s n j = mkLo f t s (n + d) ((j * 2 ^ d : Nat) : Int) ∧ mkHi f t s n j = mkHi f t s (n + d) ((j * 2 ^ d : Nat) : Int) := by
  unfold mkLo mkHi
  rw [mkS_fine (s := s) (n := n) (d := d) j]
  exact ⟨rfl, rfl⟩
theorem mkS_up {s : Int} {n : Nat} (s0 : 0 ≤ s) : ∀ {i j : Nat}, i ≤ j → mkS s n (i : Nat) ≤ mkS s n (j : Nat) := by
  intro i j hij
  induction hij with
  | refl => exact Int.le_refl _
  | step _ ih => exact Int.le_trans ih (mkS_mono s0)
/-- Between two marks the pressure lies between those of both. -/
theorem mk_between {f t s : Int} {n a i b : Nat} (s0 : 0 ≤ s) (h1 : a ≤ i) (h2 : i ≤ b) : min (mkLo f t s n a) (mkLo f t s n b) ≤ mkLo f t s n i ∧ mkHi f t s n i ≤ max (mkHi f t s n a) (mkHi f t s n b) := by
  unfold mkLo mkHi
  by_cases hs : s = 0
  · rw [if_pos hs, if_pos hs, if_pos hs, if_pos hs, if_pos hs, if_pos hs]; omega
  · rw [if_neg hs, if_neg hs, if_neg hs, if_neg hs, if_neg hs, if_neg hs]
    have u1 := mkS_up (n := n) s0 h1
    have u2 := mkS_up (n := n) s0 h2
    generalize mkS s n (a : Nat) = x at *
    generalize mkS s n (i : Nat) = y at *
    generalize mkS s n (b : Nat) = z at *
    have e : ∀ q, mkP f t s q = f * s + (t - f) * q := fun q => by unfold mkP; rw [Int.mul_sub, Int.sub_mul]; omega
    rw [e, e, e]
    by_cases hft : f ≤ t
    · have m1 := Int.mul_le_mul_of_nonneg_left u1 (show 0 ≤ t - f by omega)
      have m2 := Int.mul_le_mul_of_nonneg_left u2 (show 0 ≤ t - f by omega)
      have d1 := Int.ediv_le_ediv (show 0 < s by omega) (show f * s + (t - f) * x ≤ f * s + (t - f) * y by omega)
      have d2 := Int.ediv_le_ediv (show 0 < s by omega) (show f * s + (t - f) * y + s - 1 ≤ f * s + (t - f) * z + s - 1 by omega)
      omega
    · have m1 := Int.mul_le_mul_of_nonneg_left u1 (show 0 ≤ f - t by omega)
      have m2 := Int.mul_le_mul_of_nonneg_left u2 (show 0 ≤ f - t by omega)
      have n1 : ∀ q, (t - f) * q = -((f - t) * q) := fun q => by rw [← Int.neg_mul]; congr 1; omega
      have d1 := Int.ediv_le_ediv (show 0 < s by omega) (show f * s + (t - f) * z ≤ f * s + (t - f) * y by rw [n1, n1]; omega)
      have d2 := Int.ediv_le_ediv (show 0 < s by omega) (show f * s + (t - f) * y + s - 1 ≤ f * s + (t - f) * x + s - 1 by rw [n1, n1]; omega)
      omega
/-- What a fine step breathes lies within what the coarse step around it breathes. -/
theorem ar_fine {f t s : Int} {n d j i : Nat} (s0 : 0 ≤ s) (h1 : j * 2 ^ d ≤ i) (h2 : i + 1 ≤ (j + 1) * 2 ^ d) : arLo f t s n j ≤ arLo f t s (n + d) i ∧ arHi f t s (n + d) i ≤ arHi f t s n j := by
  have a := mk_between (f := f) (t := t) (n := n + d) s0 h1 (show i ≤ (j + 1) * 2 ^ d by omega)
  have b := mk_between (f := f) (t := t) (n := n + d) s0 (show j * 2 ^ d ≤ i + 1 by omega) h2
  have e := mk_fine (f := f) (t := t) (s := s) (n := n) (d := d) j
  have e' := mk_fine (f := f) (t := t) (s := s) (n := n) (d := d) (j + 1)
  unfold arLo arHi
  rw [e.1, e'.1, e.2, e'.2]
  omega
/-- THE LOADS OF ONE COARSE STEP, from loads that meet. -/
theorem step_meets {f t s o h : Int} {n d : Nat} {T : List Cm} {P Q : List Ld} (hT : TbOk T) (s0 : 0 ≤ s) (o0 : 0 ≤ o) (h0 : 0 ≤ h) (oh : o + h ≤ 1000) (j : Nat) (hlp : (ldR f t s n o h T P j).length = T.length) (hlq : (ldR f t s (n + d) o h T Q (j * 2 ^ d)).length = T.length)
    (hm : MeetL (ldR f t s n o h T P j) (ldR f t s (n + d) o h T Q (j * 2 ^ d))) : MeetL (ldR f t s n o h T P (j + 1)) (ldR f t s (n + d) o h T Q ((j + 1) * 2 ^ d)) := by
  intro k h1 h2
  have hkt : k < T.length := by simpa [ldR] using h1
  obtain ⟨⟨n1, _⟩, n2, _⟩ := hT.2.2 k hkt
  obtain ⟨m1, m2, m3, m4⟩ := hm k (by omega) (by omega)
  have eT : T.getD k default = T[k] := getD_of hkt
  rw [← getD_of h1, ← getD_of h2]
  rw [← getD_of (show k < (ldR f t s n o h T P j).length by omega), ← getD_of (show k < (ldR f t s (n + d) o h T Q (j * 2 ^ d)).length by omega)] at m1 m2 m3 m4
  have hc := ldR_at (f := f) (t := t) (s := s) (o := o) (h := h) (n := n) (T := T) (P := P) hkt j
  have hf := fun i => ldR_at (f := f) (t := t) (s := s) (o := o) (h := h) (n := n + d) (T := T) (P := Q) hkt (j * 2 ^ d + i)
  have hmm : ∀ i, i < 2 ^ d → mkS s (n + d) ((j * 2 ^ d + i : Nat) : Int) ≤ mkS s (n + d) ((j * 2 ^ d + (i + 1) : Nat) : Int) := fun i _ => mkS_mono s0
  have har := fun i (hi : i < 2 ^ d) => ar_fine (f := f) (t := t) (n := n) (d := d) (j := j) (i := j * 2 ^ d + i) s0 (by omega) (by rw [Nat.succ_mul]; omega)
  have hal := fun i => ar_le (f := f) (t := t) (n := n + d) (j := i) s0
  have ej : (j + 1) * 2 ^ d = j * 2 ^ d + 2 ^ d := Nat.succ_mul _ _
  have e1 : mkS s n ((j + 1 : Nat) : Int) = mkS s (n + d) ((j * 2 ^ d + 2 ^ d : Nat) : Int) := by rw [mkS_fine (d := d) (j + 1), ej]
  have e2 : mkS s n (j : Nat) = mkS s (n + d) ((j * 2 ^ d + 0 : Nat) : Int) := mkS_fine (d := d) j
  have hN : 0 ≤ 1000 - o - h := by omega
  rw [ej]
  rw [hc, e1, e2]
  generalize hV : (ldR f t s n o h T P j) = V at *
  refine ⟨?_, ?_, ?_, ?_⟩
  · have := one_tele (fun i => mkS s (n + d) ((j * 2 ^ d + i : Nat) : Int)) T[k].n (8 + 2 * (n + d)) (8 + 2 * n) n1 ((1000 - o - h) * (arLo f t s n j - 63)) (V.getD k default).a (fun i => (1000 - o - h) * (arHi f t s (n + d) (j * 2 ^ d + i) - 63)) (fun i => ((ldR f t s (n + d) o h T Q (j * 2 ^ d + i)).getD k default).b) (2 ^ d) hmm m1 (fun i hi => ⟨Int.mul_le_mul_of_nonneg_left (by have := (har i hi).1; have := hal (j * 2 ^ d + i); omega) hN, by
      show ((ldR f t s (n + d) o h T Q (j * 2 ^ d + i + 1)).getD k default).b = _
      rw [hf i]; unfold stepR decAt; rw [eT]; rfl⟩)
    refine Int.le_trans (Int.le_of_eq ?_) this
    unfold stepR decAt
    rw [eT]
  · have := tele_one (fun i => mkS s (n + d) ((j * 2 ^ d + i : Nat) : Int)) T[k].n (8 + 2 * (n + d)) (8 + 2 * n) n1 ((1000 - o - h) * (arHi f t s n j - 63)) (V.getD k default).b (fun i => (1000 - o - h) * (arLo f t s (n + d) (j * 2 ^ d + i) - 63)) (fun i => ((ldR f t s (n + d) o h T Q (j * 2 ^ d + i)).getD k default).a) (2 ^ d) hmm m2 (fun i hi => ⟨Int.mul_le_mul_of_nonneg_left (by have := (har i hi).2; have := hal (j * 2 ^ d + i); omega) hN, by
      show ((ldR f t s (n + d) o h T Q (j * 2 ^ d + i + 1)).getD k default).a = _
      rw [hf i]; unfold stepR decAt; rw [eT]; rfl⟩)
    refine Int.le_trans this (Int.le_of_eq ?_)
    unfold stepR decAt
    rw [eT]
  · have := one_tele (fun i => mkS s (n + d) ((j * 2 ^ d + i : Nat) : Int)) T[k].h (8 + 2 * (n + d)) (8 + 2 * n) n2 (h * (arLo f t s n j - 63)) (V.getD k default).c (fun i => h * (arHi f t s (n + d) (j * 2 ^ d + i) - 63)) (fun i => ((ldR f t s (n + d) o h T Q (j * 2 ^ d + i)).getD k default).d) (2 ^ d) hmm m3 (fun i hi => ⟨Int.mul_le_mul_of_nonneg_left (by have := (har i hi).1; have := hal (j * 2 ^ d + i); omega) h0, by
      show ((ldR f t s (n + d) o h T Q (j * 2 ^ d + i + 1)).getD k default).d = _
      rw [hf i]; unfold stepR decAt; rw [eT]; rfl⟩)
    refine Int.le_trans (Int.le_of_eq ?_) this
    unfold stepR decAt
    rw [eT]
  · have := tele_one (fun i => mkS s (n + d) ((j * 2 ^ d + i : Nat) : Int)) T[k].h (8 + 2 * (n + d)) (8 + 2 * n) n2 (h * (arHi f t s n j - 63)) (V.getD k default).d (fun i => h * (arLo f t s (n + d) (j * 2 ^ d + i) - 63)) (fun i => ((ldR f t s (n + d) o h T Q (j * 2 ^ d + i)).getD k default).c) (2 ^ d) hmm m4 (fun i hi => ⟨Int.mul_le_mul_of_nonneg_left (by have := (har i hi).2; have := hal (j * 2 ^ d + i); omega) h0, by
      show ((ldR f t s (n + d) o h T Q (j * 2 ^ d + i + 1)).getD k default).c = _
      rw [hf i]; unfold stepR decAt; rw [eT]; rfl⟩)
    refine Int.le_trans this (Int.le_of_eq ?_)
    unfold stepR decAt
    rw [eT]
theorem ldR_len {f t s o h : Int} {n : Nat} {T : List Cm} {P : List Ld} (hP : P.length = T.length) : ∀ j, (ldR f t s n o h T P j).length = T.length
  | 0 => hP
  | j + 1 => by simp [ldR]
theorem marks_meet {f t s o h : Int} {n d : Nat} {T : List Cm} {P Q : List Ld} (hT : TbOk T) (s0 : 0 ≤ s) (o0 : 0 ≤ o) (h0 : 0 ≤ h) (oh : o + h ≤ 1000) (hP : P.length = T.length) (hQ : Q.length = T.length) (hm : MeetL P Q) : ∀ j, MeetL (ldR f t s n o h T P j) (ldR f t s (n + d) o h T Q (j * 2 ^ d))
  | 0 => by rw [Nat.zero_mul]; exact hm
  | j + 1 => step_meets hT s0 o0 h0 oh j (ldR_len hP _) (ldR_len hQ _) (marks_meet hT s0 o0 h0 oh hP hQ hm j)
theorem stK_fine {s : Int} {n d : Nat} : stK s (n + d) = stK s n * 2 ^ d := by
  unfold stK
  split
  · rw [Nat.zero_mul]
  · exact Nat.pow_add 2 n d
theorem MeetL.symm {P Q : List Ld} (hm : MeetL P Q) : MeetL Q P := fun k h1 h2 => by
  obtain ⟨a, b, c, d⟩ := hm k h2 h1
  exact ⟨b, a, d, c⟩
/-- ENCLOSURES MEET: the loads behind a leg with two finenesses. -/
theorem leg_meets {f t s o h : Int} {n m : Nat} {T : List Cm} {P Q : List Ld} (hT : TbOk T) (hl : legE f t s o h = 0) (hP : P.length = T.length) (hQ : Q.length = T.length) (hm : MeetL P Q) : MeetL (ldR f t s n o h T P (stK s n)) (ldR f t s m o h T Q (stK s m)) := by
  obtain ⟨_, _, c, g⟩ := leg_of hl
  obtain ⟨o0, _, h0, _, oh⟩ := gasE_z g
  rcases Nat.le_total n m with hnm | hnm
  · obtain ⟨d, rfl⟩ := Nat.exists_eq_add_of_le hnm
    rw [stK_fine]
    exact marks_meet hT c.1 o0 h0 oh hP hQ hm _
  · obtain ⟨d, rfl⟩ := Nat.exists_eq_add_of_le hnm
    rw [stK_fine]
    exact (marks_meet hT c.1 o0 h0 oh hQ hP hm.symm _).symm
theorem apL_mono {l m p x y : Int} (hlm : l ≤ m) (x0 : 0 ≤ x) (y0 : 0 ≤ y) : apL l p x y ≤ apL m p x y := by
  unfold apL shLo shHi
  by_cases h1 : p ≤ l
  · rw [if_pos h1, if_pos (by omega)]
    have := Int.mul_le_mul_of_nonneg_right (show l - p ≤ m - p by omega) x0
    generalize (l - p) * x = u at *
    generalize (m - p) * x = v at *
    omega
  · rw [if_neg h1]
    have a := Int.mul_nonneg (show 0 ≤ p - l by omega) y0
    by_cases h2 : p ≤ m
    · rw [if_pos h2]
      have b := Int.mul_nonneg (show 0 ≤ m - p by omega) x0
      generalize (p - l) * y = u at *
      generalize (m - p) * x = v at *
      omega
    · rw [if_neg h2]
      have b := Int.mul_le_mul_of_nonneg_right (show p - m ≤ p - l by omega) y0
      generalize (p - l) * y = u at *
      generalize (p - m) * y = v at *
      omega
theorem apH_mono {l m p x y : Int} (hlm : l ≤ m) (x0 : 0 ≤ x) (y0 : 0 ≤ y) : apH l p x y ≤ apH m p x y := by
  have := apL_mono (l := -m) (m := -l) (p := -p) (x := x) (y := y) (by omega) x0 y0
  rw [apL_turn, apL_turn] at this
  omega
/-- Loads that lie in others. -/
def InL (P Q : List Ld) : Prop := ∀ k, (h1 : k < P.length) → (h2 : k < Q.length) → Q[k].a ≤ P[k].a ∧ P[k].b ≤ Q[k].b ∧ Q[k].c ≤ P[k].c ∧ P[k].d ≤ Q[k].d
theorem ldR_in {f t s o h : Int} {n : Nat} {T : List Cm} {P Q : List Ld} (hT : TbOk T) (hP : P.length = T.length) (hQ : Q.length = T.length) (hi : InL P Q) : ∀ j, InL (ldR f t s n o h T P j) (ldR f t s n o h T Q j)
  | 0 => hi
  | j + 1 => by
    intro k h1 h2
    have hkt : k < T.length := by simpa [ldR] using h1
    obtain ⟨⟨n1, _⟩, n2, _⟩ := hT.2.2 k hkt
    have kp : k < (ldR f t s n o h T P j).length := by rw [ldR_len hP]; exact hkt
    have kq : k < (ldR f t s n o h T Q j).length := by rw [ldR_len hQ]; exact hkt
    obtain ⟨m1, m2, m3, m4⟩ := ldR_in (f := f) (t := t) (s := s) (o := o) (h := h) (n := n) hT hP hQ hi j k kp kq
    have b1 := dec_bd (s := mkS s n ((j + 1 : Nat) : Int) - mkS s n (j : Nat)) (h := T[k].n) (by omega) (8 + 2 * n)
    have b2 := dec_bd (s := mkS s n ((j + 1 : Nat) : Int) - mkS s n (j : Nat)) (h := T[k].h) (by omega) (8 + 2 * n)
    have eT : T.getD k default = T[k] := getD_of hkt
    rw [← getD_of h1, ← getD_of h2, ldR_at hkt j, ldR_at hkt j]
    unfold stepR decAt
    rw [eT, getD_of kp, getD_of kq]
    exact ⟨apL_mono m1 b1.1 b1.2.2.1, apH_mono m2 b1.1 b1.2.2.1, apL_mono m3 b2.1 b2.2.2.1, apH_mono m4 b2.1 b2.2.2.1⟩
end Go.Proofs.Ytfaodlcfjhnhbaa
