import Derived.Test.YtcmakopcamdaoaaMLimits
import Derived.Test.YtcmakopcamdaoaaMRefChk
import Derived.Test.YtcmakopcamdaoaaMSmall
import Derived.Deep.DrawnRows
import Derived.Outline
import Derived.Test.YtcmakopcamdaoaaTCeil
import Derived.Deep.CutRange
import Derived.Deep.CutBlock
import Derived.Test.YtcmakopcamdaoaaTAwake
/- Limits at a pressure: the program's line, and the specification's. -/
namespace Go.Proofs.Ytcmakopcamdaoaa
open Go.ChangeShapes Go.WideShapes Go.ChangeAt Go.RowKit
set_option linter.unusedVariables false
set_option linter.unusedSimpArgs false
attribute [local go_sem ↓] Go.wp_at_zero Go.wp_at_succ
/-- The limit of a compartment with base b and slope s at a pressure, with a factor; in millionths of a millibar. -/
def limV (b s f p : Int) : Int := f * 1000 * b + (1000000 + f * (s - 1000)) * p
theorem limV_ref (b s f p : Int) : 1000000 * p + f * (1000 * b + (s - 1000) * p) = limV b s f p := by
  unfold limV
  grind
theorem base_bd {b f : Int} (f0 : 0 ≤ f) (f1 : f ≤ 1000) (b0 : 0 ≤ b) (b1 : b ≤ 10000) : 0 ≤ f * 1000 * b ∧ f * 1000 * b ≤ 10000000000 :=
  ⟨Int.mul_nonneg (by omega) b0, Int.le_trans (Int.mul_le_mul (show f * 1000 ≤ 1000000 by omega) b1 b0 (by omega)) (by omega)⟩
theorem slope_bd {s f : Int} (f0 : 0 ≤ f) (f1 : f ≤ 1000) (s0 : 1000 ≤ s) (s1 : s ≤ 10000) : 1000000 ≤ 1000000 + f * (s - 1000) ∧ 1000000 + f * (s - 1000) ≤ 10000000 := by
  have := Int.mul_nonneg f0 (show 0 ≤ s - 1000 by omega)
  have := Int.mul_le_mul f1 (show s - 1000 ≤ 9000 by omega) (by omega) (show (0 : Int) ≤ 1000 by omega)
  omega
theorem line_bd {S p : Int} (s0 : 0 ≤ S) (s1 : S ≤ 10000000) (p0 : 0 ≤ p) (p1 : p ≤ 31100) : 0 ≤ S * p ∧ S * p ≤ 311000000000 :=
  ⟨Int.mul_nonneg s0 p0, Int.le_trans (Int.mul_le_mul s1 p1 p0 (by omega)) (by omega)⟩
theorem lim_bd {b s f p : Int} (f0 : 0 ≤ f) (f1 : f ≤ 1000) (b0 : 0 ≤ b) (b1 : b ≤ 10000) (s0 : 1000 ≤ s) (s1 : s ≤ 10000) (p0 : 0 ≤ p) (p1 : p ≤ 31100) : 0 ≤ limV b s f p ∧ limV b s f p ≤ 321000000000 := by
  have h1 := base_bd f0 f1 b0 b1
  have h2 := slope_bd f0 f1 s0 s1
  have h3 := line_bd (S := 1000000 + f * (s - 1000)) (by omega) (by omega) p0 p1
  unfold limV
  omega
end Go.Proofs.Ytcmakopcamdaoaa

/- Whether loads keep the limits at a pressure: tissue.keptAt. -/
namespace Go.Proofs.Ytcmakopcamdaoaa
open Go.ChangeShapes Go.WideShapes Go.ChangeAt Go.RowKit
set_option linter.unusedVariables false
set_option linter.unusedSimpArgs false
attribute [local go_sem ↓] Go.wp_at_zero Go.wp_at_succ
/-- Whether loads keep the limits, with an answer so far: 0 not, 1 perhaps, 2 surely. -/
def keptR (p f : Int) : List Cm → List Ld → Int → Int
  | x :: T, y :: L, a => if 1000 * (y.a + y.c) ≤ limV x.b x.s f p then keptR p f T L (if 1000 * (y.b + y.d) ≤ limV x.b x.s f p then a else 1) else 0
  | _, _, a => a
theorem keptR_drop {p f : Int} {T : List Cm} {L : List Ld} {k : Nat} (hk : k < T.length) (hk' : k < L.length) (a : Int) : keptR p f (T.drop k) (L.drop k) a = if 1000 * (L[k].a + L[k].c) ≤ limV T[k].b T[k].s f p then keptR p f (T.drop (k + 1)) (L.drop (k + 1)) (if 1000 * (L[k].b + L[k].d) ≤ limV T[k].b T[k].s f p then a else 1) else 0 := by
  rw [List.drop_eq_getElem_cons hk, List.drop_eq_getElem_cons hk', keptR]
theorem keptR_end {p f : Int} {T : List Cm} {L : List Ld} {k : Nat} (hk : T.length ≤ k) (a : Int) : keptR p f (T.drop k) (L.drop k) a = a := by
  rw [List.drop_eq_nil_of_le hk, keptR]
  intro x T' y L' h; cases h
theorem cmp_ok {x : Cm} (h : compE x = 0) : (1 ≤ x.n ∧ x.n ≤ 100000) ∧ (1 ≤ x.h ∧ x.h ≤ 100000) ∧ (0 ≤ x.b ∧ x.b ≤ 10000) ∧ (1000 ≤ x.s ∧ x.s ≤ 10000) := by
  unfold compE cmpE at h
  rcases inB_cases x.n 1 100000 with h1 | h1
  · rcases inB_cases x.h 1 100000 with h2 | h2
    · rcases inB_cases x.b 0 10000 with h3 | h3
      · rcases inB_cases x.s 1000 10000 with h4 | h4
        · exact ⟨inB_iff.1 h1, inB_iff.1 h2, inB_iff.1 h3, inB_iff.1 h4⟩
        · rw [rngE_t h1, rngE_t h2, rngE_t h3, rngE_f h4] at h; simp [firE] at h
      · rw [rngE_t h1, rngE_t h2, rngE_f h3] at h; simp [firE] at h
    · rw [rngE_t h1, rngE_f h2] at h; simp [firE] at h
  · rw [rngE_f h1] at h; simp [firE] at h
/-- A right table with right loads. -/
structure Fit (T : List Cm) (L : List Ld) : Prop where
  len : L.length = T.length
  one : 1 ≤ T.length
  most : T.length ≤ 16
  cm : ∀ k, (hk : k < T.length) → compE T[k] = 0
  ld : ∀ k, (hk : k < L.length) → loadE L[k] = 0
theorem fit_of {T : List Cm} {L : List Ld} (h : loadsE T L = 0) : Fit T L := by
  unfold loadsE at h
  by_cases ht : tabE T = 0
  · rw [if_pos ht] at h
    by_cases hl : L.length = T.length
    · rw [if_pos hl] at h
      unfold tabE at ht
      rcases inB_cases (T.length : Int) 1 16 with h1 | h1
      · rw [if_pos h1] at ht
        have := inB_iff.1 h1
        exact ⟨hl, by omega, by omega, fun k hk => fstE_all ht k hk, fun k hk => fstE_all h k hk⟩
      · rw [if_neg (by rw [h1]; exact Bool.false_ne_true)] at ht; cases ht
    · rw [if_neg hl] at h; cases h
  · rw [if_neg ht] at h; exact absurd h ht
end Go.Proofs.Ytcmakopcamdaoaa

/- Whether loads keep the limits at a pressure: tissue.KeptAt, and the specification's. -/
namespace Go.Proofs.Ytcmakopcamdaoaa
open Go.ChangeShapes Go.WideShapes Go.ChangeAt Go.RowKit
set_option linter.unusedVariables false
set_option linter.unusedSimpArgs false
attribute [local go_sem ↓] Go.wp_at_zero Go.wp_at_succ
/-- The first error of a table with loads, a pressure and a factor. -/
def keptE (T : List Cm) (L : List Ld) (p f : Int) : Int := firE [loadsE T L, rngE p 400 31100, rngE f 0 1000]
theorem CheckLoads_is (T : List Cm) (L : List Ld) (A B : Option Addr) (cap cap' : Nat) (r : Int) (w : World) (hl : T.length ≤ 1000000) (hl' : L.length ≤ 1000000) (hr : Hid (loadsE T L = r)) (hT : SlCm w A T) (hL : SlLd w B L) :
    Calls Try.prog 17 #[.slice A T.length cap, .slice B L.length cap'] w fun e w' => e = .returned (.int .i64 r) ∧ Below w.heap.size w w' := by
  rw [← hr.out]; exact CheckLoads_any T L A B cap cap' w hl hl' hT hL
end Go.Proofs.Ytcmakopcamdaoaa

/- Whether loads keep the limits at a pressure: the specification's KeptAt. -/
namespace Go.Proofs.Ytcmakopcamdaoaa
open Go.ChangeShapes Go.WideShapes Go.ChangeAt Go.RowKit
set_option linter.unusedVariables false
set_option linter.unusedSimpArgs false
attribute [local go_sem ↓] Go.wp_at_zero Go.wp_at_succ
end Go.Proofs.Ytcmakopcamdaoaa

/- Small contracts for the statements on limits: light, KeptAt at every input. -/
namespace Go.Proofs.Ytcmakopcamdaoaa
open Go.ChangeShapes Go.WideShapes Go.ChangeAt Go.RowKit
set_option linter.unusedVariables false
set_option linter.unusedSimpArgs false
attribute [local go_sem ↓] Go.wp_at_zero Go.wp_at_succ
theorem light_is (T : List Cm) (L : List Ld) (A B : Option Addr) (cap cap' : Nat) (fr tz se o hh fi : Int) (r : Bool) (w : World) (hl : L.length ≤ 9223372036854775807) (hr : Hid ((fewB T.length && decide (L.length ≤ 19)) = r)) :
    Calls Try.prog 8 #[.agg #[.slice A T.length cap, .slice B L.length cap', .int .i64 fr, .int .i64 tz, .int .i64 se, .int .i64 o, .int .i64 hh, .int .i64 fi]] w fun e w' => e = .returned (.bool r) ∧ Below w.heap.size w w' := by
  cases hf : fewB T.length with
  | false =>
    have HF := Lib.hid (fun w => few_is T.length A cap false w (Lib.hid hf))
    have hv : Hid (r = false) := by show _ = _; rw [← hr.out, hf]; rfl
    clear hf hr
    go_enter Try.func8, Try.ntmps8
    go_wp2_with ((go_at_call 18; ((with_reducible refine (HF.out _).mono ?_)); rintro e w' ⟨rfl, rfl⟩))
    go_ret
    exact ⟨by first | exact ret_bool hv.out.symm | exact ret_bool (by rw [hv.out]; simp; omega), (by (repeat (first | (with_reducible refine Below.drew ?_) | (with_reducible refine below_drewN ?_ _) | (with_reducible refine Below.alloc ?_ (by first | omega | (simp; done) | (simp; omega) | (simp at *; omega)) _) | (with_reducible refine Below.setCell ?_ (by first | omega | (simp; done) | (simp; omega) | (simp at *; omega)) _) | (with_reducible exact Below.refl _ _) | (with_reducible assumption) | (with_reducible refine Below.trans ?_ (Below.mono (by assumption) (by first | omega | (simp; done) | (simp; omega) | (simp at *; omega)))))))⟩
  | true =>
    have HF := Lib.hid (fun w => few_is T.length A cap true w (Lib.hid hf))
    by_cases h19 : L.length ≤ 19
    · have h19' : (L.length : Int) ≤ 19 := by omega
      have hv : Hid (r = true) := by show _ = _; rw [← hr.out, hf]; simp [h19]
      clear hf hr h19
      go_enter Try.func8, Try.ntmps8
      go_wp2_with ((go_at_call 18; ((with_reducible refine (HF.out _).mono ?_)); rintro e w' ⟨rfl, rfl⟩))
      go_ret
      exact ⟨by first | exact ret_bool hv.out.symm | exact ret_bool (by rw [hv.out]; simp; omega), (by (repeat (first | (with_reducible refine Below.drew ?_) | (with_reducible refine below_drewN ?_ _) | (with_reducible refine Below.alloc ?_ (by first | omega | (simp; done) | (simp; omega) | (simp at *; omega)) _) | (with_reducible refine Below.setCell ?_ (by first | omega | (simp; done) | (simp; omega) | (simp at *; omega)) _) | (with_reducible exact Below.refl _ _) | (with_reducible assumption) | (with_reducible refine Below.trans ?_ (Below.mono (by assumption) (by first | omega | (simp; done) | (simp; omega) | (simp at *; omega)))))))⟩
    · have h19' : ¬ (L.length : Int) ≤ 19 := by omega
      have hv : Hid (r = false) := by show _ = _; rw [← hr.out, hf]; simp [h19]
      clear hf hr h19
      go_enter Try.func8, Try.ntmps8
      go_wp2_with ((go_at_call 18; ((with_reducible refine (HF.out _).mono ?_)); rintro e w' ⟨rfl, rfl⟩))
      go_ret
      exact ⟨by first | exact ret_bool hv.out.symm | exact ret_bool (by rw [hv.out]; simp; omega), (by (repeat (first | (with_reducible refine Below.drew ?_) | (with_reducible refine below_drewN ?_ _) | (with_reducible refine Below.alloc ?_ (by first | omega | (simp; done) | (simp; omega) | (simp at *; omega)) _) | (with_reducible refine Below.setCell ?_ (by first | omega | (simp; done) | (simp; omega) | (simp at *; omega)) _) | (with_reducible exact Below.refl _ _) | (with_reducible assumption) | (with_reducible refine Below.trans ?_ (Below.mono (by assumption) (by first | omega | (simp; done) | (simp; omega) | (simp at *; omega)))))))⟩
theorem few_le {n : Nat} (h : fewB n = true) : n ≤ 18 := by
  unfold fewB at h
  simp at h
  omega
end Go.Proofs.Ytcmakopcamdaoaa
