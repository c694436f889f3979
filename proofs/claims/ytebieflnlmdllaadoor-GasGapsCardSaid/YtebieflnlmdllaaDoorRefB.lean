/- What the specifications of meeting an aim, and of the best gas, return. -/
import Derived.Test.YtebieflnlmdllaaDoorRefA
import Derived.Outline
namespace Go.Proofs.YtebieflnlmdllaaDoor
open Go.ChangeShapes Go.WideShapes Go.ChangeAt Go.RowKit
set_option linter.unusedVariables false
attribute [local go_sem ↓] Go.wp_at_zero Go.wp_at_succ

theorem Breathed_any (o h p a b : Int) (w : World) (k5 : 1 ≤ a) (k6 : a ≤ 4000) (k7 : 1 ≤ b) (k8 : b ≤ 4000) (k9 : 0 ≤ o) (k10 : o ≤ 1000) (k13 : 0 ≤ p) (k14 : p ≤ 40000) :
    Calls Tryd.prog 88 #[.agg #[.int .i64 o, .int .i64 h], .int .i64 p, .agg #[.int .i64 a, .int .i64 b]] w fun e w' => e = .returned (.bool (inB (o * p) (1000 * a) (1000 * b))) ∧ (w.alloc (.cells #[.int .i64 o, .int .i64 h] 23)).alloc (.cells #[.int .i64 a, .int .i64 b] 47) = w' := by
  have m1 : 0 ≤ o * p := Int.mul_nonneg k9 k13
  have m2 : o * p ≤ 1000 * 40000 := Int.mul_le_mul k10 k14 k13 (by omega)
  have u1 : IntKind.i64.wrap (o * p) = o * p := IntWalk.i64_in _ (by omega)
  have u4 : IntKind.i64.wrap (1000 * a) = 1000 * a := IntWalk.i64_in _ (by omega)
  have u5 : IntKind.i64.wrap (1000 * b) = 1000 * b := IntWalk.i64_in _ (by omega)
  go_enter Tryd.func88, Tryd.ntmps88
  go_wp2_with ((go_at_call 34; ((with_reducible refine (baseWithin_any _ _ _ _).mono ?_)); rintro e w' ⟨rfl, rfl⟩))
  go_ret
  exact ⟨rfl, rfl⟩
theorem Breathed_b (o h p a b : Int) (x : Bool) (w : World) (k5 : 1 ≤ a) (k6 : a ≤ 4000) (k7 : 1 ≤ b) (k8 : b ≤ 4000) (k9 : 0 ≤ o) (k10 : o ≤ 1000) (k13 : 0 ≤ p) (k14 : p ≤ 40000) (hx : Hid (inB (o * p) (1000 * a) (1000 * b) = x)) :
    Calls Tryd.prog 88 #[.agg #[.int .i64 o, .int .i64 h], .int .i64 p, .agg #[.int .i64 a, .int .i64 b]] w fun e w' => e = .returned (.bool x) ∧ (w.alloc (.cells #[.int .i64 o, .int .i64 h] 23)).alloc (.cells #[.int .i64 a, .int .i64 b] 47) = w' := by
  have := Breathed_any o h p a b w k5 k6 k7 k8 k9 k10 k13 k14
  rw [hx.out] at this
  exact this
theorem Meets_b (o h s d a b n : Int) (x : Bool) (w : World) (k1 : 400 ≤ s) (k2 : s ≤ 1100) (k3 : 0 ≤ n) (k4 : n ≤ 30000) (k5 : 1 ≤ a) (k6 : a ≤ 4000) (k7 : 1 ≤ b) (k8 : b ≤ 4000) (k9 : 0 ≤ o) (k10 : o ≤ 1000) (k11 : 0 ≤ h) (k12 : h ≤ 1000) (k13 : 0 ≤ d) (k14 : d ≤ 30000) (hx : Hid (metB o h s a b n (s + d) = x)) :
    Calls Tryd.prog 43 #[.agg #[.int .i64 o, .int .i64 h], .agg #[.int .i64 s, .int .i64 d, .int .i64 a, .int .i64 b, .int .i64 n]] w fun e w' => e = .returned (.bool x) ∧ Below w.heap.size w w' := by
  have p1 : 0 ≤ s + d := by omega
  have p2 : s + d ≤ 40000 := by omega
  have m3 : 0 ≤ (1000 - h) * (s + d) := Int.mul_nonneg (by omega) p1
  have m4 : (1000 - h) * (s + d) ≤ 1000 * 40000 := Int.mul_le_mul (by omega) p2 p1 (by omega)
  obtain ⟨y, hy⟩ : ∃ y, Hid (inB (o * (s + d)) (1000 * a) (1000 * b) = y) := ⟨_, rfl⟩
  obtain ⟨q, hq⟩ : ∃ q, Hid ((1000 - h) * (s + d) = q) := ⟨_, rfl⟩
  have hm : Hid ((y && decide (q ≤ 1000 * (s + n))) = x) := by rw [← hx.out, ← hy.out, ← hq.out]; rfl
  have u2 : IntKind.i64.wrap ((1000 - h) * (s + d)) = q := by rw [hq.out]; rw [hq.out] at m3 m4; exact IntWalk.i64_in _ (by omega)
  rw [hq.out] at m3 m4
  have u6 : IntKind.i64.wrap (1000 * (s + n)) = 1000 * (s + n) := IntWalk.i64_in _ (by omega)
  cases y
  all_goals
    go_enter Tryd.func43, Tryd.ntmps43
    go_wp2_with ((go_at_call 88; ((with_reducible refine (Breathed_b _ _ _ _ _ _ _ k5 k6 k7 k8 k9 k10 p1 p2 hy).mono ?_)); rintro e w' ⟨rfl, rfl⟩))
    go_ret
    exact ⟨ret_bool hm.out, (by (repeat (first | (with_reducible refine Below.drew ?_) | (with_reducible refine below_drewN ?_ _) | (with_reducible refine Below.alloc ?_ (by first | omega | (simp; done) | (simp; omega) | (simp at *; omega)) _) | (with_reducible refine Below.setCell ?_ (by first | omega | (simp; done) | (simp; omega) | (simp at *; omega)) _) | (with_reducible exact Below.refl _ _) | (with_reducible assumption) | (with_reducible refine Below.trans ?_ (Below.mono (by assumption) (by first | omega | (simp; done) | (simp; omega) | (simp at *; omega)))))))⟩
end Go.Proofs.YtebieflnlmdllaaDoor
