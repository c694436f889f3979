import Derived.Test.YtijdphlejokijaaESPPress
import Derived.Test.YtijdphlejokijaaESPNums
import Derived.Outline
namespace Go.Proofs.Ytijdphlejokijaa
open Go.ChangeShapes Go.WideShapes Go.ChangeAt Go.RowKit
set_option linter.unusedVariables false

/-- A depth: what is above the surface's pressure, at least 0. -/
def above (x s : Int) : Int := if s < x then x - s else 0
def eqE (o h s d : Int) : Int := firE [gasE o h, rngE s 400 1100, rngE d 0 30000]
theorem depthsAt_any (lo hi s : Int) (w : World) (k1 : 400 ≤ s) (k2 : s ≤ 1100) (k3 : 0 ≤ lo) (k4 : lo ≤ 1000000) (k5 : 0 ≤ hi) (k6 : hi ≤ 1000000) :
    Calls Try.prog 128 #[.agg #[.int .i64 lo, .int .i64 hi], .int .i64 s] w fun e w' => e = .returned (.agg #[.int .i64 (above lo s), .int .i64 (above hi s)]) ∧ (w.alloc (.cells #[.int .i64 lo, .int .i64 hi] 47)).alloc (.cells #[.int .i64 (above lo s), .int .i64 (above hi s)] 47) = w' := by
  have e1 : (if s < lo then lo - s else 0) = above lo s := rfl
  have e2 : (if s < hi then hi - s else 0) = above hi s := rfl
  go_enter Try.func128, Try.ntmps128
  go_wp2
  refine bodyPost_ret (v := .agg #[.int .i64 (above lo s), .int .i64 (above hi s)]) (by simp [results, Try.results128, go_sem]) rfl ⟨rfl, rfl⟩
theorem EquivalentNarcotic_ok (o h s d X : Int) (w : World) (hb : (eqE o h s d != 0) = false) (k1 : 0 ≤ o) (k2 : o ≤ 1000) (k3 : 0 ≤ h) (k4 : h ≤ 1000) (k7 : o + h ≤ 1000) (k5 : 400 ≤ s) (k6 : s ≤ 1100) (k8 : 0 ≤ d) (k9 : d ≤ 30000) (hX : Hid ((1000 - h) * (s + d) = X)) (x1 : 0 ≤ X) (x2 : X ≤ 40000000) :
    Calls Try.prog 114 #[.agg #[.int .i64 o, .int .i64 h], .int .i64 s, .int .i64 d] w fun e w' => e = .returned (.tuple #[.agg #[.int .i64 (above (X / 1000) s), .int .i64 (above ((X + 1000 - 1) / 1000) s)], .int .i64 0]) ∧ Below w.heap.size w w' := by
  unfold eqE at hb
  have u1 : IntKind.i64.wrap ((1000 - h) * (s + d)) = X := by rw [hX.out]; exact IntWalk.i64_in _ (by omega)
  have q1 : 0 ≤ X / 1000 := by omega
  have q2 : X / 1000 ≤ 1000000 := by omega
  have q3 : 0 ≤ (X + 1000 - 1) / 1000 := by omega
  have q4 : (X + 1000 - 1) / 1000 ≤ 1000000 := by omega
  go_enter Try.func114, Try.ntmps114
  go_wp2_with (first | (go_at_call 85; ((with_reducible refine (CheckGas_any _ _ _).mono ?_)); rintro e w' ⟨rfl, rfl⟩) | (go_at_call 126; ((with_reducible refine (checkSurface_any _ _).mono ?_)); rintro e w' ⟨rfl, rfl⟩) | (go_at_call 127; ((with_reducible refine (checkDepth_any _ _).mono ?_)); rintro e w' ⟨rfl, rfl⟩) | (go_at_call 120; ((with_reducible refine (firstOf3c (gasE o h) (rngE s 400 1100) (rngE d 0 30000) _ _ (by simp [go_sem]) (by simp [go_sem]) (by simp [go_sem])).mono ?_)); rintro e w' ⟨rfl, rfl⟩) | (go_at_call 141; ((with_reducible refine (nitrogenOf_any _ _ _ (by omega) (by omega) (by omega) (by omega)).mono ?_)); rintro e w' ⟨rfl, rfl⟩) | (go_at_call 129; ((with_reducible refine (enclose_any _ _ _ x1 (by omega) (by omega) (by omega)).mono ?_)); rintro e w' ⟨rfl, rfl⟩) | (go_at_call 128; ((with_reducible refine (depthsAt_any _ _ _ _ k5 k6 q1 q2 q3 q4).mono ?_)); rintro e w' ⟨rfl, rfl⟩))
  refine bodyPost_ret (v := .tuple #[.agg #[.int .i64 (above (X / 1000) s), .int .i64 (above ((X + 1000 - 1) / 1000) s)], .int .i64 0]) (by simp [results, Try.results114, go_sem]) rfl ⟨rfl, (by (repeat (first | (with_reducible refine Below.drew ?_) | (with_reducible refine below_drewN ?_ _) | (with_reducible refine Below.alloc ?_ (by first | omega | (simp; done) | (simp; omega) | (simp at *; omega)) _) | (with_reducible refine Below.setCell ?_ (by first | omega | (simp; done) | (simp; omega) | (simp at *; omega)) _) | (with_reducible exact Below.refl _ _) | (with_reducible assumption) | (with_reducible refine Below.trans ?_ (Below.mono (by assumption) (by first | omega | (simp; done) | (simp; omega) | (simp at *; omega)))))))⟩
end Go.Proofs.Ytijdphlejokijaa
