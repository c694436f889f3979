/- What gas.checkAim, withPressure, narcoticPressure and metBy return. -/
import Derived.Test.YtpagbkbaphjmdaaDoorDep
import Derived.Outline
namespace Go.Proofs.YtpagbkbaphjmdaaDoor
open Go.ChangeShapes Go.WideShapes Go.ChangeAt Go.RowKit
set_option linter.unusedVariables false

def aimE (s d a b n : Int) : Int := firE [rngE s 400 1100, rngE d 0 30000, limE a b, rngE n 0 30000]
theorem aimE_z {s d a b n : Int} (k : aimE s d a b n = 0) : (400 ≤ s ∧ s ≤ 1100) ∧ (0 ≤ d ∧ d ≤ 30000) ∧ (1 ≤ a ∧ a ≤ 4000 ∧ 1 ≤ b ∧ b ≤ 4000 ∧ a ≤ b) ∧ 0 ≤ n ∧ n ≤ 30000 := by
  obtain ⟨k1, k2, k3, k4⟩ := firE4_z (show firE [rngE s 400 1100, rngE d 0 30000, limE a b, rngE n 0 30000] = 0 from k)
  exact ⟨rngE_z k1, rngE_z k2, limE_z k3, rngE_z k4⟩
theorem checkAim_any (s d a b n : Int) (w : World) :
    Calls Tryd.prog 29 #[.agg #[.int .i64 s, .int .i64 d, .int .i64 a, .int .i64 b, .int .i64 n]] w fun e w' => e = .returned (.int .i64 (aimE s d a b n)) ∧ ((((w.alloc (.cells #[.int .i64 s, .int .i64 d, .int .i64 a, .int .i64 b, .int .i64 n] 46)).alloc (.cells #[.int .i64 a, .int .i64 b] 43)).alloc (.cells #[.int .i64 (rngE a 1 4000), .int .i64 (rngE b 1 4000)] 25)).alloc (.cells #[.int .i64 (rngE s 400 1100), .int .i64 (rngE d 0 30000), .int .i64 (limE a b), .int .i64 (rngE n 0 30000)] 25)).drew.drew = w' := by
  go_enter Tryd.func29, Tryd.ntmps29
  go_wp2
  go_region_held3 (fun w' => w'.cell? ⟨w.heap.size, 0, none⟩ = some (.int .i64 s) ∧ w'.cell? ⟨w.heap.size, 1, none⟩ = some (.int .i64 d) ∧ w'.cell? ⟨w.heap.size, 2, none⟩ = some (.int .i64 a) ∧ w'.cell? ⟨w.heap.size, 3, none⟩ = some (.int .i64 b) ∧ w'.cell? ⟨w.heap.size, 4, none⟩ = some (.int .i64 n)) (simp [go_sem, World.cell?_alloc_past])
    (first
      | (go_at_call 26; ((with_reducible refine (checkSurface_any _ _).mono ?_)); rintro e w' ⟨rfl, rfl⟩)
      | (go_at_call 41; ((with_reducible refine (checkDepth_any _ _).mono ?_)); rintro e w' ⟨rfl, rfl⟩)
      | (go_at_call 27; ((with_reducible refine (CheckLimits_any _ _ _).mono ?_)); rintro e w' ⟨rfl, rfl⟩)
      | (go_at_call 25; ((with_reducible refine (firstOf4c (rngE s 400 1100) (rngE d 0 30000) (limE a b) (rngE n 0 30000) _ _ (by simp [go_sem]) (by simp [go_sem]) (by simp [go_sem]) (by simp [go_sem])).mono ?_)); rintro e w' ⟨rfl, rfl⟩))
  go_wp2
  go_ret
  exact ⟨rfl, rfl⟩
theorem withPressure_any (s d a b n : Int) (w : World) (k1 : 400 ≤ s) (k2 : s ≤ 1100) (k3 : 0 ≤ d) (k4 : d ≤ 30000) :
    Calls Tryd.prog 30 #[.agg #[.int .i64 s, .int .i64 d, .int .i64 a, .int .i64 b, .int .i64 n]] w fun e w' => e = .returned (.agg #[.int .i64 s, .int .i64 d, .int .i64 a, .int .i64 b, .int .i64 n, .int .i64 (s + d)]) ∧ (w.alloc (.cells #[.int .i64 s, .int .i64 d, .int .i64 a, .int .i64 b, .int .i64 n] 46)).alloc (.cells #[.int .i64 s, .int .i64 d, .int .i64 a, .int .i64 b, .int .i64 n, .int .i64 (s + d)] 71) = w' := by
  go_enter Tryd.func30, Tryd.ntmps30
  go_wp2
  refine bodyPost_ret (v := .agg #[.int .i64 s, .int .i64 d, .int .i64 a, .int .i64 b, .int .i64 n, .int .i64 (s + d)]) (by simp [results, Tryd.results30, go_sem]) rfl ⟨rfl, rfl⟩
theorem narcoticPressure_any (s d a b n p : Int) (w : World) (k1 : 400 ≤ s) (k2 : s ≤ 1100) (k3 : 0 ≤ n) (k4 : n ≤ 30000) :
    Calls Tryd.prog 31 #[.agg #[.int .i64 s, .int .i64 d, .int .i64 a, .int .i64 b, .int .i64 n, .int .i64 p]] w fun e w' => e = .returned (.int .i64 (s + n)) ∧ w.alloc (.cells #[.int .i64 s, .int .i64 d, .int .i64 a, .int .i64 b, .int .i64 n, .int .i64 p] 71) = w' := by
  go_enter Tryd.func31, Tryd.ntmps31
  go_wp2
  go_ret
  exact ⟨rfl, rfl⟩
def metB (o h s a b n p : Int) : Bool := inB (o * p) (1000 * a) (1000 * b) && decide ((1000 - h) * p ≤ 1000 * (s + n))
theorem within_q (n a b : Int) (w : World) (h : inB n a b = false) : Calls Tryd.prog 23 #[.int .i64 n, .int .i64 a, .int .i64 b] w fun e w' => e = .returned (.bool false) ∧ w' = w := (within_any n a b w).mono fun _ _ k => ⟨by rw [k.1, h], k.2.symm⟩
theorem metBy_t (o h s d a b n p : Int) (w : World) (k1 : 400 ≤ s) (k2 : s ≤ 1100) (k3 : 0 ≤ n) (k4 : n ≤ 30000) (k5 : 1 ≤ a) (k6 : a ≤ 4000) (k7 : 1 ≤ b) (k8 : b ≤ 4000) (k9 : 0 ≤ o) (k10 : o ≤ 1000) (k11 : 0 ≤ h) (k12 : h ≤ 1000) (k13 : 0 ≤ p) (k14 : p ≤ 40000) (hi : inB (o * p) (1000 * a) (1000 * b) = true) :
    Calls Tryd.prog 32 #[.agg #[.int .i64 s, .int .i64 d, .int .i64 a, .int .i64 b, .int .i64 n, .int .i64 p], .agg #[.int .i64 o, .int .i64 h]] w fun e w' => e = .returned (.bool (metB o h s a b n p)) ∧ Below w.heap.size w w' := by
  have m1 : 0 ≤ o * p := Int.mul_nonneg k9 k13
  have m2 : o * p ≤ 1000 * 40000 := Int.mul_le_mul k10 k14 k13 (by omega)
  have m3 : 0 ≤ (1000 - h) * p := Int.mul_nonneg (by omega) k13
  have m4 : (1000 - h) * p ≤ 1000 * 40000 := Int.mul_le_mul (by omega) k14 k13 (by omega)
  have u1 : IntKind.i64.wrap (o * p) = o * p := IntWalk.i64_in _ (by omega)
  have u2 : IntKind.i64.wrap ((1000 - h) * p) = (1000 - h) * p := IntWalk.i64_in _ (by omega)
  have u3 : IntKind.i64.wrap (1000 - h) = 1000 - h := IntWalk.i64_in _ (by omega)
  have u4 : IntKind.i64.wrap (1000 * a) = 1000 * a := IntWalk.i64_in _ (by omega)
  have u5 : IntKind.i64.wrap (1000 * b) = 1000 * b := IntWalk.i64_in _ (by omega)
  have u6 : IntKind.i64.wrap (1000 * (s + n)) = 1000 * (s + n) := IntWalk.i64_in _ (by omega)
  have hm : Hid (metB o h s a b n p = decide ((1000 - h) * p ≤ 1000 * (s + n))) := by unfold metB Hid; rw [hi]; simp
  go_enter Tryd.func32, Tryd.ntmps32
  go_wp2
  go_region_held3 (fun w' => w'.cell? ⟨w.heap.size, 0, none⟩ = some (.int .i64 s) ∧ w'.cell? ⟨w.heap.size, 1, none⟩ = some (.int .i64 d) ∧ w'.cell? ⟨w.heap.size, 2, none⟩ = some (.int .i64 a) ∧ w'.cell? ⟨w.heap.size, 3, none⟩ = some (.int .i64 b) ∧ w'.cell? ⟨w.heap.size, 4, none⟩ = some (.int .i64 n) ∧ w'.cell? ⟨w.heap.size, 5, none⟩ = some (.int .i64 p) ∧ w'.cell? ⟨w.heap.size + 1, 0, none⟩ = some (.int .i64 o) ∧ w'.cell? ⟨w.heap.size + 1, 1, none⟩ = some (.int .i64 h)) (simp [go_sem, World.cell?_alloc_past])
    (first
      | (go_at_call 23; ((with_reducible refine (within_any _ _ _ _).mono ?_)); rintro e w' ⟨rfl, rfl⟩)
      | (go_at_call 31; ((with_reducible refine (narcoticPressure_any _ _ _ _ _ _ _ k1 k2 k3 k4).mono ?_)); rintro e w' ⟨rfl, rfl⟩))
  go_wp2
  go_ret
  exact ⟨ret_bool hm.out.symm, (by (repeat (first | (with_reducible refine Below.drew ?_) | (with_reducible refine below_drewN ?_ _) | (with_reducible refine Below.alloc ?_ (by first | omega | (simp; done) | (simp; omega) | (simp at *; omega)) _) | (with_reducible refine Below.setCell ?_ (by first | omega | (simp; done) | (simp; omega) | (simp at *; omega)) _) | (with_reducible exact Below.refl _ _) | (with_reducible assumption) | (with_reducible refine Below.trans ?_ (Below.mono (by assumption) (by first | omega | (simp; done) | (simp; omega) | (simp at *; omega)))))))⟩
set_option maxHeartbeats 1000000 in
theorem metBy_f (o h s d a b n p : Int) (w : World) (k1 : 400 ≤ s) (k2 : s ≤ 1100) (k3 : 0 ≤ n) (k4 : n ≤ 30000) (k5 : 1 ≤ a) (k6 : a ≤ 4000) (k7 : 1 ≤ b) (k8 : b ≤ 4000) (k9 : 0 ≤ o) (k10 : o ≤ 1000) (k11 : 0 ≤ h) (k12 : h ≤ 1000) (k13 : 0 ≤ p) (k14 : p ≤ 40000) (hi : inB (o * p) (1000 * a) (1000 * b) = false) :
    Calls Tryd.prog 32 #[.agg #[.int .i64 s, .int .i64 d, .int .i64 a, .int .i64 b, .int .i64 n, .int .i64 p], .agg #[.int .i64 o, .int .i64 h]] w fun e w' => e = .returned (.bool (metB o h s a b n p)) ∧ Below w.heap.size w w' := by
  have m1 : 0 ≤ o * p := Int.mul_nonneg k9 k13
  have m2 : o * p ≤ 1000 * 40000 := Int.mul_le_mul k10 k14 k13 (by omega)
  have u1 : IntKind.i64.wrap (o * p) = o * p := IntWalk.i64_in _ (by omega)
  have u4 : IntKind.i64.wrap (1000 * a) = 1000 * a := IntWalk.i64_in _ (by omega)
  have u5 : IntKind.i64.wrap (1000 * b) = 1000 * b := IntWalk.i64_in _ (by omega)
  have hm : Hid (metB o h s a b n p = false) := by unfold metB Hid; rw [hi]; simp
  go_enter Tryd.func32, Tryd.ntmps32
  go_wp2
  go_big_quiet ((go_at_call 23; exact Calls.quiet_of_same (within_q _ _ _ _ hi)))

  go_wp2
  go_ret
  exact ⟨ret_bool hm.out.symm, (by (repeat (first | (with_reducible refine Below.drew ?_) | (with_reducible refine below_drewN ?_ _) | (with_reducible refine Below.alloc ?_ (by first | omega | (simp; done) | (simp; omega) | (simp at *; omega)) _) | (with_reducible refine Below.setCell ?_ (by first | omega | (simp; done) | (simp; omega) | (simp at *; omega)) _) | (with_reducible exact Below.refl _ _) | (with_reducible assumption) | (with_reducible refine Below.trans ?_ (Below.mono (by assumption) (by first | omega | (simp; done) | (simp; omega) | (simp at *; omega)))))))⟩
theorem metBy_any (o h s d a b n p : Int) (w : World) (k1 : 400 ≤ s) (k2 : s ≤ 1100) (k3 : 0 ≤ n) (k4 : n ≤ 30000) (k5 : 1 ≤ a) (k6 : a ≤ 4000) (k7 : 1 ≤ b) (k8 : b ≤ 4000) (k9 : 0 ≤ o) (k10 : o ≤ 1000) (k11 : 0 ≤ h) (k12 : h ≤ 1000) (k13 : 0 ≤ p) (k14 : p ≤ 40000) :
    Calls Tryd.prog 32 #[.agg #[.int .i64 s, .int .i64 d, .int .i64 a, .int .i64 b, .int .i64 n, .int .i64 p], .agg #[.int .i64 o, .int .i64 h]] w fun e w' => e = .returned (.bool (metB o h s a b n p)) ∧ Below w.heap.size w w' := by
  rcases inB_cases (o * p) (1000 * a) (1000 * b) with hi | hi
  · exact metBy_t o h s d a b n p w k1 k2 k3 k4 k5 k6 k7 k8 k9 k10 k11 k12 k13 k14 hi
  · exact metBy_f o h s d a b n p w k1 k2 k3 k4 k5 k6 k7 k8 k9 k10 k11 k12 k13 k14 hi
end Go.Proofs.YtpagbkbaphjmdaaDoor
