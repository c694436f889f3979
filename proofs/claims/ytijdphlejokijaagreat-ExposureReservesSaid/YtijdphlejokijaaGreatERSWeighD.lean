import Derived.Test.YtijdphlejokijaaGreatERSPress
import Derived.Test.YtijdphlejokijaaGreatERSNums
import Derived.Outline
import Derived.LoopN
import Derived.Deep.DrawnRows
namespace Go.Proofs.YtijdphlejokijaaGreat
open Go.ChangeShapes Go.WideShapes Go.ChangeAt Go.RowKit
set_option linter.unusedVariables false

/-- A depth: what is above the surface's pressure, at least 0. -/
def above (x s : Int) : Int := if s < x then x - s else 0
def eqE (o h s d : Int) : Int := firE [gasE o h, rngE s 400 1100, rngE d 0 30000]
theorem depthsAt_any (lo hi s : Int) (w : World) (k1 : 400 ≤ s) (k2 : s ≤ 1100) (k3 : 0 ≤ lo) (k4 : lo ≤ 1000000) (k5 : 0 ≤ hi) (k6 : hi ≤ 1000000) :
    Calls Tryz.prog 99 #[.agg #[.int .i64 lo, .int .i64 hi], .int .i64 s] w fun e w' => e = .returned (.agg #[.int .i64 (above lo s), .int .i64 (above hi s)]) ∧ (w.alloc (.cells #[.int .i64 lo, .int .i64 hi] 62)).alloc (.cells #[.int .i64 (above lo s), .int .i64 (above hi s)] 62) = w' := by
  have e1 : (if s < lo then lo - s else 0) = above lo s := rfl
  have e2 : (if s < hi then hi - s else 0) = above hi s := rfl
  go_enter Tryz.func99, Tryz.ntmps99
  go_wp2
  refine bodyPost_ret (v := .agg #[.int .i64 (above lo s), .int .i64 (above hi s)]) (by simp [results, Tryz.results99, go_sem]) rfl ⟨rfl, rfl⟩
theorem EquivalentNarcotic_ok (o h s d X : Int) (w : World) (hb : (eqE o h s d != 0) = false) (k1 : 0 ≤ o) (k2 : o ≤ 1000) (k3 : 0 ≤ h) (k4 : h ≤ 1000) (k7 : o + h ≤ 1000) (k5 : 400 ≤ s) (k6 : s ≤ 1100) (k8 : 0 ≤ d) (k9 : d ≤ 30000) (hX : Hid ((1000 - h) * (s + d) = X)) (x1 : 0 ≤ X) (x2 : X ≤ 40000000) :
    Calls Tryz.prog 78 #[.agg #[.int .i64 o, .int .i64 h], .int .i64 s, .int .i64 d] w fun e w' => e = .returned (.tuple #[.agg #[.int .i64 (above (X / 1000) s), .int .i64 (above ((X + 1000 - 1) / 1000) s)], .int .i64 0]) ∧ Below w.heap.size w w' := by
  unfold eqE at hb
  have u1 : IntKind.i64.wrap ((1000 - h) * (s + d)) = X := by rw [hX.out]; exact IntWalk.i64_in _ (by omega)
  have q1 : 0 ≤ X / 1000 := by omega
  have q2 : X / 1000 ≤ 1000000 := by omega
  have q3 : 0 ≤ (X + 1000 - 1) / 1000 := by omega
  have q4 : (X + 1000 - 1) / 1000 ≤ 1000000 := by omega
  go_enter Tryz.func78, Tryz.ntmps78
  go_wp2_with (first | (go_at_call 47; ((with_reducible refine (CheckGas_any _ _ _).mono ?_)); rintro e w' ⟨rfl, rfl⟩) | (go_at_call 97; ((with_reducible refine (checkSurface_any _ _).mono ?_)); rintro e w' ⟨rfl, rfl⟩) | (go_at_call 98; ((with_reducible refine (checkDepth_any _ _).mono ?_)); rintro e w' ⟨rfl, rfl⟩) | (go_at_call 85; ((with_reducible refine (firstOf3c (gasE o h) (rngE s 400 1100) (rngE d 0 30000) _ _ (by simp [go_sem]) (by simp [go_sem]) (by simp [go_sem])).mono ?_)); rintro e w' ⟨rfl, rfl⟩) | (go_at_call 115; ((with_reducible refine (nitrogenOf_any _ _ _ (by omega) (by omega) (by omega) (by omega)).mono ?_)); rintro e w' ⟨rfl, rfl⟩) | (go_at_call 100; ((with_reducible refine (enclose_any _ _ _ x1 (by omega) (by omega) (by omega)).mono ?_)); rintro e w' ⟨rfl, rfl⟩) | (go_at_call 99; ((with_reducible refine (depthsAt_any _ _ _ _ k5 k6 q1 q2 q3 q4).mono ?_)); rintro e w' ⟨rfl, rfl⟩))
  refine bodyPost_ret (v := .tuple #[.agg #[.int .i64 (above (X / 1000) s), .int .i64 (above ((X + 1000 - 1) / 1000) s)], .int .i64 0]) (by simp [results, Tryz.results78, go_sem]) rfl ⟨rfl, (by (repeat (first | (with_reducible refine Below.drew ?_) | (with_reducible refine below_drewN ?_ _) | (with_reducible refine Below.alloc ?_ (by first | omega | (simp; done) | (simp; omega) | (simp at *; omega)) _) | (with_reducible refine Below.setCell ?_ (by first | omega | (simp; done) | (simp; omega) | (simp at *; omega)) _) | (with_reducible exact Below.refl _ _) | (with_reducible assumption) | (with_reducible refine Below.trans ?_ (Below.mono (by assumption) (by first | omega | (simp; done) | (simp; omega) | (simp at *; omega)))))))⟩
end Go.Proofs.YtijdphlejokijaaGreat

namespace Go.Proofs.YtijdphlejokijaaGreat
open Go.ChangeShapes Go.WideShapes Go.ChangeAt Go.RowKit
set_option linter.unusedVariables false

/-- The weight of a thousand parts of a gas. -/
def wgt (o h : Int) : Int := 1429 * o + 179 * h + 1251 * (1000 - o - h)
theorem wgt_bd {o h : Int} (k1 : 0 ≤ o) (k2 : o ≤ 1000) (k3 : 0 ≤ h) (k4 : h ≤ 1000) (k7 : o + h ≤ 1000) : 0 ≤ wgt o h ∧ wgt o h ≤ 3000000 := by unfold wgt; omega
theorem wgt_mul {o h n : Int} (k1 : 0 ≤ o) (k2 : o ≤ 1000) (k3 : 0 ≤ h) (k4 : h ≤ 1000) (k7 : o + h ≤ 1000) (k5 : 0 ≤ n) (k6 : n ≤ 1000000000) : 0 ≤ wgt o h * n ∧ wgt o h * n ≤ 3000000000000000 := by
  obtain ⟨b1, b2⟩ := wgt_bd k1 k2 k3 k4 k7
  exact ⟨Int.mul_nonneg b1 k5, Int.le_trans (Int.mul_le_mul b2 k6 k5 (by omega)) (by omega)⟩
set_option maxHeartbeats 1000000 in
theorem weigh_any (o h n : Int) (w : World) (k1 : 0 ≤ o) (k2 : o ≤ 1000) (k3 : 0 ≤ h) (k4 : h ≤ 1000) (k7 : o + h ≤ 1000) (k5 : 0 ≤ n) (k6 : n ≤ 1000000000) :
    Calls Tryz.prog 102 #[.agg #[.int .i64 o, .int .i64 h], .int .i64 n] w fun e w' => e = .returned (.agg #[.int .i64 (wgt o h * n / 1013000), .int .i64 ((wgt o h * n + 1013000 - 1) / 1013000)]) ∧ Below w.heap.size w w' := by
  obtain ⟨b1, b2⟩ := wgt_bd k1 k2 k3 k4 k7
  obtain ⟨c1, c2⟩ := wgt_mul k1 k2 k3 k4 k7 k5 k6
  obtain ⟨W, hW⟩ : ∃ W, Hid (wgt o h = W) := ⟨_, rfl⟩
  have e1 : 1429 * o + 179 * h + 1251 * (1000 - o - h) = W := hW.out
  rw [hW.out] at b1 b2 c1 c2 ⊢
  obtain ⟨X, hX⟩ : ∃ X, Hid (W * n = X) := ⟨_, rfl⟩
  rw [hX.out] at c1 c2 ⊢
  have u1 : IntKind.i64.wrap (W * n) = X := by rw [hX.out]; exact IntWalk.i64_in _ (by omega)
  have x0 : ∀ w, (Instr.index 141 (.agg #[.int .i64 o, .int .i64 h, .int .i64 (1000 - o - h)]) (.int .i64 0)).run Tryz.prog w = .ok (.int .i64 o) w := fun _ => by kernel_rfl
  have x1 : ∀ w, (Instr.index 141 (.agg #[.int .i64 o, .int .i64 h, .int .i64 (1000 - o - h)]) (.int .i64 1)).run Tryz.prog w = .ok (.int .i64 h) w := fun _ => by kernel_rfl
  have x2 : ∀ w, (Instr.index 141 (.agg #[.int .i64 o, .int .i64 h, .int .i64 (1000 - o - h)]) (.int .i64 2)).run Tryz.prog w = .ok (.int .i64 (1000 - o - h)) w := fun _ => by kernel_rfl
  go_enter Tryz.func102, Tryz.ntmps102
  go_wp2_with ((go_at_call 111; ((with_reducible refine (partsOf_any _ _ _ k1 k2 k3 k4).mono ?_)); rintro e w' ⟨rfl, rfl⟩))
  refine wp_loop_rounds 4 ?_
  rw [rounds_succ]
  go_wp2
  rw [rounds_succ]
  go_wp2
  rw [rounds_succ]
  go_wp2
  rw [rounds_succ]
  go_wp2_with ((go_at_call 100; ((with_reducible refine (enclose_any _ _ _ c1 (by omega) (by omega) (by omega)).mono ?_)); rintro e w' ⟨rfl, rfl⟩))

  refine bodyPost_ret (v := .agg #[.int .i64 (X / 1013000), .int .i64 ((X + 1013000 - 1) / 1013000)]) (by simp [results, Tryz.results102, go_sem]) rfl ⟨rfl, (by (repeat (first | (with_reducible refine Below.drew ?_) | (with_reducible refine below_drewN ?_ _) | (with_reducible refine Below.alloc ?_ (by first | omega | (simp; done) | (simp; omega) | (simp at *; omega)) _) | (with_reducible refine Below.setCell ?_ (by first | omega | (simp; done) | (simp; omega) | (simp at *; omega)) _) | (with_reducible exact Below.refl _ _) | (with_reducible assumption) | (with_reducible refine Below.trans ?_ (Below.mono (by assumption) (by first | omega | (simp; done) | (simp; omega) | (simp at *; omega)))))))⟩
end Go.Proofs.YtijdphlejokijaaGreat

namespace Go.Proofs.YtijdphlejokijaaGreat
open Go.ChangeShapes Go.WideShapes Go.ChangeAt Go.RowKit
set_option linter.unusedVariables false
set_option linter.unusedSimpArgs false
attribute [local go_sem ↓] Go.wp_at_zero Go.wp_at_succ

theorem Density_ok (o h p X Y : Int) (w : World) (hc : Hid (paE o h p = 0)) (hX : Hid (wgt o h * p / 1013000 = X)) (hY : Hid ((wgt o h * p + 1013000 - 1) / 1013000 = Y)) :
    Calls Tryz.prog 79 #[.agg #[.int .i64 o, .int .i64 h], .int .i64 p] w fun e w' => e = .returned (.tuple #[.agg #[.int .i64 X, .int .i64 Y], .int .i64 0]) ∧ Below w.heap.size w w' := by
  obtain ⟨h1, h2⟩ := firE2_z (show firE [gasE o h, rngE p 0 100000] = 0 from hc.out)
  obtain ⟨k1, k2, k3, k4, k7⟩ := gasE_z h1
  obtain ⟨k5, k6⟩ := rngE_z h2
  have cW := fun w => weigh_any o h p w k1 k2 k3 k4 k7 k5 (by omega)
  rw [hX.out, hY.out] at cW
  have HW := Lib.hid cW
  have hb2 : (firE [gasE o h, rngE p 0 100000] != 0) = false := by have := hc.out; unfold paE at this; rw [this]; rfl
  clear cW h1 h2
  go_enter Tryz.func79, Tryz.ntmps79
  go_wp2_with (first | (go_at_call 47; ((with_reducible refine (CheckGas_any _ _ _).mono ?_)); rintro e w' ⟨rfl, rfl⟩) | (go_at_call 101; ((with_reducible refine (checkPressure_any _ _).mono ?_)); rintro e w' ⟨rfl, rfl⟩) | (go_at_call 85; ((with_reducible refine (firstOf2c (gasE o h) (rngE p 0 100000) _ _ (by simp [go_sem]) (by simp [go_sem])).mono ?_)); rintro e w' ⟨rfl, rfl⟩))
  refine (HW.out _).mono ?_
  rintro e w1 ⟨rfl, hbw1⟩
  have z1 := hbw1.size
  simp at z1
  have y0 : w1.cell? ⟨w.heap.size + 1, 0, none⟩ = some (.int .i64 0) := by rw [(bcell hbw1).1 _ _ (by simp; try omega)]; simp [go_sem, World.cell?_alloc_past]
  have y1 : w1.cell? ⟨w.heap.size + 1, 1, none⟩ = some (.int .i64 0) := by rw [(bcell hbw1).1 _ _ (by simp; try omega)]; simp [go_sem, World.cell?_alloc_past]
  have y2 : ∀ j, w1.frozen? ⟨w.heap.size + 1, j, none⟩ = false := by intro j; rw [(bcell hbw1).2 _ _ (by simp; try omega)]; simp [go_sem, World.cell?_alloc_past]
  go_wp2
  refine bodyPost_ret (v := .tuple #[.agg #[.int .i64 X, .int .i64 Y], .int .i64 0]) (by simp [results, Tryz.results79, go_sem, *]) rfl ⟨rfl, (by (repeat (first | (with_reducible refine Below.drew ?_) | (with_reducible refine below_drewN ?_ _) | (with_reducible refine Below.alloc ?_ (by first | omega | (simp; done) | (simp; omega) | (simp at *; omega)) _) | (with_reducible refine Below.setCell ?_ (by first | omega | (simp; done) | (simp; omega) | (simp at *; omega)) _) | (with_reducible exact Below.refl _ _) | (with_reducible assumption) | (with_reducible refine Below.trans ?_ (Below.mono (by assumption) (by first | omega | (simp; done) | (simp; omega) | (simp at *; omega)))))))⟩
end Go.Proofs.YtijdphlejokijaaGreat
