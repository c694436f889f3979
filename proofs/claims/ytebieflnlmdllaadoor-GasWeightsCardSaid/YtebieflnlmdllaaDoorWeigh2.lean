/- What gas.Density, gas.WeightOf and their specification return. -/
import Derived.Test.YtebieflnlmdllaaDoorWeigh
import Derived.Deep.DrawnRows
import Derived.Outline
namespace Go.Proofs.YtebieflnlmdllaaDoor
open Go.ChangeShapes Go.WideShapes Go.ChangeAt Go.RowKit
set_option linter.unusedVariables false
set_option linter.unusedSimpArgs false
attribute [local go_sem ↓] Go.wp_at_zero Go.wp_at_succ

def wtE (o h n : Int) : Int := firE [gasE o h, rngE n 0 1000000000]
theorem Density_bad (o h p c : Int) (w : World) (hc : Hid (paE o h p = c)) (hb : (c != 0) = true) :
    Calls Tryd.prog 44 #[.agg #[.int .i64 o, .int .i64 h], .int .i64 p] w fun e w' => e = .returned (.tuple #[.agg #[.int .i64 0, .int .i64 0], .int .i64 c]) ∧ Below w.heap.size w w' := by
  have hb2 : (firE [gasE o h, rngE p 0 100000] != 0) = true := by have := hc.out; unfold paE at this; rw [this]; exact hb
  clear hb
  go_enter Tryd.func44, Tryd.ntmps44
  go_wp2_with (first | (go_at_call 21; ((with_reducible refine (CheckGas_any _ _ _).mono ?_)); rintro e w' ⟨rfl, rfl⟩) | (go_at_call 75; ((with_reducible refine (checkPressure_any _ _).mono ?_)); rintro e w' ⟨rfl, rfl⟩) | (go_at_call 70; ((with_reducible refine (firstOf2c (gasE o h) (rngE p 0 100000) _ _ (by simp [go_sem]) (by simp [go_sem])).mono ?_)); rintro e w' ⟨rfl, rfl⟩))
  refine bodyPost_ret (v := .tuple #[.agg #[.int .i64 0, .int .i64 0], .int .i64 c]) (by simp [results, Tryd.results44, go_sem]; exact hc.out) rfl ⟨rfl, (by (repeat (first | (with_reducible refine Below.drew ?_) | (with_reducible refine below_drewN ?_ _) | (with_reducible refine Below.alloc ?_ (by first | omega | (simp; done) | (simp; omega) | (simp at *; omega)) _) | (with_reducible refine Below.setCell ?_ (by first | omega | (simp; done) | (simp; omega) | (simp at *; omega)) _) | (with_reducible exact Below.refl _ _) | (with_reducible assumption) | (with_reducible refine Below.trans ?_ (Below.mono (by assumption) (by first | omega | (simp; done) | (simp; omega) | (simp at *; omega)))))))⟩
theorem Density_ok (o h p X Y : Int) (w : World) (hc : Hid (paE o h p = 0)) (hX : Hid (wgt o h * p / 1013000 = X)) (hY : Hid ((wgt o h * p + 1013000 - 1) / 1013000 = Y)) :
    Calls Tryd.prog 44 #[.agg #[.int .i64 o, .int .i64 h], .int .i64 p] w fun e w' => e = .returned (.tuple #[.agg #[.int .i64 X, .int .i64 Y], .int .i64 0]) ∧ Below w.heap.size w w' := by
  obtain ⟨h1, h2⟩ := firE2_z (show firE [gasE o h, rngE p 0 100000] = 0 from hc.out)
  obtain ⟨k1, k2, k3, k4, k7⟩ := gasE_z h1
  obtain ⟨k5, k6⟩ := rngE_z h2
  have cW := fun w => weigh_any o h p w k1 k2 k3 k4 k7 k5 (by omega)
  rw [hX.out, hY.out] at cW
  have HW := Lib.hid cW
  have hb2 : (firE [gasE o h, rngE p 0 100000] != 0) = false := by have := hc.out; unfold paE at this; rw [this]; rfl
  clear cW h1 h2
  go_enter Tryd.func44, Tryd.ntmps44
  go_wp2_with (first | (go_at_call 21; ((with_reducible refine (CheckGas_any _ _ _).mono ?_)); rintro e w' ⟨rfl, rfl⟩) | (go_at_call 75; ((with_reducible refine (checkPressure_any _ _).mono ?_)); rintro e w' ⟨rfl, rfl⟩) | (go_at_call 70; ((with_reducible refine (firstOf2c (gasE o h) (rngE p 0 100000) _ _ (by simp [go_sem]) (by simp [go_sem])).mono ?_)); rintro e w' ⟨rfl, rfl⟩))
  refine (HW.out _).mono ?_
  rintro e w1 ⟨rfl, hbw1⟩
  have z1 := hbw1.size
  simp at z1
  have y0 : w1.cell? ⟨w.heap.size + 1, 0, none⟩ = some (.int .i64 0) := by rw [(bcell hbw1).1 _ _ (by simp; try omega)]; simp [go_sem, World.cell?_alloc_past]
  have y1 : w1.cell? ⟨w.heap.size + 1, 1, none⟩ = some (.int .i64 0) := by rw [(bcell hbw1).1 _ _ (by simp; try omega)]; simp [go_sem, World.cell?_alloc_past]
  have y2 : ∀ j, w1.frozen? ⟨w.heap.size + 1, j, none⟩ = false := by intro j; rw [(bcell hbw1).2 _ _ (by simp; try omega)]; simp [go_sem, World.cell?_alloc_past]
  go_wp2
  refine bodyPost_ret (v := .tuple #[.agg #[.int .i64 X, .int .i64 Y], .int .i64 0]) (by simp [results, Tryd.results44, go_sem, *]) rfl ⟨rfl, (by (repeat (first | (with_reducible refine Below.drew ?_) | (with_reducible refine below_drewN ?_ _) | (with_reducible refine Below.alloc ?_ (by first | omega | (simp; done) | (simp; omega) | (simp at *; omega)) _) | (with_reducible refine Below.setCell ?_ (by first | omega | (simp; done) | (simp; omega) | (simp at *; omega)) _) | (with_reducible exact Below.refl _ _) | (with_reducible assumption) | (with_reducible refine Below.trans ?_ (Below.mono (by assumption) (by first | omega | (simp; done) | (simp; omega) | (simp at *; omega)))))))⟩
theorem WeightOf_bad (o h p c : Int) (w : World) (hc : Hid (wtE o h p = c)) (hb : (c != 0) = true) :
    Calls Tryd.prog 45 #[.agg #[.int .i64 o, .int .i64 h], .int .i64 p] w fun e w' => e = .returned (.tuple #[.agg #[.int .i64 0, .int .i64 0], .int .i64 c]) ∧ Below w.heap.size w w' := by
  have hb2 : (firE [gasE o h, rngE p 0 1000000000] != 0) = true := by have := hc.out; unfold wtE at this; rw [this]; exact hb
  clear hb
  go_enter Tryd.func45, Tryd.ntmps45
  go_wp2_with (first | (go_at_call 21; ((with_reducible refine (CheckGas_any _ _ _).mono ?_)); rintro e w' ⟨rfl, rfl⟩) | (go_at_call 90; ((with_reducible refine (checkAmount_any _ _).mono ?_)); rintro e w' ⟨rfl, rfl⟩) | (go_at_call 70; ((with_reducible refine (firstOf2c (gasE o h) (rngE p 0 1000000000) _ _ (by simp [go_sem]) (by simp [go_sem])).mono ?_)); rintro e w' ⟨rfl, rfl⟩))
  refine bodyPost_ret (v := .tuple #[.agg #[.int .i64 0, .int .i64 0], .int .i64 c]) (by simp [results, Tryd.results45, go_sem]; exact hc.out) rfl ⟨rfl, (by (repeat (first | (with_reducible refine Below.drew ?_) | (with_reducible refine below_drewN ?_ _) | (with_reducible refine Below.alloc ?_ (by first | omega | (simp; done) | (simp; omega) | (simp at *; omega)) _) | (with_reducible refine Below.setCell ?_ (by first | omega | (simp; done) | (simp; omega) | (simp at *; omega)) _) | (with_reducible exact Below.refl _ _) | (with_reducible assumption) | (with_reducible refine Below.trans ?_ (Below.mono (by assumption) (by first | omega | (simp; done) | (simp; omega) | (simp at *; omega)))))))⟩
theorem WeightOf_ok (o h p X Y : Int) (w : World) (hc : Hid (wtE o h p = 0)) (hX : Hid (wgt o h * p / 1013000 = X)) (hY : Hid ((wgt o h * p + 1013000 - 1) / 1013000 = Y)) :
    Calls Tryd.prog 45 #[.agg #[.int .i64 o, .int .i64 h], .int .i64 p] w fun e w' => e = .returned (.tuple #[.agg #[.int .i64 X, .int .i64 Y], .int .i64 0]) ∧ Below w.heap.size w w' := by
  obtain ⟨h1, h2⟩ := firE2_z (show firE [gasE o h, rngE p 0 1000000000] = 0 from hc.out)
  obtain ⟨k1, k2, k3, k4, k7⟩ := gasE_z h1
  obtain ⟨k5, k6⟩ := rngE_z h2
  have cW := fun w => weigh_any o h p w k1 k2 k3 k4 k7 k5 k6
  rw [hX.out, hY.out] at cW
  have HW := Lib.hid cW
  have hb2 : (firE [gasE o h, rngE p 0 1000000000] != 0) = false := by have := hc.out; unfold wtE at this; rw [this]; rfl
  clear cW h1 h2
  go_enter Tryd.func45, Tryd.ntmps45
  go_wp2_with (first | (go_at_call 21; ((with_reducible refine (CheckGas_any _ _ _).mono ?_)); rintro e w' ⟨rfl, rfl⟩) | (go_at_call 90; ((with_reducible refine (checkAmount_any _ _).mono ?_)); rintro e w' ⟨rfl, rfl⟩) | (go_at_call 70; ((with_reducible refine (firstOf2c (gasE o h) (rngE p 0 1000000000) _ _ (by simp [go_sem]) (by simp [go_sem])).mono ?_)); rintro e w' ⟨rfl, rfl⟩))
  refine (HW.out _).mono ?_
  rintro e w1 ⟨rfl, hbw1⟩
  have z1 := hbw1.size
  simp at z1
  have y0 : w1.cell? ⟨w.heap.size + 1, 0, none⟩ = some (.int .i64 0) := by rw [(bcell hbw1).1 _ _ (by simp; try omega)]; simp [go_sem, World.cell?_alloc_past]
  have y1 : w1.cell? ⟨w.heap.size + 1, 1, none⟩ = some (.int .i64 0) := by rw [(bcell hbw1).1 _ _ (by simp; try omega)]; simp [go_sem, World.cell?_alloc_past]
  have y2 : ∀ j, w1.frozen? ⟨w.heap.size + 1, j, none⟩ = false := by intro j; rw [(bcell hbw1).2 _ _ (by simp; try omega)]; simp [go_sem, World.cell?_alloc_past]
  go_wp2
  refine bodyPost_ret (v := .tuple #[.agg #[.int .i64 X, .int .i64 Y], .int .i64 0]) (by simp [results, Tryd.results45, go_sem, *]) rfl ⟨rfl, (by (repeat (first | (with_reducible refine Below.drew ?_) | (with_reducible refine below_drewN ?_ _) | (with_reducible refine Below.alloc ?_ (by first | omega | (simp; done) | (simp; omega) | (simp at *; omega)) _) | (with_reducible refine Below.setCell ?_ (by first | omega | (simp; done) | (simp; omega) | (simp at *; omega)) _) | (with_reducible exact Below.refl _ _) | (with_reducible assumption) | (with_reducible refine Below.trans ?_ (Below.mono (by assumption) (by first | omega | (simp; done) | (simp; omega) | (simp at *; omega)))))))⟩
theorem refWeight_any (o h : Int) (w : World) (k1 : 0 ≤ o) (k2 : o ≤ 1000) (k3 : 0 ≤ h) (k4 : h ≤ 1000) (k7 : o + h ≤ 1000) :
    Calls Tryd.prog 91 #[.agg #[.int .i64 o, .int .i64 h]] w fun e w' => e = .returned (.int .i64 (wgt o h)) ∧ Below w.heap.size w w' := by
  have hw : Hid (wgt o h = 1429 * o + 179 * h + 1251 * (1000 - o - h)) := rfl
  rw [hw.out]
  have u1 : IntKind.i64.wrap (1429 * o) = 1429 * o := IntWalk.i64_in _ (by omega)
  have u2 : IntKind.i64.wrap (179 * h) = 179 * h := IntWalk.i64_in _ (by omega)
  have u3 : IntKind.i64.wrap (1251 * (1000 - o - h)) = 1251 * (1000 - o - h) := IntWalk.i64_in _ (by omega)
  have u4 : IntKind.i64.wrap (1429 * o + 179 * h) = 1429 * o + 179 * h := IntWalk.i64_in _ (by omega)
  have u5 : IntKind.i64.wrap (1429 * o + 179 * h + 1251 * (1000 - o - h)) = 1429 * o + 179 * h + 1251 * (1000 - o - h) := IntWalk.i64_in _ (by omega)
  go_enter Tryd.func91, Tryd.ntmps91
  go_wp2
  go_region_held3 (fun w' => w'.cell? ⟨w.heap.size, 0, none⟩ = some (.int .i64 o) ∧ w'.cell? ⟨w.heap.size, 1, none⟩ = some (.int .i64 h)) (simp [go_sem, World.cell?_alloc_past])
    (first | (go_at_call 22; ((with_reducible refine (refNitrogen_any _ _ _ k1 k2 k3 k4).mono ?_)); rintro e w' ⟨rfl, rfl⟩))
  go_wp2
  go_ret
  exact ⟨rfl, (by (repeat (first | (with_reducible refine Below.drew ?_) | (with_reducible refine below_drewN ?_ _) | (with_reducible refine Below.alloc ?_ (by first | omega | (simp; done) | (simp; omega) | (simp at *; omega)) _) | (with_reducible refine Below.setCell ?_ (by first | omega | (simp; done) | (simp; omega) | (simp at *; omega)) _) | (with_reducible exact Below.refl _ _) | (with_reducible assumption) | (with_reducible refine Below.trans ?_ (Below.mono (by assumption) (by first | omega | (simp; done) | (simp; omega) | (simp at *; omega)))))))⟩
theorem refDensity_ok (o h p X Y : Int) (w : World) (k1 : 0 ≤ o) (k2 : o ≤ 1000) (k3 : 0 ≤ h) (k4 : h ≤ 1000) (k7 : o + h ≤ 1000) (k5 : 0 ≤ p) (k6 : p ≤ 1000000000) (hX : Hid (wgt o h * p / 1013000 = X)) (hY : Hid ((wgt o h * p + 1013000 - 1) / 1013000 = Y)) :
    Calls Tryd.prog 46 #[.agg #[.int .i64 o, .int .i64 h], .int .i64 p] w fun e w' => e = .returned (.agg #[.int .i64 X, .int .i64 Y]) ∧ Below w.heap.size w w' := by
  obtain ⟨b1, b2⟩ := wgt_bd k1 k2 k3 k4 k7
  obtain ⟨c1, c2⟩ := wgt_mul k1 k2 k3 k4 k7 k5 k6
  have cW := fun w => refWeight_any o h w k1 k2 k3 k4 k7
  obtain ⟨W, hW⟩ : ∃ W, Hid (wgt o h = W) := ⟨_, rfl⟩
  rw [hW.out] at b1 b2 c1 c2 cW
  have HW := Lib.hid cW
  clear cW
  obtain ⟨Z, hZ⟩ : ∃ Z, Hid (W * p = Z) := ⟨_, rfl⟩
  rw [hZ.out] at c1 c2
  have u1 : IntKind.i64.wrap (W * p) = Z := by rw [hZ.out]; exact IntWalk.i64_in _ (by omega)
  have hX2 := hX.out
  have hY2 := hY.out
  rw [hW.out, hZ.out] at hX2 hY2
  have cF := fun w => baseFloor_nn Z 1013000 w c1 (by omega) (by omega) (by omega)
  have cC := fun w => baseCeil_nn Z 1013000 w c1 (by omega) (by omega) (by omega)
  rw [hX2] at cF
  rw [hY2] at cC
  have HF := Lib.hid cF
  have HC := Lib.hid cC
  clear cF cC hX2 hY2
  go_enter Tryd.func46, Tryd.ntmps46
  go_wp2_with fail
  refine (HW.out _).mono ?_
  rintro e w1 ⟨rfl, hbw1⟩
  have z1 := hbw1.size
  simp at z1
  have y0 : w1.cell? ⟨w.heap.size + 1, 0, none⟩ = some (.int .i64 0) := by rw [(bcell hbw1).1 _ _ (by simp)]; simp [go_sem]
  have y1 : w1.cell? ⟨w.heap.size + 1, 1, none⟩ = some (.int .i64 0) := by rw [(bcell hbw1).1 _ _ (by simp)]; simp [go_sem]
  have y2 : ∀ j, w1.frozen? ⟨w.heap.size + 1, j, none⟩ = false := by intro j; rw [(bcell hbw1).2 _ _ (by simp)]; simp [go_sem]
  go_wp2_with (first | (go_at_call 80; ((with_reducible refine (HF.out _).mono ?_)); rintro e w' ⟨rfl, rfl⟩) | (go_at_call 79; ((with_reducible refine (HC.out _).mono ?_)); rintro e w' ⟨rfl, rfl⟩))
  refine bodyPost_ret (v := .agg #[.int .i64 X, .int .i64 Y]) (by simp [results, Tryd.results46, go_sem, *]) rfl ⟨rfl, ?_⟩
  (repeat (first | (with_reducible refine Below.drew ?_) | (with_reducible refine below_drewN ?_ _) | (with_reducible refine Below.alloc ?_ (by first | omega | (simp; done) | (simp; omega) | (simp at *; omega)) _) | (with_reducible refine Below.setCell ?_ (by first | omega | (simp; done) | (simp; omega) | (simp at *; omega)) _) | (with_reducible exact Below.refl _ _) | (with_reducible assumption) | (with_reducible refine Below.trans ?_ (Below.mono (by assumption) (by first | omega | (simp; done) | (simp; omega) | (simp at *; omega))))))
end Go.Proofs.YtebieflnlmdllaaDoor
