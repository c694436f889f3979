import Derived.Test.YtijdphlejokijaaEWIWeigh
import Derived.Deep.DrawnRows
import Derived.Outline
namespace Go.Proofs.Ytijdphlejokijaa
open Go.ChangeShapes Go.WideShapes Go.ChangeAt Go.RowKit
set_option linter.unusedVariables false
set_option linter.unusedSimpArgs false
attribute [local go_sem ↓] Go.wp_at_zero Go.wp_at_succ

theorem Density_ok (o h p X Y : Int) (w : World) (hc : Hid (paE o h p = 0)) (hX : Hid (wgt o h * p / 1013000 = X)) (hY : Hid ((wgt o h * p + 1013000 - 1) / 1013000 = Y)) :
    Calls Try.prog 115 #[.agg #[.int .i64 o, .int .i64 h], .int .i64 p] w fun e w' => e = .returned (.tuple #[.agg #[.int .i64 X, .int .i64 Y], .int .i64 0]) ∧ Below w.heap.size w w' := by
  obtain ⟨h1, h2⟩ := firE2_z (show firE [gasE o h, rngE p 0 100000] = 0 from hc.out)
  obtain ⟨k1, k2, k3, k4, k7⟩ := gasE_z h1
  obtain ⟨k5, k6⟩ := rngE_z h2
  have cW := fun w => weigh_any o h p w k1 k2 k3 k4 k7 k5 (by omega)
  rw [hX.out, hY.out] at cW
  have HW := Lib.hid cW
  have hb2 : (firE [gasE o h, rngE p 0 100000] != 0) = false := by have := hc.out; unfold paE at this; rw [this]; rfl
  clear cW h1 h2
  go_enter Try.func115, Try.ntmps115
  go_wp2_with (first | (go_at_call 85; ((with_reducible refine (CheckGas_any _ _ _).mono ?_)); rintro e w' ⟨rfl, rfl⟩) | (go_at_call 130; ((with_reducible refine (checkPressure_any _ _).mono ?_)); rintro e w' ⟨rfl, rfl⟩) | (go_at_call 120; ((with_reducible refine (firstOf2c (gasE o h) (rngE p 0 100000) _ _ (by simp [go_sem]) (by simp [go_sem])).mono ?_)); rintro e w' ⟨rfl, rfl⟩))
  refine (HW.out _).mono ?_
  rintro e w1 ⟨rfl, hbw1⟩
  have z1 := hbw1.size
  simp at z1
  have y0 : w1.cell? ⟨w.heap.size + 1, 0, none⟩ = some (.int .i64 0) := by rw [(bcell hbw1).1 _ _ (by simp; try omega)]; simp [go_sem, World.cell?_alloc_past]
  have y1 : w1.cell? ⟨w.heap.size + 1, 1, none⟩ = some (.int .i64 0) := by rw [(bcell hbw1).1 _ _ (by simp; try omega)]; simp [go_sem, World.cell?_alloc_past]
  have y2 : ∀ j, w1.frozen? ⟨w.heap.size + 1, j, none⟩ = false := by intro j; rw [(bcell hbw1).2 _ _ (by simp; try omega)]; simp [go_sem, World.cell?_alloc_past]
  go_wp2
  refine bodyPost_ret (v := .tuple #[.agg #[.int .i64 X, .int .i64 Y], .int .i64 0]) (by simp [results, Try.results115, go_sem, *]) rfl ⟨rfl, (by (repeat (first | (with_reducible refine Below.drew ?_) | (with_reducible refine below_drewN ?_ _) | (with_reducible refine Below.alloc ?_ (by first | omega | (simp; done) | (simp; omega) | (simp at *; omega)) _) | (with_reducible refine Below.setCell ?_ (by first | omega | (simp; done) | (simp; omega) | (simp at *; omega)) _) | (with_reducible exact Below.refl _ _) | (with_reducible assumption) | (with_reducible refine Below.trans ?_ (Below.mono (by assumption) (by first | omega | (simp; done) | (simp; omega) | (simp at *; omega)))))))⟩
end Go.Proofs.Ytijdphlejokijaa
