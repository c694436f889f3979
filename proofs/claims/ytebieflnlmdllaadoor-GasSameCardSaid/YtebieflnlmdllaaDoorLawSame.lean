/- The walk of shotlinelaw01.GasSame: it returns true. -/
import Derived.Test.YtebieflnlmdllaaDoorLawEquals
import Derived.Test.YtebieflnlmdllaaDoorRefA
import Derived.Outline
namespace Go.Proofs.YtebieflnlmdllaaDoor
open Go.ChangeShapes Go.WideShapes Go.ChangeAt Go.RowKit
set_option linter.unusedVariables false
set_option linter.unusedSimpArgs false
attribute [local go_sem ↓] Go.wp_at_zero Go.wp_at_succ

theorem same_math {X Y s d A B C D : Int} (x1 : 0 ≤ X) (x2 : X ≤ 40000000) (y1 : 0 ≤ Y) (y2 : Y ≤ 1000 * (s + d)) (k5 : 400 ≤ s) (k6 : s ≤ 1100) (k8 : 0 ≤ d) (k9 : d ≤ 30000)
    (hA : above (X / 790) s = A) (hB : above ((X + 790 - 1) / 790) s = B) (hC : above (Y / 1000) s = C) (hD : above ((Y + 1000 - 1) / 1000) s = D) :
    0 ≤ A ∧ A ≤ B ∧ B ≤ 60000 ∧ 0 ≤ C ∧ C ≤ D ∧ D ≤ d ∧ (A = 0 ∨ 790 * (s + A) ≤ X) ∧ X ≤ 790 * (s + B) := by
  unfold above at hA hB hC hD
  split at hA <;> split at hB <;> split at hC <;> split at hD <;> omega
theorem Partial_v (o h p X Y Z : Int) (w : World) (k1 : 0 ≤ o) (k2 : o ≤ 1000) (k3 : 0 ≤ h) (k4 : h ≤ 1000) (k5 : 0 ≤ p) (k6 : p ≤ 100000) (k7 : o + h ≤ 1000) (hX : Hid (o * p = X)) (hY : Hid (h * p = Y)) (hZ : Hid ((1000 - o - h) * p = Z)) :
    Calls Tryd.prog 26 #[.agg #[.int .i64 o, .int .i64 h], .int .i64 p] w fun e w' => e = .returned (.tuple #[.agg #[.int .i64 X, .int .i64 Y, .int .i64 Z], .int .i64 0]) ∧ Below w.heap.size w w' := by
  have hb : (paE o h p != 0) = false := by
    unfold paE
    rw [show gasE o h = 0 by unfold gasE; rw [if_pos ⟨inB_true k1 k2, inB_true k3 k4⟩, if_pos k7], rngE_t (inB_true k5 k6)]
    decide
  have := Partial_t2 o h p w hb k1 k2 k3 k4 k5 k6 k7
  rw [hX.out, hY.out, hZ.out] at this
  exact this
set_option maxRecDepth 100000 in
set_option maxHeartbeats 2000000 in
theorem slaw_b (o h s d : Int) (w : World) (m : Int) (hm : w.cell? ⟨1, 0, none⟩ = some (.int .i64 m)) (hb : (eqE o h s d != 0) = true) :
    Calls Tryd.prog 8 #[.agg #[.int .i64 o, .int .i64 h], .int .i64 s, .int .i64 d] w fun e w' => e = .returned (.bool true) ∧ Below w.heap.size w w' := by
  have hl := World.block_lt_of_cell? _ _ hm
  have hne : w.heap.size ≠ 1 := by simp at hl; omega
  have hl2 : 1 < w.heap.size := by simpa using hl
  go_enter Tryd.func8, Tryd.ntmps8
  go_wp2_with fail
  refine (awake_any _ m (by simp [go_sem, World.cell?_alloc_past, *])).mono ?_
  rintro e w1 ⟨rfl, hbw1⟩
  have z1 := hbw1.size
  try simp at z1
  have c1_0 : w1.cell? ⟨w.heap.size, 0, none⟩ = some (.int .i64 o) := by rw [(bcell hbw1).1 _ _ (by first | (simp; done) | (simp; omega) | omega)]; simp [go_sem, World.cell?_alloc_past, *]
  have c1_1 : w1.cell? ⟨w.heap.size, 1, none⟩ = some (.int .i64 h) := by rw [(bcell hbw1).1 _ _ (by first | (simp; done) | (simp; omega) | omega)]; simp [go_sem, World.cell?_alloc_past, *]
  have hB1 : Below w.heap.size w w1 := (by (repeat (first | (with_reducible refine Below.drew ?_) | (with_reducible refine below_drewN ?_ _) | (with_reducible refine Below.alloc ?_ (by first | omega | (simp; done) | (simp; omega) | (simp at *; omega)) _) | (with_reducible refine Below.setCell ?_ (by first | omega | (simp; done) | (simp; omega) | (simp at *; omega)) _) | (with_reducible exact Below.refl _ _) | (with_reducible assumption) | (with_reducible refine Below.trans ?_ (Below.mono (by assumption) (by first | omega | (simp; done) | (simp; omega) | (simp at *; omega)))))))
  have o1_0 : w.heap.size < w1.heap.size := by omega
  have n1_0 : w1.heap.size ≠ w.heap.size := by omega
  have t1_0_1 : w.heap.size < w1.heap.size + 1 := by omega
  have t1_0_2 : w.heap.size < w1.heap.size + 1 + 1 := by omega
  have t1_0_3 : w.heap.size < w1.heap.size + 1 + 1 + 1 := by omega
  have t1_0_4 : w.heap.size < w1.heap.size + 1 + 1 + 1 + 1 := by omega
  have t1_0_5 : w.heap.size < w1.heap.size + 1 + 1 + 1 + 1 + 1 := by omega
  have b1 : w.heap.size ≤ w1.heap.size := by omega
  clear hbw1
  go_wp2_with fail
  refine (place_any _ _ _ _ _).mono ?_
  rintro e w2 ⟨rfl, hbw2⟩
  have z2 := hbw2.size
  try simp at z2
  have c2_0 : w2.cell? ⟨w.heap.size, 0, none⟩ = some (.int .i64 o) := by rw [(bcell hbw2).1 _ _ (by first | (simp; done) | (simp; omega) | omega)]; simp [go_sem, World.cell?_alloc_past, *]
  have c2_1 : w2.cell? ⟨w.heap.size, 1, none⟩ = some (.int .i64 h) := by rw [(bcell hbw2).1 _ _ (by first | (simp; done) | (simp; omega) | omega)]; simp [go_sem, World.cell?_alloc_past, *]
  have hB2 : Below w.heap.size w w2 := (by (repeat (first | (with_reducible refine Below.drew ?_) | (with_reducible refine below_drewN ?_ _) | (with_reducible refine Below.alloc ?_ (by first | omega | (simp; done) | (simp; omega) | (simp at *; omega)) _) | (with_reducible refine Below.setCell ?_ (by first | omega | (simp; done) | (simp; omega) | (simp at *; omega)) _) | (with_reducible exact Below.refl _ _) | (with_reducible assumption) | (with_reducible refine Below.trans ?_ (Below.mono (by assumption) (by first | omega | (simp; done) | (simp; omega) | (simp at *; omega)))))))
  clear c1_0 c1_1 o1_0 n1_0 t1_0_1 t1_0_2 t1_0_3 t1_0_4 t1_0_5
  have o2_0 : w.heap.size < w2.heap.size := by omega
  have n2_0 : w2.heap.size ≠ w.heap.size := by omega
  have t2_0_1 : w.heap.size < w2.heap.size + 1 := by omega
  have t2_0_2 : w.heap.size < w2.heap.size + 1 + 1 := by omega
  have t2_0_3 : w.heap.size < w2.heap.size + 1 + 1 + 1 := by omega
  have t2_0_4 : w.heap.size < w2.heap.size + 1 + 1 + 1 + 1 := by omega
  have t2_0_5 : w.heap.size < w2.heap.size + 1 + 1 + 1 + 1 + 1 := by omega
  have b2 : w.heap.size ≤ w2.heap.size := by omega
  clear hbw2
  go_wp2
  go_ret
  exact ⟨rfl, (by (repeat (first | (with_reducible refine Below.drew ?_) | (with_reducible refine below_drewN ?_ _) | (with_reducible refine Below.alloc ?_ (by first | omega | (simp; done) | (simp; omega) | (simp at *; omega)) _) | (with_reducible refine Below.setCell ?_ (by first | omega | (simp; done) | (simp; omega) | (simp at *; omega)) _) | (with_reducible exact Below.refl _ _) | (with_reducible assumption) | (with_reducible refine Below.trans ?_ (Below.mono (by assumption) (by first | omega | (simp; done) | (simp; omega) | (simp at *; omega)))))))⟩
set_option maxRecDepth 100000 in
set_option maxHeartbeats 4000000 in
theorem slaw_k (o h s d : Int) (w : World) (m : Int) (hm : w.cell? ⟨1, 0, none⟩ = some (.int .i64 m)) (hb : (eqE o h s d != 0) = false) (hz : Hid (eqE o h s d = 0)) (k1 : 0 ≤ o) (k2 : o ≤ 1000) (k3 : 0 ≤ h) (k4 : h ≤ 1000) (k7 : o + h ≤ 1000) (k5 : 400 ≤ s) (k6 : s ≤ 1100) (k8 : 0 ≤ d) (k9 : d ≤ 30000) :
    Calls Tryd.prog 8 #[.agg #[.int .i64 o, .int .i64 h], .int .i64 s, .int .i64 d] w fun e w' => e = .returned (.bool true) ∧ Below w.heap.size w w' := by
  have hl := World.block_lt_of_cell? _ _ hm
  have hne : w.heap.size ≠ 1 := by simp at hl; omega
  have hl2 : 1 < w.heap.size := by simpa using hl
  obtain ⟨X, hX⟩ : ∃ X, Hid ((1000 - o - h) * (s + d) = X) := ⟨_, rfl⟩
  obtain ⟨Y, hY⟩ : ∃ Y, Hid ((1000 - h) * (s + d) = Y) := ⟨_, rfl⟩
  have x1 : 0 ≤ X := by rw [← hX.out]; exact Int.mul_nonneg (by omega) (by omega)
  have x2 : X ≤ 40000000 := by rw [← hX.out]; exact Int.le_trans (Int.mul_le_mul (show 1000 - o - h ≤ 1000 by omega) (show s + d ≤ 31100 by omega) (by omega) (by omega)) (by omega)
  have y1 : 0 ≤ Y := by rw [← hY.out]; exact Int.mul_nonneg (by omega) (by omega)
  have y3 : Y ≤ 1000 * (s + d) := by rw [← hY.out]; exact Int.mul_le_mul_of_nonneg_right (by omega) (by omega)
  have y2 : Y ≤ 40000000 := by omega
  have cA := fun w => EquivalentAir_ok o h s d X w hb k1 k2 k3 k4 k7 k5 k6 k8 k9 hX x1 x2
  have cN := fun w => EquivalentNarcotic_ok o h s d Y w hb k1 k2 k3 k4 k7 k5 k6 k8 k9 hY y1 y2
  obtain ⟨A, hA⟩ : ∃ A, above (X / 790) s = A := ⟨_, rfl⟩
  obtain ⟨B, hB⟩ : ∃ B, above ((X + 790 - 1) / 790) s = B := ⟨_, rfl⟩
  obtain ⟨C, hC⟩ : ∃ C, above (Y / 1000) s = C := ⟨_, rfl⟩
  obtain ⟨D, hD⟩ : ∃ D, above ((Y + 1000 - 1) / 1000) s = D := ⟨_, rfl⟩
  obtain ⟨f1, f2, f3, f4, f5, f6, f7, f8⟩ := same_math x1 x2 y1 y3 k5 k6 k8 k9 hA hB hC hD
  rw [hA, hB] at cA
  rw [hC, hD] at cN
  have HcA := Lib.hid cA
  have HcN := Lib.hid cN
  clear cA cN hA hB hC hD
  have f9 : 0 ≤ B := by omega
  have f10 : 0 ≤ D := by omega
  obtain ⟨P0, hP0⟩ : ∃ x, Hid (o * (s + d) = x) := ⟨_, rfl⟩
  obtain ⟨P1, hP1⟩ : ∃ x, Hid (h * (s + d) = x) := ⟨_, rfl⟩
  obtain ⟨L0, hL0⟩ : ∃ x, Hid (210 * (s + A) = x) := ⟨_, rfl⟩
  obtain ⟨L1, hL1⟩ : ∃ x, Hid (0 * (s + A) = x) := ⟨_, rfl⟩
  obtain ⟨L2, hL2⟩ : ∃ x, Hid ((1000 - 210 - 0) * (s + A) = x) := ⟨_, rfl⟩
  obtain ⟨H0, hH0⟩ : ∃ x, Hid (210 * (s + B) = x) := ⟨_, rfl⟩
  obtain ⟨H1, hH1⟩ : ∃ x, Hid (0 * (s + B) = x) := ⟨_, rfl⟩
  obtain ⟨H2, hH2⟩ : ∃ x, Hid ((1000 - 210 - 0) * (s + B) = x) := ⟨_, rfl⟩
  have f8' : X ≤ H2 := by have := hH2.out; omega
  have f7' : A = 0 ∨ L2 ≤ X := by have := hL2.out; omega
  have F7 := Lib.hid f7'
  clear f7 f8 f7'
  go_enter Tryd.func8, Tryd.ntmps8
  go_wp2_with fail
  refine (awake_any _ m (by simp [go_sem, World.cell?_alloc_past, *])).mono ?_
  rintro e w1 ⟨rfl, hbw1⟩
  have z1 := hbw1.size
  try simp at z1
  have c1_0 : w1.cell? ⟨w.heap.size, 0, none⟩ = some (.int .i64 o) := by rw [(bcell hbw1).1 _ _ (by first | (simp; done) | (simp; omega) | omega)]; simp [go_sem, World.cell?_alloc_past, *]
  have c1_1 : w1.cell? ⟨w.heap.size, 1, none⟩ = some (.int .i64 h) := by rw [(bcell hbw1).1 _ _ (by first | (simp; done) | (simp; omega) | omega)]; simp [go_sem, World.cell?_alloc_past, *]
  have hB1 : Below w.heap.size w w1 := (by (repeat (first | (with_reducible refine Below.drew ?_) | (with_reducible refine below_drewN ?_ _) | (with_reducible refine Below.alloc ?_ (by first | omega | (simp; done) | (simp; omega) | (simp at *; omega)) _) | (with_reducible refine Below.setCell ?_ (by first | omega | (simp; done) | (simp; omega) | (simp at *; omega)) _) | (with_reducible exact Below.refl _ _) | (with_reducible assumption) | (with_reducible refine Below.trans ?_ (Below.mono (by assumption) (by first | omega | (simp; done) | (simp; omega) | (simp at *; omega)))))))
  have o1_0 : w.heap.size < w1.heap.size := by omega
  have n1_0 : w1.heap.size ≠ w.heap.size := by omega
  have t1_0_1 : w.heap.size < w1.heap.size + 1 := by omega
  have t1_0_2 : w.heap.size < w1.heap.size + 1 + 1 := by omega
  have t1_0_3 : w.heap.size < w1.heap.size + 1 + 1 + 1 := by omega
  have t1_0_4 : w.heap.size < w1.heap.size + 1 + 1 + 1 + 1 := by omega
  have t1_0_5 : w.heap.size < w1.heap.size + 1 + 1 + 1 + 1 + 1 := by omega
  have b1 : w.heap.size ≤ w1.heap.size := by omega
  clear hbw1
  go_wp2_with fail
  refine (place_ok _ _ _ _ _ hz).mono ?_
  rintro e w2 ⟨rfl, hbw2⟩
  have z2 := hbw2.size
  try simp at z2
  have c2_0 : w2.cell? ⟨w.heap.size, 0, none⟩ = some (.int .i64 o) := by rw [(bcell hbw2).1 _ _ (by first | (simp; done) | (simp; omega) | omega)]; simp [go_sem, World.cell?_alloc_past, *]
  have c2_1 : w2.cell? ⟨w.heap.size, 1, none⟩ = some (.int .i64 h) := by rw [(bcell hbw2).1 _ _ (by first | (simp; done) | (simp; omega) | omega)]; simp [go_sem, World.cell?_alloc_past, *]
  have hB2 : Below w.heap.size w w2 := (by (repeat (first | (with_reducible refine Below.drew ?_) | (with_reducible refine below_drewN ?_ _) | (with_reducible refine Below.alloc ?_ (by first | omega | (simp; done) | (simp; omega) | (simp at *; omega)) _) | (with_reducible refine Below.setCell ?_ (by first | omega | (simp; done) | (simp; omega) | (simp at *; omega)) _) | (with_reducible exact Below.refl _ _) | (with_reducible assumption) | (with_reducible refine Below.trans ?_ (Below.mono (by assumption) (by first | omega | (simp; done) | (simp; omega) | (simp at *; omega)))))))
  clear c1_0 c1_1 o1_0 n1_0 t1_0_1 t1_0_2 t1_0_3 t1_0_4 t1_0_5
  have o2_0 : w.heap.size < w2.heap.size := by omega
  have n2_0 : w2.heap.size ≠ w.heap.size := by omega
  have t2_0_1 : w.heap.size < w2.heap.size + 1 := by omega
  have t2_0_2 : w.heap.size < w2.heap.size + 1 + 1 := by omega
  have t2_0_3 : w.heap.size < w2.heap.size + 1 + 1 + 1 := by omega
  have t2_0_4 : w.heap.size < w2.heap.size + 1 + 1 + 1 + 1 := by omega
  have t2_0_5 : w.heap.size < w2.heap.size + 1 + 1 + 1 + 1 + 1 := by omega
  have b2 : w.heap.size ≤ w2.heap.size := by omega
  clear hbw2
  go_wp2_with fail
  refine (HcA.out _).mono ?_
  rintro e w3 ⟨rfl, hbw3⟩
  have z3 := hbw3.size
  try simp at z3
  have c3_0 : w3.cell? ⟨w.heap.size, 0, none⟩ = some (.int .i64 o) := by rw [(bcell hbw3).1 _ _ (by first | (simp; done) | (simp; omega) | omega)]; simp [go_sem, World.cell?_alloc_past, *]
  have c3_1 : w3.cell? ⟨w.heap.size, 1, none⟩ = some (.int .i64 h) := by rw [(bcell hbw3).1 _ _ (by first | (simp; done) | (simp; omega) | omega)]; simp [go_sem, World.cell?_alloc_past, *]
  have hB3 : Below w.heap.size w w3 := (by (repeat (first | (with_reducible refine Below.drew ?_) | (with_reducible refine below_drewN ?_ _) | (with_reducible refine Below.alloc ?_ (by first | omega | (simp; done) | (simp; omega) | (simp at *; omega)) _) | (with_reducible refine Below.setCell ?_ (by first | omega | (simp; done) | (simp; omega) | (simp at *; omega)) _) | (with_reducible exact Below.refl _ _) | (with_reducible assumption) | (with_reducible refine Below.trans ?_ (Below.mono (by assumption) (by first | omega | (simp; done) | (simp; omega) | (simp at *; omega)))))))
  clear c2_0 c2_1 o2_0 n2_0 t2_0_1 t2_0_2 t2_0_3 t2_0_4 t2_0_5
  have o3_0 : w.heap.size < w3.heap.size := by omega
  have n3_0 : w3.heap.size ≠ w.heap.size := by omega
  have t3_0_1 : w.heap.size < w3.heap.size + 1 := by omega
  have t3_0_2 : w.heap.size < w3.heap.size + 1 + 1 := by omega
  have t3_0_3 : w.heap.size < w3.heap.size + 1 + 1 + 1 := by omega
  have t3_0_4 : w.heap.size < w3.heap.size + 1 + 1 + 1 + 1 := by omega
  have t3_0_5 : w.heap.size < w3.heap.size + 1 + 1 + 1 + 1 + 1 := by omega
  have b3 : w.heap.size ≤ w3.heap.size := by omega
  clear hbw3
  go_wp2_with fail
  refine (HcN.out _).mono ?_
  rintro e w4 ⟨rfl, hbw4⟩
  have z4 := hbw4.size
  try simp at z4
  have c4_0 : w4.cell? ⟨w.heap.size, 0, none⟩ = some (.int .i64 o) := by rw [(bcell hbw4).1 _ _ (by first | (simp; done) | (simp; omega) | omega)]; simp [go_sem, World.cell?_alloc_past, *]
  have c4_1 : w4.cell? ⟨w.heap.size, 1, none⟩ = some (.int .i64 h) := by rw [(bcell hbw4).1 _ _ (by first | (simp; done) | (simp; omega) | omega)]; simp [go_sem, World.cell?_alloc_past, *]
  have c4_2 : w4.cell? ⟨w3.heap.size, 0, none⟩ = some (.int .i64 A) := by rw [(bcell hbw4).1 _ _ (by first | (simp; done) | (simp; omega) | omega)]; simp [go_sem, World.cell?_alloc_past, *]
  have c4_3 : w4.cell? ⟨w3.heap.size, 1, none⟩ = some (.int .i64 B) := by rw [(bcell hbw4).1 _ _ (by first | (simp; done) | (simp; omega) | omega)]; simp [go_sem, World.cell?_alloc_past, *]
  have hB4 : Below w.heap.size w w4 := (by (repeat (first | (with_reducible refine Below.drew ?_) | (with_reducible refine below_drewN ?_ _) | (with_reducible refine Below.alloc ?_ (by first | omega | (simp; done) | (simp; omega) | (simp at *; omega)) _) | (with_reducible refine Below.setCell ?_ (by first | omega | (simp; done) | (simp; omega) | (simp at *; omega)) _) | (with_reducible exact Below.refl _ _) | (with_reducible assumption) | (with_reducible refine Below.trans ?_ (Below.mono (by assumption) (by first | omega | (simp; done) | (simp; omega) | (simp at *; omega)))))))
  clear c3_0 c3_1 o3_0 n3_0 t3_0_1 t3_0_2 t3_0_3 t3_0_4 t3_0_5
  have o4_0 : w.heap.size < w4.heap.size := by omega
  have n4_0 : w4.heap.size ≠ w.heap.size := by omega
  have t4_0_1 : w.heap.size < w4.heap.size + 1 := by omega
  have t4_0_2 : w.heap.size < w4.heap.size + 1 + 1 := by omega
  have t4_0_3 : w.heap.size < w4.heap.size + 1 + 1 + 1 := by omega
  have t4_0_4 : w.heap.size < w4.heap.size + 1 + 1 + 1 + 1 := by omega
  have t4_0_5 : w.heap.size < w4.heap.size + 1 + 1 + 1 + 1 + 1 := by omega
  have o4_1 : w3.heap.size < w4.heap.size := by omega
  have n4_1 : w4.heap.size ≠ w3.heap.size := by omega
  have t4_1_1 : w3.heap.size < w4.heap.size + 1 := by omega
  have t4_1_2 : w3.heap.size < w4.heap.size + 1 + 1 := by omega
  have t4_1_3 : w3.heap.size < w4.heap.size + 1 + 1 + 1 := by omega
  have t4_1_4 : w3.heap.size < w4.heap.size + 1 + 1 + 1 + 1 := by omega
  have t4_1_5 : w3.heap.size < w4.heap.size + 1 + 1 + 1 + 1 + 1 := by omega
  have b4 : w.heap.size ≤ w4.heap.size := by omega
  clear hbw4
  go_wp2_with ((go_at_call 34; ((with_reducible refine (baseWithin_t _ _ _ _ (by omega) (by omega)).mono ?_)); rintro e w' ⟨rfl, rfl⟩))
  refine (Partial_v o h (s + d) _ _ _ _ k1 k2 k3 k4 (by omega) (by omega) k7 hP0 hP1 hX).mono ?_
  rintro e w5 ⟨rfl, hbw5⟩
  have z5 := hbw5.size
  try simp at z5
  have c5_0 : w5.cell? ⟨w.heap.size, 0, none⟩ = some (.int .i64 o) := by rw [(bcell hbw5).1 _ _ (by first | (simp; done) | (simp; omega) | omega)]; simp [go_sem, World.cell?_alloc_past, *]
  have c5_1 : w5.cell? ⟨w.heap.size, 1, none⟩ = some (.int .i64 h) := by rw [(bcell hbw5).1 _ _ (by first | (simp; done) | (simp; omega) | omega)]; simp [go_sem, World.cell?_alloc_past, *]
  have c5_2 : w5.cell? ⟨w3.heap.size, 0, none⟩ = some (.int .i64 A) := by rw [(bcell hbw5).1 _ _ (by first | (simp; done) | (simp; omega) | omega)]; simp [go_sem, World.cell?_alloc_past, *]
  have c5_3 : w5.cell? ⟨w3.heap.size, 1, none⟩ = some (.int .i64 B) := by rw [(bcell hbw5).1 _ _ (by first | (simp; done) | (simp; omega) | omega)]; simp [go_sem, World.cell?_alloc_past, *]
  have c5_4 : w5.cell? ⟨w4.heap.size, 0, none⟩ = some (.int .i64 C) := by rw [(bcell hbw5).1 _ _ (by first | (simp; done) | (simp; omega) | omega)]; simp [go_sem, World.cell?_alloc_past, *]
  have c5_5 : w5.cell? ⟨w4.heap.size, 1, none⟩ = some (.int .i64 D) := by rw [(bcell hbw5).1 _ _ (by first | (simp; done) | (simp; omega) | omega)]; simp [go_sem, World.cell?_alloc_past, *]
  have c5_6 : w5.cell? ⟨w4.heap.size + 1, 0, none⟩ = some (.int .i64 210) := by rw [(bcell hbw5).1 _ _ (by first | (simp; done) | (simp; omega) | omega)]; simp [go_sem, World.cell?_alloc_past, *]
  have c5_7 : w5.cell? ⟨w4.heap.size + 1, 1, none⟩ = some (.int .i64 0) := by rw [(bcell hbw5).1 _ _ (by first | (simp; done) | (simp; omega) | omega)]; simp [go_sem, World.cell?_alloc_past, *]
  have hB5 : Below w.heap.size w w5 := (by (repeat (first | (with_reducible refine Below.drew ?_) | (with_reducible refine below_drewN ?_ _) | (with_reducible refine Below.alloc ?_ (by first | omega | (simp; done) | (simp; omega) | (simp at *; omega)) _) | (with_reducible refine Below.setCell ?_ (by first | omega | (simp; done) | (simp; omega) | (simp at *; omega)) _) | (with_reducible exact Below.refl _ _) | (with_reducible assumption) | (with_reducible refine Below.trans ?_ (Below.mono (by assumption) (by first | omega | (simp; done) | (simp; omega) | (simp at *; omega)))))))
  clear c4_0 c4_1 c4_2 c4_3 o4_0 n4_0 t4_0_1 t4_0_2 t4_0_3 t4_0_4 t4_0_5 o4_1 n4_1 t4_1_1 t4_1_2 t4_1_3 t4_1_4 t4_1_5
  have o5_0 : w.heap.size < w5.heap.size := by omega
  have n5_0 : w5.heap.size ≠ w.heap.size := by omega
  have t5_0_1 : w.heap.size < w5.heap.size + 1 := by omega
  have t5_0_2 : w.heap.size < w5.heap.size + 1 + 1 := by omega
  have t5_0_3 : w.heap.size < w5.heap.size + 1 + 1 + 1 := by omega
  have t5_0_4 : w.heap.size < w5.heap.size + 1 + 1 + 1 + 1 := by omega
  have t5_0_5 : w.heap.size < w5.heap.size + 1 + 1 + 1 + 1 + 1 := by omega
  have o5_1 : w3.heap.size < w5.heap.size := by omega
  have n5_1 : w5.heap.size ≠ w3.heap.size := by omega
  have t5_1_1 : w3.heap.size < w5.heap.size + 1 := by omega
  have t5_1_2 : w3.heap.size < w5.heap.size + 1 + 1 := by omega
  have t5_1_3 : w3.heap.size < w5.heap.size + 1 + 1 + 1 := by omega
  have t5_1_4 : w3.heap.size < w5.heap.size + 1 + 1 + 1 + 1 := by omega
  have t5_1_5 : w3.heap.size < w5.heap.size + 1 + 1 + 1 + 1 + 1 := by omega
  have o5_2 : w4.heap.size < w5.heap.size := by omega
  have n5_2 : w5.heap.size ≠ w4.heap.size := by omega
  have t5_2_1 : w4.heap.size < w5.heap.size + 1 := by omega
  have t5_2_2 : w4.heap.size < w5.heap.size + 1 + 1 := by omega
  have t5_2_3 : w4.heap.size < w5.heap.size + 1 + 1 + 1 := by omega
  have t5_2_4 : w4.heap.size < w5.heap.size + 1 + 1 + 1 + 1 := by omega
  have t5_2_5 : w4.heap.size < w5.heap.size + 1 + 1 + 1 + 1 + 1 := by omega
  have o5_3 : w4.heap.size + 1 < w5.heap.size := by omega
  have n5_3 : w5.heap.size ≠ w4.heap.size + 1 := by omega
  have t5_3_1 : w4.heap.size + 1 < w5.heap.size + 1 := by omega
  have t5_3_2 : w4.heap.size + 1 < w5.heap.size + 1 + 1 := by omega
  have t5_3_3 : w4.heap.size + 1 < w5.heap.size + 1 + 1 + 1 := by omega
  have t5_3_4 : w4.heap.size + 1 < w5.heap.size + 1 + 1 + 1 + 1 := by omega
  have t5_3_5 : w4.heap.size + 1 < w5.heap.size + 1 + 1 + 1 + 1 + 1 := by omega
  have b5 : w.heap.size ≤ w5.heap.size := by omega
  clear hbw5
  go_wp2_with fail
  refine (Partial_v 210 0 (s + A) _ _ _ _ (by omega) (by omega) (by omega) (by omega) (by omega) (by omega) (by omega) hL0 hL1 hL2).mono ?_
  rintro e w6 ⟨rfl, hbw6⟩
  have z6 := hbw6.size
  try simp at z6
  have c6_0 : w6.cell? ⟨w.heap.size, 0, none⟩ = some (.int .i64 o) := by rw [(bcell hbw6).1 _ _ (by first | (simp; done) | (simp; omega) | omega)]; simp [go_sem, World.cell?_alloc_past, *]
  have c6_1 : w6.cell? ⟨w.heap.size, 1, none⟩ = some (.int .i64 h) := by rw [(bcell hbw6).1 _ _ (by first | (simp; done) | (simp; omega) | omega)]; simp [go_sem, World.cell?_alloc_past, *]
  have c6_2 : w6.cell? ⟨w3.heap.size, 0, none⟩ = some (.int .i64 A) := by rw [(bcell hbw6).1 _ _ (by first | (simp; done) | (simp; omega) | omega)]; simp [go_sem, World.cell?_alloc_past, *]
  have c6_3 : w6.cell? ⟨w3.heap.size, 1, none⟩ = some (.int .i64 B) := by rw [(bcell hbw6).1 _ _ (by first | (simp; done) | (simp; omega) | omega)]; simp [go_sem, World.cell?_alloc_past, *]
  have c6_4 : w6.cell? ⟨w4.heap.size, 0, none⟩ = some (.int .i64 C) := by rw [(bcell hbw6).1 _ _ (by first | (simp; done) | (simp; omega) | omega)]; simp [go_sem, World.cell?_alloc_past, *]
  have c6_5 : w6.cell? ⟨w4.heap.size, 1, none⟩ = some (.int .i64 D) := by rw [(bcell hbw6).1 _ _ (by first | (simp; done) | (simp; omega) | omega)]; simp [go_sem, World.cell?_alloc_past, *]
  have c6_6 : w6.cell? ⟨w4.heap.size + 1, 0, none⟩ = some (.int .i64 210) := by rw [(bcell hbw6).1 _ _ (by first | (simp; done) | (simp; omega) | omega)]; simp [go_sem, World.cell?_alloc_past, *]
  have c6_7 : w6.cell? ⟨w4.heap.size + 1, 1, none⟩ = some (.int .i64 0) := by rw [(bcell hbw6).1 _ _ (by first | (simp; done) | (simp; omega) | omega)]; simp [go_sem, World.cell?_alloc_past, *]
  have c6_8 : w6.cell? ⟨w5.heap.size, 0, none⟩ = some (.int .i64 P0) := by rw [(bcell hbw6).1 _ _ (by first | (simp; done) | (simp; omega) | omega)]; simp [go_sem, World.cell?_alloc_past, *]
  have c6_9 : w6.cell? ⟨w5.heap.size, 1, none⟩ = some (.int .i64 P1) := by rw [(bcell hbw6).1 _ _ (by first | (simp; done) | (simp; omega) | omega)]; simp [go_sem, World.cell?_alloc_past, *]
  have c6_10 : w6.cell? ⟨w5.heap.size, 2, none⟩ = some (.int .i64 X) := by rw [(bcell hbw6).1 _ _ (by first | (simp; done) | (simp; omega) | omega)]; simp [go_sem, World.cell?_alloc_past, *]
  have hB6 : Below w.heap.size w w6 := (by (repeat (first | (with_reducible refine Below.drew ?_) | (with_reducible refine below_drewN ?_ _) | (with_reducible refine Below.alloc ?_ (by first | omega | (simp; done) | (simp; omega) | (simp at *; omega)) _) | (with_reducible refine Below.setCell ?_ (by first | omega | (simp; done) | (simp; omega) | (simp at *; omega)) _) | (with_reducible exact Below.refl _ _) | (with_reducible assumption) | (with_reducible refine Below.trans ?_ (Below.mono (by assumption) (by first | omega | (simp; done) | (simp; omega) | (simp at *; omega)))))))
  clear c5_0 c5_1 c5_2 c5_3 c5_4 c5_5 c5_6 c5_7 o5_0 n5_0 t5_0_1 t5_0_2 t5_0_3 t5_0_4 t5_0_5 o5_1 n5_1 t5_1_1 t5_1_2 t5_1_3 t5_1_4 t5_1_5 o5_2 n5_2 t5_2_1 t5_2_2 t5_2_3 t5_2_4 t5_2_5 o5_3 n5_3 t5_3_1 t5_3_2 t5_3_3 t5_3_4 t5_3_5
  have o6_0 : w.heap.size < w6.heap.size := by omega
  have n6_0 : w6.heap.size ≠ w.heap.size := by omega
  have t6_0_1 : w.heap.size < w6.heap.size + 1 := by omega
  have t6_0_2 : w.heap.size < w6.heap.size + 1 + 1 := by omega
  have t6_0_3 : w.heap.size < w6.heap.size + 1 + 1 + 1 := by omega
  have t6_0_4 : w.heap.size < w6.heap.size + 1 + 1 + 1 + 1 := by omega
  have t6_0_5 : w.heap.size < w6.heap.size + 1 + 1 + 1 + 1 + 1 := by omega
  have o6_1 : w3.heap.size < w6.heap.size := by omega
  have n6_1 : w6.heap.size ≠ w3.heap.size := by omega
  have t6_1_1 : w3.heap.size < w6.heap.size + 1 := by omega
  have t6_1_2 : w3.heap.size < w6.heap.size + 1 + 1 := by omega
  have t6_1_3 : w3.heap.size < w6.heap.size + 1 + 1 + 1 := by omega
  have t6_1_4 : w3.heap.size < w6.heap.size + 1 + 1 + 1 + 1 := by omega
  have t6_1_5 : w3.heap.size < w6.heap.size + 1 + 1 + 1 + 1 + 1 := by omega
  have o6_2 : w4.heap.size < w6.heap.size := by omega
  have n6_2 : w6.heap.size ≠ w4.heap.size := by omega
  have t6_2_1 : w4.heap.size < w6.heap.size + 1 := by omega
  have t6_2_2 : w4.heap.size < w6.heap.size + 1 + 1 := by omega
  have t6_2_3 : w4.heap.size < w6.heap.size + 1 + 1 + 1 := by omega
  have t6_2_4 : w4.heap.size < w6.heap.size + 1 + 1 + 1 + 1 := by omega
  have t6_2_5 : w4.heap.size < w6.heap.size + 1 + 1 + 1 + 1 + 1 := by omega
  have o6_3 : w4.heap.size + 1 < w6.heap.size := by omega
  have n6_3 : w6.heap.size ≠ w4.heap.size + 1 := by omega
  have t6_3_1 : w4.heap.size + 1 < w6.heap.size + 1 := by omega
  have t6_3_2 : w4.heap.size + 1 < w6.heap.size + 1 + 1 := by omega
  have t6_3_3 : w4.heap.size + 1 < w6.heap.size + 1 + 1 + 1 := by omega
  have t6_3_4 : w4.heap.size + 1 < w6.heap.size + 1 + 1 + 1 + 1 := by omega
  have t6_3_5 : w4.heap.size + 1 < w6.heap.size + 1 + 1 + 1 + 1 + 1 := by omega
  have o6_4 : w5.heap.size < w6.heap.size := by omega
  have n6_4 : w6.heap.size ≠ w5.heap.size := by omega
  have t6_4_1 : w5.heap.size < w6.heap.size + 1 := by omega
  have t6_4_2 : w5.heap.size < w6.heap.size + 1 + 1 := by omega
  have t6_4_3 : w5.heap.size < w6.heap.size + 1 + 1 + 1 := by omega
  have t6_4_4 : w5.heap.size < w6.heap.size + 1 + 1 + 1 + 1 := by omega
  have t6_4_5 : w5.heap.size < w6.heap.size + 1 + 1 + 1 + 1 + 1 := by omega
  have b6 : w.heap.size ≤ w6.heap.size := by omega
  clear hbw6
  go_wp2_with fail
  refine (Partial_v 210 0 (s + B) _ _ _ _ (by omega) (by omega) (by omega) (by omega) (by omega) (by omega) (by omega) hH0 hH1 hH2).mono ?_
  rintro e w7 ⟨rfl, hbw7⟩
  have z7 := hbw7.size
  try simp at z7
  have c7_0 : w7.cell? ⟨w.heap.size, 0, none⟩ = some (.int .i64 o) := by rw [(bcell hbw7).1 _ _ (by first | (simp; done) | (simp; omega) | omega)]; simp [go_sem, World.cell?_alloc_past, *]
  have c7_1 : w7.cell? ⟨w.heap.size, 1, none⟩ = some (.int .i64 h) := by rw [(bcell hbw7).1 _ _ (by first | (simp; done) | (simp; omega) | omega)]; simp [go_sem, World.cell?_alloc_past, *]
  have c7_2 : w7.cell? ⟨w3.heap.size, 0, none⟩ = some (.int .i64 A) := by rw [(bcell hbw7).1 _ _ (by first | (simp; done) | (simp; omega) | omega)]; simp [go_sem, World.cell?_alloc_past, *]
  have c7_3 : w7.cell? ⟨w3.heap.size, 1, none⟩ = some (.int .i64 B) := by rw [(bcell hbw7).1 _ _ (by first | (simp; done) | (simp; omega) | omega)]; simp [go_sem, World.cell?_alloc_past, *]
  have c7_4 : w7.cell? ⟨w4.heap.size, 0, none⟩ = some (.int .i64 C) := by rw [(bcell hbw7).1 _ _ (by first | (simp; done) | (simp; omega) | omega)]; simp [go_sem, World.cell?_alloc_past, *]
  have c7_5 : w7.cell? ⟨w4.heap.size, 1, none⟩ = some (.int .i64 D) := by rw [(bcell hbw7).1 _ _ (by first | (simp; done) | (simp; omega) | omega)]; simp [go_sem, World.cell?_alloc_past, *]
  have c7_6 : w7.cell? ⟨w4.heap.size + 1, 0, none⟩ = some (.int .i64 210) := by rw [(bcell hbw7).1 _ _ (by first | (simp; done) | (simp; omega) | omega)]; simp [go_sem, World.cell?_alloc_past, *]
  have c7_7 : w7.cell? ⟨w4.heap.size + 1, 1, none⟩ = some (.int .i64 0) := by rw [(bcell hbw7).1 _ _ (by first | (simp; done) | (simp; omega) | omega)]; simp [go_sem, World.cell?_alloc_past, *]
  have c7_8 : w7.cell? ⟨w5.heap.size, 0, none⟩ = some (.int .i64 P0) := by rw [(bcell hbw7).1 _ _ (by first | (simp; done) | (simp; omega) | omega)]; simp [go_sem, World.cell?_alloc_past, *]
  have c7_9 : w7.cell? ⟨w5.heap.size, 1, none⟩ = some (.int .i64 P1) := by rw [(bcell hbw7).1 _ _ (by first | (simp; done) | (simp; omega) | omega)]; simp [go_sem, World.cell?_alloc_past, *]
  have c7_10 : w7.cell? ⟨w5.heap.size, 2, none⟩ = some (.int .i64 X) := by rw [(bcell hbw7).1 _ _ (by first | (simp; done) | (simp; omega) | omega)]; simp [go_sem, World.cell?_alloc_past, *]
  have c7_11 : w7.cell? ⟨w6.heap.size, 0, none⟩ = some (.int .i64 L0) := by rw [(bcell hbw7).1 _ _ (by first | (simp; done) | (simp; omega) | omega)]; simp [go_sem, World.cell?_alloc_past, *]
  have c7_12 : w7.cell? ⟨w6.heap.size, 1, none⟩ = some (.int .i64 L1) := by rw [(bcell hbw7).1 _ _ (by first | (simp; done) | (simp; omega) | omega)]; simp [go_sem, World.cell?_alloc_past, *]
  have c7_13 : w7.cell? ⟨w6.heap.size, 2, none⟩ = some (.int .i64 L2) := by rw [(bcell hbw7).1 _ _ (by first | (simp; done) | (simp; omega) | omega)]; simp [go_sem, World.cell?_alloc_past, *]
  have hB7 : Below w.heap.size w w7 := (by (repeat (first | (with_reducible refine Below.drew ?_) | (with_reducible refine below_drewN ?_ _) | (with_reducible refine Below.alloc ?_ (by first | omega | (simp; done) | (simp; omega) | (simp at *; omega)) _) | (with_reducible refine Below.setCell ?_ (by first | omega | (simp; done) | (simp; omega) | (simp at *; omega)) _) | (with_reducible exact Below.refl _ _) | (with_reducible assumption) | (with_reducible refine Below.trans ?_ (Below.mono (by assumption) (by first | omega | (simp; done) | (simp; omega) | (simp at *; omega)))))))
  clear c6_0 c6_1 c6_2 c6_3 c6_4 c6_5 c6_6 c6_7 c6_8 c6_9 c6_10 o6_0 n6_0 t6_0_1 t6_0_2 t6_0_3 t6_0_4 t6_0_5 o6_1 n6_1 t6_1_1 t6_1_2 t6_1_3 t6_1_4 t6_1_5 o6_2 n6_2 t6_2_1 t6_2_2 t6_2_3 t6_2_4 t6_2_5 o6_3 n6_3 t6_3_1 t6_3_2 t6_3_3 t6_3_4 t6_3_5 o6_4 n6_4 t6_4_1 t6_4_2 t6_4_3 t6_4_4 t6_4_5
  have o7_0 : w.heap.size < w7.heap.size := by omega
  have n7_0 : w7.heap.size ≠ w.heap.size := by omega
  have t7_0_1 : w.heap.size < w7.heap.size + 1 := by omega
  have t7_0_2 : w.heap.size < w7.heap.size + 1 + 1 := by omega
  have t7_0_3 : w.heap.size < w7.heap.size + 1 + 1 + 1 := by omega
  have t7_0_4 : w.heap.size < w7.heap.size + 1 + 1 + 1 + 1 := by omega
  have t7_0_5 : w.heap.size < w7.heap.size + 1 + 1 + 1 + 1 + 1 := by omega
  have o7_1 : w3.heap.size < w7.heap.size := by omega
  have n7_1 : w7.heap.size ≠ w3.heap.size := by omega
  have t7_1_1 : w3.heap.size < w7.heap.size + 1 := by omega
  have t7_1_2 : w3.heap.size < w7.heap.size + 1 + 1 := by omega
  have t7_1_3 : w3.heap.size < w7.heap.size + 1 + 1 + 1 := by omega
  have t7_1_4 : w3.heap.size < w7.heap.size + 1 + 1 + 1 + 1 := by omega
  have t7_1_5 : w3.heap.size < w7.heap.size + 1 + 1 + 1 + 1 + 1 := by omega
  have o7_2 : w4.heap.size < w7.heap.size := by omega
  have n7_2 : w7.heap.size ≠ w4.heap.size := by omega
  have t7_2_1 : w4.heap.size < w7.heap.size + 1 := by omega
  have t7_2_2 : w4.heap.size < w7.heap.size + 1 + 1 := by omega
  have t7_2_3 : w4.heap.size < w7.heap.size + 1 + 1 + 1 := by omega
  have t7_2_4 : w4.heap.size < w7.heap.size + 1 + 1 + 1 + 1 := by omega
  have t7_2_5 : w4.heap.size < w7.heap.size + 1 + 1 + 1 + 1 + 1 := by omega
  have o7_3 : w4.heap.size + 1 < w7.heap.size := by omega
  have n7_3 : w7.heap.size ≠ w4.heap.size + 1 := by omega
  have t7_3_1 : w4.heap.size + 1 < w7.heap.size + 1 := by omega
  have t7_3_2 : w4.heap.size + 1 < w7.heap.size + 1 + 1 := by omega
  have t7_3_3 : w4.heap.size + 1 < w7.heap.size + 1 + 1 + 1 := by omega
  have t7_3_4 : w4.heap.size + 1 < w7.heap.size + 1 + 1 + 1 + 1 := by omega
  have t7_3_5 : w4.heap.size + 1 < w7.heap.size + 1 + 1 + 1 + 1 + 1 := by omega
  have o7_4 : w5.heap.size < w7.heap.size := by omega
  have n7_4 : w7.heap.size ≠ w5.heap.size := by omega
  have t7_4_1 : w5.heap.size < w7.heap.size + 1 := by omega
  have t7_4_2 : w5.heap.size < w7.heap.size + 1 + 1 := by omega
  have t7_4_3 : w5.heap.size < w7.heap.size + 1 + 1 + 1 := by omega
  have t7_4_4 : w5.heap.size < w7.heap.size + 1 + 1 + 1 + 1 := by omega
  have t7_4_5 : w5.heap.size < w7.heap.size + 1 + 1 + 1 + 1 + 1 := by omega
  have o7_5 : w6.heap.size < w7.heap.size := by omega
  have n7_5 : w7.heap.size ≠ w6.heap.size := by omega
  have t7_5_1 : w6.heap.size < w7.heap.size + 1 := by omega
  have t7_5_2 : w6.heap.size < w7.heap.size + 1 + 1 := by omega
  have t7_5_3 : w6.heap.size < w7.heap.size + 1 + 1 + 1 := by omega
  have t7_5_4 : w6.heap.size < w7.heap.size + 1 + 1 + 1 + 1 := by omega
  have t7_5_5 : w6.heap.size < w7.heap.size + 1 + 1 + 1 + 1 + 1 := by omega
  have b7 : w.heap.size ≤ w7.heap.size := by omega
  clear hbw7
  by_cases hA0 : A = 0
  · have hA1 : (A == 0) = true := by simpa using hA0
    clear hA0
    go_wp2
    go_ret
    exact ⟨rfl, (by (repeat (first | (with_reducible refine Below.drew ?_) | (with_reducible refine below_drewN ?_ _) | (with_reducible refine Below.alloc ?_ (by first | omega | (simp; done) | (simp; omega) | (simp at *; omega)) _) | (with_reducible refine Below.setCell ?_ (by first | omega | (simp; done) | (simp; omega) | (simp at *; omega)) _) | (with_reducible exact Below.refl _ _) | (with_reducible assumption) | (with_reducible refine Below.trans ?_ (Below.mono (by assumption) (by first | omega | (simp; done) | (simp; omega) | (simp at *; omega)))))))⟩
  · have hA1 : (A == 0) = false := by simpa using hA0
    have f7 : L2 ≤ X := by have := F7.out; omega
    go_wp2
    go_ret
    exact ⟨rfl, (by (repeat (first | (with_reducible refine Below.drew ?_) | (with_reducible refine below_drewN ?_ _) | (with_reducible refine Below.alloc ?_ (by first | omega | (simp; done) | (simp; omega) | (simp at *; omega)) _) | (with_reducible refine Below.setCell ?_ (by first | omega | (simp; done) | (simp; omega) | (simp at *; omega)) _) | (with_reducible exact Below.refl _ _) | (with_reducible assumption) | (with_reducible refine Below.trans ?_ (Below.mono (by assumption) (by first | omega | (simp; done) | (simp; omega) | (simp at *; omega)))))))⟩
theorem gasSame_any (o h s d : Int) (w : World) (m : Int) (hm : w.cell? ⟨1, 0, none⟩ = some (.int .i64 m)) :
    Calls Tryd.prog 8 #[.agg #[.int .i64 o, .int .i64 h], .int .i64 s, .int .i64 d] w fun e w' => e = .returned (.bool true) ∧ Below w.heap.size w w' := by
  rcases ez (eqE o h s d) with ⟨hz, hb⟩ | ⟨hz, hb⟩
  · obtain ⟨⟨k1, k2, k3, k4, k7⟩, ⟨k5, k6⟩, k8, k9⟩ := eqE_z hz.out
    exact slaw_k o h s d w m hm hb hz k1 k2 k3 k4 k7 k5 k6 k8 k9
  · exact slaw_b o h s d w m hm hb
end Go.Proofs.YtebieflnlmdllaaDoor
