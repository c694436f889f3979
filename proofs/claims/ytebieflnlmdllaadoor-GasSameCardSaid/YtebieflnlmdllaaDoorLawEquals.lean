/- The walk of shotlinelaw01.GasEquals: it returns true. -/
import Derived.Test.YtebieflnlmdllaaDoorAwake
import Derived.Test.YtebieflnlmdllaaDoorEquiv
import Derived.Outline
namespace Go.Proofs.YtebieflnlmdllaaDoor
open Go.ChangeShapes Go.WideShapes Go.ChangeAt Go.RowKit
set_option linter.unusedVariables false

theorem place_ok (o h s d : Int) (w : World) (hz : Hid (eqE o h s d = 0)) :
    Calls Tryd.prog 32 #[.agg #[.int .i64 o, .int .i64 h], .int .i64 s, .int .i64 d] w fun e w' => e = .returned (.int .i64 0) ∧ Below w.heap.size w w' := by
  have := place_any o h s d w
  rw [hz.out] at this
  exact this
set_option maxRecDepth 100000 in
set_option maxHeartbeats 2000000 in
theorem elaw_b (o h s d : Int) (w : World) (m : Int) (hm : w.cell? ⟨1, 0, none⟩ = some (.int .i64 m)) (hb : (eqE o h s d != 0) = true) :
    Calls Tryd.prog 7 #[.agg #[.int .i64 o, .int .i64 h], .int .i64 s, .int .i64 d] w fun e w' => e = .returned (.bool true) ∧ Below w.heap.size w w' := by
  have hl := World.block_lt_of_cell? _ _ hm
  have hne : w.heap.size ≠ 1 := by simp at hl; omega
  have hl2 : 1 < w.heap.size := by simpa using hl
  go_enter Tryd.func7, Tryd.ntmps7
  go_wp2_with fail
  refine (awake_any _ m (by simp [go_sem, World.cell?_alloc_past, *])).mono ?_
  rintro e w1 ⟨rfl, hbw1⟩
  have g0 : w1.cell? ⟨w.heap.size, 0, none⟩ = some (.int .i64 o) := by rw [(bcell hbw1).1 _ _ (by simp)]; simp [go_sem]
  have g1 : w1.cell? ⟨w.heap.size, 1, none⟩ = some (.int .i64 h) := by rw [(bcell hbw1).1 _ _ (by simp)]; simp [go_sem]
  have hB1 : Below w.heap.size w w1 := (by (repeat (first | (with_reducible refine Below.drew ?_) | (with_reducible refine below_drewN ?_ _) | (with_reducible refine Below.alloc ?_ (by first | omega | (simp; done) | (simp; omega) | (simp at *; omega)) _) | (with_reducible refine Below.setCell ?_ (by first | omega | (simp; done) | (simp; omega) | (simp at *; omega)) _) | (with_reducible exact Below.refl _ _) | (with_reducible assumption) | (with_reducible refine Below.trans ?_ (Below.mono (by assumption) (by first | omega | (simp; done) | (simp; omega) | (simp at *; omega)))))))
  have s1 : w.heap.size < w1.heap.size := by have := hbw1.size; simp at this; omega
  clear hbw1
  go_wp2_with fail
  refine (EquivalentAir_bad _ _ _ _ _ hb).mono ?_
  rintro e w2 ⟨rfl, hbw2⟩
  have a0 : w2.cell? ⟨w.heap.size, 0, none⟩ = some (.int .i64 o) := by rw [(bcell hbw2).1 _ _ s1, g0]
  have a1 : w2.cell? ⟨w.heap.size, 1, none⟩ = some (.int .i64 h) := by rw [(bcell hbw2).1 _ _ s1, g1]
  have hB2 : Below w.heap.size w w2 := hB1.trans (hbw2.mono (by omega))
  have s2 : w.heap.size < w2.heap.size := by have := hbw2.size; omega
  have n2 : w2.heap.size ≠ w.heap.size := by omega
  clear hbw2 g0 g1
  go_wp2_with fail
  refine (EquivalentNarcotic_bad _ _ _ _ _ hb).mono ?_
  rintro e w3 ⟨rfl, hbw3⟩
  have z3 := hbw3.size
  simp at z3
  have b0 : w3.cell? ⟨w.heap.size, 0, none⟩ = some (.int .i64 o) := by rw [(bcell hbw3).1 _ _ (by simp; omega)]; simp [go_sem, World.cell?_alloc_past, *]
  have b1 : w3.cell? ⟨w.heap.size, 1, none⟩ = some (.int .i64 h) := by rw [(bcell hbw3).1 _ _ (by simp; omega)]; simp [go_sem, World.cell?_alloc_past, *]
  have b2 : w3.cell? ⟨w2.heap.size, 0, none⟩ = some (.int .i64 0) := by rw [(bcell hbw3).1 _ _ (by simp)]; simp [go_sem]
  have b3 : w3.cell? ⟨w2.heap.size, 1, none⟩ = some (.int .i64 0) := by rw [(bcell hbw3).1 _ _ (by simp)]; simp [go_sem]
  have hB3 : Below w.heap.size w w3 := (hB2.alloc hB2.size _).trans (hbw3.mono (by simp; omega))
  have s3 : w.heap.size < w3.heap.size := by omega
  have s32 : w2.heap.size < w3.heap.size := by omega
  have n3 : w3.heap.size ≠ w.heap.size := by omega
  have n32 : w3.heap.size ≠ w2.heap.size := by omega
  clear hbw3 a0 a1
  go_wp2_with fail
  refine (place_any _ _ _ _ _).mono ?_
  rintro e w4 ⟨rfl, hbw4⟩
  have z4 := hbw4.size
  simp at z4
  have c0 : w4.cell? ⟨w.heap.size, 0, none⟩ = some (.int .i64 o) := by rw [(bcell hbw4).1 _ _ (by simp; omega)]; simp [go_sem, World.cell?_alloc_past, *]
  have c1 : w4.cell? ⟨w.heap.size, 1, none⟩ = some (.int .i64 h) := by rw [(bcell hbw4).1 _ _ (by simp; omega)]; simp [go_sem, World.cell?_alloc_past, *]
  have c2 : w4.cell? ⟨w2.heap.size, 0, none⟩ = some (.int .i64 0) := by rw [(bcell hbw4).1 _ _ (by simp; omega)]; simp [go_sem, World.cell?_alloc_past, *]
  have c3 : w4.cell? ⟨w2.heap.size, 1, none⟩ = some (.int .i64 0) := by rw [(bcell hbw4).1 _ _ (by simp; omega)]; simp [go_sem, World.cell?_alloc_past, *]
  have c4 : w4.cell? ⟨w3.heap.size, 0, none⟩ = some (.int .i64 0) := by rw [(bcell hbw4).1 _ _ (by simp)]; simp [go_sem]
  have c5 : w4.cell? ⟨w3.heap.size, 1, none⟩ = some (.int .i64 0) := by rw [(bcell hbw4).1 _ _ (by simp)]; simp [go_sem]
  have hB4 : Below w.heap.size w w4 := (hB3.alloc hB3.size _).trans (hbw4.mono (by simp; omega))
  have s4 : w.heap.size < w4.heap.size := by omega
  have s42 : w2.heap.size < w4.heap.size := by omega
  have s43 : w3.heap.size < w4.heap.size := by omega
  have ta1 : w.heap.size < w4.heap.size + 1 := by omega
  have ta2 : w.heap.size < w4.heap.size + 1 + 1 := by omega
  have ta3 : w.heap.size < w4.heap.size + 1 + 1 + 1 := by omega
  have ta4 : w.heap.size < w4.heap.size + 1 + 1 + 1 + 1 := by omega
  have ta5 : w.heap.size < w4.heap.size + 1 + 1 + 1 + 1 + 1 := by omega
  have tb1 : w2.heap.size < w4.heap.size + 1 := by omega
  have tb2 : w2.heap.size < w4.heap.size + 1 + 1 := by omega
  have tb3 : w2.heap.size < w4.heap.size + 1 + 1 + 1 := by omega
  have tb4 : w2.heap.size < w4.heap.size + 1 + 1 + 1 + 1 := by omega
  have tb5 : w2.heap.size < w4.heap.size + 1 + 1 + 1 + 1 + 1 := by omega
  have tc1 : w3.heap.size < w4.heap.size + 1 := by omega
  have tc2 : w3.heap.size < w4.heap.size + 1 + 1 := by omega
  have tc3 : w3.heap.size < w4.heap.size + 1 + 1 + 1 := by omega
  have tc4 : w3.heap.size < w4.heap.size + 1 + 1 + 1 + 1 := by omega
  have tc5 : w3.heap.size < w4.heap.size + 1 + 1 + 1 + 1 + 1 := by omega
  clear hbw4 b0 b1 b2 b3
  go_wp2
  go_ret
  exact ⟨rfl, (by (repeat (first | (with_reducible refine Below.drew ?_) | (with_reducible refine below_drewN ?_ _) | (with_reducible refine Below.alloc ?_ (by first | omega | (simp; done) | (simp; omega) | (simp at *; omega)) _) | (with_reducible refine Below.setCell ?_ (by first | omega | (simp; done) | (simp; omega) | (simp at *; omega)) _) | (with_reducible exact Below.refl _ _) | (with_reducible assumption) | (with_reducible refine Below.trans ?_ (Below.mono (by assumption) (by first | omega | (simp; done) | (simp; omega) | (simp at *; omega)))))))⟩
set_option maxRecDepth 100000 in
set_option maxHeartbeats 2000000 in
theorem elaw_k (o h s d : Int) (w : World) (m : Int) (hm : w.cell? ⟨1, 0, none⟩ = some (.int .i64 m)) (hb : (eqE o h s d != 0) = false) (hz : Hid (eqE o h s d = 0)) (k1 : 0 ≤ o) (k2 : o ≤ 1000) (k3 : 0 ≤ h) (k4 : h ≤ 1000) (k7 : o + h ≤ 1000) (k5 : 400 ≤ s) (k6 : s ≤ 1100) (k8 : 0 ≤ d) (k9 : d ≤ 30000) :
    Calls Tryd.prog 7 #[.agg #[.int .i64 o, .int .i64 h], .int .i64 s, .int .i64 d] w fun e w' => e = .returned (.bool true) ∧ Below w.heap.size w w' := by
  have hl := World.block_lt_of_cell? _ _ hm
  have hne : w.heap.size ≠ 1 := by simp at hl; omega
  have hl2 : 1 < w.heap.size := by simpa using hl
  obtain ⟨X, hX⟩ : ∃ X, Hid ((1000 - o - h) * (s + d) = X) := ⟨_, rfl⟩
  obtain ⟨Y, hY⟩ : ∃ Y, Hid ((1000 - h) * (s + d) = Y) := ⟨_, rfl⟩
  have x1 : 0 ≤ X := by rw [← hX.out]; exact Int.mul_nonneg (by omega) (by omega)
  have x2 : X ≤ 40000000 := by rw [← hX.out]; exact Int.le_trans (Int.mul_le_mul (show 1000 - o - h ≤ 1000 by omega) (show s + d ≤ 31100 by omega) (by omega) (by omega)) (by omega)
  have y1 : 0 ≤ Y := by rw [← hY.out]; exact Int.mul_nonneg (by omega) (by omega)
  have y2 : Y ≤ 40000000 := by rw [← hY.out]; exact Int.le_trans (Int.mul_le_mul (show 1000 - h ≤ 1000 by omega) (show s + d ≤ 31100 by omega) (by omega) (by omega)) (by omega)
  have cA := fun w => EquivalentAir_ok o h s d X w hb k1 k2 k3 k4 k7 k5 k6 k8 k9 hX x1 x2
  have cN := fun w => EquivalentNarcotic_ok o h s d Y w hb k1 k2 k3 k4 k7 k5 k6 k8 k9 hY y1 y2
  have rA := fun w => refEquivalentAir_any o h s d X w k1 k2 k3 k4 k7 k5 k6 k8 k9 hX x1 x2
  have rN := fun w => refEquivalentNarcotic_any o h s d Y w k1 k2 k3 k4 k7 k5 k6 k8 k9 hY y1 y2
  generalize above (X / 790) s = A at cA rA
  generalize above ((X + 790 - 1) / 790) s = B at cA rA
  generalize above (Y / 1000) s = C at cN rN
  generalize above ((Y + 1000 - 1) / 1000) s = D at cN rN
  have HcA := Lib.hid cA
  have HcN := Lib.hid cN
  have HrA := Lib.hid rA
  have HrN := Lib.hid rN
  clear cA cN rA rN
  go_enter Tryd.func7, Tryd.ntmps7
  go_wp2_with fail
  refine (awake_any _ m (by simp [go_sem, World.cell?_alloc_past, *])).mono ?_
  rintro e w1 ⟨rfl, hbw1⟩
  have g0 : w1.cell? ⟨w.heap.size, 0, none⟩ = some (.int .i64 o) := by rw [(bcell hbw1).1 _ _ (by simp)]; simp [go_sem]
  have g1 : w1.cell? ⟨w.heap.size, 1, none⟩ = some (.int .i64 h) := by rw [(bcell hbw1).1 _ _ (by simp)]; simp [go_sem]
  have hB1 : Below w.heap.size w w1 := (by (repeat (first | (with_reducible refine Below.drew ?_) | (with_reducible refine below_drewN ?_ _) | (with_reducible refine Below.alloc ?_ (by first | omega | (simp; done) | (simp; omega) | (simp at *; omega)) _) | (with_reducible refine Below.setCell ?_ (by first | omega | (simp; done) | (simp; omega) | (simp at *; omega)) _) | (with_reducible exact Below.refl _ _) | (with_reducible assumption) | (with_reducible refine Below.trans ?_ (Below.mono (by assumption) (by first | omega | (simp; done) | (simp; omega) | (simp at *; omega)))))))
  have s1 : w.heap.size < w1.heap.size := by have := hbw1.size; simp at this; omega
  clear hbw1
  go_wp2_with fail
  refine (HcA.out _).mono ?_
  rintro e w2 ⟨rfl, hbw2⟩
  have a0 : w2.cell? ⟨w.heap.size, 0, none⟩ = some (.int .i64 o) := by rw [(bcell hbw2).1 _ _ s1, g0]
  have a1 : w2.cell? ⟨w.heap.size, 1, none⟩ = some (.int .i64 h) := by rw [(bcell hbw2).1 _ _ s1, g1]
  have hB2 : Below w.heap.size w w2 := hB1.trans (hbw2.mono (by omega))
  have s2 : w.heap.size < w2.heap.size := by have := hbw2.size; omega
  have n2 : w2.heap.size ≠ w.heap.size := by omega
  clear hbw2 g0 g1
  go_wp2_with fail
  refine (HcN.out _).mono ?_
  rintro e w3 ⟨rfl, hbw3⟩
  have z3 := hbw3.size
  simp at z3
  have b0 : w3.cell? ⟨w.heap.size, 0, none⟩ = some (.int .i64 o) := by rw [(bcell hbw3).1 _ _ (by simp; omega)]; simp [go_sem, World.cell?_alloc_past, *]
  have b1 : w3.cell? ⟨w.heap.size, 1, none⟩ = some (.int .i64 h) := by rw [(bcell hbw3).1 _ _ (by simp; omega)]; simp [go_sem, World.cell?_alloc_past, *]
  have b2 : w3.cell? ⟨w2.heap.size, 0, none⟩ = some (.int .i64 A) := by rw [(bcell hbw3).1 _ _ (by simp)]; simp [go_sem]
  have b3 : w3.cell? ⟨w2.heap.size, 1, none⟩ = some (.int .i64 B) := by rw [(bcell hbw3).1 _ _ (by simp)]; simp [go_sem]
  have hB3 : Below w.heap.size w w3 := (hB2.alloc hB2.size _).trans (hbw3.mono (by simp; omega))
  have s3 : w.heap.size < w3.heap.size := by omega
  have s32 : w2.heap.size < w3.heap.size := by omega
  have n3 : w3.heap.size ≠ w.heap.size := by omega
  have n32 : w3.heap.size ≠ w2.heap.size := by omega
  clear hbw3 a0 a1
  go_wp2_with fail
  refine (place_ok _ _ _ _ _ hz).mono ?_
  rintro e w4 ⟨rfl, hbw4⟩
  have z4 := hbw4.size
  simp at z4
  have c0 : w4.cell? ⟨w.heap.size, 0, none⟩ = some (.int .i64 o) := by rw [(bcell hbw4).1 _ _ (by simp; omega)]; simp [go_sem, World.cell?_alloc_past, *]
  have c1 : w4.cell? ⟨w.heap.size, 1, none⟩ = some (.int .i64 h) := by rw [(bcell hbw4).1 _ _ (by simp; omega)]; simp [go_sem, World.cell?_alloc_past, *]
  have c2 : w4.cell? ⟨w2.heap.size, 0, none⟩ = some (.int .i64 A) := by rw [(bcell hbw4).1 _ _ (by simp; omega)]; simp [go_sem, World.cell?_alloc_past, *]
  have c3 : w4.cell? ⟨w2.heap.size, 1, none⟩ = some (.int .i64 B) := by rw [(bcell hbw4).1 _ _ (by simp; omega)]; simp [go_sem, World.cell?_alloc_past, *]
  have c4 : w4.cell? ⟨w3.heap.size, 0, none⟩ = some (.int .i64 C) := by rw [(bcell hbw4).1 _ _ (by simp)]; simp [go_sem]
  have c5 : w4.cell? ⟨w3.heap.size, 1, none⟩ = some (.int .i64 D) := by rw [(bcell hbw4).1 _ _ (by simp)]; simp [go_sem]
  have hB4 : Below w.heap.size w w4 := (hB3.alloc hB3.size _).trans (hbw4.mono (by simp; omega))
  have s4 : w.heap.size < w4.heap.size := by omega
  have s42 : w2.heap.size < w4.heap.size := by omega
  have s43 : w3.heap.size < w4.heap.size := by omega
  have ta1 : w.heap.size < w4.heap.size + 1 := by omega
  have ta2 : w.heap.size < w4.heap.size + 1 + 1 := by omega
  have ta3 : w.heap.size < w4.heap.size + 1 + 1 + 1 := by omega
  have ta4 : w.heap.size < w4.heap.size + 1 + 1 + 1 + 1 := by omega
  have ta5 : w.heap.size < w4.heap.size + 1 + 1 + 1 + 1 + 1 := by omega
  have tb1 : w2.heap.size < w4.heap.size + 1 := by omega
  have tb2 : w2.heap.size < w4.heap.size + 1 + 1 := by omega
  have tb3 : w2.heap.size < w4.heap.size + 1 + 1 + 1 := by omega
  have tb4 : w2.heap.size < w4.heap.size + 1 + 1 + 1 + 1 := by omega
  have tb5 : w2.heap.size < w4.heap.size + 1 + 1 + 1 + 1 + 1 := by omega
  have tc1 : w3.heap.size < w4.heap.size + 1 := by omega
  have tc2 : w3.heap.size < w4.heap.size + 1 + 1 := by omega
  have tc3 : w3.heap.size < w4.heap.size + 1 + 1 + 1 := by omega
  have tc4 : w3.heap.size < w4.heap.size + 1 + 1 + 1 + 1 := by omega
  have tc5 : w3.heap.size < w4.heap.size + 1 + 1 + 1 + 1 + 1 := by omega
  clear hbw4 b0 b1 b2 b3
  go_wp2
  go_region_held3 (fun w' => w'.cell? ⟨w.heap.size, 0, none⟩ = some (.int .i64 o) ∧ w'.cell? ⟨w.heap.size, 1, none⟩ = some (.int .i64 h) ∧ w'.cell? ⟨w2.heap.size, 0, none⟩ = some (.int .i64 A) ∧ w'.cell? ⟨w2.heap.size, 1, none⟩ = some (.int .i64 B) ∧ w'.cell? ⟨w3.heap.size, 0, none⟩ = some (.int .i64 C) ∧ w'.cell? ⟨w3.heap.size, 1, none⟩ = some (.int .i64 D)) (simp [go_sem, World.cell?_alloc_past, *])
    (first
      | (go_at_call 37; ((with_reducible refine (HrA.out _).mono ?_)); rintro e w' ⟨rfl, rfl⟩)
      | (go_at_call 38; ((with_reducible refine (HrN.out _).mono ?_)); rintro e w' ⟨rfl, rfl⟩))
  go_wp2
  go_ret
  exact ⟨rfl, (by (repeat (first | (with_reducible refine Below.drew ?_) | (with_reducible refine below_drewN ?_ _) | (with_reducible refine Below.alloc ?_ (by first | omega | (simp; done) | (simp; omega) | (simp at *; omega)) _) | (with_reducible refine Below.setCell ?_ (by first | omega | (simp; done) | (simp; omega) | (simp at *; omega)) _) | (with_reducible exact Below.refl _ _) | (with_reducible assumption) | (with_reducible refine Below.trans ?_ (Below.mono (by assumption) (by first | omega | (simp; done) | (simp; omega) | (simp at *; omega)))))))⟩
theorem mxLen (W : World) (h : W.ShapedOpen Tryd.prog) : ∃ m, W.cell? ⟨1, 0, none⟩ = some (.int .i64 m) := Tryd.laysM145.s1_3 W h
theorem gasEquals_any (o h s d : Int) (w : World) (m : Int) (hm : w.cell? ⟨1, 0, none⟩ = some (.int .i64 m)) :
    Calls Tryd.prog 7 #[.agg #[.int .i64 o, .int .i64 h], .int .i64 s, .int .i64 d] w fun e w' => e = .returned (.bool true) ∧ Below w.heap.size w w' := by
  rcases ez (eqE o h s d) with ⟨hz, hb⟩ | ⟨hz, hb⟩
  · obtain ⟨⟨k1, k2, k3, k4, k7⟩, ⟨k5, k6⟩, k8, k9⟩ := eqE_z hz.out
    exact elaw_k o h s d w m hm hb hz k1 k2 k3 k4 k7 k5 k6 k8 k9
  · exact elaw_b o h s d w m hm hb
end Go.Proofs.YtebieflnlmdllaaDoor
