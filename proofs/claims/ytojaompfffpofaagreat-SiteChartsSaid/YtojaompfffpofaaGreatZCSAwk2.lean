import Derived.Test.YtojaompfffpofaaGreatZCSAwk
import Derived.Outline
namespace Go.Proofs.YtojaompfffpofaaGreat
open Go.ChangeShapes Go.WideShapes Go.ChangeAt Go.RowKit
set_option linter.unusedVariables false
set_option linter.unusedSimpArgs false
attribute [local go_sem ↓] Go.wp_at_zero Go.wp_at_succ
theorem exA_rows (X : World) (b : Nat) (hb : b < X.heap.size) (h0 : X.cell? ⟨b, 0, none⟩ = some (.int .i64 0)) (h1 : X.cell? ⟨b, 1, none⟩ = some (.int .i64 10)) (h2 : X.cell? ⟨b, 2, none⟩ = some (.int .i64 20)) (h3 : X.cell? ⟨b, 3, none⟩ = some (.int .i64 30)) : SlRows rgV 2 X (some ⟨b, 0, none⟩) exA := by
  refine Or.inr ⟨b, 0, rfl, hb, fun k hk i hi => ?_⟩
  have hk2 : k < 2 := hk
  rcases (show k = 0 ∨ k = 1 by omega) with rfl | rfl <;> rcases (show i = 0 ∨ i = 1 by omega) with rfl | rfl
  · exact h0
  · exact h1
  · exact h2
  · exact h3
theorem one_rows (X : World) (b : Nat) (x y : Int) (hb : b < X.heap.size) (h0 : X.cell? ⟨b, 0, none⟩ = some (.int .i64 x)) (h1 : X.cell? ⟨b, 1, none⟩ = some (.int .i64 y)) : SlRows rgV 2 X (some ⟨b, 0, none⟩) [⟨x, y⟩] := by
  refine Or.inr ⟨b, 0, rfl, hb, fun k hk i hi => ?_⟩
  obtain rfl : k = 0 := by simpa using hk
  rcases (show i = 0 ∨ i = 1 by omega) with rfl | rfl
  · exact h0
  · exact h1
set_option maxRecDepth 100000 in
set_option maxHeartbeats 4000000 in
theorem awake_any (w : World) : Calls Tryz.prog 11 #[] w fun e w' => e = .returned (.bool true) ∧ Below w.heap.size w w' := by
  have h0 := Lib.hid ex_lvl.1
  have h1 := Lib.hid ex_lvl.2.1
  have h2 := Lib.hid ex_lvl.2.2
  have EA := fun (a b : Int) (w : World) => eqArr2 a b w
  have EB := fun (a b : Int) (w : World) => eqArr2In a b w
  go_enter Tryz.func11, Tryz.ntmps11
  go_wp2_with fail
  refine (Tide_any _).mono ?_
  rintro e w1 ⟨b, rfl, hS, hb1⟩
  have HS := Lib.hid hS
  clear hS
  go_wp2_with fail
  refine (LevelAt_good 200 exL _ 1 1 512 270 271 _ (Lib.hid rfl) (by omega) HS h2 h0 h1).mono ?_
  rintro e w2 ⟨rfl, hb2⟩
  have hB2 : Below w.heap.size w w2 := hb1.trans (hb2.mono hb1.size)
  have HB2 := Lib.hid hB2
  clear hb1 hb2 h0 h1 h2 hB2 HS
  go_wp2_with fail
  obtain ⟨X, hX⟩ : ∃ X, Hid ((((w2.alloc (.cells #[.int .i64 270, .int .i64 271] 26)).alloc (.cells #[.int .i64 0, .int .i64 10, .int .i64 20, .int .i64 30] 26)).alloc (.cells #[.int .i64 5, .int .i64 25] 26)) = X) := ⟨_, Lib.hid rfl⟩
  have hXA : SlRows rgV 2 X (some ⟨w2.heap.size + 1, 0, none⟩) exA := by rw [← hX.out]; exact exA_rows _ _ (by simp) (by simp [go_sem, World.cell?_alloc_past]) (by simp [go_sem, World.cell?_alloc_past]) (by simp [go_sem, World.cell?_alloc_past]) (by simp [go_sem, World.cell?_alloc_past])
  have hXB : SlRows rgV 2 X (some ⟨w2.heap.size + 1 + 1, 0, none⟩) exB := by rw [← hX.out]; exact one_rows _ _ _ _ (by simp) (by simp [go_sem, World.cell?_alloc_past]) (by simp [go_sem, World.cell?_alloc_past])
  have k0 : X.cell? ⟨w2.heap.size, 0, none⟩ = some (.int .i64 270) := by rw [← hX.out]; simp [go_sem, World.cell?_alloc_past]
  have k1 : X.cell? ⟨w2.heap.size, 1, none⟩ = some (.int .i64 271) := by rw [← hX.out]; simp [go_sem, World.cell?_alloc_past]
  have hBX : Below w2.heap.size w2 X := by rw [← hX.out]; (repeat (first | (with_reducible refine Below.drew ?_) | (with_reducible refine below_drewN ?_ _) | (with_reducible refine Below.alloc ?_ (by first | omega | (simp; done) | (simp; omega) | (simp at *; omega)) _) | (with_reducible refine Below.setCell ?_ (by first | omega | (simp; done) | (simp; omega) | (simp at *; omega)) _) | (with_reducible exact Below.refl _ _) | (with_reducible assumption) | (with_reducible refine Below.trans ?_ (Below.mono (by assumption) (by first | omega | (simp; done) | (simp; omega) | (simp at *; omega))))))
  have lX : w2.heap.size < X.heap.size := by rw [← hX.out]; simp; omega
  rw [hX.out]
  refine (Join_is exA exB (some ⟨w2.heap.size + 1, 0, none⟩) (some ⟨w2.heap.size + 1 + 1, 0, none⟩) 2 1 2 1 _ (Lib.hid rfl) (Lib.hid rfl) (by decide) (Lib.hid fun w' hb => hXA.below hb) (Lib.hid fun w' hb => hXB.below hb) (Lib.hid (fun h => by cases h)) (Lib.hid (fun h => by cases h)) (Lib.hid ex_win.1) (Lib.hid ex_win.2)).mono ?_
  rintro e w3 ⟨G, cg, rfl, hG, hGN, hb3⟩
  rw [ex_join] at hG ⊢
  have HG := Lib.hid hG
  have r0 := (hb3.cell (p := ⟨w2.heap.size, 0, none⟩) lX).trans k0
  have r1 := (hb3.cell (p := ⟨w2.heap.size, 1, none⟩) lX).trans k1
  have z3 := hb3.size
  have l3 : w2.heap.size < w3.heap.size := by omega
  have HB3 := Lib.hid (HB2.out.trans ((hBX.trans (hb3.mono hBX.size)).mono HB2.out.size))
  clear hXA hXB k0 k1 hBX lX hG hb3 hX z3 HB2
  go_wp2_with fail
  refine (Chart_is _).mono ?_
  rintro e w4 ⟨A4, B4, rfl, hC4, hb4⟩
  have HC4 := Lib.hid hC4
  have HG4 := Lib.hid (HG.out.below hb4)
  have q0 := (hb4.cell (p := ⟨w2.heap.size, 0, none⟩) l3).trans r0
  have q1 := (hb4.cell (p := ⟨w2.heap.size, 1, none⟩) l3).trans r1
  have z4 := hb4.size
  have l4 : w2.heap.size < w4.heap.size := by omega
  have HB4 := Lib.hid (HB3.out.trans (hb4.mono HB3.out.size))
  clear r0 r1 l3 hC4 hb4 HB3 HG z4
  go_wp2_with fail
  refine (Way_ok A4 B4 3 3 3 0 2 exPl exM [0, 1, 2] 3 20 _ (by decide) (by decide) HC4 (by decide) (by decide) (Lib.hid ex_way.1) (Lib.hid ex_way.2) (Lib.hid (by simp)) (Lib.hid rfl)).mono ?_
  rintro e w5 ⟨g5, cap5, rfl, _, _, hb5, _⟩
  have HG5 := Lib.hid (HG4.out.below hb5)
  have r0 := (hb5.cell (p := ⟨w2.heap.size, 0, none⟩) l4).trans q0
  have r1 := (hb5.cell (p := ⟨w2.heap.size, 1, none⟩) l4).trans q1
  have z5 := hb5.size
  have l5 : w2.heap.size < w5.heap.size := by omega
  have HB5 := Lib.hid (HB4.out.trans (hb5.mono HB4.out.size))
  clear q0 q1 l4 hb5 HB4 HG4 z5 HC4
  go_wp2_with fail
  refine (Chart_is _).mono ?_
  rintro e w6 ⟨A6, B6, rfl, hC6, hb6⟩
  have HC6 := Lib.hid hC6
  have HG6 := Lib.hid (HG5.out.below hb6)
  have q0 := (hb6.cell (p := ⟨w2.heap.size, 0, none⟩) l5).trans r0
  have q1 := (hb6.cell (p := ⟨w2.heap.size, 1, none⟩) l5).trans r1
  have z6 := hb6.size
  have l6 : w2.heap.size < w6.heap.size := by omega
  have HB6 := Lib.hid (HB5.out.trans (hb6.mono HB5.out.size))
  clear r0 r1 l5 hC6 hb6 HB5 HG5 z6
  go_wp2_with fail
  obtain ⟨Y, hY⟩ : ∃ Y, Hid ((w6.alloc (.cells #[.int .i64 0, .int .i64 1, .int .i64 2] 3)).alloc (.cells #[.int .i64 0, .int .i64 5, .int .i64 5] 3) = Y) := ⟨_, Lib.hid rfl⟩
  have hBY : Below w6.heap.size w6 Y := by rw [← hY.out]; (repeat (first | (with_reducible refine Below.drew ?_) | (with_reducible refine below_drewN ?_ _) | (with_reducible refine Below.alloc ?_ (by first | omega | (simp; done) | (simp; omega) | (simp at *; omega)) _) | (with_reducible refine Below.setCell ?_ (by first | omega | (simp; done) | (simp; omega) | (simp at *; omega)) _) | (with_reducible exact Below.refl _ _) | (with_reducible assumption) | (with_reducible refine Below.trans ?_ (Below.mono (by assumption) (by first | omega | (simp; done) | (simp; omega) | (simp at *; omega))))))
  have hRY : RnSl Y A6 B6 (some ⟨w6.heap.size, 0, none⟩) (some ⟨w6.heap.size + 1, 0, none⟩) 3 3 exPl exM 100 exQ exZ := by
    refine ⟨HC6.out.below hBY, ?_, ?_, ex_run, rfl⟩
    · rw [← hY.out]; exact rowInt rfl (by simp; omega) (three (by simp [go_sem, World.cell?_alloc_past, exQ]) (by simp [go_sem, World.cell?_alloc_past, exQ]) (by simp [go_sem, World.cell?_alloc_past, exQ]))
    · rw [← hY.out]; exact rowInt rfl (by simp) (three (by simp [go_sem, World.cell?_alloc_past, exZ]) (by simp [go_sem, World.cell?_alloc_past, exZ]) (by simp [go_sem, World.cell?_alloc_past, exZ]))
  have HRY := Lib.hid hRY
  have HBY := Lib.hid hBY
  rw [hY.out]
  clear hRY hBY hY
  refine (RunTimes_ok A6 B6 (some ⟨w6.heap.size, 0, none⟩) (some ⟨w6.heap.size + 1, 0, none⟩) 3 3 3 3 3 3 exPl exM 100 exQ exZ _ (by decide) (by decide) HRY).mono ?_
  rintro e w7 ⟨g7, cap7, rfl, l7, hr7, hb7⟩
  rw [ex_tms] at hr7
  have hb67 : Below w6.heap.size w6 w7 := HBY.out.trans (hb7.mono HBY.out.size)
  have HG7 := Lib.hid (HG6.out.below hb67)
  have r0 := (hb67.cell (p := ⟨w2.heap.size, 0, none⟩) l6).trans q0
  have r1 := (hb67.cell (p := ⟨w2.heap.size, 1, none⟩) l6).trans q1
  have t0 : w7.cell? ⟨g7, 4, none⟩ = some (.int .i64 125) := hr7 2 (by decide) 0 (by decide)
  have t1 : w7.cell? ⟨g7, 5, none⟩ = some (.int .i64 130) := hr7 2 (by decide) 1 (by decide)
  have z7 := hb67.size
  have l8 : w2.heap.size < w7.heap.size := by omega
  have HB7 := Lib.hid (HB6.out.trans (hb67.mono HB6.out.size))
  clear q0 q1 l6 hr7 hb7 hb67 HB6 HG6 HBY HRY z7 HC6
  go_wp2_with fail
  obtain ⟨V, hV⟩ : ∃ V, Hid (w7.alloc (.cells #[.int .i64 0, .int .i64 30] 26) = V) := ⟨_, Lib.hid rfl⟩
  have hBV : Below w7.heap.size w7 V := by rw [← hV.out]; (repeat (first | (with_reducible refine Below.drew ?_) | (with_reducible refine below_drewN ?_ _) | (with_reducible refine Below.alloc ?_ (by first | omega | (simp; done) | (simp; omega) | (simp at *; omega)) _) | (with_reducible refine Below.setCell ?_ (by first | omega | (simp; done) | (simp; omega) | (simp at *; omega)) _) | (with_reducible exact Below.refl _ _) | (with_reducible assumption) | (with_reducible refine Below.trans ?_ (Below.mono (by assumption) (by first | omega | (simp; done) | (simp; omega) | (simp at *; omega))))))
  have hVB : SlRows rgV 2 V (some ⟨w7.heap.size, 0, none⟩) [⟨0, 30⟩] := by rw [← hV.out]; exact one_rows _ _ _ _ (by simp) (by simp [go_sem]) (by simp [go_sem])
  have hVA := HG7.out.below hBV
  rw [hV.out]
  refine (ranges_t [⟨0, 30⟩] G (some ⟨w7.heap.size, 0, none⟩) cg 1 1 V (Lib.hid rfl) (by decide) hVA hVB).mono ?_
  rintro e w8 ⟨rfl, hb8⟩
  have hb78 : Below w7.heap.size w7 w8 := hBV.trans (hb8.mono hBV.size)
  have y0 := (hb78.cell (p := ⟨g7, 4, none⟩) l7).trans t0
  have y1 := (hb78.cell (p := ⟨g7, 5, none⟩) l7).trans t1
  have HB8 := Lib.hid (HB7.out.trans (hb78.mono HB7.out.size))
  clear t0 t1 r0 r1 l7 l8 hb8 hb78 hVA hVB hBV HB7
  go_wp2
  go_ret
  exact ⟨rfl, HB8.out⟩
end Go.Proofs.YtojaompfffpofaaGreat
