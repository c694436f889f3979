import Derived.Test.YtijdphlejokijaaEBBWeighD
import Derived.Test.YtijdphlejokijaaEBBECpR
import Derived.Test.YtijdphlejokijaaEBBNums
import Derived.Outline
namespace Go.Proofs.Ytijdphlejokijaa
open Go.ChangeShapes Go.WideShapes Go.ChangeAt Go.RowKit
set_option linter.unusedVariables false
set_option linter.unusedSimpArgs false
attribute [local go_sem ↓] Go.wp_at_zero Go.wp_at_succ
theorem nitB (o h : Int) (w : World) (k1 : 0 ≤ o) (k2 : o ≤ 1000) (k3 : 0 ≤ h) (k4 : h ≤ 1000) : Calls Try.prog 137 #[.agg #[.int .i64 o, .int .i64 h]] w fun e w' => e = .returned (.int .i64 (1000 - o - h)) ∧ Below w.heap.size w w' := by
  have w1 : IntKind.i64.wrap (1000 - o) = 1000 - o := IntWalk.i64_in _ (by omega)
  have w2 : IntKind.i64.wrap (1000 - o - h) = 1000 - o - h := IntWalk.i64_in _ (by omega)
  go_enter Try.func137, Try.ntmps137
  go_wp2
  go_ret
  exact ⟨rfl, (by (repeat (first | (with_reducible refine Below.drew ?_) | (with_reducible refine below_drewN ?_ _) | (with_reducible refine Below.alloc ?_ (by first | omega | (simp; done) | (simp; omega) | (simp at *; omega)) _) | (with_reducible refine Below.setCell ?_ (by first | omega | (simp; done) | (simp; omega) | (simp at *; omega)) _) | (with_reducible exact Below.refl _ _) | (with_reducible assumption) | (with_reducible refine Below.trans ?_ (Below.mono (by assumption) (by first | omega | (simp; done) | (simp; omega) | (simp at *; omega)))))))⟩
set_option maxRecDepth 100000 in
theorem refWgt_is (o h : Int) (w : World) (k1 : 0 ≤ o) (k2 : o ≤ 1000) (k3 : 0 ≤ h) (k4 : h ≤ 1000) (k7 : o + h ≤ 1000) :
    Calls Try.prog 125 #[.agg #[.int .i64 o, .int .i64 h]] w fun e w' => e = .returned (.int .i64 (wgt o h)) ∧ Below w.heap.size w w' := by
  have hw : Hid (wgt o h = 1429 * o + 179 * h + 1251 * (1000 - o - h)) := rfl
  rw [hw.out]
  have u1 : IntKind.i64.wrap (1429 * o) = 1429 * o := IntWalk.i64_in _ (by omega)
  have u2 : IntKind.i64.wrap (179 * h) = 179 * h := IntWalk.i64_in _ (by omega)
  have u3 : IntKind.i64.wrap (1251 * (1000 - o - h)) = 1251 * (1000 - o - h) := IntWalk.i64_in _ (by omega)
  have u4 : IntKind.i64.wrap (1429 * o + 179 * h) = 1429 * o + 179 * h := IntWalk.i64_in _ (by omega)
  have u5 : IntKind.i64.wrap (1429 * o + 179 * h + 1251 * (1000 - o - h)) = 1429 * o + 179 * h + 1251 * (1000 - o - h) := IntWalk.i64_in _ (by omega)
  go_enter Try.func125, Try.ntmps125
  go_upto_region 1 with (fail)
  refine wp_worldE (fun u => Below w.heap.size w u ∧ BlkF u w.heap.size (w.heap.size) [.int .i64 o, .int .i64 h]) ⟨(Below.refl _ _).alloc (by first | exact Nat.le_refl _ | (simp; done) | (simp; omega)) _, BlkF.made (B := w.heap.size) w [.int .i64 o, .int .i64 h] 72 (by first | exact Nat.le_refl _ | (simp; done) | (simp; omega))⟩ (fun x1 hu1 => ?_)
  obtain ⟨hc1, qGB⟩ := hu1
  have GB := Lib.hid qGB
  clear qGB
  have hB1 : Below w.heap.size w x1 := hc1
  have zu1 := hB1.size
  obtain ⟨GB_1_0, GB_1_1⟩ := b2 GB.out
  have lGB_1 := GB.out.lt
  have nGB_1 : x1.heap.size ≠ w.heap.size := by omega
  have mGB_1 : w.heap.size ≠ x1.heap.size := by omega
  have HS : Hid (∀ y, Below x1.heap.size x1 y → y.cell? ⟨w.heap.size, 0, none⟩ = some (.int .i64 o) ∧ y.cell? ⟨w.heap.size, 1, none⟩ = some (.int .i64 h)) := Lib.hid fun y hy => ⟨(hy.cell (p := ⟨w.heap.size, 0, none⟩) lGB_1).trans GB_1_0, (hy.cell (p := ⟨w.heap.size, 1, none⟩) lGB_1).trans GB_1_1⟩
  refine wp_region_held_drew (S := (fun w' => w'.cell? ⟨w.heap.size, 0, none⟩ = some (.int .i64 o) ∧ w'.cell? ⟨w.heap.size, 1, none⟩ = some (.int .i64 h))) (by kernel_rfl) (HS.out _ (Below.refl _ _).drew) (fun hHeld => ?_)
  have hT0 : Below x1.heap.size x1 x1.drew := (Below.refl _ _).drew
  generalize hdr : x1.drew = y1v0 at *
  clear hdr
  refine tkH 0 ⟨some 3, _, _, _, _, _⟩ ?_ rfl ?_ (by assumption) ?_
  rotate_left
  · (intro w hSw; (try dsimp only at hSw); go_simp; all_goals with_reducible rfl)
  try simp only [Act.put, sA, sB, sC]
  refine tkH 1 ⟨some 4, _, _, _, _, _⟩ ?_ rfl ?_ (by assumption) ?_
  rotate_left
  · (intro w hSw; (try dsimp only at hSw); go_simp; all_goals with_reducible rfl)
  try simp only [Act.put, sA, sB, sC]
  refine tkH 2 ⟨some 5, _, _, _, _, _⟩ ?_ rfl ?_ (by assumption) ?_
  rotate_left
  · (intro w hSw; (try dsimp only at hSw); go_simp; all_goals with_reducible rfl)
  try simp only [Act.put, sA, sB, sC]
  refine tkH 3 ⟨some 6, _, _, _, _, _⟩ ?_ rfl ?_ (by assumption) ?_
  rotate_left
  · (intro w hSw; (try dsimp only at hSw); go_simp; all_goals with_reducible rfl)
  try simp only [Act.put, sA, sB, sC]
  refine tkH 4 ⟨some 7, _, _, _, _, _⟩ ?_ rfl ?_ (by assumption) ?_
  rotate_left
  · (intro w hSw; (try dsimp only at hSw); go_simp; all_goals with_reducible rfl)
  try simp only [Act.put, sA, sB, sC]
  refine tkH 5 ⟨some 8, _, _, _, _, _⟩ ?_ rfl ?_ (by assumption) ?_
  rotate_left
  · (intro w hSw; (try dsimp only at hSw); go_simp; all_goals with_reducible rfl)
  try simp only [Act.put, sA, sB, sC]
  refine tkH 6 ⟨some 9, _, _, _, _, _⟩ ?_ rfl ?_ (by assumption) ?_
  rotate_left
  · (intro w hSw; (try dsimp only at hSw); go_simp; all_goals with_reducible rfl)
  try simp only [Act.put, sA, sB, sC]
  refine tkH 7 ⟨some 10, _, _, _, _, _⟩ ?_ rfl ?_ (by assumption) ?_
  rotate_left
  · (intro w hSw; (try dsimp only at hSw); go_simp; all_goals with_reducible rfl)
  try simp only [Act.put, sA, sB, sC]
  refine wpAnyH_ready (rs := [8]) (by kernel_rfl) (by simp) ?_
  refine AllReadyH.cons rfl (fun K hK => ?_) (AllReadyH.nil)
  go_simp
  refine (nitB o h _ k1 k2 k3 k4).mono ?_
  rintro e y1v1 ⟨rfl, hby1v0⟩
  have hT1 : Below x1.heap.size x1 y1v1 := hT0.trans (hby1v0.mono hT0.size)
  clear hby1v0
  go_wp2_with fail
  refine hK.out _ _ (HS.out _ hT1) (fun hHeld => ?_)
  clear hK K
  try simp only [Act.put, sA, sB, sC]
  refine tkH 9 ⟨some 12, _, _, _, _, _⟩ ?_ rfl ?_ (by assumption) ?_
  rotate_left
  · (intro w hSw; (try dsimp only at hSw); go_simp; all_goals with_reducible rfl)
  try simp only [Act.put, sA, sB, sC]
  refine tkH 10 ⟨some 13, _, _, _, _, _⟩ ?_ rfl ?_ (by assumption) ?_
  rotate_left
  · (intro w hSw; (try dsimp only at hSw); go_simp; all_goals with_reducible rfl)
  try simp only [Act.put, sA, sB, sC]
  refine tkH 11 ⟨some 2, _, _, _, _, _⟩ ?_ rfl ?_ (by assumption) ?_
  rotate_left
  · (intro w hSw; (try dsimp only at hSw); go_simp; all_goals with_reducible rfl)
  try simp only [Act.put, sA, sB, sC]
  refine wpAnyH_done (by kernel_rfl) ?_ _
  have hc2 : Below x1.heap.size x1 y1v1 := hT1
  have hB2 : Below w.heap.size w y1v1 := hB1.trans (hc2.mono hB1.size)
  have zu2 := hB2.size
  replace GB := Lib.hid (GB.out.below hc2)
  clear GB_1_0 GB_1_1 lGB_1 nGB_1 mGB_1
  clear HS hHeld hT0 hT1 hB1 zu1 hc1
  obtain ⟨GB_2_0, GB_2_1⟩ := b2 GB.out
  have lGB_2 := GB.out.lt
  have nGB_2 : y1v1.heap.size ≠ w.heap.size := by omega
  have mGB_2 : w.heap.size ≠ y1v1.heap.size := by omega
  go_wp2
  go_ret
  exact ⟨rfl, hB2⟩
theorem refDensity_ok (o h p X Y : Int) (w : World) (k1 : 0 ≤ o) (k2 : o ≤ 1000) (k3 : 0 ≤ h) (k4 : h ≤ 1000) (k7 : o + h ≤ 1000) (k5 : 0 ≤ p) (k6 : p ≤ 1000000000) (hX : Hid (wgt o h * p / 1013000 = X)) (hY : Hid ((wgt o h * p + 1013000 - 1) / 1013000 = Y)) :
    Calls Try.prog 111 #[.agg #[.int .i64 o, .int .i64 h], .int .i64 p] w fun e w' => e = .returned (.agg #[.int .i64 X, .int .i64 Y]) ∧ Below w.heap.size w w' := by
  obtain ⟨b1, b2⟩ := wgt_bd k1 k2 k3 k4 k7
  obtain ⟨c1, c2⟩ := wgt_mul k1 k2 k3 k4 k7 k5 k6
  have cW := fun w => refWgt_is o h w k1 k2 k3 k4 k7
  obtain ⟨W, hW⟩ : ∃ W, Hid (wgt o h = W) := ⟨_, rfl⟩
  rw [hW.out] at b1 b2 c1 c2 cW
  have HW := Lib.hid cW
  clear cW
  obtain ⟨Z, hZ⟩ : ∃ Z, Hid (W * p = Z) := ⟨_, rfl⟩
  rw [hZ.out] at c1 c2
  have u1 : IntKind.i64.wrap (W * p) = Z := by rw [hZ.out]; exact IntWalk.i64_in _ (by omega)
  have hX2 := hX.out
  have hY2 := hY.out
  rw [hW.out, hZ.out] at hX2 hY2
  have cF := fun w => baseFloor_nn Z 1013000 w c1 (by omega) (by omega) (by omega)
  have cC := fun w => baseCeil_nn Z 1013000 w c1 (by omega) (by omega) (by omega)
  rw [hX2] at cF
  rw [hY2] at cC
  have HF := Lib.hid cF
  have HC := Lib.hid cC
  clear cF cC hX2 hY2
  go_enter Try.func111, Try.ntmps111
  go_wp2_with fail
  refine (HW.out _).mono ?_
  rintro e w1 ⟨rfl, hbw1⟩
  have z1 := hbw1.size
  simp at z1
  have y0 : w1.cell? ⟨w.heap.size + 1, 0, none⟩ = some (.int .i64 0) := by rw [(bcell hbw1).1 _ _ (by simp)]; simp [go_sem]
  have y1 : w1.cell? ⟨w.heap.size + 1, 1, none⟩ = some (.int .i64 0) := by rw [(bcell hbw1).1 _ _ (by simp)]; simp [go_sem]
  have y2 : ∀ j, w1.frozen? ⟨w.heap.size + 1, j, none⟩ = false := by intro j; rw [(bcell hbw1).2 _ _ (by simp)]; simp [go_sem]
  go_wp2_with (first | (go_at_call 77; ((with_reducible refine (HF.out _).mono ?_)); rintro e w' ⟨rfl, rfl⟩) | (go_at_call 78; ((with_reducible refine (HC.out _).mono ?_)); rintro e w' ⟨rfl, rfl⟩))
  refine bodyPost_ret (v := .agg #[.int .i64 X, .int .i64 Y]) (by simp [results, Try.results111, go_sem, *]) rfl ⟨rfl, ?_⟩
  (repeat (first | (with_reducible refine Below.drew ?_) | (with_reducible refine below_drewN ?_ _) | (with_reducible refine Below.alloc ?_ (by first | omega | (simp; done) | (simp; omega) | (simp at *; omega)) _) | (with_reducible refine Below.setCell ?_ (by first | omega | (simp; done) | (simp; omega) | (simp at *; omega)) _) | (with_reducible exact Below.refl _ _) | (with_reducible assumption) | (with_reducible refine Below.trans ?_ (Below.mono (by assumption) (by first | omega | (simp; done) | (simp; omega) | (simp at *; omega))))))
end Go.Proofs.Ytijdphlejokijaa
