/- The two fills of the example: right alone, possible, what they bring from outside. -/
import Derived.Test.YtjkhjjmmkdfjmaaFRoom1
import Derived.Test.YtjkhjjmmkdfjmaaLastReg
import Derived.Outline
namespace Go.Proofs.Ytjkhjjmmkdfjmaa
open Go.ChangeShapes Go.WideShapes Go.ChangeAt Go.RowKit
set_option linter.unusedVariables false
set_option linter.unusedSimpArgs false
attribute [local go_sem ↓] Go.wp_at_zero Go.wp_at_succ
set_option maxHeartbeats 1000000 in
set_option maxRecDepth 100000 in
theorem checkAlone_1 (w : World) : Calls Try.prog 95 #[.agg #[.int .i64 0, .int .i64 1, .string ⟨#[]⟩, .string ⟨#[98, 97, 110, 107]⟩, .int .i64 210, .int .i64 0, .int .i64 10000000, .bool false]] w fun e w' => e = .returned (.int .i64 0) ∧ Below w.heap.size w w' := by
  have r1 : rngE 1 0 100000 = 0 := by decide
  have r2 : rngE 10000000 1 1000000000 = 0 := by decide
  go_enter Try.func95, Try.ntmps95
  go_upto_region 1 with (fail)
  refine wp_region_held_drew (S := (fun w' => w'.cell? ⟨w.heap.size, 0, none⟩ = some (.int .i64 0) ∧ w'.cell? ⟨w.heap.size, 1, none⟩ = some (.int .i64 1) ∧ w'.cell? ⟨w.heap.size, 2, none⟩ = some (.string ⟨#[]⟩) ∧ w'.cell? ⟨w.heap.size, 3, none⟩ = some (.string ⟨#[98, 97, 110, 107]⟩) ∧ w'.cell? ⟨w.heap.size, 4, none⟩ = some (.int .i64 210) ∧ w'.cell? ⟨w.heap.size, 5, none⟩ = some (.int .i64 0) ∧ w'.cell? ⟨w.heap.size, 6, none⟩ = some (.int .i64 10000000) ∧ w'.cell? ⟨w.heap.size, 7, none⟩ = some (.bool false))) (by kernel_rfl) (by simp [go_sem, World.cell?_alloc_past, *]) (fun hHeld => ?_)
  refine tkH 0 ⟨some 7, _, _, _, _, _⟩ ?_ rfl ?_ (by assumption) ?_
  rotate_left
  · (intro w hSw; (try dsimp only at hSw); go_simp; all_goals with_reducible rfl)
  try simp only [Act.put, sA, sB, sC]
  refine tkH 1 ⟨some 8, _, _, _, _, _⟩ ?_ rfl ?_ (by assumption) ?_
  rotate_left
  · (intro w hSw; (try dsimp only at hSw); go_simp; all_goals with_reducible rfl)
  try simp only [Act.put, sA, sB, sC]
  refine tkH 2 ⟨some 9, _, _, _, _, _⟩ ?_ rfl ?_ (by assumption) ?_
  rotate_left
  · (intro w hSw; (try dsimp only at hSw); go_simp; all_goals with_reducible rfl)
  try simp only [Act.put, sA, sB, sC]
  refine tkH 3 ⟨some 10, _, _, _, _, _⟩ ?_ rfl ?_ (by assumption) ?_
  rotate_left
  · (intro w hSw; (try dsimp only at hSw); go_simp; all_goals with_reducible rfl)
  try simp only [Act.put, sA, sB, sC]
  refine tkH 4 ⟨some 11, _, _, _, _, _⟩ ?_ rfl ?_ (by assumption) ?_
  rotate_left
  · (intro w hSw; (try dsimp only at hSw); go_simp; all_goals with_reducible rfl)
  try simp only [Act.put, sA, sB, sC]
  refine tkH 5 ⟨some 12, _, _, _, _, _⟩ ?_ rfl ?_ (by assumption) ?_
  rotate_left
  · (intro w hSw; (try dsimp only at hSw); go_simp; all_goals with_reducible rfl)
  try simp only [Act.put, sA, sB, sC]
  refine tkH 6 ⟨some 13, _, _, _, _, _⟩ ?_ rfl ?_ (by assumption) ?_
  rotate_left
  · (intro w hSw; (try dsimp only at hSw); go_simp; all_goals with_reducible rfl)
  try simp only [Act.put, sA, sB, sC]
  refine tkH 7 ⟨some 14, _, _, _, _, _⟩ ?_ rfl ?_ (by assumption) ?_
  rotate_left
  · (intro w hSw; (try dsimp only at hSw); go_simp; all_goals with_reducible rfl)
  try simp only [Act.put, sA, sB, sC]
  refine tkH 8 ⟨some 15, _, _, _, _, _⟩ ?_ rfl ?_ (by assumption) ?_
  rotate_left
  · (intro w hSw; (try dsimp only at hSw); go_simp; all_goals with_reducible rfl)
  try simp only [Act.put, sA, sB, sC]
  refine tkH 9 ⟨some 3, _, _, _, _, _⟩ ?_ rfl ?_ (by assumption) ?_
  rotate_left
  · (intro w hSw; (try dsimp only at hSw); go_simp; all_goals with_reducible rfl)
  try simp only [Act.put, sA, sB, sC]
  refine tkH 10 ⟨some 4, _, _, _, _, _⟩ ?_ rfl ?_ (by assumption) ?_
  rotate_left
  · (intro w hSw; (try dsimp only at hSw); go_simp; all_goals with_reducible rfl)
  try simp only [Act.put, sA, sB, sC]
  refine tkH 11 ⟨some 5, _, _, _, _, _⟩ ?_ rfl ?_ (by assumption) ?_
  rotate_left
  · (intro w hSw; (try dsimp only at hSw); go_simp; all_goals with_reducible rfl)
  try simp only [Act.put, sA, sB, sC]
  refine wpAnyH_done (by kernel_rfl) ?_ _
  go_upto_region 4 with (fail)
  refine wp_region_held_drew (S := (fun w' => w'.cell? ⟨w.heap.size, 0, none⟩ = some (.int .i64 0) ∧ w'.cell? ⟨w.heap.size, 1, none⟩ = some (.int .i64 1) ∧ w'.cell? ⟨w.heap.size, 2, none⟩ = some (.string ⟨#[]⟩) ∧ w'.cell? ⟨w.heap.size, 3, none⟩ = some (.string ⟨#[98, 97, 110, 107]⟩) ∧ w'.cell? ⟨w.heap.size, 4, none⟩ = some (.int .i64 210) ∧ w'.cell? ⟨w.heap.size, 5, none⟩ = some (.int .i64 0) ∧ w'.cell? ⟨w.heap.size, 6, none⟩ = some (.int .i64 10000000) ∧ w'.cell? ⟨w.heap.size, 7, none⟩ = some (.bool false))) (by kernel_rfl) (by simp [go_sem, World.cell?_alloc_past, *]) (fun hHeld => ?_)
  refine tkH 0 ⟨some 26, _, _, _, _, _⟩ ?_ rfl ?_ (by assumption) ?_
  rotate_left
  · (intro w hSw; (try dsimp only at hSw); go_simp; all_goals with_reducible rfl)
  try simp only [Act.put, sA, sB, sC]
  refine tkH 1 ⟨some 27, _, _, _, _, _⟩ ?_ rfl ?_ (by assumption) ?_
  rotate_left
  · (intro w hSw; (try dsimp only at hSw); go_simp; all_goals with_reducible rfl)
  try simp only [Act.put, sA, sB, sC]
  refine tkH 3 ⟨some 29, _, _, _, _, _⟩ ?_ rfl ?_ (by assumption) ?_
  rotate_left
  · (intro w hSw; (try dsimp only at hSw); go_simp; all_goals with_reducible rfl)
  try simp only [Act.put, sA, sB, sC]
  refine tkH 4 ⟨some 30, _, _, _, _, _⟩ ?_ rfl ?_ (by assumption) ?_
  rotate_left
  · (intro w hSw; (try dsimp only at hSw); go_simp; all_goals with_reducible rfl)
  try simp only [Act.put, sA, sB, sC]
  refine wpAnyH_ready (rs := [2]) (by kernel_rfl) (by simp) ?_
  refine AllReadyH.cons rfl (fun K hK => ?_) AllReadyH.nil
  go_simp
  refine (cRange_any _ _ _ _).mono ?_
  rintro e wq ⟨rfl, rfl⟩
  go_wp2_with fail
  refine hK.out _ _ (by simp [go_sem, World.cell?_alloc_past, *]) (fun hHeld => ?_)
  clear hK K
  try simp only [Act.put, sA, sB, sC]
  refine wpAnyH_ready (rs := [5]) (by kernel_rfl) (by simp) ?_
  refine AllReadyH.cons rfl (fun K hK => ?_) AllReadyH.nil
  go_simp
  refine (cRange_any _ _ _ _).mono ?_
  rintro e wq ⟨rfl, rfl⟩
  go_wp2_with fail
  refine hK.out _ _ (by simp [go_sem, World.cell?_alloc_past, *]) (fun hHeld => ?_)
  clear hK K
  try simp only [Act.put, sA, sB, sC]
  refine wpAnyH_ready (rs := [6]) (by kernel_rfl) (by simp) ?_
  refine AllReadyH.cons rfl (fun K hK => ?_) AllReadyH.nil
  go_simp
  go_wp2_with fail
  refine hK.out _ _ (by simp [go_sem, World.cell?_alloc_past, *]) (fun hHeld => ?_)
  clear hK K
  try simp only [Act.put, sA, sB, sC]
  refine wpAnyH_ready (rs := [7]) (by kernel_rfl) (by simp) ?_
  refine AllReadyH.cons rfl (fun K hK => ?_) AllReadyH.nil
  go_simp
  refine (cF2x (rngE 1 0 100000) (rngE 10000000 1 1000000000) 0 _ _ (Lib.hid (by rw [r1, r2]; rfl)) (by simp [go_sem, r1, r2]) (by simp [go_sem, r1, r2])).mono ?_
  rintro e wq ⟨rfl, rfl⟩
  go_wp2_with fail
  refine hK.out _ _ (by simp [go_sem, World.cell?_alloc_past, *]) (fun hHeld => ?_)
  clear hK K
  try simp only [Act.put, sA, sB, sC]
  refine tkH 8 ⟨some 6, _, _, _, _, _⟩ ?_ rfl ?_ (by assumption) ?_
  rotate_left
  · (intro w hSw; (try dsimp only at hSw); go_simp; all_goals with_reducible rfl)
  try simp only [Act.put, sA, sB, sC]
  refine wpAnyH_done (by kernel_rfl) ?_ _
  go_wp2_with fail
  refine (CheckGas_x 210 0 0 _ (Lib.hid (by decide))).mono ?_
  rintro e xw1 ⟨rfl, hbx1⟩
  have zx1 := hbx1.size
  try simp at zx1
  obtain ⟨x1_0_0, x1_0_1, x1_0_2, x1_0_3, x1_0_4, x1_0_5, x1_0_6, x1_0_7⟩ : xw1.cell? ⟨w.heap.size, 0, none⟩ = some (.int .i64 0) ∧ xw1.cell? ⟨w.heap.size, 1, none⟩ = some (.int .i64 1) ∧ xw1.cell? ⟨w.heap.size, 2, none⟩ = some (.string ⟨#[]⟩) ∧ xw1.cell? ⟨w.heap.size, 3, none⟩ = some (.string ⟨#[98, 97, 110, 107]⟩) ∧ xw1.cell? ⟨w.heap.size, 4, none⟩ = some (.int .i64 210) ∧ xw1.cell? ⟨w.heap.size, 5, none⟩ = some (.int .i64 0) ∧ xw1.cell? ⟨w.heap.size, 6, none⟩ = some (.int .i64 10000000) ∧ xw1.cell? ⟨w.heap.size, 7, none⟩ = some (.bool false) := by refine ⟨?_, ?_, ?_, ?_, ?_, ?_, ?_, ?_⟩ <;> (rw [(bcell hbx1).1 _ _ (by first | (simp; done) | (simp; omega) | omega)]; simp [go_sem, World.cell?_alloc_past, *])
  obtain ⟨x1o0, x1n0⟩ : w.heap.size < xw1.heap.size ∧ xw1.heap.size ≠ w.heap.size := by refine ⟨?_, ?_⟩ <;> omega
  have hBx1 : Below w.heap.size w xw1 := (by (repeat (first | (with_reducible refine Below.drew ?_) | (with_reducible refine below_drewN ?_ _) | (with_reducible refine Below.alloc ?_ (by first | omega | (simp; done) | (simp; omega) | (simp at *; omega)) _) | (with_reducible refine Below.setCell ?_ (by first | omega | (simp; done) | (simp; omega) | (simp at *; omega)) _) | (with_reducible exact Below.refl _ _) | (with_reducible assumption) | (with_reducible refine Below.trans ?_ (Below.mono (by assumption) (by first | omega | (simp; done) | (simp; omega) | (simp at *; omega)))))))
  clear hbx1 
  go_wp2
  go_ret
  exact ⟨rfl, (by (repeat (first | (with_reducible refine Below.drew ?_) | (with_reducible refine below_drewN ?_ _) | (with_reducible refine Below.alloc ?_ (by first | omega | (simp; done) | (simp; omega) | (simp at *; omega)) _) | (with_reducible refine Below.setCell ?_ (by first | omega | (simp; done) | (simp; omega) | (simp at *; omega)) _) | (with_reducible exact Below.refl _ _) | (with_reducible assumption) | (with_reducible refine Below.trans ?_ (Below.mono (by assumption) (by first | omega | (simp; done) | (simp; omega) | (simp at *; omega)))))))⟩
set_option maxHeartbeats 1000000 in
set_option maxRecDepth 100000 in
theorem broughtIn_1 (w : World) : Calls Try.prog 98 #[.agg #[.int .i64 0, .int .i64 1, .string ⟨#[]⟩, .string ⟨#[98, 97, 110, 107]⟩, .int .i64 210, .int .i64 0, .int .i64 10000000, .bool false]] w fun e w' => e = .returned (.agg #[.int .i64 2100000, .int .i64 0, .int .i64 7900000]) ∧ Below w.heap.size w w' := by
  have wr0 : IntKind.i64.wrap (2100000) = 2100000 := by decide
  have wr1 : IntKind.i64.wrap (0) = 0 := by decide
  have wr2 : IntKind.i64.wrap (7900000) = 7900000 := by decide
  have wr3 : IntKind.i64.wrap (10000000) = 10000000 := by decide
  go_enter Try.func98, Try.ntmps98
  go_upto_region 2 with (fail)
  refine wp_region_Z (S := (fun w' => w'.cell? ⟨w.heap.size, 0, none⟩ = some (.int .i64 0) ∧ w'.cell? ⟨w.heap.size, 1, none⟩ = some (.int .i64 1) ∧ w'.cell? ⟨w.heap.size, 2, none⟩ = some (.string ⟨#[]⟩) ∧ w'.cell? ⟨w.heap.size, 3, none⟩ = some (.string ⟨#[98, 97, 110, 107]⟩) ∧ w'.cell? ⟨w.heap.size, 4, none⟩ = some (.int .i64 210) ∧ w'.cell? ⟨w.heap.size, 5, none⟩ = some (.int .i64 0) ∧ w'.cell? ⟨w.heap.size, 6, none⟩ = some (.int .i64 10000000) ∧ w'.cell? ⟨w.heap.size, 7, none⟩ = some (.bool false) ∧ w'.cell? ⟨w.heap.size + 1 + 1, 0, none⟩ = some (.int .i64 2100000) ∧ w'.cell? ⟨w.heap.size + 1 + 1, 1, none⟩ = some (.int .i64 0) ∧ w'.cell? ⟨w.heap.size + 1 + 1, 2, none⟩ = some (.int .i64 0))) 6 (by kernel_rfl) (by kernel_rfl) (by kernel_rfl) (by simp [go_sem, World.cell?_alloc_past, *]) (fun hHeld => ?_)
  refine wpAnyZ_take (i := 0) (oi := ⟨some 19, _, _, _, _, _⟩) (v := ?_) (by kernel_rfl) (by kernel_rfl) rfl rfl (by kernel_rfl) (by kernel_rfl) (by kernel_rfl) (fun _ _ _ h => h) (Or.inl ⟨by kernel_rfl, ?_⟩) (by assumption) ?_
  rotate_left
  · (intro w hSw; (try dsimp only at hSw); go_simp; all_goals with_reducible rfl)
  try simp only [Act.put, List.setIfInBounds_toArray, List.set_cons_zero, List.set_cons_succ]
  refine wpAnyZ_take (i := 1) (oi := ⟨some 20, _, _, _, _, _⟩) (v := ?_) (by kernel_rfl) (by kernel_rfl) rfl rfl (by kernel_rfl) (by kernel_rfl) (by kernel_rfl) (fun _ _ _ h => h) (Or.inl ⟨by kernel_rfl, ?_⟩) (by assumption) ?_
  rotate_left
  · (intro w hSw; (try dsimp only at hSw); go_simp; all_goals with_reducible rfl)
  try simp only [Act.put, List.setIfInBounds_toArray, List.set_cons_zero, List.set_cons_succ]
  refine wpAnyZ_take (i := 2) (oi := ⟨some 21, _, _, _, _, _⟩) (v := ?_) (by kernel_rfl) (by kernel_rfl) rfl rfl (by kernel_rfl) (by kernel_rfl) (by kernel_rfl) (fun _ _ _ h => h) (Or.inl ⟨by kernel_rfl, ?_⟩) (by assumption) ?_
  rotate_left
  · (intro w hSw; (try dsimp only at hSw); go_simp; all_goals with_reducible rfl)
  try simp only [Act.put, List.setIfInBounds_toArray, List.set_cons_zero, List.set_cons_succ]
  refine wpAnyZ_call (q := 3) (by kernel_rfl) rfl rfl (fun K hK => ?_)
  go_simp
  refine (sumOf_ok 2100000 0 0 2100000 _ (Lib.hid (by decide)) (Lib.hid (by decide))).mono ?_
  rintro e xw1 ⟨rfl, hbx1⟩
  have zx1 := hbx1.size
  try simp at zx1
  obtain ⟨x1_0_0, x1_0_1, x1_0_2, x1_0_3, x1_0_4, x1_0_5, x1_0_6, x1_0_7, x1_1_0, x1_1_1, x1_1_2, x1_2_0, x1_2_1, x1_2_2⟩ : xw1.cell? ⟨w.heap.size, 0, none⟩ = some (.int .i64 0) ∧ xw1.cell? ⟨w.heap.size, 1, none⟩ = some (.int .i64 1) ∧ xw1.cell? ⟨w.heap.size, 2, none⟩ = some (.string ⟨#[]⟩) ∧ xw1.cell? ⟨w.heap.size, 3, none⟩ = some (.string ⟨#[98, 97, 110, 107]⟩) ∧ xw1.cell? ⟨w.heap.size, 4, none⟩ = some (.int .i64 210) ∧ xw1.cell? ⟨w.heap.size, 5, none⟩ = some (.int .i64 0) ∧ xw1.cell? ⟨w.heap.size, 6, none⟩ = some (.int .i64 10000000) ∧ xw1.cell? ⟨w.heap.size, 7, none⟩ = some (.bool false) ∧ xw1.cell? ⟨w.heap.size + 1, 0, none⟩ = some (.int .i64 0) ∧ xw1.cell? ⟨w.heap.size + 1, 1, none⟩ = some (.int .i64 0) ∧ xw1.cell? ⟨w.heap.size + 1, 2, none⟩ = some (.int .i64 0) ∧ xw1.cell? ⟨w.heap.size + 1 + 1, 0, none⟩ = some (.int .i64 2100000) ∧ xw1.cell? ⟨w.heap.size + 1 + 1, 1, none⟩ = some (.int .i64 0) ∧ xw1.cell? ⟨w.heap.size + 1 + 1, 2, none⟩ = some (.int .i64 0) := by refine ⟨?_, ?_, ?_, ?_, ?_, ?_, ?_, ?_, ?_, ?_, ?_, ?_, ?_, ?_⟩ <;> (rw [(bcell hbx1).1 _ _ (by first | (simp; done) | (simp; omega) | omega)]; simp [go_sem, World.cell?_alloc_past, *])
  obtain ⟨x1f1, x1f2⟩ : (∀ j, xw1.frozen? ⟨w.heap.size + 1, j, none⟩ = false) ∧ (∀ j, xw1.frozen? ⟨w.heap.size + 1 + 1, j, none⟩ = false) := by refine ⟨?_, ?_⟩ <;> (intro j; rw [(bcell hbx1).2 _ _ (by first | (simp; done) | (simp; omega) | omega)]; simp [go_sem, *])
  obtain ⟨x1o0, x1n0, x1o1, x1n1, x1o2, x1n2⟩ : w.heap.size < xw1.heap.size ∧ xw1.heap.size ≠ w.heap.size ∧ w.heap.size + 1 < xw1.heap.size ∧ xw1.heap.size ≠ w.heap.size + 1 ∧ w.heap.size + 1 + 1 < xw1.heap.size ∧ xw1.heap.size ≠ w.heap.size + 1 + 1 := by refine ⟨?_, ?_, ?_, ?_, ?_, ?_⟩ <;> omega
  have hBx1 : Below w.heap.size w xw1 := (by (repeat (first | (with_reducible refine Below.drew ?_) | (with_reducible refine below_drewN ?_ _) | (with_reducible refine Below.alloc ?_ (by first | omega | (simp; done) | (simp; omega) | (simp at *; omega)) _) | (with_reducible refine Below.setCell ?_ (by first | omega | (simp; done) | (simp; omega) | (simp at *; omega)) _) | (with_reducible exact Below.refl _ _) | (with_reducible assumption) | (with_reducible refine Below.trans ?_ (Below.mono (by assumption) (by first | omega | (simp; done) | (simp; omega) | (simp at *; omega)))))))
  clear hbx1 
  go_wp2_with fail
  refine hK.out _ _ (by simp [go_sem, World.cell?_alloc_past, *]) (fun hHeld => ?_)
  clear hK K
  try simp only [Act.put, List.setIfInBounds_toArray, List.set_cons_zero, List.set_cons_succ]
  refine wpAnyZ_take (i := 4) (oi := ⟨some 23, _, _, _, _, _⟩) (v := ?_) (by kernel_rfl) (by kernel_rfl) rfl rfl (by kernel_rfl) (by kernel_rfl) (by kernel_rfl) (fun _ _ _ h => h) (Or.inl ⟨by kernel_rfl, ?_⟩) (by assumption) ?_
  rotate_left
  · (intro w hSw; (try dsimp only at hSw); go_simp; all_goals with_reducible rfl)
  try simp only [Act.put, List.setIfInBounds_toArray, List.set_cons_zero, List.set_cons_succ]
  refine wpAnyZ_take (i := 5) (oi := ⟨some 24, _, _, _, _, _⟩) (v := ?_) (by kernel_rfl) (by kernel_rfl) rfl rfl (by kernel_rfl) (by kernel_rfl) (by kernel_rfl) (fun _ _ _ h => h) (Or.inl ⟨by kernel_rfl, ?_⟩) (by assumption) ?_
  rotate_left
  · (intro w hSw; (try dsimp only at hSw); go_simp; all_goals with_reducible rfl)
  try simp only [Act.put, List.setIfInBounds_toArray, List.set_cons_zero, List.set_cons_succ]
  refine wpAnyZ_last (by kernel_rfl) rfl (fun K hK => ?_)
  go_simp
  go_wp2_with fail
  refine hK.out _ _ ?_
  clear hK K
  try simp only [Act.put, List.setIfInBounds_toArray, List.set_cons_zero, List.set_cons_succ]
  go_wp2
  refine bodyPost_ret (v := .agg #[.int .i64 2100000, .int .i64 0, .int .i64 7900000]) (by simp [results, Try.results98, go_sem, *]) rfl ⟨rfl, ?_⟩
  (repeat (first | (with_reducible refine Below.drew ?_) | (with_reducible refine below_drewN ?_ _) | (with_reducible refine Below.alloc ?_ (by first | omega | (simp; done) | (simp; omega) | (simp at *; omega)) _) | (with_reducible refine Below.setCell ?_ (by first | omega | (simp; done) | (simp; omega) | (simp at *; omega)) _) | (with_reducible exact Below.refl _ _) | (with_reducible assumption) | (with_reducible refine Below.trans ?_ (Below.mono (by assumption) (by first | omega | (simp; done) | (simp; omega) | (simp at *; omega))))))
set_option maxHeartbeats 4000000 in
set_option maxRecDepth 100000 in
theorem checkPossible_1 (rb vb cap : Nat) (w : World) (v0 : w.cell? ⟨vb, 0, none⟩ = some (.string ⟨#[98, 97, 110, 107]⟩)) (v1 : w.cell? ⟨vb, 1, none⟩ = some (.int .i64 50000)) (v2 : w.cell? ⟨vb, 2, none⟩ = some (.int .i64 300000)) (v3 : w.cell? ⟨vb, 3, none⟩ = some (.int .i64 0)) (v4 : w.cell? ⟨vb, 4, none⟩ = some (.int .i64 0)) (v5 : w.cell? ⟨vb, 5, none⟩ = some (.int .i64 0)) (v6 : w.cell? ⟨vb, 6, none⟩ = some (.string ⟨#[115, 49, 50]⟩)) (v7 : w.cell? ⟨vb, 7, none⟩ = some (.int .i64 12000)) (v8 : w.cell? ⟨vb, 8, none⟩ = some (.int .i64 232000)) (v9 : w.cell? ⟨vb, 9, none⟩ = some (.int .i64 0)) (v10 : w.cell? ⟨vb, 10, none⟩ = some (.int .i64 0)) (v11 : w.cell? ⟨vb, 11, none⟩ = some (.int .i64 0)) (r0 : w.cell? ⟨rb, 0, none⟩ = some (.slice (some ⟨vb, 0, none⟩) 2 cap)) (r1 : w.cell? ⟨rb, 1, none⟩ = some (.int .i64 0)) (r2 : w.cell? ⟨rb, 2, none⟩ = some (.int .i64 0)) (r3 : w.cell? ⟨rb, 3, none⟩ = some (.int .i64 0)) (r4 : w.cell? ⟨rb, 4, none⟩ = some (.int .i64 0)) (r5 : w.cell? ⟨rb, 5, none⟩ = some (.int .i64 0)) (r6 : w.cell? ⟨rb, 6, none⟩ = some (.int .i64 0)) (r7 : w.cell? ⟨rb, 7, none⟩ = some (.int .i64 0)) (lv : vb < w.heap.size) (lr : rb < w.heap.size) : Calls Try.prog 97 #[.pointer (some ⟨rb, 0, none⟩), .agg #[.int .i64 0, .int .i64 1, .string ⟨#[]⟩, .string ⟨#[98, 97, 110, 107]⟩, .int .i64 210, .int .i64 0, .int .i64 10000000, .bool false], .pointer none, .pointer (some ⟨vb, 0, none⟩)] w fun e w' => e = .returned (.int .i64 0) ∧ Below w.heap.size w w' := by
  have o1 : vb ≠ w.heap.size := by omega
  have o2 : rb ≠ w.heap.size := by omega
  have o3 : vb < w.heap.size + 1 := by omega
  have o4 : rb < w.heap.size + 1 := by omega
  have wr0 : IntKind.i64.wrap (1900000) = 1900000 := by decide
  have wr1 : IntKind.i64.wrap (-1900000) = -1900000 := by decide
  go_enter Try.func97, Try.ntmps97
  go_upto_region 4 with (fail)
  refine wp_region_held_drew (S := (fun w' => w'.cell? ⟨w.heap.size, 0, none⟩ = some (.int .i64 0) ∧ w'.cell? ⟨w.heap.size, 1, none⟩ = some (.int .i64 1) ∧ w'.cell? ⟨w.heap.size, 2, none⟩ = some (.string ⟨#[]⟩) ∧ w'.cell? ⟨w.heap.size, 3, none⟩ = some (.string ⟨#[98, 97, 110, 107]⟩) ∧ w'.cell? ⟨w.heap.size, 4, none⟩ = some (.int .i64 210) ∧ w'.cell? ⟨w.heap.size, 5, none⟩ = some (.int .i64 0) ∧ w'.cell? ⟨w.heap.size, 6, none⟩ = some (.int .i64 10000000) ∧ w'.cell? ⟨w.heap.size, 7, none⟩ = some (.bool false) ∧ w'.cell? ⟨vb, 0, none⟩ = some (.string ⟨#[98, 97, 110, 107]⟩) ∧ w'.cell? ⟨vb, 1, none⟩ = some (.int .i64 50000) ∧ w'.cell? ⟨vb, 2, none⟩ = some (.int .i64 300000) ∧ w'.cell? ⟨vb, 3, none⟩ = some (.int .i64 0) ∧ w'.cell? ⟨vb, 4, none⟩ = some (.int .i64 0) ∧ w'.cell? ⟨vb, 5, none⟩ = some (.int .i64 0) ∧ w'.cell? ⟨vb, 6, none⟩ = some (.string ⟨#[115, 49, 50]⟩) ∧ w'.cell? ⟨vb, 7, none⟩ = some (.int .i64 12000) ∧ w'.cell? ⟨vb, 8, none⟩ = some (.int .i64 232000) ∧ w'.cell? ⟨vb, 9, none⟩ = some (.int .i64 0) ∧ w'.cell? ⟨vb, 10, none⟩ = some (.int .i64 0) ∧ w'.cell? ⟨vb, 11, none⟩ = some (.int .i64 0) ∧ w'.cell? ⟨rb, 7, none⟩ = some (.int .i64 0))) (by kernel_rfl) (by simp [go_sem, World.cell?_alloc_past, *]) (fun hHeld => ?_)
  refine tkH 0 ⟨some 25, _, _, _, _, _⟩ ?_ rfl ?_ (by assumption) ?_
  rotate_left
  · (intro w hSw; (try dsimp only at hSw); go_simp; all_goals with_reducible rfl)
  try simp only [Act.put, sA, sB, sC]
  refine tkH 1 ⟨some 26, _, _, _, _, _⟩ ?_ rfl ?_ (by assumption) ?_
  rotate_left
  · (intro w hSw; (try dsimp only at hSw); go_simp; all_goals with_reducible rfl)
  try simp only [Act.put, sA, sB, sC]
  refine tkH 2 ⟨some 27, _, _, _, _, _⟩ ?_ rfl ?_ (by assumption) ?_
  rotate_left
  · (intro w hSw; (try dsimp only at hSw); go_simp; all_goals with_reducible rfl)
  try simp only [Act.put, sA, sB, sC]
  refine tkH 3 ⟨some 28, _, _, _, _, _⟩ ?_ rfl ?_ (by assumption) ?_
  rotate_left
  · (intro w hSw; (try dsimp only at hSw); go_simp; all_goals with_reducible rfl)
  try simp only [Act.put, sA, sB, sC]
  refine tkH 4 ⟨some 29, _, _, _, _, _⟩ ?_ rfl ?_ (by assumption) ?_
  rotate_left
  · (intro w hSw; (try dsimp only at hSw); go_simp; all_goals with_reducible rfl)
  try simp only [Act.put, sA, sB, sC]
  refine tkH 5 ⟨some 30, _, _, _, _, _⟩ ?_ rfl ?_ (by assumption) ?_
  rotate_left
  · (intro w hSw; (try dsimp only at hSw); go_simp; all_goals with_reducible rfl)
  try simp only [Act.put, sA, sB, sC]
  refine tkH 6 ⟨some 31, _, _, _, _, _⟩ ?_ rfl ?_ (by assumption) ?_
  rotate_left
  · (intro w hSw; (try dsimp only at hSw); go_simp; all_goals with_reducible rfl)
  try simp only [Act.put, sA, sB, sC]
  refine tkH 7 ⟨some 24, _, _, _, _, _⟩ ?_ rfl ?_ (by assumption) ?_
  rotate_left
  · (intro w hSw; (try dsimp only at hSw); go_simp; all_goals with_reducible rfl)
  try simp only [Act.put, sA, sB, sC]
  refine wpAnyH_done (by kernel_rfl) ?_ _
  go_upto_region 6 with (fail)
  refine wp_region_held_drew (S := (fun w' => w'.cell? ⟨w.heap.size, 0, none⟩ = some (.int .i64 0) ∧ w'.cell? ⟨w.heap.size, 1, none⟩ = some (.int .i64 1) ∧ w'.cell? ⟨w.heap.size, 2, none⟩ = some (.string ⟨#[]⟩) ∧ w'.cell? ⟨w.heap.size, 3, none⟩ = some (.string ⟨#[98, 97, 110, 107]⟩) ∧ w'.cell? ⟨w.heap.size, 4, none⟩ = some (.int .i64 210) ∧ w'.cell? ⟨w.heap.size, 5, none⟩ = some (.int .i64 0) ∧ w'.cell? ⟨w.heap.size, 6, none⟩ = some (.int .i64 10000000) ∧ w'.cell? ⟨w.heap.size, 7, none⟩ = some (.bool false) ∧ w'.cell? ⟨vb, 0, none⟩ = some (.string ⟨#[98, 97, 110, 107]⟩) ∧ w'.cell? ⟨vb, 1, none⟩ = some (.int .i64 50000) ∧ w'.cell? ⟨vb, 2, none⟩ = some (.int .i64 300000) ∧ w'.cell? ⟨vb, 3, none⟩ = some (.int .i64 0) ∧ w'.cell? ⟨vb, 4, none⟩ = some (.int .i64 0) ∧ w'.cell? ⟨vb, 5, none⟩ = some (.int .i64 0) ∧ w'.cell? ⟨vb, 6, none⟩ = some (.string ⟨#[115, 49, 50]⟩) ∧ w'.cell? ⟨vb, 7, none⟩ = some (.int .i64 12000) ∧ w'.cell? ⟨vb, 8, none⟩ = some (.int .i64 232000) ∧ w'.cell? ⟨vb, 9, none⟩ = some (.int .i64 0) ∧ w'.cell? ⟨vb, 10, none⟩ = some (.int .i64 0) ∧ w'.cell? ⟨vb, 11, none⟩ = some (.int .i64 0) ∧ w'.cell? ⟨rb, 7, none⟩ = some (.int .i64 0))) (by kernel_rfl) (by simp [go_sem, World.cell?_alloc_past, *]) (fun hHeld => ?_)
  refine tkH 0 ⟨some 33, _, _, _, _, _⟩ ?_ rfl ?_ (by assumption) ?_
  rotate_left
  · (intro w hSw; (try dsimp only at hSw); go_simp; all_goals with_reducible rfl)
  try simp only [Act.put, sA, sB, sC]
  refine tkH 1 ⟨some 34, _, _, _, _, _⟩ ?_ rfl ?_ (by assumption) ?_
  rotate_left
  · (intro w hSw; (try dsimp only at hSw); go_simp; all_goals with_reducible rfl)
  try simp only [Act.put, sA, sB, sC]
  refine tkH 2 ⟨some 35, _, _, _, _, _⟩ ?_ rfl ?_ (by assumption) ?_
  rotate_left
  · (intro w hSw; (try dsimp only at hSw); go_simp; all_goals with_reducible rfl)
  try simp only [Act.put, sA, sB, sC]
  refine skH 3 ⟨some 36, _, _, _, _, _⟩ rfl (by assumption) ?_
  try simp only [Act.put, sA, sB, sC]
  refine skH 4 ⟨some 37, _, _, _, _, _⟩ rfl (by assumption) ?_
  try simp only [Act.put, sA, sB, sC]
  refine skH 5 ⟨some 38, _, _, _, _, _⟩ rfl (by assumption) ?_
  try simp only [Act.put, sA, sB, sC]
  refine skH 6 ⟨some 39, _, _, _, _, _⟩ rfl (by assumption) ?_
  try simp only [Act.put, sA, sB, sC]
  refine skH 7 ⟨some 40, _, _, _, _, _⟩ rfl (by assumption) ?_
  try simp only [Act.put, sA, sB, sC]
  refine skH 8 ⟨some 41, _, _, _, _, _⟩ rfl (by assumption) ?_
  try simp only [Act.put, sA, sB, sC]
  refine skH 9 ⟨some 42, _, _, _, _, _⟩ rfl (by assumption) ?_
  try simp only [Act.put, sA, sB, sC]
  refine skH 10 ⟨some 43, _, _, _, _, _⟩ rfl (by assumption) ?_
  try simp only [Act.put, sA, sB, sC]
  refine tkH 11 ⟨some 44, _, _, _, _, _⟩ ?_ rfl ?_ (by assumption) ?_
  rotate_left
  · (intro w hSw; (try dsimp only at hSw); go_simp; all_goals with_reducible rfl)
  try simp only [Act.put, sA, sB, sC]
  refine tkH 12 ⟨some 32, _, _, _, _, _⟩ ?_ rfl ?_ (by assumption) ?_
  rotate_left
  · (intro w hSw; (try dsimp only at hSw); go_simp; all_goals with_reducible rfl)
  try simp only [Act.put, sA, sB, sC]
  refine wpAnyH_done (by kernel_rfl) ?_ _
  go_upto_region 8 with (fail)
  refine wp_region_held_drew (S := (fun w' => w'.cell? ⟨w.heap.size, 0, none⟩ = some (.int .i64 0) ∧ w'.cell? ⟨w.heap.size, 1, none⟩ = some (.int .i64 1) ∧ w'.cell? ⟨w.heap.size, 2, none⟩ = some (.string ⟨#[]⟩) ∧ w'.cell? ⟨w.heap.size, 3, none⟩ = some (.string ⟨#[98, 97, 110, 107]⟩) ∧ w'.cell? ⟨w.heap.size, 4, none⟩ = some (.int .i64 210) ∧ w'.cell? ⟨w.heap.size, 5, none⟩ = some (.int .i64 0) ∧ w'.cell? ⟨w.heap.size, 6, none⟩ = some (.int .i64 10000000) ∧ w'.cell? ⟨w.heap.size, 7, none⟩ = some (.bool false) ∧ w'.cell? ⟨vb, 0, none⟩ = some (.string ⟨#[98, 97, 110, 107]⟩) ∧ w'.cell? ⟨vb, 1, none⟩ = some (.int .i64 50000) ∧ w'.cell? ⟨vb, 2, none⟩ = some (.int .i64 300000) ∧ w'.cell? ⟨vb, 3, none⟩ = some (.int .i64 0) ∧ w'.cell? ⟨vb, 4, none⟩ = some (.int .i64 0) ∧ w'.cell? ⟨vb, 5, none⟩ = some (.int .i64 0) ∧ w'.cell? ⟨vb, 6, none⟩ = some (.string ⟨#[115, 49, 50]⟩) ∧ w'.cell? ⟨vb, 7, none⟩ = some (.int .i64 12000) ∧ w'.cell? ⟨vb, 8, none⟩ = some (.int .i64 232000) ∧ w'.cell? ⟨vb, 9, none⟩ = some (.int .i64 0) ∧ w'.cell? ⟨vb, 10, none⟩ = some (.int .i64 0) ∧ w'.cell? ⟨vb, 11, none⟩ = some (.int .i64 0) ∧ w'.cell? ⟨rb, 7, none⟩ = some (.int .i64 0))) (by kernel_rfl) (by simp [go_sem, World.cell?_alloc_past, *]) (fun hHeld => ?_)
  refine tkH 0 ⟨some 46, _, _, _, _, _⟩ ?_ rfl ?_ (by assumption) ?_
  rotate_left
  · (intro w hSw; (try dsimp only at hSw); go_simp; all_goals with_reducible rfl)
  try simp only [Act.put, sA, sB, sC]
  refine tkH 1 ⟨some 47, _, _, _, _, _⟩ ?_ rfl ?_ (by assumption) ?_
  rotate_left
  · (intro w hSw; (try dsimp only at hSw); go_simp; all_goals with_reducible rfl)
  try simp only [Act.put, sA, sB, sC]
  refine tkH 2 ⟨some 48, _, _, _, _, _⟩ ?_ rfl ?_ (by assumption) ?_
  rotate_left
  · (intro w hSw; (try dsimp only at hSw); go_simp; all_goals with_reducible rfl)
  try simp only [Act.put, sA, sB, sC]
  refine tkH 3 ⟨some 49, _, _, _, _, _⟩ ?_ rfl ?_ (by assumption) ?_
  rotate_left
  · (intro w hSw; (try dsimp only at hSw); go_simp; all_goals with_reducible rfl)
  try simp only [Act.put, sA, sB, sC]
  refine tkH 4 ⟨some 50, _, _, _, _, _⟩ ?_ rfl ?_ (by assumption) ?_
  rotate_left
  · (intro w hSw; (try dsimp only at hSw); go_simp; all_goals with_reducible rfl)
  try simp only [Act.put, sA, sB, sC]
  refine tkH 5 ⟨some 51, _, _, _, _, _⟩ ?_ rfl ?_ (by assumption) ?_
  rotate_left
  · (intro w hSw; (try dsimp only at hSw); go_simp; all_goals with_reducible rfl)
  try simp only [Act.put, sA, sB, sC]
  refine tkH 6 ⟨some 52, _, _, _, _, _⟩ ?_ rfl ?_ (by assumption) ?_
  rotate_left
  · (intro w hSw; (try dsimp only at hSw); go_simp; all_goals with_reducible rfl)
  try simp only [Act.put, sA, sB, sC]
  refine tkH 7 ⟨some 53, _, _, _, _, _⟩ ?_ rfl ?_ (by assumption) ?_
  rotate_left
  · (intro w hSw; (try dsimp only at hSw); go_simp; all_goals with_reducible rfl)
  try simp only [Act.put, sA, sB, sC]
  refine tkH 9 ⟨some 55, _, _, _, _, _⟩ ?_ rfl ?_ (by assumption) ?_
  rotate_left
  · (intro w hSw; (try dsimp only at hSw); go_simp; all_goals with_reducible rfl)
  try simp only [Act.put, sA, sB, sC]
  refine tkH 10 ⟨some 56, _, _, _, _, _⟩ ?_ rfl ?_ (by assumption) ?_
  rotate_left
  · (intro w hSw; (try dsimp only at hSw); go_simp; all_goals with_reducible rfl)
  try simp only [Act.put, sA, sB, sC]
  refine tkH 11 ⟨some 57, _, _, _, _, _⟩ ?_ rfl ?_ (by assumption) ?_
  rotate_left
  · (intro w hSw; (try dsimp only at hSw); go_simp; all_goals with_reducible rfl)
  try simp only [Act.put, sA, sB, sC]
  refine tkH 12 ⟨some 58, _, _, _, _, _⟩ ?_ rfl ?_ (by assumption) ?_
  rotate_left
  · (intro w hSw; (try dsimp only at hSw); go_simp; all_goals with_reducible rfl)
  try simp only [Act.put, sA, sB, sC]
  refine tkH 13 ⟨some 59, _, _, _, _, _⟩ ?_ rfl ?_ (by assumption) ?_
  rotate_left
  · (intro w hSw; (try dsimp only at hSw); go_simp; all_goals with_reducible rfl)
  try simp only [Act.put, sA, sB, sC]
  refine tkH 14 ⟨some 60, _, _, _, _, _⟩ ?_ rfl ?_ (by assumption) ?_
  rotate_left
  · (intro w hSw; (try dsimp only at hSw); go_simp; all_goals with_reducible rfl)
  try simp only [Act.put, sA, sB, sC]
  refine wpAnyH_ready (rs := [8]) (by kernel_rfl) (by simp) ?_
  refine AllReadyH.cons rfl (fun K hK => ?_) AllReadyH.nil
  go_simp
  refine (pressureWith_any ⟨#[98, 97, 110, 107]⟩ 50000 300000 0 0 0 10000000 0 10000000000 _ (Lib.hid (by decide)) (Lib.hid (by decide)) (by omega) (by omega) (by omega) (by omega) (Lib.hid (by decide))).mono ?_
  rintro e xw1 ⟨rfl, hbx1⟩
  have zx1 := hbx1.size
  try simp at zx1
  obtain ⟨x1_0_0, x1_0_1, x1_0_2, x1_0_3, x1_0_4, x1_0_5, x1_0_6, x1_0_7, x1_1_0, x1_1_1, x1_1_2, x1_1_3, x1_1_4, x1_1_5, x1_1_6, x1_1_7, x1_1_8, x1_1_9, x1_1_10, x1_1_11, x1_2_0, x1_2_1, x1_2_2, x1_2_3, x1_2_4, x1_2_5, x1_2_6, x1_2_7⟩ : xw1.cell? ⟨w.heap.size, 0, none⟩ = some (.int .i64 0) ∧ xw1.cell? ⟨w.heap.size, 1, none⟩ = some (.int .i64 1) ∧ xw1.cell? ⟨w.heap.size, 2, none⟩ = some (.string ⟨#[]⟩) ∧ xw1.cell? ⟨w.heap.size, 3, none⟩ = some (.string ⟨#[98, 97, 110, 107]⟩) ∧ xw1.cell? ⟨w.heap.size, 4, none⟩ = some (.int .i64 210) ∧ xw1.cell? ⟨w.heap.size, 5, none⟩ = some (.int .i64 0) ∧ xw1.cell? ⟨w.heap.size, 6, none⟩ = some (.int .i64 10000000) ∧ xw1.cell? ⟨w.heap.size, 7, none⟩ = some (.bool false) ∧ xw1.cell? ⟨vb, 0, none⟩ = some (.string ⟨#[98, 97, 110, 107]⟩) ∧ xw1.cell? ⟨vb, 1, none⟩ = some (.int .i64 50000) ∧ xw1.cell? ⟨vb, 2, none⟩ = some (.int .i64 300000) ∧ xw1.cell? ⟨vb, 3, none⟩ = some (.int .i64 0) ∧ xw1.cell? ⟨vb, 4, none⟩ = some (.int .i64 0) ∧ xw1.cell? ⟨vb, 5, none⟩ = some (.int .i64 0) ∧ xw1.cell? ⟨vb, 6, none⟩ = some (.string ⟨#[115, 49, 50]⟩) ∧ xw1.cell? ⟨vb, 7, none⟩ = some (.int .i64 12000) ∧ xw1.cell? ⟨vb, 8, none⟩ = some (.int .i64 232000) ∧ xw1.cell? ⟨vb, 9, none⟩ = some (.int .i64 0) ∧ xw1.cell? ⟨vb, 10, none⟩ = some (.int .i64 0) ∧ xw1.cell? ⟨vb, 11, none⟩ = some (.int .i64 0) ∧ xw1.cell? ⟨rb, 0, none⟩ = some (.slice (some ⟨vb, 0, none⟩) 2 cap) ∧ xw1.cell? ⟨rb, 1, none⟩ = some (.int .i64 0) ∧ xw1.cell? ⟨rb, 2, none⟩ = some (.int .i64 0) ∧ xw1.cell? ⟨rb, 3, none⟩ = some (.int .i64 0) ∧ xw1.cell? ⟨rb, 4, none⟩ = some (.int .i64 0) ∧ xw1.cell? ⟨rb, 5, none⟩ = some (.int .i64 0) ∧ xw1.cell? ⟨rb, 6, none⟩ = some (.int .i64 0) ∧ xw1.cell? ⟨rb, 7, none⟩ = some (.int .i64 0) := by refine ⟨?_, ?_, ?_, ?_, ?_, ?_, ?_, ?_, ?_, ?_, ?_, ?_, ?_, ?_, ?_, ?_, ?_, ?_, ?_, ?_, ?_, ?_, ?_, ?_, ?_, ?_, ?_, ?_⟩ <;> (rw [(bcell hbx1).1 _ _ (by first | (simp; done) | (simp; omega) | omega)]; simp [go_sem, World.cell?_alloc_past, *])
  obtain ⟨x1o0, x1n0, x1o1, x1n1, x1o2, x1n2⟩ : w.heap.size < xw1.heap.size ∧ xw1.heap.size ≠ w.heap.size ∧ vb < xw1.heap.size ∧ xw1.heap.size ≠ vb ∧ rb < xw1.heap.size ∧ xw1.heap.size ≠ rb := by refine ⟨?_, ?_, ?_, ?_, ?_, ?_⟩ <;> omega
  have hBx1 : Below w.heap.size w xw1 := (by (repeat (first | (with_reducible refine Below.drew ?_) | (with_reducible refine below_drewN ?_ _) | (with_reducible refine Below.alloc ?_ (by first | omega | (simp; done) | (simp; omega) | (simp at *; omega)) _) | (with_reducible refine Below.setCell ?_ (by first | omega | (simp; done) | (simp; omega) | (simp at *; omega)) _) | (with_reducible exact Below.refl _ _) | (with_reducible assumption) | (with_reducible refine Below.trans ?_ (Below.mono (by assumption) (by first | omega | (simp; done) | (simp; omega) | (simp at *; omega)))))))
  clear hbx1 
  go_wp2_with fail
  refine hK.out _ _ (by simp [go_sem, World.cell?_alloc_past, *]) (fun hHeld => ?_)
  clear hK K
  try simp only [Act.put, sA, sB, sC]
  refine wpAnyH_ready (rs := [15]) (by kernel_rfl) (by simp) ?_
  refine AllReadyH.cons rfl (fun K hK => ?_) AllReadyH.nil
  go_simp
  refine (compare_any 10000000000 50000 300000 1 (-1) _ (by omega) (by omega) (by omega) (by omega) (by omega) (by omega) (by omega) (by omega) (Lib.hid (by decide))).mono ?_
  rintro e xw2 ⟨rfl, hbx2⟩
  have zx2 := hbx2.size
  try simp at zx2
  obtain ⟨x2_0_0, x2_0_1, x2_0_2, x2_0_3, x2_0_4, x2_0_5, x2_0_6, x2_0_7, x2_1_0, x2_1_1, x2_1_2, x2_1_3, x2_1_4, x2_1_5, x2_1_6, x2_1_7, x2_1_8, x2_1_9, x2_1_10, x2_1_11, x2_2_0, x2_2_1, x2_2_2, x2_2_3, x2_2_4, x2_2_5, x2_2_6, x2_2_7⟩ : xw2.cell? ⟨w.heap.size, 0, none⟩ = some (.int .i64 0) ∧ xw2.cell? ⟨w.heap.size, 1, none⟩ = some (.int .i64 1) ∧ xw2.cell? ⟨w.heap.size, 2, none⟩ = some (.string ⟨#[]⟩) ∧ xw2.cell? ⟨w.heap.size, 3, none⟩ = some (.string ⟨#[98, 97, 110, 107]⟩) ∧ xw2.cell? ⟨w.heap.size, 4, none⟩ = some (.int .i64 210) ∧ xw2.cell? ⟨w.heap.size, 5, none⟩ = some (.int .i64 0) ∧ xw2.cell? ⟨w.heap.size, 6, none⟩ = some (.int .i64 10000000) ∧ xw2.cell? ⟨w.heap.size, 7, none⟩ = some (.bool false) ∧ xw2.cell? ⟨vb, 0, none⟩ = some (.string ⟨#[98, 97, 110, 107]⟩) ∧ xw2.cell? ⟨vb, 1, none⟩ = some (.int .i64 50000) ∧ xw2.cell? ⟨vb, 2, none⟩ = some (.int .i64 300000) ∧ xw2.cell? ⟨vb, 3, none⟩ = some (.int .i64 0) ∧ xw2.cell? ⟨vb, 4, none⟩ = some (.int .i64 0) ∧ xw2.cell? ⟨vb, 5, none⟩ = some (.int .i64 0) ∧ xw2.cell? ⟨vb, 6, none⟩ = some (.string ⟨#[115, 49, 50]⟩) ∧ xw2.cell? ⟨vb, 7, none⟩ = some (.int .i64 12000) ∧ xw2.cell? ⟨vb, 8, none⟩ = some (.int .i64 232000) ∧ xw2.cell? ⟨vb, 9, none⟩ = some (.int .i64 0) ∧ xw2.cell? ⟨vb, 10, none⟩ = some (.int .i64 0) ∧ xw2.cell? ⟨vb, 11, none⟩ = some (.int .i64 0) ∧ xw2.cell? ⟨rb, 0, none⟩ = some (.slice (some ⟨vb, 0, none⟩) 2 cap) ∧ xw2.cell? ⟨rb, 1, none⟩ = some (.int .i64 0) ∧ xw2.cell? ⟨rb, 2, none⟩ = some (.int .i64 0) ∧ xw2.cell? ⟨rb, 3, none⟩ = some (.int .i64 0) ∧ xw2.cell? ⟨rb, 4, none⟩ = some (.int .i64 0) ∧ xw2.cell? ⟨rb, 5, none⟩ = some (.int .i64 0) ∧ xw2.cell? ⟨rb, 6, none⟩ = some (.int .i64 0) ∧ xw2.cell? ⟨rb, 7, none⟩ = some (.int .i64 0) := by refine ⟨?_, ?_, ?_, ?_, ?_, ?_, ?_, ?_, ?_, ?_, ?_, ?_, ?_, ?_, ?_, ?_, ?_, ?_, ?_, ?_, ?_, ?_, ?_, ?_, ?_, ?_, ?_, ?_⟩ <;> (rw [(bcell hbx2).1 _ _ (by first | (simp; done) | (simp; omega) | omega)]; simp [go_sem, World.cell?_alloc_past, *])
  obtain ⟨x2o0, x2n0, x2o1, x2n1, x2o2, x2n2⟩ : w.heap.size < xw2.heap.size ∧ xw2.heap.size ≠ w.heap.size ∧ vb < xw2.heap.size ∧ xw2.heap.size ≠ vb ∧ rb < xw2.heap.size ∧ xw2.heap.size ≠ rb := by refine ⟨?_, ?_, ?_, ?_, ?_, ?_⟩ <;> omega
  have hBx2 : Below w.heap.size w xw2 := (by (repeat (first | (with_reducible refine Below.drew ?_) | (with_reducible refine below_drewN ?_ _) | (with_reducible refine Below.alloc ?_ (by first | omega | (simp; done) | (simp; omega) | (simp at *; omega)) _) | (with_reducible refine Below.setCell ?_ (by first | omega | (simp; done) | (simp; omega) | (simp at *; omega)) _) | (with_reducible exact Below.refl _ _) | (with_reducible assumption) | (with_reducible refine Below.trans ?_ (Below.mono (by assumption) (by first | omega | (simp; done) | (simp; omega) | (simp at *; omega)))))))
  clear hbx2 x1_0_0 x1_0_1 x1_0_2 x1_0_3 x1_0_4 x1_0_5 x1_0_6 x1_0_7 x1_1_0 x1_1_1 x1_1_2 x1_1_3 x1_1_4 x1_1_5 x1_1_6 x1_1_7 x1_1_8 x1_1_9 x1_1_10 x1_1_11 x1_2_0 x1_2_1 x1_2_2 x1_2_3 x1_2_4 x1_2_5 x1_2_6 x1_2_7 x1o0 x1n0 x1o1 x1n1 x1o2 x1n2 hBx1
  go_wp2_with fail
  refine hK.out _ _ (by simp [go_sem, World.cell?_alloc_past, *]) (fun hHeld => ?_)
  clear hK K
  try simp only [Act.put, sA, sB, sC]
  refine tkH 16 ⟨some 62, _, _, _, _, _⟩ ?_ rfl ?_ (by assumption) ?_
  rotate_left
  · (intro w hSw; (try dsimp only at hSw); go_simp; all_goals with_reducible rfl)
  try simp only [Act.put, sA, sB, sC]
  refine tkH 17 ⟨some 63, _, _, _, _, _⟩ ?_ rfl ?_ (by assumption) ?_
  rotate_left
  · (intro w hSw; (try dsimp only at hSw); go_simp; all_goals with_reducible rfl)
  try simp only [Act.put, sA, sB, sC]
  refine tkH 18 ⟨some 45, _, _, _, _, _⟩ ?_ rfl ?_ (by assumption) ?_
  rotate_left
  · (intro w hSw; (try dsimp only at hSw); go_simp; all_goals with_reducible rfl)
  try simp only [Act.put, sA, sB, sC]
  refine wpAnyH_done (by kernel_rfl) ?_ _
  go_upto_region 10 with (fail)
  refine wp_region_held_drew (S := (fun w' => w'.cell? ⟨w.heap.size, 0, none⟩ = some (.int .i64 0) ∧ w'.cell? ⟨w.heap.size, 1, none⟩ = some (.int .i64 1) ∧ w'.cell? ⟨w.heap.size, 2, none⟩ = some (.string ⟨#[]⟩) ∧ w'.cell? ⟨w.heap.size, 3, none⟩ = some (.string ⟨#[98, 97, 110, 107]⟩) ∧ w'.cell? ⟨w.heap.size, 4, none⟩ = some (.int .i64 210) ∧ w'.cell? ⟨w.heap.size, 5, none⟩ = some (.int .i64 0) ∧ w'.cell? ⟨w.heap.size, 6, none⟩ = some (.int .i64 10000000) ∧ w'.cell? ⟨w.heap.size, 7, none⟩ = some (.bool false) ∧ w'.cell? ⟨vb, 0, none⟩ = some (.string ⟨#[98, 97, 110, 107]⟩) ∧ w'.cell? ⟨vb, 1, none⟩ = some (.int .i64 50000) ∧ w'.cell? ⟨vb, 2, none⟩ = some (.int .i64 300000) ∧ w'.cell? ⟨vb, 3, none⟩ = some (.int .i64 0) ∧ w'.cell? ⟨vb, 4, none⟩ = some (.int .i64 0) ∧ w'.cell? ⟨vb, 5, none⟩ = some (.int .i64 0) ∧ w'.cell? ⟨vb, 6, none⟩ = some (.string ⟨#[115, 49, 50]⟩) ∧ w'.cell? ⟨vb, 7, none⟩ = some (.int .i64 12000) ∧ w'.cell? ⟨vb, 8, none⟩ = some (.int .i64 232000) ∧ w'.cell? ⟨vb, 9, none⟩ = some (.int .i64 0) ∧ w'.cell? ⟨vb, 10, none⟩ = some (.int .i64 0) ∧ w'.cell? ⟨vb, 11, none⟩ = some (.int .i64 0) ∧ w'.cell? ⟨rb, 7, none⟩ = some (.int .i64 0))) (by kernel_rfl) (by simp [go_sem, World.cell?_alloc_past, *]) (fun hHeld => ?_)
  refine tkH 0 ⟨some 65, _, _, _, _, _⟩ ?_ rfl ?_ (by assumption) ?_
  rotate_left
  · (intro w hSw; (try dsimp only at hSw); go_simp; all_goals with_reducible rfl)
  try simp only [Act.put, sA, sB, sC]
  refine tkH 1 ⟨some 66, _, _, _, _, _⟩ ?_ rfl ?_ (by assumption) ?_
  rotate_left
  · (intro w hSw; (try dsimp only at hSw); go_simp; all_goals with_reducible rfl)
  try simp only [Act.put, sA, sB, sC]
  refine tkH 2 ⟨some 67, _, _, _, _, _⟩ ?_ rfl ?_ (by assumption) ?_
  rotate_left
  · (intro w hSw; (try dsimp only at hSw); go_simp; all_goals with_reducible rfl)
  try simp only [Act.put, sA, sB, sC]
  refine tkH 3 ⟨some 68, _, _, _, _, _⟩ ?_ rfl ?_ (by assumption) ?_
  rotate_left
  · (intro w hSw; (try dsimp only at hSw); go_simp; all_goals with_reducible rfl)
  try simp only [Act.put, sA, sB, sC]
  refine skH 4 ⟨some 69, _, _, _, _, _⟩ rfl (by assumption) ?_
  try simp only [Act.put, sA, sB, sC]
  refine skH 5 ⟨some 70, _, _, _, _, _⟩ rfl (by assumption) ?_
  try simp only [Act.put, sA, sB, sC]
  refine skH 6 ⟨some 71, _, _, _, _, _⟩ rfl (by assumption) ?_
  try simp only [Act.put, sA, sB, sC]
  refine tkH 7 ⟨some 72, _, _, _, _, _⟩ ?_ rfl ?_ (by assumption) ?_
  rotate_left
  · (intro w hSw; (try dsimp only at hSw); go_simp; all_goals with_reducible rfl)
  try simp only [Act.put, sA, sB, sC]
  refine tkH 8 ⟨some 73, _, _, _, _, _⟩ ?_ rfl ?_ (by assumption) ?_
  rotate_left
  · (intro w hSw; (try dsimp only at hSw); go_simp; all_goals with_reducible rfl)
  try simp only [Act.put, sA, sB, sC]
  refine skH 9 ⟨some 74, _, _, _, _, _⟩ rfl (by assumption) ?_
  try simp only [Act.put, sA, sB, sC]
  refine skH 10 ⟨some 75, _, _, _, _, _⟩ rfl (by assumption) ?_
  try simp only [Act.put, sA, sB, sC]
  refine skH 11 ⟨some 76, _, _, _, _, _⟩ rfl (by assumption) ?_
  try simp only [Act.put, sA, sB, sC]
  refine skH 12 ⟨some 77, _, _, _, _, _⟩ rfl (by assumption) ?_
  try simp only [Act.put, sA, sB, sC]
  refine skH 13 ⟨some 78, _, _, _, _, _⟩ rfl (by assumption) ?_
  try simp only [Act.put, sA, sB, sC]
  refine skH 14 ⟨some 79, _, _, _, _, _⟩ rfl (by assumption) ?_
  try simp only [Act.put, sA, sB, sC]
  refine skH 15 ⟨some 80, _, _, _, _, _⟩ rfl (by assumption) ?_
  try simp only [Act.put, sA, sB, sC]
  refine skH 16 ⟨some 81, _, _, _, _, _⟩ rfl (by assumption) ?_
  try simp only [Act.put, sA, sB, sC]
  refine skH 17 ⟨some 82, _, _, _, _, _⟩ rfl (by assumption) ?_
  try simp only [Act.put, sA, sB, sC]
  refine skH 18 ⟨some 83, _, _, _, _, _⟩ rfl (by assumption) ?_
  try simp only [Act.put, sA, sB, sC]
  refine skH 19 ⟨some 84, _, _, _, _, _⟩ rfl (by assumption) ?_
  try simp only [Act.put, sA, sB, sC]
  refine skH 20 ⟨some 85, _, _, _, _, _⟩ rfl (by assumption) ?_
  try simp only [Act.put, sA, sB, sC]
  refine skH 21 ⟨some 86, _, _, _, _, _⟩ rfl (by assumption) ?_
  try simp only [Act.put, sA, sB, sC]
  refine skH 22 ⟨some 87, _, _, _, _, _⟩ rfl (by assumption) ?_
  try simp only [Act.put, sA, sB, sC]
  refine skH 23 ⟨some 88, _, _, _, _, _⟩ rfl (by assumption) ?_
  try simp only [Act.put, sA, sB, sC]
  refine tkH 24 ⟨some 89, _, _, _, _, _⟩ ?_ rfl ?_ (by assumption) ?_
  rotate_left
  · (intro w hSw; (try dsimp only at hSw); go_simp; all_goals with_reducible rfl)
  try simp only [Act.put, sA, sB, sC]
  refine tkH 25 ⟨some 64, _, _, _, _, _⟩ ?_ rfl ?_ (by assumption) ?_
  rotate_left
  · (intro w hSw; (try dsimp only at hSw); go_simp; all_goals with_reducible rfl)
  try simp only [Act.put, sA, sB, sC]
  refine wpAnyH_done (by kernel_rfl) ?_ _
  go_wp2
  go_ret
  exact ⟨rfl, (by (repeat (first | (with_reducible refine Below.drew ?_) | (with_reducible refine below_drewN ?_ _) | (with_reducible refine Below.alloc ?_ (by first | omega | (simp; done) | (simp; omega) | (simp at *; omega)) _) | (with_reducible refine Below.setCell ?_ (by first | omega | (simp; done) | (simp; omega) | (simp at *; omega)) _) | (with_reducible exact Below.refl _ _) | (with_reducible assumption) | (with_reducible refine Below.trans ?_ (Below.mono (by assumption) (by first | omega | (simp; done) | (simp; omega) | (simp at *; omega)))))))⟩
set_option maxHeartbeats 1000000 in
set_option maxRecDepth 100000 in
theorem checkAlone_2 (w : World) : Calls Try.prog 95 #[.agg #[.int .i64 1, .int .i64 1, .string ⟨#[98, 97, 110, 107]⟩, .string ⟨#[115, 49, 50]⟩, .int .i64 0, .int .i64 0, .int .i64 1900000, .bool false]] w fun e w' => e = .returned (.int .i64 0) ∧ Below w.heap.size w w' := by
  have r1 : rngE 1 0 100000 = 0 := by decide
  have r2 : rngE 1900000 1 1000000000 = 0 := by decide
  go_enter Try.func95, Try.ntmps95
  go_upto_region 1 with (fail)
  refine wp_region_held_drew (S := (fun w' => w'.cell? ⟨w.heap.size, 0, none⟩ = some (.int .i64 1) ∧ w'.cell? ⟨w.heap.size, 1, none⟩ = some (.int .i64 1) ∧ w'.cell? ⟨w.heap.size, 2, none⟩ = some (.string ⟨#[98, 97, 110, 107]⟩) ∧ w'.cell? ⟨w.heap.size, 3, none⟩ = some (.string ⟨#[115, 49, 50]⟩) ∧ w'.cell? ⟨w.heap.size, 4, none⟩ = some (.int .i64 0) ∧ w'.cell? ⟨w.heap.size, 5, none⟩ = some (.int .i64 0) ∧ w'.cell? ⟨w.heap.size, 6, none⟩ = some (.int .i64 1900000) ∧ w'.cell? ⟨w.heap.size, 7, none⟩ = some (.bool false))) (by kernel_rfl) (by simp [go_sem, World.cell?_alloc_past, *]) (fun hHeld => ?_)
  refine tkH 0 ⟨some 7, _, _, _, _, _⟩ ?_ rfl ?_ (by assumption) ?_
  rotate_left
  · (intro w hSw; (try dsimp only at hSw); go_simp; all_goals with_reducible rfl)
  try simp only [Act.put, sA, sB, sC]
  refine tkH 1 ⟨some 8, _, _, _, _, _⟩ ?_ rfl ?_ (by assumption) ?_
  rotate_left
  · (intro w hSw; (try dsimp only at hSw); go_simp; all_goals with_reducible rfl)
  try simp only [Act.put, sA, sB, sC]
  refine tkH 2 ⟨some 9, _, _, _, _, _⟩ ?_ rfl ?_ (by assumption) ?_
  rotate_left
  · (intro w hSw; (try dsimp only at hSw); go_simp; all_goals with_reducible rfl)
  try simp only [Act.put, sA, sB, sC]
  refine tkH 3 ⟨some 10, _, _, _, _, _⟩ ?_ rfl ?_ (by assumption) ?_
  rotate_left
  · (intro w hSw; (try dsimp only at hSw); go_simp; all_goals with_reducible rfl)
  try simp only [Act.put, sA, sB, sC]
  refine tkH 4 ⟨some 11, _, _, _, _, _⟩ ?_ rfl ?_ (by assumption) ?_
  rotate_left
  · (intro w hSw; (try dsimp only at hSw); go_simp; all_goals with_reducible rfl)
  try simp only [Act.put, sA, sB, sC]
  refine tkH 5 ⟨some 12, _, _, _, _, _⟩ ?_ rfl ?_ (by assumption) ?_
  rotate_left
  · (intro w hSw; (try dsimp only at hSw); go_simp; all_goals with_reducible rfl)
  try simp only [Act.put, sA, sB, sC]
  refine tkH 6 ⟨some 13, _, _, _, _, _⟩ ?_ rfl ?_ (by assumption) ?_
  rotate_left
  · (intro w hSw; (try dsimp only at hSw); go_simp; all_goals with_reducible rfl)
  try simp only [Act.put, sA, sB, sC]
  refine tkH 7 ⟨some 14, _, _, _, _, _⟩ ?_ rfl ?_ (by assumption) ?_
  rotate_left
  · (intro w hSw; (try dsimp only at hSw); go_simp; all_goals with_reducible rfl)
  try simp only [Act.put, sA, sB, sC]
  refine tkH 8 ⟨some 15, _, _, _, _, _⟩ ?_ rfl ?_ (by assumption) ?_
  rotate_left
  · (intro w hSw; (try dsimp only at hSw); go_simp; all_goals with_reducible rfl)
  try simp only [Act.put, sA, sB, sC]
  refine tkH 9 ⟨some 3, _, _, _, _, _⟩ ?_ rfl ?_ (by assumption) ?_
  rotate_left
  · (intro w hSw; (try dsimp only at hSw); go_simp; all_goals with_reducible rfl)
  try simp only [Act.put, sA, sB, sC]
  refine tkH 10 ⟨some 4, _, _, _, _, _⟩ ?_ rfl ?_ (by assumption) ?_
  rotate_left
  · (intro w hSw; (try dsimp only at hSw); go_simp; all_goals with_reducible rfl)
  try simp only [Act.put, sA, sB, sC]
  refine tkH 11 ⟨some 5, _, _, _, _, _⟩ ?_ rfl ?_ (by assumption) ?_
  rotate_left
  · (intro w hSw; (try dsimp only at hSw); go_simp; all_goals with_reducible rfl)
  try simp only [Act.put, sA, sB, sC]
  refine wpAnyH_done (by kernel_rfl) ?_ _
  go_upto_region 4 with (fail)
  refine wp_region_held_drew (S := (fun w' => w'.cell? ⟨w.heap.size, 0, none⟩ = some (.int .i64 1) ∧ w'.cell? ⟨w.heap.size, 1, none⟩ = some (.int .i64 1) ∧ w'.cell? ⟨w.heap.size, 2, none⟩ = some (.string ⟨#[98, 97, 110, 107]⟩) ∧ w'.cell? ⟨w.heap.size, 3, none⟩ = some (.string ⟨#[115, 49, 50]⟩) ∧ w'.cell? ⟨w.heap.size, 4, none⟩ = some (.int .i64 0) ∧ w'.cell? ⟨w.heap.size, 5, none⟩ = some (.int .i64 0) ∧ w'.cell? ⟨w.heap.size, 6, none⟩ = some (.int .i64 1900000) ∧ w'.cell? ⟨w.heap.size, 7, none⟩ = some (.bool false))) (by kernel_rfl) (by simp [go_sem, World.cell?_alloc_past, *]) (fun hHeld => ?_)
  refine tkH 0 ⟨some 26, _, _, _, _, _⟩ ?_ rfl ?_ (by assumption) ?_
  rotate_left
  · (intro w hSw; (try dsimp only at hSw); go_simp; all_goals with_reducible rfl)
  try simp only [Act.put, sA, sB, sC]
  refine tkH 1 ⟨some 27, _, _, _, _, _⟩ ?_ rfl ?_ (by assumption) ?_
  rotate_left
  · (intro w hSw; (try dsimp only at hSw); go_simp; all_goals with_reducible rfl)
  try simp only [Act.put, sA, sB, sC]
  refine tkH 3 ⟨some 29, _, _, _, _, _⟩ ?_ rfl ?_ (by assumption) ?_
  rotate_left
  · (intro w hSw; (try dsimp only at hSw); go_simp; all_goals with_reducible rfl)
  try simp only [Act.put, sA, sB, sC]
  refine tkH 4 ⟨some 30, _, _, _, _, _⟩ ?_ rfl ?_ (by assumption) ?_
  rotate_left
  · (intro w hSw; (try dsimp only at hSw); go_simp; all_goals with_reducible rfl)
  try simp only [Act.put, sA, sB, sC]
  refine wpAnyH_ready (rs := [2]) (by kernel_rfl) (by simp) ?_
  refine AllReadyH.cons rfl (fun K hK => ?_) AllReadyH.nil
  go_simp
  refine (cRange_any _ _ _ _).mono ?_
  rintro e wq ⟨rfl, rfl⟩
  go_wp2_with fail
  refine hK.out _ _ (by simp [go_sem, World.cell?_alloc_past, *]) (fun hHeld => ?_)
  clear hK K
  try simp only [Act.put, sA, sB, sC]
  refine wpAnyH_ready (rs := [5]) (by kernel_rfl) (by simp) ?_
  refine AllReadyH.cons rfl (fun K hK => ?_) AllReadyH.nil
  go_simp
  refine (cRange_any _ _ _ _).mono ?_
  rintro e wq ⟨rfl, rfl⟩
  go_wp2_with fail
  refine hK.out _ _ (by simp [go_sem, World.cell?_alloc_past, *]) (fun hHeld => ?_)
  clear hK K
  try simp only [Act.put, sA, sB, sC]
  refine wpAnyH_ready (rs := [6]) (by kernel_rfl) (by simp) ?_
  refine AllReadyH.cons rfl (fun K hK => ?_) AllReadyH.nil
  go_simp
  go_wp2_with fail
  refine hK.out _ _ (by simp [go_sem, World.cell?_alloc_past, *]) (fun hHeld => ?_)
  clear hK K
  try simp only [Act.put, sA, sB, sC]
  refine wpAnyH_ready (rs := [7]) (by kernel_rfl) (by simp) ?_
  refine AllReadyH.cons rfl (fun K hK => ?_) AllReadyH.nil
  go_simp
  refine (cF2x (rngE 1 0 100000) (rngE 1900000 1 1000000000) 0 _ _ (Lib.hid (by rw [r1, r2]; rfl)) (by simp [go_sem, r1, r2]) (by simp [go_sem, r1, r2])).mono ?_
  rintro e wq ⟨rfl, rfl⟩
  go_wp2_with fail
  refine hK.out _ _ (by simp [go_sem, World.cell?_alloc_past, *]) (fun hHeld => ?_)
  clear hK K
  try simp only [Act.put, sA, sB, sC]
  refine tkH 8 ⟨some 6, _, _, _, _, _⟩ ?_ rfl ?_ (by assumption) ?_
  rotate_left
  · (intro w hSw; (try dsimp only at hSw); go_simp; all_goals with_reducible rfl)
  try simp only [Act.put, sA, sB, sC]
  refine wpAnyH_done (by kernel_rfl) ?_ _
  go_wp2_with fail
  refine (CheckGas_x 0 0 0 _ (Lib.hid (by decide))).mono ?_
  rintro e xw1 ⟨rfl, hbx1⟩
  have zx1 := hbx1.size
  try simp at zx1
  obtain ⟨x1_0_0, x1_0_1, x1_0_2, x1_0_3, x1_0_4, x1_0_5, x1_0_6, x1_0_7⟩ : xw1.cell? ⟨w.heap.size, 0, none⟩ = some (.int .i64 1) ∧ xw1.cell? ⟨w.heap.size, 1, none⟩ = some (.int .i64 1) ∧ xw1.cell? ⟨w.heap.size, 2, none⟩ = some (.string ⟨#[98, 97, 110, 107]⟩) ∧ xw1.cell? ⟨w.heap.size, 3, none⟩ = some (.string ⟨#[115, 49, 50]⟩) ∧ xw1.cell? ⟨w.heap.size, 4, none⟩ = some (.int .i64 0) ∧ xw1.cell? ⟨w.heap.size, 5, none⟩ = some (.int .i64 0) ∧ xw1.cell? ⟨w.heap.size, 6, none⟩ = some (.int .i64 1900000) ∧ xw1.cell? ⟨w.heap.size, 7, none⟩ = some (.bool false) := by refine ⟨?_, ?_, ?_, ?_, ?_, ?_, ?_, ?_⟩ <;> (rw [(bcell hbx1).1 _ _ (by first | (simp; done) | (simp; omega) | omega)]; simp [go_sem, World.cell?_alloc_past, *])
  obtain ⟨x1o0, x1n0⟩ : w.heap.size < xw1.heap.size ∧ xw1.heap.size ≠ w.heap.size := by refine ⟨?_, ?_⟩ <;> omega
  have hBx1 : Below w.heap.size w xw1 := (by (repeat (first | (with_reducible refine Below.drew ?_) | (with_reducible refine below_drewN ?_ _) | (with_reducible refine Below.alloc ?_ (by first | omega | (simp; done) | (simp; omega) | (simp at *; omega)) _) | (with_reducible refine Below.setCell ?_ (by first | omega | (simp; done) | (simp; omega) | (simp at *; omega)) _) | (with_reducible exact Below.refl _ _) | (with_reducible assumption) | (with_reducible refine Below.trans ?_ (Below.mono (by assumption) (by first | omega | (simp; done) | (simp; omega) | (simp at *; omega)))))))
  clear hbx1 
  go_wp2
  go_ret
  exact ⟨rfl, (by (repeat (first | (with_reducible refine Below.drew ?_) | (with_reducible refine below_drewN ?_ _) | (with_reducible refine Below.alloc ?_ (by first | omega | (simp; done) | (simp; omega) | (simp at *; omega)) _) | (with_reducible refine Below.setCell ?_ (by first | omega | (simp; done) | (simp; omega) | (simp at *; omega)) _) | (with_reducible exact Below.refl _ _) | (with_reducible assumption) | (with_reducible refine Below.trans ?_ (Below.mono (by assumption) (by first | omega | (simp; done) | (simp; omega) | (simp at *; omega)))))))⟩
set_option maxHeartbeats 1000000 in
set_option maxRecDepth 100000 in
theorem broughtIn_2 (w : World) : Calls Try.prog 98 #[.agg #[.int .i64 1, .int .i64 1, .string ⟨#[98, 97, 110, 107]⟩, .string ⟨#[115, 49, 50]⟩, .int .i64 0, .int .i64 0, .int .i64 1900000, .bool false]] w fun e w' => e = .returned (.agg #[.int .i64 0, .int .i64 0, .int .i64 1900000]) ∧ Below w.heap.size w w' := by
  have wr0 : IntKind.i64.wrap (0) = 0 := by decide
  have wr1 : IntKind.i64.wrap (0) = 0 := by decide
  have wr2 : IntKind.i64.wrap (1900000) = 1900000 := by decide
  have wr3 : IntKind.i64.wrap (1900000) = 1900000 := by decide
  go_enter Try.func98, Try.ntmps98
  go_upto_region 2 with (fail)
  refine wp_region_Z (S := (fun w' => w'.cell? ⟨w.heap.size, 0, none⟩ = some (.int .i64 1) ∧ w'.cell? ⟨w.heap.size, 1, none⟩ = some (.int .i64 1) ∧ w'.cell? ⟨w.heap.size, 2, none⟩ = some (.string ⟨#[98, 97, 110, 107]⟩) ∧ w'.cell? ⟨w.heap.size, 3, none⟩ = some (.string ⟨#[115, 49, 50]⟩) ∧ w'.cell? ⟨w.heap.size, 4, none⟩ = some (.int .i64 0) ∧ w'.cell? ⟨w.heap.size, 5, none⟩ = some (.int .i64 0) ∧ w'.cell? ⟨w.heap.size, 6, none⟩ = some (.int .i64 1900000) ∧ w'.cell? ⟨w.heap.size, 7, none⟩ = some (.bool false) ∧ w'.cell? ⟨w.heap.size + 1 + 1, 0, none⟩ = some (.int .i64 0) ∧ w'.cell? ⟨w.heap.size + 1 + 1, 1, none⟩ = some (.int .i64 0) ∧ w'.cell? ⟨w.heap.size + 1 + 1, 2, none⟩ = some (.int .i64 0))) 6 (by kernel_rfl) (by kernel_rfl) (by kernel_rfl) (by simp [go_sem, World.cell?_alloc_past, *]) (fun hHeld => ?_)
  refine wpAnyZ_take (i := 0) (oi := ⟨some 19, _, _, _, _, _⟩) (v := ?_) (by kernel_rfl) (by kernel_rfl) rfl rfl (by kernel_rfl) (by kernel_rfl) (by kernel_rfl) (fun _ _ _ h => h) (Or.inl ⟨by kernel_rfl, ?_⟩) (by assumption) ?_
  rotate_left
  · (intro w hSw; (try dsimp only at hSw); go_simp; all_goals with_reducible rfl)
  try simp only [Act.put, List.setIfInBounds_toArray, List.set_cons_zero, List.set_cons_succ]
  refine wpAnyZ_take (i := 1) (oi := ⟨some 20, _, _, _, _, _⟩) (v := ?_) (by kernel_rfl) (by kernel_rfl) rfl rfl (by kernel_rfl) (by kernel_rfl) (by kernel_rfl) (fun _ _ _ h => h) (Or.inl ⟨by kernel_rfl, ?_⟩) (by assumption) ?_
  rotate_left
  · (intro w hSw; (try dsimp only at hSw); go_simp; all_goals with_reducible rfl)
  try simp only [Act.put, List.setIfInBounds_toArray, List.set_cons_zero, List.set_cons_succ]
  refine wpAnyZ_take (i := 2) (oi := ⟨some 21, _, _, _, _, _⟩) (v := ?_) (by kernel_rfl) (by kernel_rfl) rfl rfl (by kernel_rfl) (by kernel_rfl) (by kernel_rfl) (fun _ _ _ h => h) (Or.inl ⟨by kernel_rfl, ?_⟩) (by assumption) ?_
  rotate_left
  · (intro w hSw; (try dsimp only at hSw); go_simp; all_goals with_reducible rfl)
  try simp only [Act.put, List.setIfInBounds_toArray, List.set_cons_zero, List.set_cons_succ]
  refine wpAnyZ_call (q := 3) (by kernel_rfl) rfl rfl (fun K hK => ?_)
  go_simp
  refine (sumOf_ok 0 0 0 0 _ (Lib.hid (by decide)) (Lib.hid (by decide))).mono ?_
  rintro e xw1 ⟨rfl, hbx1⟩
  have zx1 := hbx1.size
  try simp at zx1
  obtain ⟨x1_0_0, x1_0_1, x1_0_2, x1_0_3, x1_0_4, x1_0_5, x1_0_6, x1_0_7, x1_1_0, x1_1_1, x1_1_2, x1_2_0, x1_2_1, x1_2_2⟩ : xw1.cell? ⟨w.heap.size, 0, none⟩ = some (.int .i64 1) ∧ xw1.cell? ⟨w.heap.size, 1, none⟩ = some (.int .i64 1) ∧ xw1.cell? ⟨w.heap.size, 2, none⟩ = some (.string ⟨#[98, 97, 110, 107]⟩) ∧ xw1.cell? ⟨w.heap.size, 3, none⟩ = some (.string ⟨#[115, 49, 50]⟩) ∧ xw1.cell? ⟨w.heap.size, 4, none⟩ = some (.int .i64 0) ∧ xw1.cell? ⟨w.heap.size, 5, none⟩ = some (.int .i64 0) ∧ xw1.cell? ⟨w.heap.size, 6, none⟩ = some (.int .i64 1900000) ∧ xw1.cell? ⟨w.heap.size, 7, none⟩ = some (.bool false) ∧ xw1.cell? ⟨w.heap.size + 1, 0, none⟩ = some (.int .i64 0) ∧ xw1.cell? ⟨w.heap.size + 1, 1, none⟩ = some (.int .i64 0) ∧ xw1.cell? ⟨w.heap.size + 1, 2, none⟩ = some (.int .i64 0) ∧ xw1.cell? ⟨w.heap.size + 1 + 1, 0, none⟩ = some (.int .i64 0) ∧ xw1.cell? ⟨w.heap.size + 1 + 1, 1, none⟩ = some (.int .i64 0) ∧ xw1.cell? ⟨w.heap.size + 1 + 1, 2, none⟩ = some (.int .i64 0) := by refine ⟨?_, ?_, ?_, ?_, ?_, ?_, ?_, ?_, ?_, ?_, ?_, ?_, ?_, ?_⟩ <;> (rw [(bcell hbx1).1 _ _ (by first | (simp; done) | (simp; omega) | omega)]; simp [go_sem, World.cell?_alloc_past, *])
  obtain ⟨x1f1, x1f2⟩ : (∀ j, xw1.frozen? ⟨w.heap.size + 1, j, none⟩ = false) ∧ (∀ j, xw1.frozen? ⟨w.heap.size + 1 + 1, j, none⟩ = false) := by refine ⟨?_, ?_⟩ <;> (intro j; rw [(bcell hbx1).2 _ _ (by first | (simp; done) | (simp; omega) | omega)]; simp [go_sem, *])
  obtain ⟨x1o0, x1n0, x1o1, x1n1, x1o2, x1n2⟩ : w.heap.size < xw1.heap.size ∧ xw1.heap.size ≠ w.heap.size ∧ w.heap.size + 1 < xw1.heap.size ∧ xw1.heap.size ≠ w.heap.size + 1 ∧ w.heap.size + 1 + 1 < xw1.heap.size ∧ xw1.heap.size ≠ w.heap.size + 1 + 1 := by refine ⟨?_, ?_, ?_, ?_, ?_, ?_⟩ <;> omega
  have hBx1 : Below w.heap.size w xw1 := (by (repeat (first | (with_reducible refine Below.drew ?_) | (with_reducible refine below_drewN ?_ _) | (with_reducible refine Below.alloc ?_ (by first | omega | (simp; done) | (simp; omega) | (simp at *; omega)) _) | (with_reducible refine Below.setCell ?_ (by first | omega | (simp; done) | (simp; omega) | (simp at *; omega)) _) | (with_reducible exact Below.refl _ _) | (with_reducible assumption) | (with_reducible refine Below.trans ?_ (Below.mono (by assumption) (by first | omega | (simp; done) | (simp; omega) | (simp at *; omega)))))))
  clear hbx1 
  go_wp2_with fail
  refine hK.out _ _ (by simp [go_sem, World.cell?_alloc_past, *]) (fun hHeld => ?_)
  clear hK K
  try simp only [Act.put, List.setIfInBounds_toArray, List.set_cons_zero, List.set_cons_succ]
  refine wpAnyZ_take (i := 4) (oi := ⟨some 23, _, _, _, _, _⟩) (v := ?_) (by kernel_rfl) (by kernel_rfl) rfl rfl (by kernel_rfl) (by kernel_rfl) (by kernel_rfl) (fun _ _ _ h => h) (Or.inl ⟨by kernel_rfl, ?_⟩) (by assumption) ?_
  rotate_left
  · (intro w hSw; (try dsimp only at hSw); go_simp; all_goals with_reducible rfl)
  try simp only [Act.put, List.setIfInBounds_toArray, List.set_cons_zero, List.set_cons_succ]
  refine wpAnyZ_take (i := 5) (oi := ⟨some 24, _, _, _, _, _⟩) (v := ?_) (by kernel_rfl) (by kernel_rfl) rfl rfl (by kernel_rfl) (by kernel_rfl) (by kernel_rfl) (fun _ _ _ h => h) (Or.inl ⟨by kernel_rfl, ?_⟩) (by assumption) ?_
  rotate_left
  · (intro w hSw; (try dsimp only at hSw); go_simp; all_goals with_reducible rfl)
  try simp only [Act.put, List.setIfInBounds_toArray, List.set_cons_zero, List.set_cons_succ]
  refine wpAnyZ_last (by kernel_rfl) rfl (fun K hK => ?_)
  go_simp
  go_wp2_with fail
  refine hK.out _ _ ?_
  clear hK K
  try simp only [Act.put, List.setIfInBounds_toArray, List.set_cons_zero, List.set_cons_succ]
  go_wp2
  refine bodyPost_ret (v := .agg #[.int .i64 0, .int .i64 0, .int .i64 1900000]) (by simp [results, Try.results98, go_sem, *]) rfl ⟨rfl, ?_⟩
  (repeat (first | (with_reducible refine Below.drew ?_) | (with_reducible refine below_drewN ?_ _) | (with_reducible refine Below.alloc ?_ (by first | omega | (simp; done) | (simp; omega) | (simp at *; omega)) _) | (with_reducible refine Below.setCell ?_ (by first | omega | (simp; done) | (simp; omega) | (simp at *; omega)) _) | (with_reducible exact Below.refl _ _) | (with_reducible assumption) | (with_reducible refine Below.trans ?_ (Below.mono (by assumption) (by first | omega | (simp; done) | (simp; omega) | (simp at *; omega))))))
set_option maxHeartbeats 4000000 in
set_option maxRecDepth 100000 in
theorem checkPossible_2 (rb vb cap : Nat) (w : World) (v0 : w.cell? ⟨vb, 0, none⟩ = some (.string ⟨#[98, 97, 110, 107]⟩)) (v1 : w.cell? ⟨vb, 1, none⟩ = some (.int .i64 50000)) (v2 : w.cell? ⟨vb, 2, none⟩ = some (.int .i64 300000)) (v3 : w.cell? ⟨vb, 3, none⟩ = some (.int .i64 2100000)) (v4 : w.cell? ⟨vb, 4, none⟩ = some (.int .i64 0)) (v5 : w.cell? ⟨vb, 5, none⟩ = some (.int .i64 7900000)) (v6 : w.cell? ⟨vb, 6, none⟩ = some (.string ⟨#[115, 49, 50]⟩)) (v7 : w.cell? ⟨vb, 7, none⟩ = some (.int .i64 12000)) (v8 : w.cell? ⟨vb, 8, none⟩ = some (.int .i64 232000)) (v9 : w.cell? ⟨vb, 9, none⟩ = some (.int .i64 0)) (v10 : w.cell? ⟨vb, 10, none⟩ = some (.int .i64 0)) (v11 : w.cell? ⟨vb, 11, none⟩ = some (.int .i64 0)) (r0 : w.cell? ⟨rb, 0, none⟩ = some (.slice (some ⟨vb, 0, none⟩) 2 cap)) (r1 : w.cell? ⟨rb, 1, none⟩ = some (.int .i64 2100000)) (r2 : w.cell? ⟨rb, 2, none⟩ = some (.int .i64 0)) (r3 : w.cell? ⟨rb, 3, none⟩ = some (.int .i64 7900000)) (r4 : w.cell? ⟨rb, 4, none⟩ = some (.int .i64 0)) (r5 : w.cell? ⟨rb, 5, none⟩ = some (.int .i64 0)) (r6 : w.cell? ⟨rb, 6, none⟩ = some (.int .i64 0)) (r7 : w.cell? ⟨rb, 7, none⟩ = some (.int .i64 1)) (lv : vb < w.heap.size) (lr : rb < w.heap.size) : Calls Try.prog 97 #[.pointer (some ⟨rb, 0, none⟩), .agg #[.int .i64 1, .int .i64 1, .string ⟨#[98, 97, 110, 107]⟩, .string ⟨#[115, 49, 50]⟩, .int .i64 0, .int .i64 0, .int .i64 1900000, .bool false], .pointer (some ⟨vb, 0, none⟩), .pointer (some ⟨vb, 6, none⟩)] w fun e w' => e = .returned (.int .i64 0) ∧ Below w.heap.size w w' := by
  have o1 : vb ≠ w.heap.size := by omega
  have o2 : rb ≠ w.heap.size := by omega
  have o3 : vb < w.heap.size + 1 := by omega
  have o4 : rb < w.heap.size + 1 := by omega
  have wr0 : IntKind.i64.wrap (1900000) = 1900000 := by decide
  have wr1 : IntKind.i64.wrap (-1900000) = -1900000 := by decide
  go_enter Try.func97, Try.ntmps97
  go_upto_region 4 with (fail)
  refine wp_region_held_drew (S := (fun w' => w'.cell? ⟨w.heap.size, 0, none⟩ = some (.int .i64 1) ∧ w'.cell? ⟨w.heap.size, 1, none⟩ = some (.int .i64 1) ∧ w'.cell? ⟨w.heap.size, 2, none⟩ = some (.string ⟨#[98, 97, 110, 107]⟩) ∧ w'.cell? ⟨w.heap.size, 3, none⟩ = some (.string ⟨#[115, 49, 50]⟩) ∧ w'.cell? ⟨w.heap.size, 4, none⟩ = some (.int .i64 0) ∧ w'.cell? ⟨w.heap.size, 5, none⟩ = some (.int .i64 0) ∧ w'.cell? ⟨w.heap.size, 6, none⟩ = some (.int .i64 1900000) ∧ w'.cell? ⟨w.heap.size, 7, none⟩ = some (.bool false) ∧ w'.cell? ⟨vb, 0, none⟩ = some (.string ⟨#[98, 97, 110, 107]⟩) ∧ w'.cell? ⟨vb, 1, none⟩ = some (.int .i64 50000) ∧ w'.cell? ⟨vb, 2, none⟩ = some (.int .i64 300000) ∧ w'.cell? ⟨vb, 3, none⟩ = some (.int .i64 2100000) ∧ w'.cell? ⟨vb, 4, none⟩ = some (.int .i64 0) ∧ w'.cell? ⟨vb, 5, none⟩ = some (.int .i64 7900000) ∧ w'.cell? ⟨vb, 6, none⟩ = some (.string ⟨#[115, 49, 50]⟩) ∧ w'.cell? ⟨vb, 7, none⟩ = some (.int .i64 12000) ∧ w'.cell? ⟨vb, 8, none⟩ = some (.int .i64 232000) ∧ w'.cell? ⟨vb, 9, none⟩ = some (.int .i64 0) ∧ w'.cell? ⟨vb, 10, none⟩ = some (.int .i64 0) ∧ w'.cell? ⟨vb, 11, none⟩ = some (.int .i64 0) ∧ w'.cell? ⟨rb, 7, none⟩ = some (.int .i64 1))) (by kernel_rfl) (by simp [go_sem, World.cell?_alloc_past, *]) (fun hHeld => ?_)
  refine tkH 0 ⟨some 25, _, _, _, _, _⟩ ?_ rfl ?_ (by assumption) ?_
  rotate_left
  · (intro w hSw; (try dsimp only at hSw); go_simp; all_goals with_reducible rfl)
  try simp only [Act.put, sA, sB, sC]
  refine tkH 1 ⟨some 26, _, _, _, _, _⟩ ?_ rfl ?_ (by assumption) ?_
  rotate_left
  · (intro w hSw; (try dsimp only at hSw); go_simp; all_goals with_reducible rfl)
  try simp only [Act.put, sA, sB, sC]
  refine tkH 2 ⟨some 27, _, _, _, _, _⟩ ?_ rfl ?_ (by assumption) ?_
  rotate_left
  · (intro w hSw; (try dsimp only at hSw); go_simp; all_goals with_reducible rfl)
  try simp only [Act.put, sA, sB, sC]
  refine tkH 3 ⟨some 28, _, _, _, _, _⟩ ?_ rfl ?_ (by assumption) ?_
  rotate_left
  · (intro w hSw; (try dsimp only at hSw); go_simp; all_goals with_reducible rfl)
  try simp only [Act.put, sA, sB, sC]
  refine tkH 4 ⟨some 29, _, _, _, _, _⟩ ?_ rfl ?_ (by assumption) ?_
  rotate_left
  · (intro w hSw; (try dsimp only at hSw); go_simp; all_goals with_reducible rfl)
  try simp only [Act.put, sA, sB, sC]
  refine tkH 5 ⟨some 30, _, _, _, _, _⟩ ?_ rfl ?_ (by assumption) ?_
  rotate_left
  · (intro w hSw; (try dsimp only at hSw); go_simp; all_goals with_reducible rfl)
  try simp only [Act.put, sA, sB, sC]
  refine tkH 6 ⟨some 31, _, _, _, _, _⟩ ?_ rfl ?_ (by assumption) ?_
  rotate_left
  · (intro w hSw; (try dsimp only at hSw); go_simp; all_goals with_reducible rfl)
  try simp only [Act.put, sA, sB, sC]
  refine tkH 7 ⟨some 24, _, _, _, _, _⟩ ?_ rfl ?_ (by assumption) ?_
  rotate_left
  · (intro w hSw; (try dsimp only at hSw); go_simp; all_goals with_reducible rfl)
  try simp only [Act.put, sA, sB, sC]
  refine wpAnyH_done (by kernel_rfl) ?_ _
  go_upto_region 6 with (fail)
  refine wp_region_held_drew (S := (fun w' => w'.cell? ⟨w.heap.size, 0, none⟩ = some (.int .i64 1) ∧ w'.cell? ⟨w.heap.size, 1, none⟩ = some (.int .i64 1) ∧ w'.cell? ⟨w.heap.size, 2, none⟩ = some (.string ⟨#[98, 97, 110, 107]⟩) ∧ w'.cell? ⟨w.heap.size, 3, none⟩ = some (.string ⟨#[115, 49, 50]⟩) ∧ w'.cell? ⟨w.heap.size, 4, none⟩ = some (.int .i64 0) ∧ w'.cell? ⟨w.heap.size, 5, none⟩ = some (.int .i64 0) ∧ w'.cell? ⟨w.heap.size, 6, none⟩ = some (.int .i64 1900000) ∧ w'.cell? ⟨w.heap.size, 7, none⟩ = some (.bool false) ∧ w'.cell? ⟨vb, 0, none⟩ = some (.string ⟨#[98, 97, 110, 107]⟩) ∧ w'.cell? ⟨vb, 1, none⟩ = some (.int .i64 50000) ∧ w'.cell? ⟨vb, 2, none⟩ = some (.int .i64 300000) ∧ w'.cell? ⟨vb, 3, none⟩ = some (.int .i64 2100000) ∧ w'.cell? ⟨vb, 4, none⟩ = some (.int .i64 0) ∧ w'.cell? ⟨vb, 5, none⟩ = some (.int .i64 7900000) ∧ w'.cell? ⟨vb, 6, none⟩ = some (.string ⟨#[115, 49, 50]⟩) ∧ w'.cell? ⟨vb, 7, none⟩ = some (.int .i64 12000) ∧ w'.cell? ⟨vb, 8, none⟩ = some (.int .i64 232000) ∧ w'.cell? ⟨vb, 9, none⟩ = some (.int .i64 0) ∧ w'.cell? ⟨vb, 10, none⟩ = some (.int .i64 0) ∧ w'.cell? ⟨vb, 11, none⟩ = some (.int .i64 0) ∧ w'.cell? ⟨rb, 7, none⟩ = some (.int .i64 1))) (by kernel_rfl) (by simp [go_sem, World.cell?_alloc_past, *]) (fun hHeld => ?_)
  refine tkH 0 ⟨some 33, _, _, _, _, _⟩ ?_ rfl ?_ (by assumption) ?_
  rotate_left
  · (intro w hSw; (try dsimp only at hSw); go_simp; all_goals with_reducible rfl)
  try simp only [Act.put, sA, sB, sC]
  refine tkH 1 ⟨some 34, _, _, _, _, _⟩ ?_ rfl ?_ (by assumption) ?_
  rotate_left
  · (intro w hSw; (try dsimp only at hSw); go_simp; all_goals with_reducible rfl)
  try simp only [Act.put, sA, sB, sC]
  refine tkH 2 ⟨some 35, _, _, _, _, _⟩ ?_ rfl ?_ (by assumption) ?_
  rotate_left
  · (intro w hSw; (try dsimp only at hSw); go_simp; all_goals with_reducible rfl)
  try simp only [Act.put, sA, sB, sC]
  refine tkH 3 ⟨some 36, _, _, _, _, _⟩ ?_ rfl ?_ (by assumption) ?_
  rotate_left
  · (intro w hSw; (try dsimp only at hSw); go_simp; all_goals with_reducible rfl)
  try simp only [Act.put, sA, sB, sC]
  refine tkH 4 ⟨some 37, _, _, _, _, _⟩ ?_ rfl ?_ (by assumption) ?_
  rotate_left
  · (intro w hSw; (try dsimp only at hSw); go_simp; all_goals with_reducible rfl)
  try simp only [Act.put, sA, sB, sC]
  refine tkH 5 ⟨some 38, _, _, _, _, _⟩ ?_ rfl ?_ (by assumption) ?_
  rotate_left
  · (intro w hSw; (try dsimp only at hSw); go_simp; all_goals with_reducible rfl)
  try simp only [Act.put, sA, sB, sC]
  refine tkH 6 ⟨some 39, _, _, _, _, _⟩ ?_ rfl ?_ (by assumption) ?_
  rotate_left
  · (intro w hSw; (try dsimp only at hSw); go_simp; all_goals with_reducible rfl)
  try simp only [Act.put, sA, sB, sC]
  refine tkH 8 ⟨some 41, _, _, _, _, _⟩ ?_ rfl ?_ (by assumption) ?_
  rotate_left
  · (intro w hSw; (try dsimp only at hSw); go_simp; all_goals with_reducible rfl)
  try simp only [Act.put, sA, sB, sC]
  refine tkH 9 ⟨some 42, _, _, _, _, _⟩ ?_ rfl ?_ (by assumption) ?_
  rotate_left
  · (intro w hSw; (try dsimp only at hSw); go_simp; all_goals with_reducible rfl)
  try simp only [Act.put, sA, sB, sC]
  refine wpAnyH_ready (rs := [7]) (by kernel_rfl) (by simp) ?_
  refine AllReadyH.cons rfl (fun K hK => ?_) AllReadyH.nil
  go_simp
  refine (sumOf_ok 2100000 0 7900000 10000000 _ (Lib.hid (by decide)) (Lib.hid (by decide))).mono ?_
  rintro e xw1 ⟨rfl, hbx1⟩
  have zx1 := hbx1.size
  try simp at zx1
  obtain ⟨x1_0_0, x1_0_1, x1_0_2, x1_0_3, x1_0_4, x1_0_5, x1_0_6, x1_0_7, x1_1_0, x1_1_1, x1_1_2, x1_1_3, x1_1_4, x1_1_5, x1_1_6, x1_1_7, x1_1_8, x1_1_9, x1_1_10, x1_1_11, x1_2_0, x1_2_1, x1_2_2, x1_2_3, x1_2_4, x1_2_5, x1_2_6, x1_2_7⟩ : xw1.cell? ⟨w.heap.size, 0, none⟩ = some (.int .i64 1) ∧ xw1.cell? ⟨w.heap.size, 1, none⟩ = some (.int .i64 1) ∧ xw1.cell? ⟨w.heap.size, 2, none⟩ = some (.string ⟨#[98, 97, 110, 107]⟩) ∧ xw1.cell? ⟨w.heap.size, 3, none⟩ = some (.string ⟨#[115, 49, 50]⟩) ∧ xw1.cell? ⟨w.heap.size, 4, none⟩ = some (.int .i64 0) ∧ xw1.cell? ⟨w.heap.size, 5, none⟩ = some (.int .i64 0) ∧ xw1.cell? ⟨w.heap.size, 6, none⟩ = some (.int .i64 1900000) ∧ xw1.cell? ⟨w.heap.size, 7, none⟩ = some (.bool false) ∧ xw1.cell? ⟨vb, 0, none⟩ = some (.string ⟨#[98, 97, 110, 107]⟩) ∧ xw1.cell? ⟨vb, 1, none⟩ = some (.int .i64 50000) ∧ xw1.cell? ⟨vb, 2, none⟩ = some (.int .i64 300000) ∧ xw1.cell? ⟨vb, 3, none⟩ = some (.int .i64 2100000) ∧ xw1.cell? ⟨vb, 4, none⟩ = some (.int .i64 0) ∧ xw1.cell? ⟨vb, 5, none⟩ = some (.int .i64 7900000) ∧ xw1.cell? ⟨vb, 6, none⟩ = some (.string ⟨#[115, 49, 50]⟩) ∧ xw1.cell? ⟨vb, 7, none⟩ = some (.int .i64 12000) ∧ xw1.cell? ⟨vb, 8, none⟩ = some (.int .i64 232000) ∧ xw1.cell? ⟨vb, 9, none⟩ = some (.int .i64 0) ∧ xw1.cell? ⟨vb, 10, none⟩ = some (.int .i64 0) ∧ xw1.cell? ⟨vb, 11, none⟩ = some (.int .i64 0) ∧ xw1.cell? ⟨rb, 0, none⟩ = some (.slice (some ⟨vb, 0, none⟩) 2 cap) ∧ xw1.cell? ⟨rb, 1, none⟩ = some (.int .i64 2100000) ∧ xw1.cell? ⟨rb, 2, none⟩ = some (.int .i64 0) ∧ xw1.cell? ⟨rb, 3, none⟩ = some (.int .i64 7900000) ∧ xw1.cell? ⟨rb, 4, none⟩ = some (.int .i64 0) ∧ xw1.cell? ⟨rb, 5, none⟩ = some (.int .i64 0) ∧ xw1.cell? ⟨rb, 6, none⟩ = some (.int .i64 0) ∧ xw1.cell? ⟨rb, 7, none⟩ = some (.int .i64 1) := by refine ⟨?_, ?_, ?_, ?_, ?_, ?_, ?_, ?_, ?_, ?_, ?_, ?_, ?_, ?_, ?_, ?_, ?_, ?_, ?_, ?_, ?_, ?_, ?_, ?_, ?_, ?_, ?_, ?_⟩ <;> (rw [(bcell hbx1).1 _ _ (by first | (simp; done) | (simp; omega) | omega)]; simp [go_sem, World.cell?_alloc_past, *])
  obtain ⟨x1o0, x1n0, x1o1, x1n1, x1o2, x1n2⟩ : w.heap.size < xw1.heap.size ∧ xw1.heap.size ≠ w.heap.size ∧ vb < xw1.heap.size ∧ xw1.heap.size ≠ vb ∧ rb < xw1.heap.size ∧ xw1.heap.size ≠ rb := by refine ⟨?_, ?_, ?_, ?_, ?_, ?_⟩ <;> omega
  have hBx1 : Below w.heap.size w xw1 := (by (repeat (first | (with_reducible refine Below.drew ?_) | (with_reducible refine below_drewN ?_ _) | (with_reducible refine Below.alloc ?_ (by first | omega | (simp; done) | (simp; omega) | (simp at *; omega)) _) | (with_reducible refine Below.setCell ?_ (by first | omega | (simp; done) | (simp; omega) | (simp at *; omega)) _) | (with_reducible exact Below.refl _ _) | (with_reducible assumption) | (with_reducible refine Below.trans ?_ (Below.mono (by assumption) (by first | omega | (simp; done) | (simp; omega) | (simp at *; omega)))))))
  clear hbx1 
  go_wp2_with fail
  refine hK.out _ _ (by simp [go_sem, World.cell?_alloc_past, *]) (fun hHeld => ?_)
  clear hK K
  try simp only [Act.put, sA, sB, sC]
  refine tkH 10 ⟨some 43, _, _, _, _, _⟩ ?_ rfl ?_ (by assumption) ?_
  rotate_left
  · (intro w hSw; (try dsimp only at hSw); go_simp; all_goals with_reducible rfl)
  try simp only [Act.put, sA, sB, sC]
  refine tkH 11 ⟨some 44, _, _, _, _, _⟩ ?_ rfl ?_ (by assumption) ?_
  rotate_left
  · (intro w hSw; (try dsimp only at hSw); go_simp; all_goals with_reducible rfl)
  try simp only [Act.put, sA, sB, sC]
  refine tkH 12 ⟨some 32, _, _, _, _, _⟩ ?_ rfl ?_ (by assumption) ?_
  rotate_left
  · (intro w hSw; (try dsimp only at hSw); go_simp; all_goals with_reducible rfl)
  try simp only [Act.put, sA, sB, sC]
  refine wpAnyH_done (by kernel_rfl) ?_ _
  go_upto_region 8 with (fail)
  refine wp_region_held_drew (S := (fun w' => w'.cell? ⟨w.heap.size, 0, none⟩ = some (.int .i64 1) ∧ w'.cell? ⟨w.heap.size, 1, none⟩ = some (.int .i64 1) ∧ w'.cell? ⟨w.heap.size, 2, none⟩ = some (.string ⟨#[98, 97, 110, 107]⟩) ∧ w'.cell? ⟨w.heap.size, 3, none⟩ = some (.string ⟨#[115, 49, 50]⟩) ∧ w'.cell? ⟨w.heap.size, 4, none⟩ = some (.int .i64 0) ∧ w'.cell? ⟨w.heap.size, 5, none⟩ = some (.int .i64 0) ∧ w'.cell? ⟨w.heap.size, 6, none⟩ = some (.int .i64 1900000) ∧ w'.cell? ⟨w.heap.size, 7, none⟩ = some (.bool false) ∧ w'.cell? ⟨vb, 0, none⟩ = some (.string ⟨#[98, 97, 110, 107]⟩) ∧ w'.cell? ⟨vb, 1, none⟩ = some (.int .i64 50000) ∧ w'.cell? ⟨vb, 2, none⟩ = some (.int .i64 300000) ∧ w'.cell? ⟨vb, 3, none⟩ = some (.int .i64 2100000) ∧ w'.cell? ⟨vb, 4, none⟩ = some (.int .i64 0) ∧ w'.cell? ⟨vb, 5, none⟩ = some (.int .i64 7900000) ∧ w'.cell? ⟨vb, 6, none⟩ = some (.string ⟨#[115, 49, 50]⟩) ∧ w'.cell? ⟨vb, 7, none⟩ = some (.int .i64 12000) ∧ w'.cell? ⟨vb, 8, none⟩ = some (.int .i64 232000) ∧ w'.cell? ⟨vb, 9, none⟩ = some (.int .i64 0) ∧ w'.cell? ⟨vb, 10, none⟩ = some (.int .i64 0) ∧ w'.cell? ⟨vb, 11, none⟩ = some (.int .i64 0) ∧ w'.cell? ⟨rb, 7, none⟩ = some (.int .i64 1))) (by kernel_rfl) (by simp [go_sem, World.cell?_alloc_past, *]) (fun hHeld => ?_)
  refine tkH 0 ⟨some 46, _, _, _, _, _⟩ ?_ rfl ?_ (by assumption) ?_
  rotate_left
  · (intro w hSw; (try dsimp only at hSw); go_simp; all_goals with_reducible rfl)
  try simp only [Act.put, sA, sB, sC]
  refine tkH 1 ⟨some 47, _, _, _, _, _⟩ ?_ rfl ?_ (by assumption) ?_
  rotate_left
  · (intro w hSw; (try dsimp only at hSw); go_simp; all_goals with_reducible rfl)
  try simp only [Act.put, sA, sB, sC]
  refine tkH 2 ⟨some 48, _, _, _, _, _⟩ ?_ rfl ?_ (by assumption) ?_
  rotate_left
  · (intro w hSw; (try dsimp only at hSw); go_simp; all_goals with_reducible rfl)
  try simp only [Act.put, sA, sB, sC]
  refine tkH 3 ⟨some 49, _, _, _, _, _⟩ ?_ rfl ?_ (by assumption) ?_
  rotate_left
  · (intro w hSw; (try dsimp only at hSw); go_simp; all_goals with_reducible rfl)
  try simp only [Act.put, sA, sB, sC]
  refine tkH 4 ⟨some 50, _, _, _, _, _⟩ ?_ rfl ?_ (by assumption) ?_
  rotate_left
  · (intro w hSw; (try dsimp only at hSw); go_simp; all_goals with_reducible rfl)
  try simp only [Act.put, sA, sB, sC]
  refine tkH 5 ⟨some 51, _, _, _, _, _⟩ ?_ rfl ?_ (by assumption) ?_
  rotate_left
  · (intro w hSw; (try dsimp only at hSw); go_simp; all_goals with_reducible rfl)
  try simp only [Act.put, sA, sB, sC]
  refine tkH 6 ⟨some 52, _, _, _, _, _⟩ ?_ rfl ?_ (by assumption) ?_
  rotate_left
  · (intro w hSw; (try dsimp only at hSw); go_simp; all_goals with_reducible rfl)
  try simp only [Act.put, sA, sB, sC]
  refine tkH 7 ⟨some 53, _, _, _, _, _⟩ ?_ rfl ?_ (by assumption) ?_
  rotate_left
  · (intro w hSw; (try dsimp only at hSw); go_simp; all_goals with_reducible rfl)
  try simp only [Act.put, sA, sB, sC]
  refine tkH 9 ⟨some 55, _, _, _, _, _⟩ ?_ rfl ?_ (by assumption) ?_
  rotate_left
  · (intro w hSw; (try dsimp only at hSw); go_simp; all_goals with_reducible rfl)
  try simp only [Act.put, sA, sB, sC]
  refine tkH 10 ⟨some 56, _, _, _, _, _⟩ ?_ rfl ?_ (by assumption) ?_
  rotate_left
  · (intro w hSw; (try dsimp only at hSw); go_simp; all_goals with_reducible rfl)
  try simp only [Act.put, sA, sB, sC]
  refine tkH 11 ⟨some 57, _, _, _, _, _⟩ ?_ rfl ?_ (by assumption) ?_
  rotate_left
  · (intro w hSw; (try dsimp only at hSw); go_simp; all_goals with_reducible rfl)
  try simp only [Act.put, sA, sB, sC]
  refine tkH 12 ⟨some 58, _, _, _, _, _⟩ ?_ rfl ?_ (by assumption) ?_
  rotate_left
  · (intro w hSw; (try dsimp only at hSw); go_simp; all_goals with_reducible rfl)
  try simp only [Act.put, sA, sB, sC]
  refine tkH 13 ⟨some 59, _, _, _, _, _⟩ ?_ rfl ?_ (by assumption) ?_
  rotate_left
  · (intro w hSw; (try dsimp only at hSw); go_simp; all_goals with_reducible rfl)
  try simp only [Act.put, sA, sB, sC]
  refine tkH 14 ⟨some 60, _, _, _, _, _⟩ ?_ rfl ?_ (by assumption) ?_
  rotate_left
  · (intro w hSw; (try dsimp only at hSw); go_simp; all_goals with_reducible rfl)
  try simp only [Act.put, sA, sB, sC]
  refine wpAnyH_ready (rs := [8]) (by kernel_rfl) (by simp) ?_
  refine AllReadyH.cons rfl (fun K hK => ?_) AllReadyH.nil
  go_simp
  refine (pressureWith_any ⟨#[115, 49, 50]⟩ 12000 232000 0 0 0 1900000 0 1900000000 _ (Lib.hid (by decide)) (Lib.hid (by decide)) (by omega) (by omega) (by omega) (by omega) (Lib.hid (by decide))).mono ?_
  rintro e xw2 ⟨rfl, hbx2⟩
  have zx2 := hbx2.size
  try simp at zx2
  obtain ⟨x2_0_0, x2_0_1, x2_0_2, x2_0_3, x2_0_4, x2_0_5, x2_0_6, x2_0_7, x2_1_0, x2_1_1, x2_1_2, x2_1_3, x2_1_4, x2_1_5, x2_1_6, x2_1_7, x2_1_8, x2_1_9, x2_1_10, x2_1_11, x2_2_0, x2_2_1, x2_2_2, x2_2_3, x2_2_4, x2_2_5, x2_2_6, x2_2_7⟩ : xw2.cell? ⟨w.heap.size, 0, none⟩ = some (.int .i64 1) ∧ xw2.cell? ⟨w.heap.size, 1, none⟩ = some (.int .i64 1) ∧ xw2.cell? ⟨w.heap.size, 2, none⟩ = some (.string ⟨#[98, 97, 110, 107]⟩) ∧ xw2.cell? ⟨w.heap.size, 3, none⟩ = some (.string ⟨#[115, 49, 50]⟩) ∧ xw2.cell? ⟨w.heap.size, 4, none⟩ = some (.int .i64 0) ∧ xw2.cell? ⟨w.heap.size, 5, none⟩ = some (.int .i64 0) ∧ xw2.cell? ⟨w.heap.size, 6, none⟩ = some (.int .i64 1900000) ∧ xw2.cell? ⟨w.heap.size, 7, none⟩ = some (.bool false) ∧ xw2.cell? ⟨vb, 0, none⟩ = some (.string ⟨#[98, 97, 110, 107]⟩) ∧ xw2.cell? ⟨vb, 1, none⟩ = some (.int .i64 50000) ∧ xw2.cell? ⟨vb, 2, none⟩ = some (.int .i64 300000) ∧ xw2.cell? ⟨vb, 3, none⟩ = some (.int .i64 2100000) ∧ xw2.cell? ⟨vb, 4, none⟩ = some (.int .i64 0) ∧ xw2.cell? ⟨vb, 5, none⟩ = some (.int .i64 7900000) ∧ xw2.cell? ⟨vb, 6, none⟩ = some (.string ⟨#[115, 49, 50]⟩) ∧ xw2.cell? ⟨vb, 7, none⟩ = some (.int .i64 12000) ∧ xw2.cell? ⟨vb, 8, none⟩ = some (.int .i64 232000) ∧ xw2.cell? ⟨vb, 9, none⟩ = some (.int .i64 0) ∧ xw2.cell? ⟨vb, 10, none⟩ = some (.int .i64 0) ∧ xw2.cell? ⟨vb, 11, none⟩ = some (.int .i64 0) ∧ xw2.cell? ⟨rb, 0, none⟩ = some (.slice (some ⟨vb, 0, none⟩) 2 cap) ∧ xw2.cell? ⟨rb, 1, none⟩ = some (.int .i64 2100000) ∧ xw2.cell? ⟨rb, 2, none⟩ = some (.int .i64 0) ∧ xw2.cell? ⟨rb, 3, none⟩ = some (.int .i64 7900000) ∧ xw2.cell? ⟨rb, 4, none⟩ = some (.int .i64 0) ∧ xw2.cell? ⟨rb, 5, none⟩ = some (.int .i64 0) ∧ xw2.cell? ⟨rb, 6, none⟩ = some (.int .i64 0) ∧ xw2.cell? ⟨rb, 7, none⟩ = some (.int .i64 1) := by refine ⟨?_, ?_, ?_, ?_, ?_, ?_, ?_, ?_, ?_, ?_, ?_, ?_, ?_, ?_, ?_, ?_, ?_, ?_, ?_, ?_, ?_, ?_, ?_, ?_, ?_, ?_, ?_, ?_⟩ <;> (rw [(bcell hbx2).1 _ _ (by first | (simp; done) | (simp; omega) | omega)]; simp [go_sem, World.cell?_alloc_past, *])
  obtain ⟨x2o0, x2n0, x2o1, x2n1, x2o2, x2n2⟩ : w.heap.size < xw2.heap.size ∧ xw2.heap.size ≠ w.heap.size ∧ vb < xw2.heap.size ∧ xw2.heap.size ≠ vb ∧ rb < xw2.heap.size ∧ xw2.heap.size ≠ rb := by refine ⟨?_, ?_, ?_, ?_, ?_, ?_⟩ <;> omega
  have hBx2 : Below w.heap.size w xw2 := (by (repeat (first | (with_reducible refine Below.drew ?_) | (with_reducible refine below_drewN ?_ _) | (with_reducible refine Below.alloc ?_ (by first | omega | (simp; done) | (simp; omega) | (simp at *; omega)) _) | (with_reducible refine Below.setCell ?_ (by first | omega | (simp; done) | (simp; omega) | (simp at *; omega)) _) | (with_reducible exact Below.refl _ _) | (with_reducible assumption) | (with_reducible refine Below.trans ?_ (Below.mono (by assumption) (by first | omega | (simp; done) | (simp; omega) | (simp at *; omega)))))))
  clear hbx2 x1_0_0 x1_0_1 x1_0_2 x1_0_3 x1_0_4 x1_0_5 x1_0_6 x1_0_7 x1_1_0 x1_1_1 x1_1_2 x1_1_3 x1_1_4 x1_1_5 x1_1_6 x1_1_7 x1_1_8 x1_1_9 x1_1_10 x1_1_11 x1_2_0 x1_2_1 x1_2_2 x1_2_3 x1_2_4 x1_2_5 x1_2_6 x1_2_7 x1o0 x1n0 x1o1 x1n1 x1o2 x1n2 hBx1
  go_wp2_with fail
  refine hK.out _ _ (by simp [go_sem, World.cell?_alloc_past, *]) (fun hHeld => ?_)
  clear hK K
  try simp only [Act.put, sA, sB, sC]
  refine wpAnyH_ready (rs := [15]) (by kernel_rfl) (by simp) ?_
  refine AllReadyH.cons rfl (fun K hK => ?_) AllReadyH.nil
  go_simp
  refine (compare_any 1900000000 12000 232000 1 (-1) _ (by omega) (by omega) (by omega) (by omega) (by omega) (by omega) (by omega) (by omega) (Lib.hid (by decide))).mono ?_
  rintro e xw3 ⟨rfl, hbx3⟩
  have zx3 := hbx3.size
  try simp at zx3
  obtain ⟨x3_0_0, x3_0_1, x3_0_2, x3_0_3, x3_0_4, x3_0_5, x3_0_6, x3_0_7, x3_1_0, x3_1_1, x3_1_2, x3_1_3, x3_1_4, x3_1_5, x3_1_6, x3_1_7, x3_1_8, x3_1_9, x3_1_10, x3_1_11, x3_2_0, x3_2_1, x3_2_2, x3_2_3, x3_2_4, x3_2_5, x3_2_6, x3_2_7⟩ : xw3.cell? ⟨w.heap.size, 0, none⟩ = some (.int .i64 1) ∧ xw3.cell? ⟨w.heap.size, 1, none⟩ = some (.int .i64 1) ∧ xw3.cell? ⟨w.heap.size, 2, none⟩ = some (.string ⟨#[98, 97, 110, 107]⟩) ∧ xw3.cell? ⟨w.heap.size, 3, none⟩ = some (.string ⟨#[115, 49, 50]⟩) ∧ xw3.cell? ⟨w.heap.size, 4, none⟩ = some (.int .i64 0) ∧ xw3.cell? ⟨w.heap.size, 5, none⟩ = some (.int .i64 0) ∧ xw3.cell? ⟨w.heap.size, 6, none⟩ = some (.int .i64 1900000) ∧ xw3.cell? ⟨w.heap.size, 7, none⟩ = some (.bool false) ∧ xw3.cell? ⟨vb, 0, none⟩ = some (.string ⟨#[98, 97, 110, 107]⟩) ∧ xw3.cell? ⟨vb, 1, none⟩ = some (.int .i64 50000) ∧ xw3.cell? ⟨vb, 2, none⟩ = some (.int .i64 300000) ∧ xw3.cell? ⟨vb, 3, none⟩ = some (.int .i64 2100000) ∧ xw3.cell? ⟨vb, 4, none⟩ = some (.int .i64 0) ∧ xw3.cell? ⟨vb, 5, none⟩ = some (.int .i64 7900000) ∧ xw3.cell? ⟨vb, 6, none⟩ = some (.string ⟨#[115, 49, 50]⟩) ∧ xw3.cell? ⟨vb, 7, none⟩ = some (.int .i64 12000) ∧ xw3.cell? ⟨vb, 8, none⟩ = some (.int .i64 232000) ∧ xw3.cell? ⟨vb, 9, none⟩ = some (.int .i64 0) ∧ xw3.cell? ⟨vb, 10, none⟩ = some (.int .i64 0) ∧ xw3.cell? ⟨vb, 11, none⟩ = some (.int .i64 0) ∧ xw3.cell? ⟨rb, 0, none⟩ = some (.slice (some ⟨vb, 0, none⟩) 2 cap) ∧ xw3.cell? ⟨rb, 1, none⟩ = some (.int .i64 2100000) ∧ xw3.cell? ⟨rb, 2, none⟩ = some (.int .i64 0) ∧ xw3.cell? ⟨rb, 3, none⟩ = some (.int .i64 7900000) ∧ xw3.cell? ⟨rb, 4, none⟩ = some (.int .i64 0) ∧ xw3.cell? ⟨rb, 5, none⟩ = some (.int .i64 0) ∧ xw3.cell? ⟨rb, 6, none⟩ = some (.int .i64 0) ∧ xw3.cell? ⟨rb, 7, none⟩ = some (.int .i64 1) := by refine ⟨?_, ?_, ?_, ?_, ?_, ?_, ?_, ?_, ?_, ?_, ?_, ?_, ?_, ?_, ?_, ?_, ?_, ?_, ?_, ?_, ?_, ?_, ?_, ?_, ?_, ?_, ?_, ?_⟩ <;> (rw [(bcell hbx3).1 _ _ (by first | (simp; done) | (simp; omega) | omega)]; simp [go_sem, World.cell?_alloc_past, *])
  obtain ⟨x3o0, x3n0, x3o1, x3n1, x3o2, x3n2⟩ : w.heap.size < xw3.heap.size ∧ xw3.heap.size ≠ w.heap.size ∧ vb < xw3.heap.size ∧ xw3.heap.size ≠ vb ∧ rb < xw3.heap.size ∧ xw3.heap.size ≠ rb := by refine ⟨?_, ?_, ?_, ?_, ?_, ?_⟩ <;> omega
  have hBx3 : Below w.heap.size w xw3 := (by (repeat (first | (with_reducible refine Below.drew ?_) | (with_reducible refine below_drewN ?_ _) | (with_reducible refine Below.alloc ?_ (by first | omega | (simp; done) | (simp; omega) | (simp at *; omega)) _) | (with_reducible refine Below.setCell ?_ (by first | omega | (simp; done) | (simp; omega) | (simp at *; omega)) _) | (with_reducible exact Below.refl _ _) | (with_reducible assumption) | (with_reducible refine Below.trans ?_ (Below.mono (by assumption) (by first | omega | (simp; done) | (simp; omega) | (simp at *; omega)))))))
  clear hbx3 x2_0_0 x2_0_1 x2_0_2 x2_0_3 x2_0_4 x2_0_5 x2_0_6 x2_0_7 x2_1_0 x2_1_1 x2_1_2 x2_1_3 x2_1_4 x2_1_5 x2_1_6 x2_1_7 x2_1_8 x2_1_9 x2_1_10 x2_1_11 x2_2_0 x2_2_1 x2_2_2 x2_2_3 x2_2_4 x2_2_5 x2_2_6 x2_2_7 x2o0 x2n0 x2o1 x2n1 x2o2 x2n2 hBx2
  go_wp2_with fail
  refine hK.out _ _ (by simp [go_sem, World.cell?_alloc_past, *]) (fun hHeld => ?_)
  clear hK K
  try simp only [Act.put, sA, sB, sC]
  refine tkH 16 ⟨some 62, _, _, _, _, _⟩ ?_ rfl ?_ (by assumption) ?_
  rotate_left
  · (intro w hSw; (try dsimp only at hSw); go_simp; all_goals with_reducible rfl)
  try simp only [Act.put, sA, sB, sC]
  refine tkH 17 ⟨some 63, _, _, _, _, _⟩ ?_ rfl ?_ (by assumption) ?_
  rotate_left
  · (intro w hSw; (try dsimp only at hSw); go_simp; all_goals with_reducible rfl)
  try simp only [Act.put, sA, sB, sC]
  refine tkH 18 ⟨some 45, _, _, _, _, _⟩ ?_ rfl ?_ (by assumption) ?_
  rotate_left
  · (intro w hSw; (try dsimp only at hSw); go_simp; all_goals with_reducible rfl)
  try simp only [Act.put, sA, sB, sC]
  refine wpAnyH_done (by kernel_rfl) ?_ _
  go_upto_region 10 with (fail)
  refine wp_region_held_drew (S := (fun w' => w'.cell? ⟨w.heap.size, 0, none⟩ = some (.int .i64 1) ∧ w'.cell? ⟨w.heap.size, 1, none⟩ = some (.int .i64 1) ∧ w'.cell? ⟨w.heap.size, 2, none⟩ = some (.string ⟨#[98, 97, 110, 107]⟩) ∧ w'.cell? ⟨w.heap.size, 3, none⟩ = some (.string ⟨#[115, 49, 50]⟩) ∧ w'.cell? ⟨w.heap.size, 4, none⟩ = some (.int .i64 0) ∧ w'.cell? ⟨w.heap.size, 5, none⟩ = some (.int .i64 0) ∧ w'.cell? ⟨w.heap.size, 6, none⟩ = some (.int .i64 1900000) ∧ w'.cell? ⟨w.heap.size, 7, none⟩ = some (.bool false) ∧ w'.cell? ⟨vb, 0, none⟩ = some (.string ⟨#[98, 97, 110, 107]⟩) ∧ w'.cell? ⟨vb, 1, none⟩ = some (.int .i64 50000) ∧ w'.cell? ⟨vb, 2, none⟩ = some (.int .i64 300000) ∧ w'.cell? ⟨vb, 3, none⟩ = some (.int .i64 2100000) ∧ w'.cell? ⟨vb, 4, none⟩ = some (.int .i64 0) ∧ w'.cell? ⟨vb, 5, none⟩ = some (.int .i64 7900000) ∧ w'.cell? ⟨vb, 6, none⟩ = some (.string ⟨#[115, 49, 50]⟩) ∧ w'.cell? ⟨vb, 7, none⟩ = some (.int .i64 12000) ∧ w'.cell? ⟨vb, 8, none⟩ = some (.int .i64 232000) ∧ w'.cell? ⟨vb, 9, none⟩ = some (.int .i64 0) ∧ w'.cell? ⟨vb, 10, none⟩ = some (.int .i64 0) ∧ w'.cell? ⟨vb, 11, none⟩ = some (.int .i64 0) ∧ w'.cell? ⟨rb, 7, none⟩ = some (.int .i64 1))) (by kernel_rfl) (by simp [go_sem, World.cell?_alloc_past, *]) (fun hHeld => ?_)
  refine tkH 0 ⟨some 65, _, _, _, _, _⟩ ?_ rfl ?_ (by assumption) ?_
  rotate_left
  · (intro w hSw; (try dsimp only at hSw); go_simp; all_goals with_reducible rfl)
  try simp only [Act.put, sA, sB, sC]
  refine tkH 1 ⟨some 66, _, _, _, _, _⟩ ?_ rfl ?_ (by assumption) ?_
  rotate_left
  · (intro w hSw; (try dsimp only at hSw); go_simp; all_goals with_reducible rfl)
  try simp only [Act.put, sA, sB, sC]
  refine tkH 2 ⟨some 67, _, _, _, _, _⟩ ?_ rfl ?_ (by assumption) ?_
  rotate_left
  · (intro w hSw; (try dsimp only at hSw); go_simp; all_goals with_reducible rfl)
  try simp only [Act.put, sA, sB, sC]
  refine tkH 3 ⟨some 68, _, _, _, _, _⟩ ?_ rfl ?_ (by assumption) ?_
  rotate_left
  · (intro w hSw; (try dsimp only at hSw); go_simp; all_goals with_reducible rfl)
  try simp only [Act.put, sA, sB, sC]
  refine tkH 4 ⟨some 69, _, _, _, _, _⟩ ?_ rfl ?_ (by assumption) ?_
  rotate_left
  · (intro w hSw; (try dsimp only at hSw); go_simp; all_goals with_reducible rfl)
  try simp only [Act.put, sA, sB, sC]
  refine tkH 5 ⟨some 70, _, _, _, _, _⟩ ?_ rfl ?_ (by assumption) ?_
  rotate_left
  · (intro w hSw; (try dsimp only at hSw); go_simp; all_goals with_reducible rfl)
  try simp only [Act.put, sA, sB, sC]
  refine tkH 6 ⟨some 71, _, _, _, _, _⟩ ?_ rfl ?_ (by assumption) ?_
  rotate_left
  · (intro w hSw; (try dsimp only at hSw); go_simp; all_goals with_reducible rfl)
  try simp only [Act.put, sA, sB, sC]
  refine tkH 7 ⟨some 72, _, _, _, _, _⟩ ?_ rfl ?_ (by assumption) ?_
  rotate_left
  · (intro w hSw; (try dsimp only at hSw); go_simp; all_goals with_reducible rfl)
  try simp only [Act.put, sA, sB, sC]
  refine tkH 8 ⟨some 73, _, _, _, _, _⟩ ?_ rfl ?_ (by assumption) ?_
  rotate_left
  · (intro w hSw; (try dsimp only at hSw); go_simp; all_goals with_reducible rfl)
  try simp only [Act.put, sA, sB, sC]
  refine tkH 9 ⟨some 74, _, _, _, _, _⟩ ?_ rfl ?_ (by assumption) ?_
  rotate_left
  · (intro w hSw; (try dsimp only at hSw); go_simp; all_goals with_reducible rfl)
  try simp only [Act.put, sA, sB, sC]
  refine tkH 10 ⟨some 75, _, _, _, _, _⟩ ?_ rfl ?_ (by assumption) ?_
  rotate_left
  · (intro w hSw; (try dsimp only at hSw); go_simp; all_goals with_reducible rfl)
  try simp only [Act.put, sA, sB, sC]
  refine tkH 11 ⟨some 76, _, _, _, _, _⟩ ?_ rfl ?_ (by assumption) ?_
  rotate_left
  · (intro w hSw; (try dsimp only at hSw); go_simp; all_goals with_reducible rfl)
  try simp only [Act.put, sA, sB, sC]
  refine tkH 12 ⟨some 77, _, _, _, _, _⟩ ?_ rfl ?_ (by assumption) ?_
  rotate_left
  · (intro w hSw; (try dsimp only at hSw); go_simp; all_goals with_reducible rfl)
  try simp only [Act.put, sA, sB, sC]
  refine tkH 13 ⟨some 78, _, _, _, _, _⟩ ?_ rfl ?_ (by assumption) ?_
  rotate_left
  · (intro w hSw; (try dsimp only at hSw); go_simp; all_goals with_reducible rfl)
  try simp only [Act.put, sA, sB, sC]
  refine tkH 14 ⟨some 79, _, _, _, _, _⟩ ?_ rfl ?_ (by assumption) ?_
  rotate_left
  · (intro w hSw; (try dsimp only at hSw); go_simp; all_goals with_reducible rfl)
  try simp only [Act.put, sA, sB, sC]
  refine tkH 16 ⟨some 81, _, _, _, _, _⟩ ?_ rfl ?_ (by assumption) ?_
  rotate_left
  · (intro w hSw; (try dsimp only at hSw); go_simp; all_goals with_reducible rfl)
  try simp only [Act.put, sA, sB, sC]
  refine tkH 17 ⟨some 82, _, _, _, _, _⟩ ?_ rfl ?_ (by assumption) ?_
  rotate_left
  · (intro w hSw; (try dsimp only at hSw); go_simp; all_goals with_reducible rfl)
  try simp only [Act.put, sA, sB, sC]
  refine tkH 18 ⟨some 83, _, _, _, _, _⟩ ?_ rfl ?_ (by assumption) ?_
  rotate_left
  · (intro w hSw; (try dsimp only at hSw); go_simp; all_goals with_reducible rfl)
  try simp only [Act.put, sA, sB, sC]
  refine tkH 19 ⟨some 84, _, _, _, _, _⟩ ?_ rfl ?_ (by assumption) ?_
  rotate_left
  · (intro w hSw; (try dsimp only at hSw); go_simp; all_goals with_reducible rfl)
  try simp only [Act.put, sA, sB, sC]
  refine tkH 20 ⟨some 85, _, _, _, _, _⟩ ?_ rfl ?_ (by assumption) ?_
  rotate_left
  · (intro w hSw; (try dsimp only at hSw); go_simp; all_goals with_reducible rfl)
  try simp only [Act.put, sA, sB, sC]
  refine wpAnyH_ready (rs := [15]) (by kernel_rfl) (by simp) ?_
  refine AllReadyH.cons rfl (fun K hK => ?_) AllReadyH.nil
  go_simp
  refine (pressureWith_any ⟨#[98, 97, 110, 107]⟩ 50000 300000 2100000 0 7900000 (-1900000) 10000000 8100000000 _ (Lib.hid (by decide)) (Lib.hid (by decide)) (by omega) (by omega) (by omega) (by omega) (Lib.hid (by decide))).mono ?_
  rintro e xw4 ⟨rfl, hbx4⟩
  have zx4 := hbx4.size
  try simp at zx4
  obtain ⟨x4_0_0, x4_0_1, x4_0_2, x4_0_3, x4_0_4, x4_0_5, x4_0_6, x4_0_7, x4_1_0, x4_1_1, x4_1_2, x4_1_3, x4_1_4, x4_1_5, x4_1_6, x4_1_7, x4_1_8, x4_1_9, x4_1_10, x4_1_11, x4_2_0, x4_2_1, x4_2_2, x4_2_3, x4_2_4, x4_2_5, x4_2_6, x4_2_7⟩ : xw4.cell? ⟨w.heap.size, 0, none⟩ = some (.int .i64 1) ∧ xw4.cell? ⟨w.heap.size, 1, none⟩ = some (.int .i64 1) ∧ xw4.cell? ⟨w.heap.size, 2, none⟩ = some (.string ⟨#[98, 97, 110, 107]⟩) ∧ xw4.cell? ⟨w.heap.size, 3, none⟩ = some (.string ⟨#[115, 49, 50]⟩) ∧ xw4.cell? ⟨w.heap.size, 4, none⟩ = some (.int .i64 0) ∧ xw4.cell? ⟨w.heap.size, 5, none⟩ = some (.int .i64 0) ∧ xw4.cell? ⟨w.heap.size, 6, none⟩ = some (.int .i64 1900000) ∧ xw4.cell? ⟨w.heap.size, 7, none⟩ = some (.bool false) ∧ xw4.cell? ⟨vb, 0, none⟩ = some (.string ⟨#[98, 97, 110, 107]⟩) ∧ xw4.cell? ⟨vb, 1, none⟩ = some (.int .i64 50000) ∧ xw4.cell? ⟨vb, 2, none⟩ = some (.int .i64 300000) ∧ xw4.cell? ⟨vb, 3, none⟩ = some (.int .i64 2100000) ∧ xw4.cell? ⟨vb, 4, none⟩ = some (.int .i64 0) ∧ xw4.cell? ⟨vb, 5, none⟩ = some (.int .i64 7900000) ∧ xw4.cell? ⟨vb, 6, none⟩ = some (.string ⟨#[115, 49, 50]⟩) ∧ xw4.cell? ⟨vb, 7, none⟩ = some (.int .i64 12000) ∧ xw4.cell? ⟨vb, 8, none⟩ = some (.int .i64 232000) ∧ xw4.cell? ⟨vb, 9, none⟩ = some (.int .i64 0) ∧ xw4.cell? ⟨vb, 10, none⟩ = some (.int .i64 0) ∧ xw4.cell? ⟨vb, 11, none⟩ = some (.int .i64 0) ∧ xw4.cell? ⟨rb, 0, none⟩ = some (.slice (some ⟨vb, 0, none⟩) 2 cap) ∧ xw4.cell? ⟨rb, 1, none⟩ = some (.int .i64 2100000) ∧ xw4.cell? ⟨rb, 2, none⟩ = some (.int .i64 0) ∧ xw4.cell? ⟨rb, 3, none⟩ = some (.int .i64 7900000) ∧ xw4.cell? ⟨rb, 4, none⟩ = some (.int .i64 0) ∧ xw4.cell? ⟨rb, 5, none⟩ = some (.int .i64 0) ∧ xw4.cell? ⟨rb, 6, none⟩ = some (.int .i64 0) ∧ xw4.cell? ⟨rb, 7, none⟩ = some (.int .i64 1) := by refine ⟨?_, ?_, ?_, ?_, ?_, ?_, ?_, ?_, ?_, ?_, ?_, ?_, ?_, ?_, ?_, ?_, ?_, ?_, ?_, ?_, ?_, ?_, ?_, ?_, ?_, ?_, ?_, ?_⟩ <;> (rw [(bcell hbx4).1 _ _ (by first | (simp; done) | (simp; omega) | omega)]; simp [go_sem, World.cell?_alloc_past, *])
  obtain ⟨x4o0, x4n0, x4o1, x4n1, x4o2, x4n2⟩ : w.heap.size < xw4.heap.size ∧ xw4.heap.size ≠ w.heap.size ∧ vb < xw4.heap.size ∧ xw4.heap.size ≠ vb ∧ rb < xw4.heap.size ∧ xw4.heap.size ≠ rb := by refine ⟨?_, ?_, ?_, ?_, ?_, ?_⟩ <;> omega
  have hBx4 : Below w.heap.size w xw4 := (by (repeat (first | (with_reducible refine Below.drew ?_) | (with_reducible refine below_drewN ?_ _) | (with_reducible refine Below.alloc ?_ (by first | omega | (simp; done) | (simp; omega) | (simp at *; omega)) _) | (with_reducible refine Below.setCell ?_ (by first | omega | (simp; done) | (simp; omega) | (simp at *; omega)) _) | (with_reducible exact Below.refl _ _) | (with_reducible assumption) | (with_reducible refine Below.trans ?_ (Below.mono (by assumption) (by first | omega | (simp; done) | (simp; omega) | (simp at *; omega)))))))
  clear hbx4 x3_0_0 x3_0_1 x3_0_2 x3_0_3 x3_0_4 x3_0_5 x3_0_6 x3_0_7 x3_1_0 x3_1_1 x3_1_2 x3_1_3 x3_1_4 x3_1_5 x3_1_6 x3_1_7 x3_1_8 x3_1_9 x3_1_10 x3_1_11 x3_2_0 x3_2_1 x3_2_2 x3_2_3 x3_2_4 x3_2_5 x3_2_6 x3_2_7 x3o0 x3n0 x3o1 x3n1 x3o2 x3n2 hBx3
  go_wp2_with fail
  refine hK.out _ _ (by simp [go_sem, World.cell?_alloc_past, *]) (fun hHeld => ?_)
  clear hK K
  try simp only [Act.put, sA, sB, sC]
  refine wpAnyH_ready (rs := [21]) (by kernel_rfl) (by simp) ?_
  refine AllReadyH.cons rfl (fun K hK => ?_) AllReadyH.nil
  go_simp
  refine (pressureWith_any ⟨#[115, 49, 50]⟩ 12000 232000 0 0 0 1900000 0 1900000000 _ (Lib.hid (by decide)) (Lib.hid (by decide)) (by omega) (by omega) (by omega) (by omega) (Lib.hid (by decide))).mono ?_
  rintro e xw5 ⟨rfl, hbx5⟩
  have zx5 := hbx5.size
  try simp at zx5
  obtain ⟨x5_0_0, x5_0_1, x5_0_2, x5_0_3, x5_0_4, x5_0_5, x5_0_6, x5_0_7, x5_1_0, x5_1_1, x5_1_2, x5_1_3, x5_1_4, x5_1_5, x5_1_6, x5_1_7, x5_1_8, x5_1_9, x5_1_10, x5_1_11, x5_2_0, x5_2_1, x5_2_2, x5_2_3, x5_2_4, x5_2_5, x5_2_6, x5_2_7⟩ : xw5.cell? ⟨w.heap.size, 0, none⟩ = some (.int .i64 1) ∧ xw5.cell? ⟨w.heap.size, 1, none⟩ = some (.int .i64 1) ∧ xw5.cell? ⟨w.heap.size, 2, none⟩ = some (.string ⟨#[98, 97, 110, 107]⟩) ∧ xw5.cell? ⟨w.heap.size, 3, none⟩ = some (.string ⟨#[115, 49, 50]⟩) ∧ xw5.cell? ⟨w.heap.size, 4, none⟩ = some (.int .i64 0) ∧ xw5.cell? ⟨w.heap.size, 5, none⟩ = some (.int .i64 0) ∧ xw5.cell? ⟨w.heap.size, 6, none⟩ = some (.int .i64 1900000) ∧ xw5.cell? ⟨w.heap.size, 7, none⟩ = some (.bool false) ∧ xw5.cell? ⟨vb, 0, none⟩ = some (.string ⟨#[98, 97, 110, 107]⟩) ∧ xw5.cell? ⟨vb, 1, none⟩ = some (.int .i64 50000) ∧ xw5.cell? ⟨vb, 2, none⟩ = some (.int .i64 300000) ∧ xw5.cell? ⟨vb, 3, none⟩ = some (.int .i64 2100000) ∧ xw5.cell? ⟨vb, 4, none⟩ = some (.int .i64 0) ∧ xw5.cell? ⟨vb, 5, none⟩ = some (.int .i64 7900000) ∧ xw5.cell? ⟨vb, 6, none⟩ = some (.string ⟨#[115, 49, 50]⟩) ∧ xw5.cell? ⟨vb, 7, none⟩ = some (.int .i64 12000) ∧ xw5.cell? ⟨vb, 8, none⟩ = some (.int .i64 232000) ∧ xw5.cell? ⟨vb, 9, none⟩ = some (.int .i64 0) ∧ xw5.cell? ⟨vb, 10, none⟩ = some (.int .i64 0) ∧ xw5.cell? ⟨vb, 11, none⟩ = some (.int .i64 0) ∧ xw5.cell? ⟨rb, 0, none⟩ = some (.slice (some ⟨vb, 0, none⟩) 2 cap) ∧ xw5.cell? ⟨rb, 1, none⟩ = some (.int .i64 2100000) ∧ xw5.cell? ⟨rb, 2, none⟩ = some (.int .i64 0) ∧ xw5.cell? ⟨rb, 3, none⟩ = some (.int .i64 7900000) ∧ xw5.cell? ⟨rb, 4, none⟩ = some (.int .i64 0) ∧ xw5.cell? ⟨rb, 5, none⟩ = some (.int .i64 0) ∧ xw5.cell? ⟨rb, 6, none⟩ = some (.int .i64 0) ∧ xw5.cell? ⟨rb, 7, none⟩ = some (.int .i64 1) := by refine ⟨?_, ?_, ?_, ?_, ?_, ?_, ?_, ?_, ?_, ?_, ?_, ?_, ?_, ?_, ?_, ?_, ?_, ?_, ?_, ?_, ?_, ?_, ?_, ?_, ?_, ?_, ?_, ?_⟩ <;> (rw [(bcell hbx5).1 _ _ (by first | (simp; done) | (simp; omega) | omega)]; simp [go_sem, World.cell?_alloc_past, *])
  obtain ⟨x5o0, x5n0, x5o1, x5n1, x5o2, x5n2⟩ : w.heap.size < xw5.heap.size ∧ xw5.heap.size ≠ w.heap.size ∧ vb < xw5.heap.size ∧ xw5.heap.size ≠ vb ∧ rb < xw5.heap.size ∧ xw5.heap.size ≠ rb := by refine ⟨?_, ?_, ?_, ?_, ?_, ?_⟩ <;> omega
  have hBx5 : Below w.heap.size w xw5 := (by (repeat (first | (with_reducible refine Below.drew ?_) | (with_reducible refine below_drewN ?_ _) | (with_reducible refine Below.alloc ?_ (by first | omega | (simp; done) | (simp; omega) | (simp at *; omega)) _) | (with_reducible refine Below.setCell ?_ (by first | omega | (simp; done) | (simp; omega) | (simp at *; omega)) _) | (with_reducible exact Below.refl _ _) | (with_reducible assumption) | (with_reducible refine Below.trans ?_ (Below.mono (by assumption) (by first | omega | (simp; done) | (simp; omega) | (simp at *; omega)))))))
  clear hbx5 x4_0_0 x4_0_1 x4_0_2 x4_0_3 x4_0_4 x4_0_5 x4_0_6 x4_0_7 x4_1_0 x4_1_1 x4_1_2 x4_1_3 x4_1_4 x4_1_5 x4_1_6 x4_1_7 x4_1_8 x4_1_9 x4_1_10 x4_1_11 x4_2_0 x4_2_1 x4_2_2 x4_2_3 x4_2_4 x4_2_5 x4_2_6 x4_2_7 x4o0 x4n0 x4o1 x4n1 x4o2 x4n2 hBx4
  go_wp2_with fail
  refine hK.out _ _ (by simp [go_sem, World.cell?_alloc_past, *]) (fun hHeld => ?_)
  clear hK K
  try simp only [Act.put, sA, sB, sC]
  refine wpAnyH_ready (rs := [22]) (by kernel_rfl) (by simp) ?_
  refine AllReadyH.cons rfl (fun K hK => ?_) AllReadyH.nil
  go_simp
  refine (compare_any 8100000000 50000 1900000000 12000 1 _ (by omega) (by omega) (by omega) (by omega) (by omega) (by omega) (by omega) (by omega) (Lib.hid (by decide))).mono ?_
  rintro e xw6 ⟨rfl, hbx6⟩
  have zx6 := hbx6.size
  try simp at zx6
  obtain ⟨x6_0_0, x6_0_1, x6_0_2, x6_0_3, x6_0_4, x6_0_5, x6_0_6, x6_0_7, x6_1_0, x6_1_1, x6_1_2, x6_1_3, x6_1_4, x6_1_5, x6_1_6, x6_1_7, x6_1_8, x6_1_9, x6_1_10, x6_1_11, x6_2_0, x6_2_1, x6_2_2, x6_2_3, x6_2_4, x6_2_5, x6_2_6, x6_2_7⟩ : xw6.cell? ⟨w.heap.size, 0, none⟩ = some (.int .i64 1) ∧ xw6.cell? ⟨w.heap.size, 1, none⟩ = some (.int .i64 1) ∧ xw6.cell? ⟨w.heap.size, 2, none⟩ = some (.string ⟨#[98, 97, 110, 107]⟩) ∧ xw6.cell? ⟨w.heap.size, 3, none⟩ = some (.string ⟨#[115, 49, 50]⟩) ∧ xw6.cell? ⟨w.heap.size, 4, none⟩ = some (.int .i64 0) ∧ xw6.cell? ⟨w.heap.size, 5, none⟩ = some (.int .i64 0) ∧ xw6.cell? ⟨w.heap.size, 6, none⟩ = some (.int .i64 1900000) ∧ xw6.cell? ⟨w.heap.size, 7, none⟩ = some (.bool false) ∧ xw6.cell? ⟨vb, 0, none⟩ = some (.string ⟨#[98, 97, 110, 107]⟩) ∧ xw6.cell? ⟨vb, 1, none⟩ = some (.int .i64 50000) ∧ xw6.cell? ⟨vb, 2, none⟩ = some (.int .i64 300000) ∧ xw6.cell? ⟨vb, 3, none⟩ = some (.int .i64 2100000) ∧ xw6.cell? ⟨vb, 4, none⟩ = some (.int .i64 0) ∧ xw6.cell? ⟨vb, 5, none⟩ = some (.int .i64 7900000) ∧ xw6.cell? ⟨vb, 6, none⟩ = some (.string ⟨#[115, 49, 50]⟩) ∧ xw6.cell? ⟨vb, 7, none⟩ = some (.int .i64 12000) ∧ xw6.cell? ⟨vb, 8, none⟩ = some (.int .i64 232000) ∧ xw6.cell? ⟨vb, 9, none⟩ = some (.int .i64 0) ∧ xw6.cell? ⟨vb, 10, none⟩ = some (.int .i64 0) ∧ xw6.cell? ⟨vb, 11, none⟩ = some (.int .i64 0) ∧ xw6.cell? ⟨rb, 0, none⟩ = some (.slice (some ⟨vb, 0, none⟩) 2 cap) ∧ xw6.cell? ⟨rb, 1, none⟩ = some (.int .i64 2100000) ∧ xw6.cell? ⟨rb, 2, none⟩ = some (.int .i64 0) ∧ xw6.cell? ⟨rb, 3, none⟩ = some (.int .i64 7900000) ∧ xw6.cell? ⟨rb, 4, none⟩ = some (.int .i64 0) ∧ xw6.cell? ⟨rb, 5, none⟩ = some (.int .i64 0) ∧ xw6.cell? ⟨rb, 6, none⟩ = some (.int .i64 0) ∧ xw6.cell? ⟨rb, 7, none⟩ = some (.int .i64 1) := by refine ⟨?_, ?_, ?_, ?_, ?_, ?_, ?_, ?_, ?_, ?_, ?_, ?_, ?_, ?_, ?_, ?_, ?_, ?_, ?_, ?_, ?_, ?_, ?_, ?_, ?_, ?_, ?_, ?_⟩ <;> (rw [(bcell hbx6).1 _ _ (by first | (simp; done) | (simp; omega) | omega)]; simp [go_sem, World.cell?_alloc_past, *])
  obtain ⟨x6o0, x6n0, x6o1, x6n1, x6o2, x6n2⟩ : w.heap.size < xw6.heap.size ∧ xw6.heap.size ≠ w.heap.size ∧ vb < xw6.heap.size ∧ xw6.heap.size ≠ vb ∧ rb < xw6.heap.size ∧ xw6.heap.size ≠ rb := by refine ⟨?_, ?_, ?_, ?_, ?_, ?_⟩ <;> omega
  have hBx6 : Below w.heap.size w xw6 := (by (repeat (first | (with_reducible refine Below.drew ?_) | (with_reducible refine below_drewN ?_ _) | (with_reducible refine Below.alloc ?_ (by first | omega | (simp; done) | (simp; omega) | (simp at *; omega)) _) | (with_reducible refine Below.setCell ?_ (by first | omega | (simp; done) | (simp; omega) | (simp at *; omega)) _) | (with_reducible exact Below.refl _ _) | (with_reducible assumption) | (with_reducible refine Below.trans ?_ (Below.mono (by assumption) (by first | omega | (simp; done) | (simp; omega) | (simp at *; omega)))))))
  clear hbx6 x5_0_0 x5_0_1 x5_0_2 x5_0_3 x5_0_4 x5_0_5 x5_0_6 x5_0_7 x5_1_0 x5_1_1 x5_1_2 x5_1_3 x5_1_4 x5_1_5 x5_1_6 x5_1_7 x5_1_8 x5_1_9 x5_1_10 x5_1_11 x5_2_0 x5_2_1 x5_2_2 x5_2_3 x5_2_4 x5_2_5 x5_2_6 x5_2_7 x5o0 x5n0 x5o1 x5n1 x5o2 x5n2 hBx5
  go_wp2_with fail
  refine hK.out _ _ (by simp [go_sem, World.cell?_alloc_past, *]) (fun hHeld => ?_)
  clear hK K
  try simp only [Act.put, sA, sB, sC]
  refine tkH 23 ⟨some 88, _, _, _, _, _⟩ ?_ rfl ?_ (by assumption) ?_
  rotate_left
  · (intro w hSw; (try dsimp only at hSw); go_simp; all_goals with_reducible rfl)
  try simp only [Act.put, sA, sB, sC]
  refine tkH 24 ⟨some 89, _, _, _, _, _⟩ ?_ rfl ?_ (by assumption) ?_
  rotate_left
  · (intro w hSw; (try dsimp only at hSw); go_simp; all_goals with_reducible rfl)
  try simp only [Act.put, sA, sB, sC]
  refine tkH 25 ⟨some 64, _, _, _, _, _⟩ ?_ rfl ?_ (by assumption) ?_
  rotate_left
  · (intro w hSw; (try dsimp only at hSw); go_simp; all_goals with_reducible rfl)
  try simp only [Act.put, sA, sB, sC]
  refine wpAnyH_done (by kernel_rfl) ?_ _
  go_wp2
  go_ret
  exact ⟨rfl, (by (repeat (first | (with_reducible refine Below.drew ?_) | (with_reducible refine below_drewN ?_ _) | (with_reducible refine Below.alloc ?_ (by first | omega | (simp; done) | (simp; omega) | (simp at *; omega)) _) | (with_reducible refine Below.setCell ?_ (by first | omega | (simp; done) | (simp; omega) | (simp at *; omega)) _) | (with_reducible exact Below.refl _ _) | (with_reducible assumption) | (with_reducible refine Below.trans ?_ (Below.mono (by assumption) (by first | omega | (simp; done) | (simp; omega) | (simp at *; omega)))))))⟩
end Go.Proofs.Ytjkhjjmmkdfjmaa
