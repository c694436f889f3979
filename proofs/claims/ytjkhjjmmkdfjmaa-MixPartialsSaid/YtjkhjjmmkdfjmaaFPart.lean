/- What must be added: mix.PartialFill. -/
import Derived.Test.YtjkhjjmmkdfjmaaFMatch
import Derived.Test.YtjkhjjmmkdfjmaaFRatio
import Derived.Deep.CutBlock
import Derived.Outline
namespace Go.Proofs.Ytjkhjjmmkdfjmaa
open Go.ChangeShapes Go.WideShapes Go.ChangeAt Go.RowKit
set_option linter.unusedVariables false
set_option linter.unusedSimpArgs false
attribute [local go_sem ↓] Go.wp_at_zero Go.wp_at_succ
theorem cF4x (x y z u r : Int) (b : Nat) (w : World) (hr : Hid (firE [x, y, z, u] = r)) (h0 : w.cell? ⟨b, 0, none⟩ = some (.int .i64 x)) (h1 : w.cell? ⟨b, 1, none⟩ = some (.int .i64 y)) (h2 : w.cell? ⟨b, 2, none⟩ = some (.int .i64 z)) (h3 : w.cell? ⟨b, 3, none⟩ = some (.int .i64 u)) :
    Calls Try.prog 62 #[.slice (some ⟨b, 0, none⟩) 4 4] w fun e w' => e = .returned (.int .i64 r) ∧ w = w' := by
  rw [← hr.out]; exact cFirst4c x y z u b w h0 h1 h2 h3
set_option maxHeartbeats 16000000 in
set_option maxRecDepth 100000 in
theorem PF_b1 (a b c o h p q T : Int) (w : World) (hE : Hid (conE a b c = 2)) : Calls Try.prog 39 #[.agg #[.int .i64 a, .int .i64 b, .int .i64 c], .agg #[.int .i64 o, .int .i64 h, .int .i64 p, .int .i64 q, .int .i64 T]] w fun e w' => e = .returned (.tuple #[.agg #[.int .i64 0, .int .i64 0, .int .i64 0, .int .i64 0, .int .i64 0, .int .i64 0], .int .i64 2]) ∧ Below w.heap.size w w' := by
  go_enter Try.func39, Try.ntmps39
  go_upto_region 1 with (fail)
  refine wp_region_held_drew (S := (fun w' => w'.cell? ⟨w.heap.size, 0, none⟩ = some (.int .i64 a) ∧ w'.cell? ⟨w.heap.size, 1, none⟩ = some (.int .i64 b) ∧ w'.cell? ⟨w.heap.size, 2, none⟩ = some (.int .i64 c) ∧ w'.cell? ⟨w.heap.size + 1, 0, none⟩ = some (.int .i64 o) ∧ w'.cell? ⟨w.heap.size + 1, 1, none⟩ = some (.int .i64 h) ∧ w'.cell? ⟨w.heap.size + 1, 2, none⟩ = some (.int .i64 p) ∧ w'.cell? ⟨w.heap.size + 1, 3, none⟩ = some (.int .i64 q) ∧ w'.cell? ⟨w.heap.size + 1, 4, none⟩ = some (.int .i64 T))) (by kernel_rfl) (by simp [go_sem, World.cell?_alloc_past, *]) (fun hHeld => ?_)
  refine tkH 0 ⟨some 13, _, _, _, _, _⟩ ?_ rfl ?_ (by assumption) ?_
  rotate_left
  · (intro w hSw; (try dsimp only at hSw); go_simp; all_goals with_reducible rfl)
  try simp only [Act.put, sA, sB, sC]
  refine tkH 2 ⟨some 15, _, _, _, _, _⟩ ?_ rfl ?_ (by assumption) ?_
  rotate_left
  · (intro w hSw; (try dsimp only at hSw); go_simp; all_goals with_reducible rfl)
  try simp only [Act.put, sA, sB, sC]
  refine tkH 3 ⟨some 16, _, _, _, _, _⟩ ?_ rfl ?_ (by assumption) ?_
  rotate_left
  · (intro w hSw; (try dsimp only at hSw); go_simp; all_goals with_reducible rfl)
  try simp only [Act.put, sA, sB, sC]
  refine tkH 5 ⟨some 18, _, _, _, _, _⟩ ?_ rfl ?_ (by assumption) ?_
  rotate_left
  · (intro w hSw; (try dsimp only at hSw); go_simp; all_goals with_reducible rfl)
  try simp only [Act.put, sA, sB, sC]
  refine tkH 6 ⟨some 19, _, _, _, _, _⟩ ?_ rfl ?_ (by assumption) ?_
  rotate_left
  · (intro w hSw; (try dsimp only at hSw); go_simp; all_goals with_reducible rfl)
  try simp only [Act.put, sA, sB, sC]
  refine tkH 8 ⟨some 21, _, _, _, _, _⟩ ?_ rfl ?_ (by assumption) ?_
  rotate_left
  · (intro w hSw; (try dsimp only at hSw); go_simp; all_goals with_reducible rfl)
  try simp only [Act.put, sA, sB, sC]
  refine tkH 9 ⟨some 22, _, _, _, _, _⟩ ?_ rfl ?_ (by assumption) ?_
  rotate_left
  · (intro w hSw; (try dsimp only at hSw); go_simp; all_goals with_reducible rfl)
  try simp only [Act.put, sA, sB, sC]
  refine tkH 10 ⟨some 23, _, _, _, _, _⟩ ?_ rfl ?_ (by assumption) ?_
  rotate_left
  · (intro w hSw; (try dsimp only at hSw); go_simp; all_goals with_reducible rfl)
  try simp only [Act.put, sA, sB, sC]
  refine wpAnyH_ready (rs := [1]) (by kernel_rfl) (by simp) ?_
  refine AllReadyH.cons rfl (fun K hK => ?_) AllReadyH.nil
  go_simp
  refine (checkContent_any a b c 2 _ hE).mono ?_
  rintro e xw1 ⟨rfl, hbx1⟩
  have zx1 := hbx1.size
  try simp at zx1
  obtain ⟨x1_0_0, x1_0_1, x1_0_2, x1_1_0, x1_1_1, x1_1_2, x1_1_3, x1_1_4, x1_2_0, x1_2_1, x1_2_2, x1_2_3, x1_2_4, x1_2_5⟩ : xw1.cell? ⟨w.heap.size, 0, none⟩ = some (.int .i64 a) ∧ xw1.cell? ⟨w.heap.size, 1, none⟩ = some (.int .i64 b) ∧ xw1.cell? ⟨w.heap.size, 2, none⟩ = some (.int .i64 c) ∧ xw1.cell? ⟨w.heap.size + 1, 0, none⟩ = some (.int .i64 o) ∧ xw1.cell? ⟨w.heap.size + 1, 1, none⟩ = some (.int .i64 h) ∧ xw1.cell? ⟨w.heap.size + 1, 2, none⟩ = some (.int .i64 p) ∧ xw1.cell? ⟨w.heap.size + 1, 3, none⟩ = some (.int .i64 q) ∧ xw1.cell? ⟨w.heap.size + 1, 4, none⟩ = some (.int .i64 T) ∧ xw1.cell? ⟨w.heap.size + 1 + 1, 0, none⟩ = some (.int .i64 0) ∧ xw1.cell? ⟨w.heap.size + 1 + 1, 1, none⟩ = some (.int .i64 0) ∧ xw1.cell? ⟨w.heap.size + 1 + 1, 2, none⟩ = some (.int .i64 0) ∧ xw1.cell? ⟨w.heap.size + 1 + 1, 3, none⟩ = some (.int .i64 0) ∧ xw1.cell? ⟨w.heap.size + 1 + 1, 4, none⟩ = some (.int .i64 0) ∧ xw1.cell? ⟨w.heap.size + 1 + 1, 5, none⟩ = some (.int .i64 0) := by refine ⟨?_, ?_, ?_, ?_, ?_, ?_, ?_, ?_, ?_, ?_, ?_, ?_, ?_, ?_⟩ <;> (rw [(bcell hbx1).1 _ _ (by first | (simp; done) | (simp; omega) | omega)]; simp [go_sem, World.cell?_alloc_past, *])
  have x1f2 : (∀ j, xw1.frozen? ⟨w.heap.size + 1 + 1, j, none⟩ = false) := by (intro j; rw [(bcell hbx1).2 _ _ (by first | (simp; done) | (simp; omega) | omega)]; simp [go_sem, *])
  obtain ⟨x1o0, x1n0, x1t0_0, x1t0_1, x1o1, x1n1, x1t1_0, x1t1_1, x1o2, x1n2, x1t2_0, x1t2_1⟩ : w.heap.size < xw1.heap.size ∧ xw1.heap.size ≠ w.heap.size ∧ w.heap.size < xw1.heap.size + 1 ∧ w.heap.size < xw1.heap.size + 1 + 1 ∧ w.heap.size + 1 < xw1.heap.size ∧ xw1.heap.size ≠ w.heap.size + 1 ∧ w.heap.size + 1 < xw1.heap.size + 1 ∧ w.heap.size + 1 < xw1.heap.size + 1 + 1 ∧ w.heap.size + 1 + 1 < xw1.heap.size ∧ xw1.heap.size ≠ w.heap.size + 1 + 1 ∧ w.heap.size + 1 + 1 < xw1.heap.size + 1 ∧ w.heap.size + 1 + 1 < xw1.heap.size + 1 + 1 := by refine ⟨?_, ?_, ?_, ?_, ?_, ?_, ?_, ?_, ?_, ?_, ?_, ?_⟩ <;> omega
  have hBx1 : Below w.heap.size w xw1 := (by (repeat (first | (with_reducible refine Below.drew ?_) | (with_reducible refine below_drewN ?_ _) | (with_reducible refine Below.alloc ?_ (by first | omega | (simp; done) | (simp; omega) | (simp at *; omega)) _) | (with_reducible refine Below.setCell ?_ (by first | omega | (simp; done) | (simp; omega) | (simp at *; omega)) _) | (with_reducible exact Below.refl _ _) | (with_reducible assumption) | (with_reducible refine Below.trans ?_ (Below.mono (by assumption) (by first | omega | (simp; done) | (simp; omega) | (simp at *; omega)))))))
  clear hbx1 
  go_wp2_with fail
  refine hK.out _ _ (by simp [go_sem, World.cell?_alloc_past, *]) (fun hHeld => ?_)
  clear hK K
  try simp only [Act.put, sA, sB, sC]
  refine wpAnyH_ready (rs := [4]) (by kernel_rfl) (by simp) ?_
  refine AllReadyH.cons rfl (fun K hK => ?_) AllReadyH.nil
  go_simp
  refine (CheckGas_x o h _ _ (Lib.hid rfl)).mono ?_
  rintro e xw2 ⟨rfl, hbx2⟩
  have zx2 := hbx2.size
  try simp at zx2
  obtain ⟨x2_0_0, x2_0_1, x2_0_2, x2_1_0, x2_1_1, x2_1_2, x2_1_3, x2_1_4, x2_2_0, x2_2_1, x2_2_2, x2_2_3, x2_2_4, x2_2_5⟩ : xw2.cell? ⟨w.heap.size, 0, none⟩ = some (.int .i64 a) ∧ xw2.cell? ⟨w.heap.size, 1, none⟩ = some (.int .i64 b) ∧ xw2.cell? ⟨w.heap.size, 2, none⟩ = some (.int .i64 c) ∧ xw2.cell? ⟨w.heap.size + 1, 0, none⟩ = some (.int .i64 o) ∧ xw2.cell? ⟨w.heap.size + 1, 1, none⟩ = some (.int .i64 h) ∧ xw2.cell? ⟨w.heap.size + 1, 2, none⟩ = some (.int .i64 p) ∧ xw2.cell? ⟨w.heap.size + 1, 3, none⟩ = some (.int .i64 q) ∧ xw2.cell? ⟨w.heap.size + 1, 4, none⟩ = some (.int .i64 T) ∧ xw2.cell? ⟨w.heap.size + 1 + 1, 0, none⟩ = some (.int .i64 0) ∧ xw2.cell? ⟨w.heap.size + 1 + 1, 1, none⟩ = some (.int .i64 0) ∧ xw2.cell? ⟨w.heap.size + 1 + 1, 2, none⟩ = some (.int .i64 0) ∧ xw2.cell? ⟨w.heap.size + 1 + 1, 3, none⟩ = some (.int .i64 0) ∧ xw2.cell? ⟨w.heap.size + 1 + 1, 4, none⟩ = some (.int .i64 0) ∧ xw2.cell? ⟨w.heap.size + 1 + 1, 5, none⟩ = some (.int .i64 0) := by refine ⟨?_, ?_, ?_, ?_, ?_, ?_, ?_, ?_, ?_, ?_, ?_, ?_, ?_, ?_⟩ <;> (rw [(bcell hbx2).1 _ _ (by first | (simp; done) | (simp; omega) | omega)]; simp [go_sem, World.cell?_alloc_past, *])
  have x2f2 : (∀ j, xw2.frozen? ⟨w.heap.size + 1 + 1, j, none⟩ = false) := by (intro j; rw [(bcell hbx2).2 _ _ (by first | (simp; done) | (simp; omega) | omega)]; simp [go_sem, *])
  obtain ⟨x2o0, x2n0, x2t0_0, x2t0_1, x2o1, x2n1, x2t1_0, x2t1_1, x2o2, x2n2, x2t2_0, x2t2_1⟩ : w.heap.size < xw2.heap.size ∧ xw2.heap.size ≠ w.heap.size ∧ w.heap.size < xw2.heap.size + 1 ∧ w.heap.size < xw2.heap.size + 1 + 1 ∧ w.heap.size + 1 < xw2.heap.size ∧ xw2.heap.size ≠ w.heap.size + 1 ∧ w.heap.size + 1 < xw2.heap.size + 1 ∧ w.heap.size + 1 < xw2.heap.size + 1 + 1 ∧ w.heap.size + 1 + 1 < xw2.heap.size ∧ xw2.heap.size ≠ w.heap.size + 1 + 1 ∧ w.heap.size + 1 + 1 < xw2.heap.size + 1 ∧ w.heap.size + 1 + 1 < xw2.heap.size + 1 + 1 := by refine ⟨?_, ?_, ?_, ?_, ?_, ?_, ?_, ?_, ?_, ?_, ?_, ?_⟩ <;> omega
  have hBx2 : Below w.heap.size w xw2 := (by (repeat (first | (with_reducible refine Below.drew ?_) | (with_reducible refine below_drewN ?_ _) | (with_reducible refine Below.alloc ?_ (by first | omega | (simp; done) | (simp; omega) | (simp at *; omega)) _) | (with_reducible refine Below.setCell ?_ (by first | omega | (simp; done) | (simp; omega) | (simp at *; omega)) _) | (with_reducible exact Below.refl _ _) | (with_reducible assumption) | (with_reducible refine Below.trans ?_ (Below.mono (by assumption) (by first | omega | (simp; done) | (simp; omega) | (simp at *; omega)))))))
  clear hbx2 x1_0_0 x1_0_1 x1_0_2 x1_1_0 x1_1_1 x1_1_2 x1_1_3 x1_1_4 x1_2_0 x1_2_1 x1_2_2 x1_2_3 x1_2_4 x1_2_5 x1f2 x1o0 x1n0 x1t0_0 x1t0_1 x1o1 x1n1 x1t1_0 x1t1_1 x1o2 x1n2 x1t2_0 x1t2_1 hBx1
  go_wp2_with fail
  refine hK.out _ _ (by simp [go_sem, World.cell?_alloc_past, *]) (fun hHeld => ?_)
  clear hK K
  try simp only [Act.put, sA, sB, sC]
  refine wpAnyH_ready (rs := [7]) (by kernel_rfl) (by simp) ?_
  refine AllReadyH.cons rfl (fun K hK => ?_) AllReadyH.nil
  go_simp
  refine (CheckGas_x p q _ _ (Lib.hid rfl)).mono ?_
  rintro e xw3 ⟨rfl, hbx3⟩
  have zx3 := hbx3.size
  try simp at zx3
  obtain ⟨x3_0_0, x3_0_1, x3_0_2, x3_1_0, x3_1_1, x3_1_2, x3_1_3, x3_1_4, x3_2_0, x3_2_1, x3_2_2, x3_2_3, x3_2_4, x3_2_5⟩ : xw3.cell? ⟨w.heap.size, 0, none⟩ = some (.int .i64 a) ∧ xw3.cell? ⟨w.heap.size, 1, none⟩ = some (.int .i64 b) ∧ xw3.cell? ⟨w.heap.size, 2, none⟩ = some (.int .i64 c) ∧ xw3.cell? ⟨w.heap.size + 1, 0, none⟩ = some (.int .i64 o) ∧ xw3.cell? ⟨w.heap.size + 1, 1, none⟩ = some (.int .i64 h) ∧ xw3.cell? ⟨w.heap.size + 1, 2, none⟩ = some (.int .i64 p) ∧ xw3.cell? ⟨w.heap.size + 1, 3, none⟩ = some (.int .i64 q) ∧ xw3.cell? ⟨w.heap.size + 1, 4, none⟩ = some (.int .i64 T) ∧ xw3.cell? ⟨w.heap.size + 1 + 1, 0, none⟩ = some (.int .i64 0) ∧ xw3.cell? ⟨w.heap.size + 1 + 1, 1, none⟩ = some (.int .i64 0) ∧ xw3.cell? ⟨w.heap.size + 1 + 1, 2, none⟩ = some (.int .i64 0) ∧ xw3.cell? ⟨w.heap.size + 1 + 1, 3, none⟩ = some (.int .i64 0) ∧ xw3.cell? ⟨w.heap.size + 1 + 1, 4, none⟩ = some (.int .i64 0) ∧ xw3.cell? ⟨w.heap.size + 1 + 1, 5, none⟩ = some (.int .i64 0) := by refine ⟨?_, ?_, ?_, ?_, ?_, ?_, ?_, ?_, ?_, ?_, ?_, ?_, ?_, ?_⟩ <;> (rw [(bcell hbx3).1 _ _ (by first | (simp; done) | (simp; omega) | omega)]; simp [go_sem, World.cell?_alloc_past, *])
  have x3f2 : (∀ j, xw3.frozen? ⟨w.heap.size + 1 + 1, j, none⟩ = false) := by (intro j; rw [(bcell hbx3).2 _ _ (by first | (simp; done) | (simp; omega) | omega)]; simp [go_sem, *])
  obtain ⟨x3o0, x3n0, x3t0_0, x3t0_1, x3o1, x3n1, x3t1_0, x3t1_1, x3o2, x3n2, x3t2_0, x3t2_1⟩ : w.heap.size < xw3.heap.size ∧ xw3.heap.size ≠ w.heap.size ∧ w.heap.size < xw3.heap.size + 1 ∧ w.heap.size < xw3.heap.size + 1 + 1 ∧ w.heap.size + 1 < xw3.heap.size ∧ xw3.heap.size ≠ w.heap.size + 1 ∧ w.heap.size + 1 < xw3.heap.size + 1 ∧ w.heap.size + 1 < xw3.heap.size + 1 + 1 ∧ w.heap.size + 1 + 1 < xw3.heap.size ∧ xw3.heap.size ≠ w.heap.size + 1 + 1 ∧ w.heap.size + 1 + 1 < xw3.heap.size + 1 ∧ w.heap.size + 1 + 1 < xw3.heap.size + 1 + 1 := by refine ⟨?_, ?_, ?_, ?_, ?_, ?_, ?_, ?_, ?_, ?_, ?_, ?_⟩ <;> omega
  have hBx3 : Below w.heap.size w xw3 := (by (repeat (first | (with_reducible refine Below.drew ?_) | (with_reducible refine below_drewN ?_ _) | (with_reducible refine Below.alloc ?_ (by first | omega | (simp; done) | (simp; omega) | (simp at *; omega)) _) | (with_reducible refine Below.setCell ?_ (by first | omega | (simp; done) | (simp; omega) | (simp at *; omega)) _) | (with_reducible exact Below.refl _ _) | (with_reducible assumption) | (with_reducible refine Below.trans ?_ (Below.mono (by assumption) (by first | omega | (simp; done) | (simp; omega) | (simp at *; omega)))))))
  clear hbx3 x2_0_0 x2_0_1 x2_0_2 x2_1_0 x2_1_1 x2_1_2 x2_1_3 x2_1_4 x2_2_0 x2_2_1 x2_2_2 x2_2_3 x2_2_4 x2_2_5 x2f2 x2o0 x2n0 x2t0_0 x2t0_1 x2o1 x2n1 x2t1_0 x2t1_1 x2o2 x2n2 x2t2_0 x2t2_1 hBx2
  go_wp2_with fail
  refine hK.out _ _ (by simp [go_sem, World.cell?_alloc_past, *]) (fun hHeld => ?_)
  clear hK K
  try simp only [Act.put, sA, sB, sC]
  refine wpAnyH_ready (rs := [11]) (by kernel_rfl) (by simp) ?_
  refine AllReadyH.cons rfl (fun K hK => ?_) AllReadyH.nil
  go_simp
  refine (sumOf_some a b c _).mono ?_
  rintro e xw4 ⟨x4s, rfl, hbx4⟩
  have zx4 := hbx4.size
  try simp at zx4
  obtain ⟨x4_0_0, x4_0_1, x4_0_2, x4_1_0, x4_1_1, x4_1_2, x4_1_3, x4_1_4, x4_2_0, x4_2_1, x4_2_2, x4_2_3, x4_2_4, x4_2_5⟩ : xw4.cell? ⟨w.heap.size, 0, none⟩ = some (.int .i64 a) ∧ xw4.cell? ⟨w.heap.size, 1, none⟩ = some (.int .i64 b) ∧ xw4.cell? ⟨w.heap.size, 2, none⟩ = some (.int .i64 c) ∧ xw4.cell? ⟨w.heap.size + 1, 0, none⟩ = some (.int .i64 o) ∧ xw4.cell? ⟨w.heap.size + 1, 1, none⟩ = some (.int .i64 h) ∧ xw4.cell? ⟨w.heap.size + 1, 2, none⟩ = some (.int .i64 p) ∧ xw4.cell? ⟨w.heap.size + 1, 3, none⟩ = some (.int .i64 q) ∧ xw4.cell? ⟨w.heap.size + 1, 4, none⟩ = some (.int .i64 T) ∧ xw4.cell? ⟨w.heap.size + 1 + 1, 0, none⟩ = some (.int .i64 0) ∧ xw4.cell? ⟨w.heap.size + 1 + 1, 1, none⟩ = some (.int .i64 0) ∧ xw4.cell? ⟨w.heap.size + 1 + 1, 2, none⟩ = some (.int .i64 0) ∧ xw4.cell? ⟨w.heap.size + 1 + 1, 3, none⟩ = some (.int .i64 0) ∧ xw4.cell? ⟨w.heap.size + 1 + 1, 4, none⟩ = some (.int .i64 0) ∧ xw4.cell? ⟨w.heap.size + 1 + 1, 5, none⟩ = some (.int .i64 0) := by refine ⟨?_, ?_, ?_, ?_, ?_, ?_, ?_, ?_, ?_, ?_, ?_, ?_, ?_, ?_⟩ <;> (rw [(bcell hbx4).1 _ _ (by first | (simp; done) | (simp; omega) | omega)]; simp [go_sem, World.cell?_alloc_past, *])
  have x4f2 : (∀ j, xw4.frozen? ⟨w.heap.size + 1 + 1, j, none⟩ = false) := by (intro j; rw [(bcell hbx4).2 _ _ (by first | (simp; done) | (simp; omega) | omega)]; simp [go_sem, *])
  obtain ⟨x4o0, x4n0, x4t0_0, x4t0_1, x4o1, x4n1, x4t1_0, x4t1_1, x4o2, x4n2, x4t2_0, x4t2_1⟩ : w.heap.size < xw4.heap.size ∧ xw4.heap.size ≠ w.heap.size ∧ w.heap.size < xw4.heap.size + 1 ∧ w.heap.size < xw4.heap.size + 1 + 1 ∧ w.heap.size + 1 < xw4.heap.size ∧ xw4.heap.size ≠ w.heap.size + 1 ∧ w.heap.size + 1 < xw4.heap.size + 1 ∧ w.heap.size + 1 < xw4.heap.size + 1 + 1 ∧ w.heap.size + 1 + 1 < xw4.heap.size ∧ xw4.heap.size ≠ w.heap.size + 1 + 1 ∧ w.heap.size + 1 + 1 < xw4.heap.size + 1 ∧ w.heap.size + 1 + 1 < xw4.heap.size + 1 + 1 := by refine ⟨?_, ?_, ?_, ?_, ?_, ?_, ?_, ?_, ?_, ?_, ?_, ?_⟩ <;> omega
  have hBx4 : Below w.heap.size w xw4 := (by (repeat (first | (with_reducible refine Below.drew ?_) | (with_reducible refine below_drewN ?_ _) | (with_reducible refine Below.alloc ?_ (by first | omega | (simp; done) | (simp; omega) | (simp at *; omega)) _) | (with_reducible refine Below.setCell ?_ (by first | omega | (simp; done) | (simp; omega) | (simp at *; omega)) _) | (with_reducible exact Below.refl _ _) | (with_reducible assumption) | (with_reducible refine Below.trans ?_ (Below.mono (by assumption) (by first | omega | (simp; done) | (simp; omega) | (simp at *; omega)))))))
  clear hbx4 x3_0_0 x3_0_1 x3_0_2 x3_1_0 x3_1_1 x3_1_2 x3_1_3 x3_1_4 x3_2_0 x3_2_1 x3_2_2 x3_2_3 x3_2_4 x3_2_5 x3f2 x3o0 x3n0 x3t0_0 x3t0_1 x3o1 x3n1 x3t1_0 x3t1_1 x3o2 x3n2 x3t2_0 x3t2_1 hBx3
  go_wp2_with fail
  refine hK.out _ _ (by simp [go_sem, World.cell?_alloc_past, *]) (fun hHeld => ?_)
  clear hK K
  try simp only [Act.put, sA, sB, sC]
  refine wpAnyH_ready (rs := [12]) (by kernel_rfl) (by simp) ?_
  refine AllReadyH.cons rfl (fun K hK => ?_) AllReadyH.nil
  go_simp
  refine (cRange_any _ _ _ _).mono ?_
  rintro e wq ⟨rfl, rfl⟩
  go_wp2_with fail
  refine hK.out _ _ (by simp [go_sem, World.cell?_alloc_past, *]) (fun hHeld => ?_)
  clear hK K
  try simp only [Act.put, sA, sB, sC]
  refine wpAnyH_ready (rs := [13]) (by kernel_rfl) (by simp) ?_
  refine AllReadyH.cons rfl (fun K hK => ?_) AllReadyH.nil
  go_simp
  go_wp2_with fail
  refine hK.out _ _ (by simp [go_sem, World.cell?_alloc_past, *]) (fun hHeld => ?_)
  clear hK K
  try simp only [Act.put, sA, sB, sC]
  refine wpAnyH_ready (rs := [14]) (by kernel_rfl) (by simp) ?_
  refine AllReadyH.cons rfl (fun K hK => ?_) AllReadyH.nil
  go_simp
  refine (cF4x 2 (gasE o h) (gasE p q) (rngE T x4s 1000000000) 2 _ _ (Lib.hid rfl) (by simp [go_sem]) (by simp [go_sem]) (by simp [go_sem]) (by simp [go_sem])).mono ?_
  rintro e wq ⟨rfl, rfl⟩
  go_wp2_with fail
  refine hK.out _ _ (by simp [go_sem, World.cell?_alloc_past, *]) (fun hHeld => ?_)
  clear hK K
  try simp only [Act.put, sA, sB, sC]
  refine tkH 15 ⟨some 6, _, _, _, _, _⟩ ?_ rfl ?_ (by assumption) ?_
  rotate_left
  · (intro w hSw; (try dsimp only at hSw); go_simp; all_goals with_reducible rfl)
  try simp only [Act.put, sA, sB, sC]
  refine wpAnyH_done (by kernel_rfl) ?_ _
  go_wp2
  refine bodyPost_ret (v := .tuple #[.agg #[.int .i64 0, .int .i64 0, .int .i64 0, .int .i64 0, .int .i64 0, .int .i64 0], .int .i64 2]) (by simp [results, Try.results39, go_sem, *]) rfl ⟨rfl, ?_⟩
  (repeat (first | (with_reducible refine Below.drew ?_) | (with_reducible refine below_drewN ?_ _) | (with_reducible refine Below.alloc ?_ (by first | omega | (simp; done) | (simp; omega) | (simp at *; omega)) _) | (with_reducible refine Below.setCell ?_ (by first | omega | (simp; done) | (simp; omega) | (simp at *; omega)) _) | (with_reducible exact Below.refl _ _) | (with_reducible assumption) | (with_reducible refine Below.trans ?_ (Below.mono (by assumption) (by first | omega | (simp; done) | (simp; omega) | (simp at *; omega))))))
set_option maxHeartbeats 16000000 in
set_option maxRecDepth 100000 in
theorem PF_b2 (a b c o h p q T S g1 g2 E : Int) (w : World) (hE : Hid (conE a b c = 0)) (hc : Hid (conB a b c = true)) (hG : Hid (gasE o h = g1)) (hG2 : Hid (gasE p q = g2)) (hS : Hid (a + b + c = S)) (hF : Hid (firE [0, g1, g2, rngE T S 1000000000] = E)) (hz : (E != 0) = true) : Calls Try.prog 39 #[.agg #[.int .i64 a, .int .i64 b, .int .i64 c], .agg #[.int .i64 o, .int .i64 h, .int .i64 p, .int .i64 q, .int .i64 T]] w fun e w' => e = .returned (.tuple #[.agg #[.int .i64 0, .int .i64 0, .int .i64 0, .int .i64 0, .int .i64 0, .int .i64 0], .int .i64 E]) ∧ Below w.heap.size w w' := by
  go_enter Try.func39, Try.ntmps39
  go_upto_region 1 with (fail)
  refine wp_region_held_drew (S := (fun w' => w'.cell? ⟨w.heap.size, 0, none⟩ = some (.int .i64 a) ∧ w'.cell? ⟨w.heap.size, 1, none⟩ = some (.int .i64 b) ∧ w'.cell? ⟨w.heap.size, 2, none⟩ = some (.int .i64 c) ∧ w'.cell? ⟨w.heap.size + 1, 0, none⟩ = some (.int .i64 o) ∧ w'.cell? ⟨w.heap.size + 1, 1, none⟩ = some (.int .i64 h) ∧ w'.cell? ⟨w.heap.size + 1, 2, none⟩ = some (.int .i64 p) ∧ w'.cell? ⟨w.heap.size + 1, 3, none⟩ = some (.int .i64 q) ∧ w'.cell? ⟨w.heap.size + 1, 4, none⟩ = some (.int .i64 T))) (by kernel_rfl) (by simp [go_sem, World.cell?_alloc_past, *]) (fun hHeld => ?_)
  refine tkH 0 ⟨some 13, _, _, _, _, _⟩ ?_ rfl ?_ (by assumption) ?_
  rotate_left
  · (intro w hSw; (try dsimp only at hSw); go_simp; all_goals with_reducible rfl)
  try simp only [Act.put, sA, sB, sC]
  refine tkH 2 ⟨some 15, _, _, _, _, _⟩ ?_ rfl ?_ (by assumption) ?_
  rotate_left
  · (intro w hSw; (try dsimp only at hSw); go_simp; all_goals with_reducible rfl)
  try simp only [Act.put, sA, sB, sC]
  refine tkH 3 ⟨some 16, _, _, _, _, _⟩ ?_ rfl ?_ (by assumption) ?_
  rotate_left
  · (intro w hSw; (try dsimp only at hSw); go_simp; all_goals with_reducible rfl)
  try simp only [Act.put, sA, sB, sC]
  refine tkH 5 ⟨some 18, _, _, _, _, _⟩ ?_ rfl ?_ (by assumption) ?_
  rotate_left
  · (intro w hSw; (try dsimp only at hSw); go_simp; all_goals with_reducible rfl)
  try simp only [Act.put, sA, sB, sC]
  refine tkH 6 ⟨some 19, _, _, _, _, _⟩ ?_ rfl ?_ (by assumption) ?_
  rotate_left
  · (intro w hSw; (try dsimp only at hSw); go_simp; all_goals with_reducible rfl)
  try simp only [Act.put, sA, sB, sC]
  refine tkH 8 ⟨some 21, _, _, _, _, _⟩ ?_ rfl ?_ (by assumption) ?_
  rotate_left
  · (intro w hSw; (try dsimp only at hSw); go_simp; all_goals with_reducible rfl)
  try simp only [Act.put, sA, sB, sC]
  refine tkH 9 ⟨some 22, _, _, _, _, _⟩ ?_ rfl ?_ (by assumption) ?_
  rotate_left
  · (intro w hSw; (try dsimp only at hSw); go_simp; all_goals with_reducible rfl)
  try simp only [Act.put, sA, sB, sC]
  refine tkH 10 ⟨some 23, _, _, _, _, _⟩ ?_ rfl ?_ (by assumption) ?_
  rotate_left
  · (intro w hSw; (try dsimp only at hSw); go_simp; all_goals with_reducible rfl)
  try simp only [Act.put, sA, sB, sC]
  refine wpAnyH_ready (rs := [1]) (by kernel_rfl) (by simp) ?_
  refine AllReadyH.cons rfl (fun K hK => ?_) AllReadyH.nil
  go_simp
  refine (checkContent_any a b c 0 _ hE).mono ?_
  rintro e xw1 ⟨rfl, hbx1⟩
  have zx1 := hbx1.size
  try simp at zx1
  obtain ⟨x1_0_0, x1_0_1, x1_0_2, x1_1_0, x1_1_1, x1_1_2, x1_1_3, x1_1_4, x1_2_0, x1_2_1, x1_2_2, x1_2_3, x1_2_4, x1_2_5⟩ : xw1.cell? ⟨w.heap.size, 0, none⟩ = some (.int .i64 a) ∧ xw1.cell? ⟨w.heap.size, 1, none⟩ = some (.int .i64 b) ∧ xw1.cell? ⟨w.heap.size, 2, none⟩ = some (.int .i64 c) ∧ xw1.cell? ⟨w.heap.size + 1, 0, none⟩ = some (.int .i64 o) ∧ xw1.cell? ⟨w.heap.size + 1, 1, none⟩ = some (.int .i64 h) ∧ xw1.cell? ⟨w.heap.size + 1, 2, none⟩ = some (.int .i64 p) ∧ xw1.cell? ⟨w.heap.size + 1, 3, none⟩ = some (.int .i64 q) ∧ xw1.cell? ⟨w.heap.size + 1, 4, none⟩ = some (.int .i64 T) ∧ xw1.cell? ⟨w.heap.size + 1 + 1, 0, none⟩ = some (.int .i64 0) ∧ xw1.cell? ⟨w.heap.size + 1 + 1, 1, none⟩ = some (.int .i64 0) ∧ xw1.cell? ⟨w.heap.size + 1 + 1, 2, none⟩ = some (.int .i64 0) ∧ xw1.cell? ⟨w.heap.size + 1 + 1, 3, none⟩ = some (.int .i64 0) ∧ xw1.cell? ⟨w.heap.size + 1 + 1, 4, none⟩ = some (.int .i64 0) ∧ xw1.cell? ⟨w.heap.size + 1 + 1, 5, none⟩ = some (.int .i64 0) := by refine ⟨?_, ?_, ?_, ?_, ?_, ?_, ?_, ?_, ?_, ?_, ?_, ?_, ?_, ?_⟩ <;> (rw [(bcell hbx1).1 _ _ (by first | (simp; done) | (simp; omega) | omega)]; simp [go_sem, World.cell?_alloc_past, *])
  have x1f2 : (∀ j, xw1.frozen? ⟨w.heap.size + 1 + 1, j, none⟩ = false) := by (intro j; rw [(bcell hbx1).2 _ _ (by first | (simp; done) | (simp; omega) | omega)]; simp [go_sem, *])
  obtain ⟨x1o0, x1n0, x1t0_0, x1t0_1, x1o1, x1n1, x1t1_0, x1t1_1, x1o2, x1n2, x1t2_0, x1t2_1⟩ : w.heap.size < xw1.heap.size ∧ xw1.heap.size ≠ w.heap.size ∧ w.heap.size < xw1.heap.size + 1 ∧ w.heap.size < xw1.heap.size + 1 + 1 ∧ w.heap.size + 1 < xw1.heap.size ∧ xw1.heap.size ≠ w.heap.size + 1 ∧ w.heap.size + 1 < xw1.heap.size + 1 ∧ w.heap.size + 1 < xw1.heap.size + 1 + 1 ∧ w.heap.size + 1 + 1 < xw1.heap.size ∧ xw1.heap.size ≠ w.heap.size + 1 + 1 ∧ w.heap.size + 1 + 1 < xw1.heap.size + 1 ∧ w.heap.size + 1 + 1 < xw1.heap.size + 1 + 1 := by refine ⟨?_, ?_, ?_, ?_, ?_, ?_, ?_, ?_, ?_, ?_, ?_, ?_⟩ <;> omega
  have hBx1 : Below w.heap.size w xw1 := (by (repeat (first | (with_reducible refine Below.drew ?_) | (with_reducible refine below_drewN ?_ _) | (with_reducible refine Below.alloc ?_ (by first | omega | (simp; done) | (simp; omega) | (simp at *; omega)) _) | (with_reducible refine Below.setCell ?_ (by first | omega | (simp; done) | (simp; omega) | (simp at *; omega)) _) | (with_reducible exact Below.refl _ _) | (with_reducible assumption) | (with_reducible refine Below.trans ?_ (Below.mono (by assumption) (by first | omega | (simp; done) | (simp; omega) | (simp at *; omega)))))))
  clear hbx1 
  go_wp2_with fail
  refine hK.out _ _ (by simp [go_sem, World.cell?_alloc_past, *]) (fun hHeld => ?_)
  clear hK K
  try simp only [Act.put, sA, sB, sC]
  refine wpAnyH_ready (rs := [4]) (by kernel_rfl) (by simp) ?_
  refine AllReadyH.cons rfl (fun K hK => ?_) AllReadyH.nil
  go_simp
  refine (CheckGas_x o h g1 _ hG).mono ?_
  rintro e xw2 ⟨rfl, hbx2⟩
  have zx2 := hbx2.size
  try simp at zx2
  obtain ⟨x2_0_0, x2_0_1, x2_0_2, x2_1_0, x2_1_1, x2_1_2, x2_1_3, x2_1_4, x2_2_0, x2_2_1, x2_2_2, x2_2_3, x2_2_4, x2_2_5⟩ : xw2.cell? ⟨w.heap.size, 0, none⟩ = some (.int .i64 a) ∧ xw2.cell? ⟨w.heap.size, 1, none⟩ = some (.int .i64 b) ∧ xw2.cell? ⟨w.heap.size, 2, none⟩ = some (.int .i64 c) ∧ xw2.cell? ⟨w.heap.size + 1, 0, none⟩ = some (.int .i64 o) ∧ xw2.cell? ⟨w.heap.size + 1, 1, none⟩ = some (.int .i64 h) ∧ xw2.cell? ⟨w.heap.size + 1, 2, none⟩ = some (.int .i64 p) ∧ xw2.cell? ⟨w.heap.size + 1, 3, none⟩ = some (.int .i64 q) ∧ xw2.cell? ⟨w.heap.size + 1, 4, none⟩ = some (.int .i64 T) ∧ xw2.cell? ⟨w.heap.size + 1 + 1, 0, none⟩ = some (.int .i64 0) ∧ xw2.cell? ⟨w.heap.size + 1 + 1, 1, none⟩ = some (.int .i64 0) ∧ xw2.cell? ⟨w.heap.size + 1 + 1, 2, none⟩ = some (.int .i64 0) ∧ xw2.cell? ⟨w.heap.size + 1 + 1, 3, none⟩ = some (.int .i64 0) ∧ xw2.cell? ⟨w.heap.size + 1 + 1, 4, none⟩ = some (.int .i64 0) ∧ xw2.cell? ⟨w.heap.size + 1 + 1, 5, none⟩ = some (.int .i64 0) := by refine ⟨?_, ?_, ?_, ?_, ?_, ?_, ?_, ?_, ?_, ?_, ?_, ?_, ?_, ?_⟩ <;> (rw [(bcell hbx2).1 _ _ (by first | (simp; done) | (simp; omega) | omega)]; simp [go_sem, World.cell?_alloc_past, *])
  have x2f2 : (∀ j, xw2.frozen? ⟨w.heap.size + 1 + 1, j, none⟩ = false) := by (intro j; rw [(bcell hbx2).2 _ _ (by first | (simp; done) | (simp; omega) | omega)]; simp [go_sem, *])
  obtain ⟨x2o0, x2n0, x2t0_0, x2t0_1, x2o1, x2n1, x2t1_0, x2t1_1, x2o2, x2n2, x2t2_0, x2t2_1⟩ : w.heap.size < xw2.heap.size ∧ xw2.heap.size ≠ w.heap.size ∧ w.heap.size < xw2.heap.size + 1 ∧ w.heap.size < xw2.heap.size + 1 + 1 ∧ w.heap.size + 1 < xw2.heap.size ∧ xw2.heap.size ≠ w.heap.size + 1 ∧ w.heap.size + 1 < xw2.heap.size + 1 ∧ w.heap.size + 1 < xw2.heap.size + 1 + 1 ∧ w.heap.size + 1 + 1 < xw2.heap.size ∧ xw2.heap.size ≠ w.heap.size + 1 + 1 ∧ w.heap.size + 1 + 1 < xw2.heap.size + 1 ∧ w.heap.size + 1 + 1 < xw2.heap.size + 1 + 1 := by refine ⟨?_, ?_, ?_, ?_, ?_, ?_, ?_, ?_, ?_, ?_, ?_, ?_⟩ <;> omega
  have hBx2 : Below w.heap.size w xw2 := (by (repeat (first | (with_reducible refine Below.drew ?_) | (with_reducible refine below_drewN ?_ _) | (with_reducible refine Below.alloc ?_ (by first | omega | (simp; done) | (simp; omega) | (simp at *; omega)) _) | (with_reducible refine Below.setCell ?_ (by first | omega | (simp; done) | (simp; omega) | (simp at *; omega)) _) | (with_reducible exact Below.refl _ _) | (with_reducible assumption) | (with_reducible refine Below.trans ?_ (Below.mono (by assumption) (by first | omega | (simp; done) | (simp; omega) | (simp at *; omega)))))))
  clear hbx2 x1_0_0 x1_0_1 x1_0_2 x1_1_0 x1_1_1 x1_1_2 x1_1_3 x1_1_4 x1_2_0 x1_2_1 x1_2_2 x1_2_3 x1_2_4 x1_2_5 x1f2 x1o0 x1n0 x1t0_0 x1t0_1 x1o1 x1n1 x1t1_0 x1t1_1 x1o2 x1n2 x1t2_0 x1t2_1 hBx1
  go_wp2_with fail
  refine hK.out _ _ (by simp [go_sem, World.cell?_alloc_past, *]) (fun hHeld => ?_)
  clear hK K
  try simp only [Act.put, sA, sB, sC]
  refine wpAnyH_ready (rs := [7]) (by kernel_rfl) (by simp) ?_
  refine AllReadyH.cons rfl (fun K hK => ?_) AllReadyH.nil
  go_simp
  refine (CheckGas_x p q g2 _ hG2).mono ?_
  rintro e xw3 ⟨rfl, hbx3⟩
  have zx3 := hbx3.size
  try simp at zx3
  obtain ⟨x3_0_0, x3_0_1, x3_0_2, x3_1_0, x3_1_1, x3_1_2, x3_1_3, x3_1_4, x3_2_0, x3_2_1, x3_2_2, x3_2_3, x3_2_4, x3_2_5⟩ : xw3.cell? ⟨w.heap.size, 0, none⟩ = some (.int .i64 a) ∧ xw3.cell? ⟨w.heap.size, 1, none⟩ = some (.int .i64 b) ∧ xw3.cell? ⟨w.heap.size, 2, none⟩ = some (.int .i64 c) ∧ xw3.cell? ⟨w.heap.size + 1, 0, none⟩ = some (.int .i64 o) ∧ xw3.cell? ⟨w.heap.size + 1, 1, none⟩ = some (.int .i64 h) ∧ xw3.cell? ⟨w.heap.size + 1, 2, none⟩ = some (.int .i64 p) ∧ xw3.cell? ⟨w.heap.size + 1, 3, none⟩ = some (.int .i64 q) ∧ xw3.cell? ⟨w.heap.size + 1, 4, none⟩ = some (.int .i64 T) ∧ xw3.cell? ⟨w.heap.size + 1 + 1, 0, none⟩ = some (.int .i64 0) ∧ xw3.cell? ⟨w.heap.size + 1 + 1, 1, none⟩ = some (.int .i64 0) ∧ xw3.cell? ⟨w.heap.size + 1 + 1, 2, none⟩ = some (.int .i64 0) ∧ xw3.cell? ⟨w.heap.size + 1 + 1, 3, none⟩ = some (.int .i64 0) ∧ xw3.cell? ⟨w.heap.size + 1 + 1, 4, none⟩ = some (.int .i64 0) ∧ xw3.cell? ⟨w.heap.size + 1 + 1, 5, none⟩ = some (.int .i64 0) := by refine ⟨?_, ?_, ?_, ?_, ?_, ?_, ?_, ?_, ?_, ?_, ?_, ?_, ?_, ?_⟩ <;> (rw [(bcell hbx3).1 _ _ (by first | (simp; done) | (simp; omega) | omega)]; simp [go_sem, World.cell?_alloc_past, *])
  have x3f2 : (∀ j, xw3.frozen? ⟨w.heap.size + 1 + 1, j, none⟩ = false) := by (intro j; rw [(bcell hbx3).2 _ _ (by first | (simp; done) | (simp; omega) | omega)]; simp [go_sem, *])
  obtain ⟨x3o0, x3n0, x3t0_0, x3t0_1, x3o1, x3n1, x3t1_0, x3t1_1, x3o2, x3n2, x3t2_0, x3t2_1⟩ : w.heap.size < xw3.heap.size ∧ xw3.heap.size ≠ w.heap.size ∧ w.heap.size < xw3.heap.size + 1 ∧ w.heap.size < xw3.heap.size + 1 + 1 ∧ w.heap.size + 1 < xw3.heap.size ∧ xw3.heap.size ≠ w.heap.size + 1 ∧ w.heap.size + 1 < xw3.heap.size + 1 ∧ w.heap.size + 1 < xw3.heap.size + 1 + 1 ∧ w.heap.size + 1 + 1 < xw3.heap.size ∧ xw3.heap.size ≠ w.heap.size + 1 + 1 ∧ w.heap.size + 1 + 1 < xw3.heap.size + 1 ∧ w.heap.size + 1 + 1 < xw3.heap.size + 1 + 1 := by refine ⟨?_, ?_, ?_, ?_, ?_, ?_, ?_, ?_, ?_, ?_, ?_, ?_⟩ <;> omega
  have hBx3 : Below w.heap.size w xw3 := (by (repeat (first | (with_reducible refine Below.drew ?_) | (with_reducible refine below_drewN ?_ _) | (with_reducible refine Below.alloc ?_ (by first | omega | (simp; done) | (simp; omega) | (simp at *; omega)) _) | (with_reducible refine Below.setCell ?_ (by first | omega | (simp; done) | (simp; omega) | (simp at *; omega)) _) | (with_reducible exact Below.refl _ _) | (with_reducible assumption) | (with_reducible refine Below.trans ?_ (Below.mono (by assumption) (by first | omega | (simp; done) | (simp; omega) | (simp at *; omega)))))))
  clear hbx3 x2_0_0 x2_0_1 x2_0_2 x2_1_0 x2_1_1 x2_1_2 x2_1_3 x2_1_4 x2_2_0 x2_2_1 x2_2_2 x2_2_3 x2_2_4 x2_2_5 x2f2 x2o0 x2n0 x2t0_0 x2t0_1 x2o1 x2n1 x2t1_0 x2t1_1 x2o2 x2n2 x2t2_0 x2t2_1 hBx2
  go_wp2_with fail
  refine hK.out _ _ (by simp [go_sem, World.cell?_alloc_past, *]) (fun hHeld => ?_)
  clear hK K
  try simp only [Act.put, sA, sB, sC]
  refine wpAnyH_ready (rs := [11]) (by kernel_rfl) (by simp) ?_
  refine AllReadyH.cons rfl (fun K hK => ?_) AllReadyH.nil
  go_simp
  refine (sumOf_ok a b c S _ hc hS).mono ?_
  rintro e xw4 ⟨rfl, hbx4⟩
  have zx4 := hbx4.size
  try simp at zx4
  obtain ⟨x4_0_0, x4_0_1, x4_0_2, x4_1_0, x4_1_1, x4_1_2, x4_1_3, x4_1_4, x4_2_0, x4_2_1, x4_2_2, x4_2_3, x4_2_4, x4_2_5⟩ : xw4.cell? ⟨w.heap.size, 0, none⟩ = some (.int .i64 a) ∧ xw4.cell? ⟨w.heap.size, 1, none⟩ = some (.int .i64 b) ∧ xw4.cell? ⟨w.heap.size, 2, none⟩ = some (.int .i64 c) ∧ xw4.cell? ⟨w.heap.size + 1, 0, none⟩ = some (.int .i64 o) ∧ xw4.cell? ⟨w.heap.size + 1, 1, none⟩ = some (.int .i64 h) ∧ xw4.cell? ⟨w.heap.size + 1, 2, none⟩ = some (.int .i64 p) ∧ xw4.cell? ⟨w.heap.size + 1, 3, none⟩ = some (.int .i64 q) ∧ xw4.cell? ⟨w.heap.size + 1, 4, none⟩ = some (.int .i64 T) ∧ xw4.cell? ⟨w.heap.size + 1 + 1, 0, none⟩ = some (.int .i64 0) ∧ xw4.cell? ⟨w.heap.size + 1 + 1, 1, none⟩ = some (.int .i64 0) ∧ xw4.cell? ⟨w.heap.size + 1 + 1, 2, none⟩ = some (.int .i64 0) ∧ xw4.cell? ⟨w.heap.size + 1 + 1, 3, none⟩ = some (.int .i64 0) ∧ xw4.cell? ⟨w.heap.size + 1 + 1, 4, none⟩ = some (.int .i64 0) ∧ xw4.cell? ⟨w.heap.size + 1 + 1, 5, none⟩ = some (.int .i64 0) := by refine ⟨?_, ?_, ?_, ?_, ?_, ?_, ?_, ?_, ?_, ?_, ?_, ?_, ?_, ?_⟩ <;> (rw [(bcell hbx4).1 _ _ (by first | (simp; done) | (simp; omega) | omega)]; simp [go_sem, World.cell?_alloc_past, *])
  have x4f2 : (∀ j, xw4.frozen? ⟨w.heap.size + 1 + 1, j, none⟩ = false) := by (intro j; rw [(bcell hbx4).2 _ _ (by first | (simp; done) | (simp; omega) | omega)]; simp [go_sem, *])
  obtain ⟨x4o0, x4n0, x4t0_0, x4t0_1, x4o1, x4n1, x4t1_0, x4t1_1, x4o2, x4n2, x4t2_0, x4t2_1⟩ : w.heap.size < xw4.heap.size ∧ xw4.heap.size ≠ w.heap.size ∧ w.heap.size < xw4.heap.size + 1 ∧ w.heap.size < xw4.heap.size + 1 + 1 ∧ w.heap.size + 1 < xw4.heap.size ∧ xw4.heap.size ≠ w.heap.size + 1 ∧ w.heap.size + 1 < xw4.heap.size + 1 ∧ w.heap.size + 1 < xw4.heap.size + 1 + 1 ∧ w.heap.size + 1 + 1 < xw4.heap.size ∧ xw4.heap.size ≠ w.heap.size + 1 + 1 ∧ w.heap.size + 1 + 1 < xw4.heap.size + 1 ∧ w.heap.size + 1 + 1 < xw4.heap.size + 1 + 1 := by refine ⟨?_, ?_, ?_, ?_, ?_, ?_, ?_, ?_, ?_, ?_, ?_, ?_⟩ <;> omega
  have hBx4 : Below w.heap.size w xw4 := (by (repeat (first | (with_reducible refine Below.drew ?_) | (with_reducible refine below_drewN ?_ _) | (with_reducible refine Below.alloc ?_ (by first | omega | (simp; done) | (simp; omega) | (simp at *; omega)) _) | (with_reducible refine Below.setCell ?_ (by first | omega | (simp; done) | (simp; omega) | (simp at *; omega)) _) | (with_reducible exact Below.refl _ _) | (with_reducible assumption) | (with_reducible refine Below.trans ?_ (Below.mono (by assumption) (by first | omega | (simp; done) | (simp; omega) | (simp at *; omega)))))))
  clear hbx4 x3_0_0 x3_0_1 x3_0_2 x3_1_0 x3_1_1 x3_1_2 x3_1_3 x3_1_4 x3_2_0 x3_2_1 x3_2_2 x3_2_3 x3_2_4 x3_2_5 x3f2 x3o0 x3n0 x3t0_0 x3t0_1 x3o1 x3n1 x3t1_0 x3t1_1 x3o2 x3n2 x3t2_0 x3t2_1 hBx3
  go_wp2_with fail
  refine hK.out _ _ (by simp [go_sem, World.cell?_alloc_past, *]) (fun hHeld => ?_)
  clear hK K
  try simp only [Act.put, sA, sB, sC]
  refine wpAnyH_ready (rs := [12]) (by kernel_rfl) (by simp) ?_
  refine AllReadyH.cons rfl (fun K hK => ?_) AllReadyH.nil
  go_simp
  refine (cRange_any _ _ _ _).mono ?_
  rintro e wq ⟨rfl, rfl⟩
  go_wp2_with fail
  refine hK.out _ _ (by simp [go_sem, World.cell?_alloc_past, *]) (fun hHeld => ?_)
  clear hK K
  try simp only [Act.put, sA, sB, sC]
  refine wpAnyH_ready (rs := [13]) (by kernel_rfl) (by simp) ?_
  refine AllReadyH.cons rfl (fun K hK => ?_) AllReadyH.nil
  go_simp
  go_wp2_with fail
  refine hK.out _ _ (by simp [go_sem, World.cell?_alloc_past, *]) (fun hHeld => ?_)
  clear hK K
  try simp only [Act.put, sA, sB, sC]
  refine wpAnyH_ready (rs := [14]) (by kernel_rfl) (by simp) ?_
  refine AllReadyH.cons rfl (fun K hK => ?_) AllReadyH.nil
  go_simp
  refine (cF4x 0 g1 g2 (rngE T S 1000000000) E _ _ hF (by simp [go_sem]) (by simp [go_sem]) (by simp [go_sem]) (by simp [go_sem])).mono ?_
  rintro e wq ⟨rfl, rfl⟩
  go_wp2_with fail
  refine hK.out _ _ (by simp [go_sem, World.cell?_alloc_past, *]) (fun hHeld => ?_)
  clear hK K
  try simp only [Act.put, sA, sB, sC]
  refine tkH 15 ⟨some 6, _, _, _, _, _⟩ ?_ rfl ?_ (by assumption) ?_
  rotate_left
  · (intro w hSw; (try dsimp only at hSw); go_simp; all_goals with_reducible rfl)
  try simp only [Act.put, sA, sB, sC]
  refine wpAnyH_done (by kernel_rfl) ?_ _
  go_wp2
  refine bodyPost_ret (v := .tuple #[.agg #[.int .i64 0, .int .i64 0, .int .i64 0, .int .i64 0, .int .i64 0, .int .i64 0], .int .i64 E]) (by simp [results, Try.results39, go_sem, *]) rfl ⟨rfl, ?_⟩
  (repeat (first | (with_reducible refine Below.drew ?_) | (with_reducible refine below_drewN ?_ _) | (with_reducible refine Below.alloc ?_ (by first | omega | (simp; done) | (simp; omega) | (simp at *; omega)) _) | (with_reducible refine Below.setCell ?_ (by first | omega | (simp; done) | (simp; omega) | (simp at *; omega)) _) | (with_reducible exact Below.refl _ _) | (with_reducible assumption) | (with_reducible refine Below.trans ?_ (Below.mono (by assumption) (by first | omega | (simp; done) | (simp; omega) | (simp at *; omega))))))
/-- What is missing and the shares of the top gas lie in blocks of their own. -/
def PF4 (a b c o h p q T X Y Z m : Int) (w : World) (s7 s8 : Value) (wx : World) : Prop := ∃ u v, s7 = .pointer (some ⟨u, 0, none⟩) ∧ s8 = .pointer (some ⟨v, 0, none⟩) ∧ u < wx.heap.size ∧ v < wx.heap.size ∧ w.heap.size + 1 + 1 < u ∧ w.heap.size + 1 + 1 < v ∧ (wx.cell? ⟨w.heap.size + 1 + 1, 0, none⟩ = some (.int .i64 0) ∧ wx.cell? ⟨w.heap.size + 1 + 1, 1, none⟩ = some (.int .i64 0) ∧ wx.cell? ⟨w.heap.size + 1 + 1, 2, none⟩ = some (.int .i64 0) ∧ wx.cell? ⟨w.heap.size + 1 + 1, 3, none⟩ = some (.int .i64 0) ∧ wx.cell? ⟨w.heap.size + 1 + 1, 4, none⟩ = some (.int .i64 0) ∧ wx.cell? ⟨w.heap.size + 1 + 1, 5, none⟩ = some (.int .i64 0) ∧ wx.cell? ⟨u, 0, none⟩ = some (.int .i64 X) ∧ wx.cell? ⟨u, 1, none⟩ = some (.int .i64 Y) ∧ wx.cell? ⟨u, 2, none⟩ = some (.int .i64 Z) ∧ wx.cell? ⟨v, 0, none⟩ = some (.int .i64 p) ∧ wx.cell? ⟨v, 1, none⟩ = some (.int .i64 q) ∧ wx.cell? ⟨v, 2, none⟩ = some (.int .i64 m)) ∧ (∀ j, wx.frozen? ⟨w.heap.size + 1 + 1, j, none⟩ = false) ∧ Below w.heap.size w wx
theorem mulbd {x k : Int} (h0 : -1000000000000 ≤ x) (h1 : x ≤ 1000000000000) (k0 : 0 ≤ k) (k1 : k ≤ 1000) : -1000000000000000 ≤ x * k ∧ x * k ≤ 1000000000000000 := by
  have a := Int.mul_le_mul_of_nonneg_right h1 k0
  have b := Int.mul_le_mul_of_nonneg_right h0 k0
  have c := Int.mul_le_mul_of_nonneg_left k1 (show (0 : Int) ≤ 1000000000000 by omega)
  omega
set_option maxHeartbeats 16000000 in
set_option maxRecDepth 100000 in
theorem PF_rest (a b c o h p q T S n m P Q U X Y Z M0 M1 M2 M3 A0 A1 D E r0 R0 r1 R1 r2 R2 : Int) (w : World) (hE : Hid (conE a b c = 0)) (hc : Hid (conB a b c = true)) (hG : Hid (gasE o h = 0)) (hG2 : Hid (gasE p q = 0)) (hS : Hid (a + b + c = S)) (hF : Hid (firE [0, 0, 0, rngE T S 1000000000] = 0)) (T0 : 0 ≤ T) (T1 : T ≤ 1000000000) (hn : Hid (1000 - o - h = n)) (hm : Hid (1000 - p - q = m)) (hP : Hid (T * o = P ∧ T * h = Q ∧ T * n = U)) (hX : Hid (P - 1000 * a = X ∧ Q - 1000 * b = Y ∧ U - 1000 * c = Z)) (hM : Hid (X * m = M0 ∧ Z * p = M1 ∧ Y * m = M2 ∧ Z * q = M3)) (hA : Hid (M0 - M1 = A0 ∧ M2 - M3 = A1)) (hD : Hid (1000 * m = D)) (hway : (m = 0 ∧ E = 11 ∧ r0 = 0 ∧ R0 = 0 ∧ r1 = 0 ∧ R1 = 0 ∧ r2 = 0 ∧ R2 = 0) ∨ (¬ m = 0 ∧ A0 < 0 ∧ E = 12 ∧ r0 = 0 ∧ R0 = 0 ∧ r1 = 0 ∧ R1 = 0 ∧ r2 = 0 ∧ R2 = 0) ∨ (¬ m = 0 ∧ ¬ A0 < 0 ∧ A1 < 0 ∧ E = 12 ∧ r0 = 0 ∧ R0 = 0 ∧ r1 = 0 ∧ R1 = 0 ∧ r2 = 0 ∧ R2 = 0) ∨ (¬ m = 0 ∧ ¬ A0 < 0 ∧ ¬ A1 < 0 ∧ Z < 0 ∧ E = 12 ∧ r0 = 0 ∧ R0 = 0 ∧ r1 = 0 ∧ R1 = 0 ∧ r2 = 0 ∧ R2 = 0) ∨ (¬ m = 0 ∧ ¬ A0 < 0 ∧ ¬ A1 < 0 ∧ ¬ Z < 0 ∧ E = 0 ∧ Hid (A0 / D = r0 ∧ upI A0 D = R0 ∧ A1 / D = r1 ∧ upI A1 D = R1 ∧ Z / m = r2 ∧ upI Z m = R2))) : Calls Try.prog 39 #[.agg #[.int .i64 a, .int .i64 b, .int .i64 c], .agg #[.int .i64 o, .int .i64 h, .int .i64 p, .int .i64 q, .int .i64 T]] w fun e w' => e = .returned (.tuple #[.agg #[.int .i64 r0, .int .i64 R0, .int .i64 r1, .int .i64 R1, .int .i64 r2, .int .i64 R2], .int .i64 E]) ∧ Below w.heap.size w w' := by
  obtain ⟨a0, b0, c0, s1⟩ := conB_iff.1 hc.out
  obtain ⟨o0, o1, h0, h1, oh⟩ := gasE_zF hG.out
  obtain ⟨p0, p1, q0, q1, pq⟩ := gasE_zF hG2.out
  have m0 : 0 ≤ m ∧ m ≤ 1000 := by rw [← hm.out]; omega
  obtain ⟨m0, m1⟩ := m0
  have n0 : 0 ≤ n ∧ n ≤ 1000 := by rw [← hn.out]; omega
  have tb : ∀ k : Int, 0 ≤ k → k ≤ 1000 → 0 ≤ T * k ∧ T * k ≤ 1000000000000 := fun k g1 g2 => ⟨Int.mul_nonneg T0 g1, Int.le_trans (Int.mul_le_mul T1 g2 g1 (by omega)) (by omega)⟩
  have bP := tb o o0 o1
  have bQ := tb h h0 h1
  have bU := tb n n0.1 n0.2
  rw [hP.out.1] at bP
  rw [hP.out.2.1] at bQ
  rw [hP.out.2.2] at bU
  have bX : -1000000000000 ≤ X ∧ X ≤ 1000000000000 := by have := hX.out.1; omega
  have bY : -1000000000000 ≤ Y ∧ Y ≤ 1000000000000 := by have := hX.out.2.1; omega
  have bZ : -1000000000000 ≤ Z ∧ Z ≤ 1000000000000 := by have := hX.out.2.2; omega
  have c0' := mulbd bX.1 bX.2 m0 m1
  have c1' := mulbd bZ.1 bZ.2 p0 p1
  have c2' := mulbd bY.1 bY.2 m0 m1
  have c3' := mulbd bZ.1 bZ.2 q0 q1
  rw [hM.out.1] at c0'
  rw [hM.out.2.1] at c1'
  rw [hM.out.2.2.1] at c2'
  rw [hM.out.2.2.2] at c3'
  have w0 : IntKind.i64.wrap (X * m) = M0 := by rw [hM.out.1]; exact IntWalk.i64_in _ (by omega)
  have w1 : IntKind.i64.wrap (Z * p) = M1 := by rw [hM.out.2.1]; exact IntWalk.i64_in _ (by omega)
  have w2 : IntKind.i64.wrap (Y * m) = M2 := by rw [hM.out.2.2.1]; exact IntWalk.i64_in _ (by omega)
  have w3 : IntKind.i64.wrap (Z * q) = M3 := by rw [hM.out.2.2.2]; exact IntWalk.i64_in _ (by omega)
  have w4 : IntKind.i64.wrap (M0 - M1) = A0 := by rw [hA.out.1]; exact IntWalk.i64_in _ (by have := hA.out.1; omega)
  have w5 : IntKind.i64.wrap (M2 - M3) = A1 := by rw [hA.out.2]; exact IntWalk.i64_in _ (by have := hA.out.2; omega)
  have w6 : IntKind.i64.wrap (1000 * m) = D := by rw [hD.out]; exact IntWalk.i64_in _ (by have := hD.out; omega)
  have v0 : wrap64 (X * m) = M0 := (IntWalk.i64_left _).symm.trans w0
  have v1 : wrap64 (Z * p) = M1 := (IntWalk.i64_left _).symm.trans w1
  have v2 : wrap64 (Y * m) = M2 := (IntWalk.i64_left _).symm.trans w2
  have v3 : wrap64 (Z * q) = M3 := (IntWalk.i64_left _).symm.trans w3
  have bA0 : -4000000000000000000 ≤ A0 ∧ A0 ≤ 4000000000000000000 := by have := hA.out.1; omega
  have bA1 : -4000000000000000000 ≤ A1 ∧ A1 ≤ 4000000000000000000 := by have := hA.out.2; omega
  have bD : D ≤ 1000000 := by have := hD.out; omega
  have dm1 : ¬ m = 0 → 1 ≤ m := fun h => by omega
  have dm2 : ¬ m = 0 → 1 ≤ D := fun h => by have := hD.out; omega
  have HDM := Lib.hid (And.intro dm1 dm2)
  have e1 : M0 - M1 = A0 := hA.out.1
  have e2 : M2 - M3 = A1 := hA.out.2
  have e3 : 1000 * m = D := hD.out
  have E123 := Lib.hid (And.intro e1 (And.intro e2 e3))
  clear tb bP bQ bU c0' c1' c2' c3' dm1 dm2 e1 e2 e3
  have ir0 : ∀ w : World, (Instr.index 148 (.agg #[.int .i64 A0, .int .i64 D, .int .i64 A1, .int .i64 D, .int .i64 Z, .int .i64 m]) (.int .i64 0)).run Try.prog w = .ok (.agg #[.int .i64 A0, .int .i64 D]) w := fun _ => by kernel_rfl
  have ir1 : ∀ w : World, (Instr.index 148 (.agg #[.int .i64 A0, .int .i64 D, .int .i64 A1, .int .i64 D, .int .i64 Z, .int .i64 m]) (.int .i64 1)).run Try.prog w = .ok (.agg #[.int .i64 A1, .int .i64 D]) w := fun _ => by kernel_rfl
  have ir2 : ∀ w : World, (Instr.index 148 (.agg #[.int .i64 A0, .int .i64 D, .int .i64 A1, .int .i64 D, .int .i64 Z, .int .i64 m]) (.int .i64 2)).run Try.prog w = .ok (.agg #[.int .i64 Z, .int .i64 m]) w := fun _ => by kernel_rfl
  go_enter Try.func39, Try.ntmps39
  go_upto_region 1 with (fail)
  refine wp_region_held_drew (S := (fun w' => w'.cell? ⟨w.heap.size, 0, none⟩ = some (.int .i64 a) ∧ w'.cell? ⟨w.heap.size, 1, none⟩ = some (.int .i64 b) ∧ w'.cell? ⟨w.heap.size, 2, none⟩ = some (.int .i64 c) ∧ w'.cell? ⟨w.heap.size + 1, 0, none⟩ = some (.int .i64 o) ∧ w'.cell? ⟨w.heap.size + 1, 1, none⟩ = some (.int .i64 h) ∧ w'.cell? ⟨w.heap.size + 1, 2, none⟩ = some (.int .i64 p) ∧ w'.cell? ⟨w.heap.size + 1, 3, none⟩ = some (.int .i64 q) ∧ w'.cell? ⟨w.heap.size + 1, 4, none⟩ = some (.int .i64 T))) (by kernel_rfl) (by simp [go_sem, World.cell?_alloc_past, *]) (fun hHeld => ?_)
  refine tkH 0 ⟨some 13, _, _, _, _, _⟩ ?_ rfl ?_ (by assumption) ?_
  rotate_left
  · (intro w hSw; (try dsimp only at hSw); go_simp; all_goals with_reducible rfl)
  try simp only [Act.put, sA, sB, sC]
  refine tkH 2 ⟨some 15, _, _, _, _, _⟩ ?_ rfl ?_ (by assumption) ?_
  rotate_left
  · (intro w hSw; (try dsimp only at hSw); go_simp; all_goals with_reducible rfl)
  try simp only [Act.put, sA, sB, sC]
  refine tkH 3 ⟨some 16, _, _, _, _, _⟩ ?_ rfl ?_ (by assumption) ?_
  rotate_left
  · (intro w hSw; (try dsimp only at hSw); go_simp; all_goals with_reducible rfl)
  try simp only [Act.put, sA, sB, sC]
  refine tkH 5 ⟨some 18, _, _, _, _, _⟩ ?_ rfl ?_ (by assumption) ?_
  rotate_left
  · (intro w hSw; (try dsimp only at hSw); go_simp; all_goals with_reducible rfl)
  try simp only [Act.put, sA, sB, sC]
  refine tkH 6 ⟨some 19, _, _, _, _, _⟩ ?_ rfl ?_ (by assumption) ?_
  rotate_left
  · (intro w hSw; (try dsimp only at hSw); go_simp; all_goals with_reducible rfl)
  try simp only [Act.put, sA, sB, sC]
  refine tkH 8 ⟨some 21, _, _, _, _, _⟩ ?_ rfl ?_ (by assumption) ?_
  rotate_left
  · (intro w hSw; (try dsimp only at hSw); go_simp; all_goals with_reducible rfl)
  try simp only [Act.put, sA, sB, sC]
  refine tkH 9 ⟨some 22, _, _, _, _, _⟩ ?_ rfl ?_ (by assumption) ?_
  rotate_left
  · (intro w hSw; (try dsimp only at hSw); go_simp; all_goals with_reducible rfl)
  try simp only [Act.put, sA, sB, sC]
  refine tkH 10 ⟨some 23, _, _, _, _, _⟩ ?_ rfl ?_ (by assumption) ?_
  rotate_left
  · (intro w hSw; (try dsimp only at hSw); go_simp; all_goals with_reducible rfl)
  try simp only [Act.put, sA, sB, sC]
  refine wpAnyH_ready (rs := [1]) (by kernel_rfl) (by simp) ?_
  refine AllReadyH.cons rfl (fun K hK => ?_) AllReadyH.nil
  go_simp
  refine (checkContent_any a b c 0 _ hE).mono ?_
  rintro e xw1 ⟨rfl, hbx1⟩
  have zx1 := hbx1.size
  try simp at zx1
  obtain ⟨x1_0_0, x1_0_1, x1_0_2, x1_1_0, x1_1_1, x1_1_2, x1_1_3, x1_1_4, x1_2_0, x1_2_1, x1_2_2, x1_2_3, x1_2_4, x1_2_5⟩ : xw1.cell? ⟨w.heap.size, 0, none⟩ = some (.int .i64 a) ∧ xw1.cell? ⟨w.heap.size, 1, none⟩ = some (.int .i64 b) ∧ xw1.cell? ⟨w.heap.size, 2, none⟩ = some (.int .i64 c) ∧ xw1.cell? ⟨w.heap.size + 1, 0, none⟩ = some (.int .i64 o) ∧ xw1.cell? ⟨w.heap.size + 1, 1, none⟩ = some (.int .i64 h) ∧ xw1.cell? ⟨w.heap.size + 1, 2, none⟩ = some (.int .i64 p) ∧ xw1.cell? ⟨w.heap.size + 1, 3, none⟩ = some (.int .i64 q) ∧ xw1.cell? ⟨w.heap.size + 1, 4, none⟩ = some (.int .i64 T) ∧ xw1.cell? ⟨w.heap.size + 1 + 1, 0, none⟩ = some (.int .i64 0) ∧ xw1.cell? ⟨w.heap.size + 1 + 1, 1, none⟩ = some (.int .i64 0) ∧ xw1.cell? ⟨w.heap.size + 1 + 1, 2, none⟩ = some (.int .i64 0) ∧ xw1.cell? ⟨w.heap.size + 1 + 1, 3, none⟩ = some (.int .i64 0) ∧ xw1.cell? ⟨w.heap.size + 1 + 1, 4, none⟩ = some (.int .i64 0) ∧ xw1.cell? ⟨w.heap.size + 1 + 1, 5, none⟩ = some (.int .i64 0) := by refine ⟨?_, ?_, ?_, ?_, ?_, ?_, ?_, ?_, ?_, ?_, ?_, ?_, ?_, ?_⟩ <;> (rw [(bcell hbx1).1 _ _ (by first | (simp; done) | (simp; omega) | omega)]; simp [go_sem, World.cell?_alloc_past, *])
  have x1f2 : (∀ j, xw1.frozen? ⟨w.heap.size + 1 + 1, j, none⟩ = false) := by (intro j; rw [(bcell hbx1).2 _ _ (by first | (simp; done) | (simp; omega) | omega)]; simp [go_sem, *])
  obtain ⟨x1o0, x1n0, x1t0_0, x1t0_1, x1o1, x1n1, x1t1_0, x1t1_1, x1o2, x1n2, x1t2_0, x1t2_1⟩ : w.heap.size < xw1.heap.size ∧ xw1.heap.size ≠ w.heap.size ∧ w.heap.size < xw1.heap.size + 1 ∧ w.heap.size < xw1.heap.size + 1 + 1 ∧ w.heap.size + 1 < xw1.heap.size ∧ xw1.heap.size ≠ w.heap.size + 1 ∧ w.heap.size + 1 < xw1.heap.size + 1 ∧ w.heap.size + 1 < xw1.heap.size + 1 + 1 ∧ w.heap.size + 1 + 1 < xw1.heap.size ∧ xw1.heap.size ≠ w.heap.size + 1 + 1 ∧ w.heap.size + 1 + 1 < xw1.heap.size + 1 ∧ w.heap.size + 1 + 1 < xw1.heap.size + 1 + 1 := by refine ⟨?_, ?_, ?_, ?_, ?_, ?_, ?_, ?_, ?_, ?_, ?_, ?_⟩ <;> omega
  have hBx1 : Below w.heap.size w xw1 := (by (repeat (first | (with_reducible refine Below.drew ?_) | (with_reducible refine below_drewN ?_ _) | (with_reducible refine Below.alloc ?_ (by first | omega | (simp; done) | (simp; omega) | (simp at *; omega)) _) | (with_reducible refine Below.setCell ?_ (by first | omega | (simp; done) | (simp; omega) | (simp at *; omega)) _) | (with_reducible exact Below.refl _ _) | (with_reducible assumption) | (with_reducible refine Below.trans ?_ (Below.mono (by assumption) (by first | omega | (simp; done) | (simp; omega) | (simp at *; omega)))))))
  clear hbx1 
  go_wp2_with fail
  refine hK.out _ _ (by simp [go_sem, World.cell?_alloc_past, *]) (fun hHeld => ?_)
  clear hK K
  try simp only [Act.put, sA, sB, sC]
  refine wpAnyH_ready (rs := [4]) (by kernel_rfl) (by simp) ?_
  refine AllReadyH.cons rfl (fun K hK => ?_) AllReadyH.nil
  go_simp
  refine (CheckGas_x o h 0 _ hG).mono ?_
  rintro e xw2 ⟨rfl, hbx2⟩
  have zx2 := hbx2.size
  try simp at zx2
  obtain ⟨x2_0_0, x2_0_1, x2_0_2, x2_1_0, x2_1_1, x2_1_2, x2_1_3, x2_1_4, x2_2_0, x2_2_1, x2_2_2, x2_2_3, x2_2_4, x2_2_5⟩ : xw2.cell? ⟨w.heap.size, 0, none⟩ = some (.int .i64 a) ∧ xw2.cell? ⟨w.heap.size, 1, none⟩ = some (.int .i64 b) ∧ xw2.cell? ⟨w.heap.size, 2, none⟩ = some (.int .i64 c) ∧ xw2.cell? ⟨w.heap.size + 1, 0, none⟩ = some (.int .i64 o) ∧ xw2.cell? ⟨w.heap.size + 1, 1, none⟩ = some (.int .i64 h) ∧ xw2.cell? ⟨w.heap.size + 1, 2, none⟩ = some (.int .i64 p) ∧ xw2.cell? ⟨w.heap.size + 1, 3, none⟩ = some (.int .i64 q) ∧ xw2.cell? ⟨w.heap.size + 1, 4, none⟩ = some (.int .i64 T) ∧ xw2.cell? ⟨w.heap.size + 1 + 1, 0, none⟩ = some (.int .i64 0) ∧ xw2.cell? ⟨w.heap.size + 1 + 1, 1, none⟩ = some (.int .i64 0) ∧ xw2.cell? ⟨w.heap.size + 1 + 1, 2, none⟩ = some (.int .i64 0) ∧ xw2.cell? ⟨w.heap.size + 1 + 1, 3, none⟩ = some (.int .i64 0) ∧ xw2.cell? ⟨w.heap.size + 1 + 1, 4, none⟩ = some (.int .i64 0) ∧ xw2.cell? ⟨w.heap.size + 1 + 1, 5, none⟩ = some (.int .i64 0) := by refine ⟨?_, ?_, ?_, ?_, ?_, ?_, ?_, ?_, ?_, ?_, ?_, ?_, ?_, ?_⟩ <;> (rw [(bcell hbx2).1 _ _ (by first | (simp; done) | (simp; omega) | omega)]; simp [go_sem, World.cell?_alloc_past, *])
  have x2f2 : (∀ j, xw2.frozen? ⟨w.heap.size + 1 + 1, j, none⟩ = false) := by (intro j; rw [(bcell hbx2).2 _ _ (by first | (simp; done) | (simp; omega) | omega)]; simp [go_sem, *])
  obtain ⟨x2o0, x2n0, x2t0_0, x2t0_1, x2o1, x2n1, x2t1_0, x2t1_1, x2o2, x2n2, x2t2_0, x2t2_1⟩ : w.heap.size < xw2.heap.size ∧ xw2.heap.size ≠ w.heap.size ∧ w.heap.size < xw2.heap.size + 1 ∧ w.heap.size < xw2.heap.size + 1 + 1 ∧ w.heap.size + 1 < xw2.heap.size ∧ xw2.heap.size ≠ w.heap.size + 1 ∧ w.heap.size + 1 < xw2.heap.size + 1 ∧ w.heap.size + 1 < xw2.heap.size + 1 + 1 ∧ w.heap.size + 1 + 1 < xw2.heap.size ∧ xw2.heap.size ≠ w.heap.size + 1 + 1 ∧ w.heap.size + 1 + 1 < xw2.heap.size + 1 ∧ w.heap.size + 1 + 1 < xw2.heap.size + 1 + 1 := by refine ⟨?_, ?_, ?_, ?_, ?_, ?_, ?_, ?_, ?_, ?_, ?_, ?_⟩ <;> omega
  have hBx2 : Below w.heap.size w xw2 := (by (repeat (first | (with_reducible refine Below.drew ?_) | (with_reducible refine below_drewN ?_ _) | (with_reducible refine Below.alloc ?_ (by first | omega | (simp; done) | (simp; omega) | (simp at *; omega)) _) | (with_reducible refine Below.setCell ?_ (by first | omega | (simp; done) | (simp; omega) | (simp at *; omega)) _) | (with_reducible exact Below.refl _ _) | (with_reducible assumption) | (with_reducible refine Below.trans ?_ (Below.mono (by assumption) (by first | omega | (simp; done) | (simp; omega) | (simp at *; omega)))))))
  clear hbx2 x1_0_0 x1_0_1 x1_0_2 x1_1_0 x1_1_1 x1_1_2 x1_1_3 x1_1_4 x1_2_0 x1_2_1 x1_2_2 x1_2_3 x1_2_4 x1_2_5 x1f2 x1o0 x1n0 x1t0_0 x1t0_1 x1o1 x1n1 x1t1_0 x1t1_1 x1o2 x1n2 x1t2_0 x1t2_1 hBx1
  go_wp2_with fail
  refine hK.out _ _ (by simp [go_sem, World.cell?_alloc_past, *]) (fun hHeld => ?_)
  clear hK K
  try simp only [Act.put, sA, sB, sC]
  refine wpAnyH_ready (rs := [7]) (by kernel_rfl) (by simp) ?_
  refine AllReadyH.cons rfl (fun K hK => ?_) AllReadyH.nil
  go_simp
  refine (CheckGas_x p q 0 _ hG2).mono ?_
  rintro e xw3 ⟨rfl, hbx3⟩
  have zx3 := hbx3.size
  try simp at zx3
  obtain ⟨x3_0_0, x3_0_1, x3_0_2, x3_1_0, x3_1_1, x3_1_2, x3_1_3, x3_1_4, x3_2_0, x3_2_1, x3_2_2, x3_2_3, x3_2_4, x3_2_5⟩ : xw3.cell? ⟨w.heap.size, 0, none⟩ = some (.int .i64 a) ∧ xw3.cell? ⟨w.heap.size, 1, none⟩ = some (.int .i64 b) ∧ xw3.cell? ⟨w.heap.size, 2, none⟩ = some (.int .i64 c) ∧ xw3.cell? ⟨w.heap.size + 1, 0, none⟩ = some (.int .i64 o) ∧ xw3.cell? ⟨w.heap.size + 1, 1, none⟩ = some (.int .i64 h) ∧ xw3.cell? ⟨w.heap.size + 1, 2, none⟩ = some (.int .i64 p) ∧ xw3.cell? ⟨w.heap.size + 1, 3, none⟩ = some (.int .i64 q) ∧ xw3.cell? ⟨w.heap.size + 1, 4, none⟩ = some (.int .i64 T) ∧ xw3.cell? ⟨w.heap.size + 1 + 1, 0, none⟩ = some (.int .i64 0) ∧ xw3.cell? ⟨w.heap.size + 1 + 1, 1, none⟩ = some (.int .i64 0) ∧ xw3.cell? ⟨w.heap.size + 1 + 1, 2, none⟩ = some (.int .i64 0) ∧ xw3.cell? ⟨w.heap.size + 1 + 1, 3, none⟩ = some (.int .i64 0) ∧ xw3.cell? ⟨w.heap.size + 1 + 1, 4, none⟩ = some (.int .i64 0) ∧ xw3.cell? ⟨w.heap.size + 1 + 1, 5, none⟩ = some (.int .i64 0) := by refine ⟨?_, ?_, ?_, ?_, ?_, ?_, ?_, ?_, ?_, ?_, ?_, ?_, ?_, ?_⟩ <;> (rw [(bcell hbx3).1 _ _ (by first | (simp; done) | (simp; omega) | omega)]; simp [go_sem, World.cell?_alloc_past, *])
  have x3f2 : (∀ j, xw3.frozen? ⟨w.heap.size + 1 + 1, j, none⟩ = false) := by (intro j; rw [(bcell hbx3).2 _ _ (by first | (simp; done) | (simp; omega) | omega)]; simp [go_sem, *])
  obtain ⟨x3o0, x3n0, x3t0_0, x3t0_1, x3o1, x3n1, x3t1_0, x3t1_1, x3o2, x3n2, x3t2_0, x3t2_1⟩ : w.heap.size < xw3.heap.size ∧ xw3.heap.size ≠ w.heap.size ∧ w.heap.size < xw3.heap.size + 1 ∧ w.heap.size < xw3.heap.size + 1 + 1 ∧ w.heap.size + 1 < xw3.heap.size ∧ xw3.heap.size ≠ w.heap.size + 1 ∧ w.heap.size + 1 < xw3.heap.size + 1 ∧ w.heap.size + 1 < xw3.heap.size + 1 + 1 ∧ w.heap.size + 1 + 1 < xw3.heap.size ∧ xw3.heap.size ≠ w.heap.size + 1 + 1 ∧ w.heap.size + 1 + 1 < xw3.heap.size + 1 ∧ w.heap.size + 1 + 1 < xw3.heap.size + 1 + 1 := by refine ⟨?_, ?_, ?_, ?_, ?_, ?_, ?_, ?_, ?_, ?_, ?_, ?_⟩ <;> omega
  have hBx3 : Below w.heap.size w xw3 := (by (repeat (first | (with_reducible refine Below.drew ?_) | (with_reducible refine below_drewN ?_ _) | (with_reducible refine Below.alloc ?_ (by first | omega | (simp; done) | (simp; omega) | (simp at *; omega)) _) | (with_reducible refine Below.setCell ?_ (by first | omega | (simp; done) | (simp; omega) | (simp at *; omega)) _) | (with_reducible exact Below.refl _ _) | (with_reducible assumption) | (with_reducible refine Below.trans ?_ (Below.mono (by assumption) (by first | omega | (simp; done) | (simp; omega) | (simp at *; omega)))))))
  clear hbx3 x2_0_0 x2_0_1 x2_0_2 x2_1_0 x2_1_1 x2_1_2 x2_1_3 x2_1_4 x2_2_0 x2_2_1 x2_2_2 x2_2_3 x2_2_4 x2_2_5 x2f2 x2o0 x2n0 x2t0_0 x2t0_1 x2o1 x2n1 x2t1_0 x2t1_1 x2o2 x2n2 x2t2_0 x2t2_1 hBx2
  go_wp2_with fail
  refine hK.out _ _ (by simp [go_sem, World.cell?_alloc_past, *]) (fun hHeld => ?_)
  clear hK K
  try simp only [Act.put, sA, sB, sC]
  refine wpAnyH_ready (rs := [11]) (by kernel_rfl) (by simp) ?_
  refine AllReadyH.cons rfl (fun K hK => ?_) AllReadyH.nil
  go_simp
  refine (sumOf_ok a b c S _ hc hS).mono ?_
  rintro e xw4 ⟨rfl, hbx4⟩
  have zx4 := hbx4.size
  try simp at zx4
  obtain ⟨x4_0_0, x4_0_1, x4_0_2, x4_1_0, x4_1_1, x4_1_2, x4_1_3, x4_1_4, x4_2_0, x4_2_1, x4_2_2, x4_2_3, x4_2_4, x4_2_5⟩ : xw4.cell? ⟨w.heap.size, 0, none⟩ = some (.int .i64 a) ∧ xw4.cell? ⟨w.heap.size, 1, none⟩ = some (.int .i64 b) ∧ xw4.cell? ⟨w.heap.size, 2, none⟩ = some (.int .i64 c) ∧ xw4.cell? ⟨w.heap.size + 1, 0, none⟩ = some (.int .i64 o) ∧ xw4.cell? ⟨w.heap.size + 1, 1, none⟩ = some (.int .i64 h) ∧ xw4.cell? ⟨w.heap.size + 1, 2, none⟩ = some (.int .i64 p) ∧ xw4.cell? ⟨w.heap.size + 1, 3, none⟩ = some (.int .i64 q) ∧ xw4.cell? ⟨w.heap.size + 1, 4, none⟩ = some (.int .i64 T) ∧ xw4.cell? ⟨w.heap.size + 1 + 1, 0, none⟩ = some (.int .i64 0) ∧ xw4.cell? ⟨w.heap.size + 1 + 1, 1, none⟩ = some (.int .i64 0) ∧ xw4.cell? ⟨w.heap.size + 1 + 1, 2, none⟩ = some (.int .i64 0) ∧ xw4.cell? ⟨w.heap.size + 1 + 1, 3, none⟩ = some (.int .i64 0) ∧ xw4.cell? ⟨w.heap.size + 1 + 1, 4, none⟩ = some (.int .i64 0) ∧ xw4.cell? ⟨w.heap.size + 1 + 1, 5, none⟩ = some (.int .i64 0) := by refine ⟨?_, ?_, ?_, ?_, ?_, ?_, ?_, ?_, ?_, ?_, ?_, ?_, ?_, ?_⟩ <;> (rw [(bcell hbx4).1 _ _ (by first | (simp; done) | (simp; omega) | omega)]; simp [go_sem, World.cell?_alloc_past, *])
  have x4f2 : (∀ j, xw4.frozen? ⟨w.heap.size + 1 + 1, j, none⟩ = false) := by (intro j; rw [(bcell hbx4).2 _ _ (by first | (simp; done) | (simp; omega) | omega)]; simp [go_sem, *])
  obtain ⟨x4o0, x4n0, x4t0_0, x4t0_1, x4o1, x4n1, x4t1_0, x4t1_1, x4o2, x4n2, x4t2_0, x4t2_1⟩ : w.heap.size < xw4.heap.size ∧ xw4.heap.size ≠ w.heap.size ∧ w.heap.size < xw4.heap.size + 1 ∧ w.heap.size < xw4.heap.size + 1 + 1 ∧ w.heap.size + 1 < xw4.heap.size ∧ xw4.heap.size ≠ w.heap.size + 1 ∧ w.heap.size + 1 < xw4.heap.size + 1 ∧ w.heap.size + 1 < xw4.heap.size + 1 + 1 ∧ w.heap.size + 1 + 1 < xw4.heap.size ∧ xw4.heap.size ≠ w.heap.size + 1 + 1 ∧ w.heap.size + 1 + 1 < xw4.heap.size + 1 ∧ w.heap.size + 1 + 1 < xw4.heap.size + 1 + 1 := by refine ⟨?_, ?_, ?_, ?_, ?_, ?_, ?_, ?_, ?_, ?_, ?_, ?_⟩ <;> omega
  have hBx4 : Below w.heap.size w xw4 := (by (repeat (first | (with_reducible refine Below.drew ?_) | (with_reducible refine below_drewN ?_ _) | (with_reducible refine Below.alloc ?_ (by first | omega | (simp; done) | (simp; omega) | (simp at *; omega)) _) | (with_reducible refine Below.setCell ?_ (by first | omega | (simp; done) | (simp; omega) | (simp at *; omega)) _) | (with_reducible exact Below.refl _ _) | (with_reducible assumption) | (with_reducible refine Below.trans ?_ (Below.mono (by assumption) (by first | omega | (simp; done) | (simp; omega) | (simp at *; omega)))))))
  clear hbx4 x3_0_0 x3_0_1 x3_0_2 x3_1_0 x3_1_1 x3_1_2 x3_1_3 x3_1_4 x3_2_0 x3_2_1 x3_2_2 x3_2_3 x3_2_4 x3_2_5 x3f2 x3o0 x3n0 x3t0_0 x3t0_1 x3o1 x3n1 x3t1_0 x3t1_1 x3o2 x3n2 x3t2_0 x3t2_1 hBx3
  go_wp2_with fail
  refine hK.out _ _ (by simp [go_sem, World.cell?_alloc_past, *]) (fun hHeld => ?_)
  clear hK K
  try simp only [Act.put, sA, sB, sC]
  refine wpAnyH_ready (rs := [12]) (by kernel_rfl) (by simp) ?_
  refine AllReadyH.cons rfl (fun K hK => ?_) AllReadyH.nil
  go_simp
  refine (cRange_any _ _ _ _).mono ?_
  rintro e wq ⟨rfl, rfl⟩
  go_wp2_with fail
  refine hK.out _ _ (by simp [go_sem, World.cell?_alloc_past, *]) (fun hHeld => ?_)
  clear hK K
  try simp only [Act.put, sA, sB, sC]
  refine wpAnyH_ready (rs := [13]) (by kernel_rfl) (by simp) ?_
  refine AllReadyH.cons rfl (fun K hK => ?_) AllReadyH.nil
  go_simp
  go_wp2_with fail
  refine hK.out _ _ (by simp [go_sem, World.cell?_alloc_past, *]) (fun hHeld => ?_)
  clear hK K
  try simp only [Act.put, sA, sB, sC]
  refine wpAnyH_ready (rs := [14]) (by kernel_rfl) (by simp) ?_
  refine AllReadyH.cons rfl (fun K hK => ?_) AllReadyH.nil
  go_simp
  refine (cF4x 0 0 0 (rngE T S 1000000000) 0 _ _ hF (by simp [go_sem]) (by simp [go_sem]) (by simp [go_sem]) (by simp [go_sem])).mono ?_
  rintro e wq ⟨rfl, rfl⟩
  go_wp2_with fail
  refine hK.out _ _ (by simp [go_sem, World.cell?_alloc_past, *]) (fun hHeld => ?_)
  clear hK K
  try simp only [Act.put, sA, sB, sC]
  refine tkH 15 ⟨some 6, _, _, _, _, _⟩ ?_ rfl ?_ (by assumption) ?_
  rotate_left
  · (intro w hSw; (try dsimp only at hSw); go_simp; all_goals with_reducible rfl)
  try simp only [Act.put, sA, sB, sC]
  refine wpAnyH_done (by kernel_rfl) ?_ _
  go_upto_region 4 with (fail)
  go_cut [7, 8] from 32 to 37 (fun s7 s8 wx => PF4 a b c o h p q T X Y Z m w s7 s8 wx)
  case first =>
    refine wp_region_held_drew (S := (fun w' => w'.cell? ⟨w.heap.size, 0, none⟩ = some (.int .i64 a) ∧ w'.cell? ⟨w.heap.size, 1, none⟩ = some (.int .i64 b) ∧ w'.cell? ⟨w.heap.size, 2, none⟩ = some (.int .i64 c) ∧ w'.cell? ⟨w.heap.size + 1, 0, none⟩ = some (.int .i64 o) ∧ w'.cell? ⟨w.heap.size + 1, 1, none⟩ = some (.int .i64 h) ∧ w'.cell? ⟨w.heap.size + 1, 2, none⟩ = some (.int .i64 p) ∧ w'.cell? ⟨w.heap.size + 1, 3, none⟩ = some (.int .i64 q) ∧ w'.cell? ⟨w.heap.size + 1, 4, none⟩ = some (.int .i64 T))) (by kernel_rfl) (by simp [go_sem, World.cell?_alloc_past, *]) (fun hHeld => ?_)
    refine tkH 0 ⟨some 32, _, _, _, _, _⟩ ?_ rfl ?_ (by assumption) ?_
    rotate_left
    · (intro w hSw; (try dsimp only at hSw); go_simp; all_goals with_reducible rfl)
    try simp only [Act.put, sA, sB, sC]
    refine tkH 1 ⟨some 33, _, _, _, _, _⟩ ?_ rfl ?_ (by assumption) ?_
    rotate_left
    · (intro w hSw; (try dsimp only at hSw); go_simp; all_goals with_reducible rfl)
    try simp only [Act.put, sA, sB, sC]
    refine tkH 3 ⟨some 35, _, _, _, _, _⟩ ?_ rfl ?_ (by assumption) ?_
    rotate_left
    · (intro w hSw; (try dsimp only at hSw); go_simp; all_goals with_reducible rfl)
    try simp only [Act.put, sA, sB, sC]
    refine tkH 4 ⟨some 36, _, _, _, _, _⟩ ?_ rfl ?_ (by assumption) ?_
    rotate_left
    · (intro w hSw; (try dsimp only at hSw); go_simp; all_goals with_reducible rfl)
    try simp only [Act.put, sA, sB, sC]
    refine wpAnyH_ready (rs := [2, 6, 7]) (by kernel_rfl) (by simp) ?_
    refine AllReadyH.cons rfl (fun K hK => ?_) (AllReadyH.cons rfl (fun K hK => ?_) (AllReadyH.cons rfl (fun K hK => ?_) (AllReadyH.nil)))
    · skip
      go_simp
      refine (missingOf_any a b c o h p q T n P Q U X Y Z _ hc hG hn T0 T1 hP hX).mono ?_
      rintro e xw5 ⟨rfl, hbx5⟩
      have zx5 := hbx5.size
      try simp at zx5
      obtain ⟨x5_0_0, x5_0_1, x5_0_2, x5_1_0, x5_1_1, x5_1_2, x5_1_3, x5_1_4, x5_2_0, x5_2_1, x5_2_2, x5_2_3, x5_2_4, x5_2_5⟩ : xw5.cell? ⟨w.heap.size, 0, none⟩ = some (.int .i64 a) ∧ xw5.cell? ⟨w.heap.size, 1, none⟩ = some (.int .i64 b) ∧ xw5.cell? ⟨w.heap.size, 2, none⟩ = some (.int .i64 c) ∧ xw5.cell? ⟨w.heap.size + 1, 0, none⟩ = some (.int .i64 o) ∧ xw5.cell? ⟨w.heap.size + 1, 1, none⟩ = some (.int .i64 h) ∧ xw5.cell? ⟨w.heap.size + 1, 2, none⟩ = some (.int .i64 p) ∧ xw5.cell? ⟨w.heap.size + 1, 3, none⟩ = some (.int .i64 q) ∧ xw5.cell? ⟨w.heap.size + 1, 4, none⟩ = some (.int .i64 T) ∧ xw5.cell? ⟨w.heap.size + 1 + 1, 0, none⟩ = some (.int .i64 0) ∧ xw5.cell? ⟨w.heap.size + 1 + 1, 1, none⟩ = some (.int .i64 0) ∧ xw5.cell? ⟨w.heap.size + 1 + 1, 2, none⟩ = some (.int .i64 0) ∧ xw5.cell? ⟨w.heap.size + 1 + 1, 3, none⟩ = some (.int .i64 0) ∧ xw5.cell? ⟨w.heap.size + 1 + 1, 4, none⟩ = some (.int .i64 0) ∧ xw5.cell? ⟨w.heap.size + 1 + 1, 5, none⟩ = some (.int .i64 0) := by refine ⟨?_, ?_, ?_, ?_, ?_, ?_, ?_, ?_, ?_, ?_, ?_, ?_, ?_, ?_⟩ <;> (rw [(bcell hbx5).1 _ _ (by first | (simp; done) | (simp; omega) | omega)]; simp [go_sem, World.cell?_alloc_past, *])
      have x5f2 : (∀ j, xw5.frozen? ⟨w.heap.size + 1 + 1, j, none⟩ = false) := by (intro j; rw [(bcell hbx5).2 _ _ (by first | (simp; done) | (simp; omega) | omega)]; simp [go_sem, *])
      obtain ⟨x5o0, x5n0, x5m0, x5t0_0, x5t0_1, x5o1, x5n1, x5m1, x5t1_0, x5t1_1, x5o2, x5n2, x5m2, x5t2_0, x5t2_1⟩ : w.heap.size < xw5.heap.size ∧ xw5.heap.size ≠ w.heap.size ∧ w.heap.size ≠ xw5.heap.size ∧ w.heap.size < xw5.heap.size + 1 ∧ w.heap.size < xw5.heap.size + 1 + 1 ∧ w.heap.size + 1 < xw5.heap.size ∧ xw5.heap.size ≠ w.heap.size + 1 ∧ w.heap.size + 1 ≠ xw5.heap.size ∧ w.heap.size + 1 < xw5.heap.size + 1 ∧ w.heap.size + 1 < xw5.heap.size + 1 + 1 ∧ w.heap.size + 1 + 1 < xw5.heap.size ∧ xw5.heap.size ≠ w.heap.size + 1 + 1 ∧ w.heap.size + 1 + 1 ≠ xw5.heap.size ∧ w.heap.size + 1 + 1 < xw5.heap.size + 1 ∧ w.heap.size + 1 + 1 < xw5.heap.size + 1 + 1 := by refine ⟨?_, ?_, ?_, ?_, ?_, ?_, ?_, ?_, ?_, ?_, ?_, ?_, ?_, ?_, ?_⟩ <;> omega
      have hBx5 : Below w.heap.size w xw5 := (by (repeat (first | (with_reducible refine Below.drew ?_) | (with_reducible refine below_drewN ?_ _) | (with_reducible refine Below.alloc ?_ (by first | omega | (simp; done) | (simp; omega) | (simp at *; omega)) _) | (with_reducible refine Below.setCell ?_ (by first | omega | (simp; done) | (simp; omega) | (simp at *; omega)) _) | (with_reducible exact Below.refl _ _) | (with_reducible assumption) | (with_reducible refine Below.trans ?_ (Below.mono (by assumption) (by first | omega | (simp; done) | (simp; omega) | (simp at *; omega)))))))
      clear hbx5 x4_0_0 x4_0_1 x4_0_2 x4_1_0 x4_1_1 x4_1_2 x4_1_3 x4_1_4 x4_2_0 x4_2_1 x4_2_2 x4_2_3 x4_2_4 x4_2_5 x4f2 x4o0 x4n0 x4t0_0 x4t0_1 x4o1 x4n1 x4t1_0 x4t1_1 x4o2 x4n2 x4t2_0 x4t2_1 hBx4
      go_wp2_with fail
      refine hK.out _ _ (by simp [go_sem, World.cell?_alloc_past, *]) (fun hHeld => ?_)
      clear hK K
      try simp only [Act.put, sA, sB, sC]
      refine wpAnyH_ready (rs := [5, 6, 7]) (by kernel_rfl) (by simp) ?_
      refine AllReadyH.cons rfl (fun K hK => ?_) (AllReadyH.cons rfl (fun K hK => ?_) (AllReadyH.cons rfl (fun K hK => ?_) (AllReadyH.nil)))
      · skip
        go_simp
        refine (sharesOf_any p q m _ hG2 hm).mono ?_
        rintro e xw6 ⟨rfl, hbx6⟩
        have zx6 := hbx6.size
        try simp at zx6
        obtain ⟨x6_0_0, x6_0_1, x6_0_2, x6_1_0, x6_1_1, x6_1_2, x6_1_3, x6_1_4, x6_2_0, x6_2_1, x6_2_2, x6_2_3, x6_2_4, x6_2_5⟩ : xw6.cell? ⟨w.heap.size, 0, none⟩ = some (.int .i64 a) ∧ xw6.cell? ⟨w.heap.size, 1, none⟩ = some (.int .i64 b) ∧ xw6.cell? ⟨w.heap.size, 2, none⟩ = some (.int .i64 c) ∧ xw6.cell? ⟨w.heap.size + 1, 0, none⟩ = some (.int .i64 o) ∧ xw6.cell? ⟨w.heap.size + 1, 1, none⟩ = some (.int .i64 h) ∧ xw6.cell? ⟨w.heap.size + 1, 2, none⟩ = some (.int .i64 p) ∧ xw6.cell? ⟨w.heap.size + 1, 3, none⟩ = some (.int .i64 q) ∧ xw6.cell? ⟨w.heap.size + 1, 4, none⟩ = some (.int .i64 T) ∧ xw6.cell? ⟨w.heap.size + 1 + 1, 0, none⟩ = some (.int .i64 0) ∧ xw6.cell? ⟨w.heap.size + 1 + 1, 1, none⟩ = some (.int .i64 0) ∧ xw6.cell? ⟨w.heap.size + 1 + 1, 2, none⟩ = some (.int .i64 0) ∧ xw6.cell? ⟨w.heap.size + 1 + 1, 3, none⟩ = some (.int .i64 0) ∧ xw6.cell? ⟨w.heap.size + 1 + 1, 4, none⟩ = some (.int .i64 0) ∧ xw6.cell? ⟨w.heap.size + 1 + 1, 5, none⟩ = some (.int .i64 0) := by refine ⟨?_, ?_, ?_, ?_, ?_, ?_, ?_, ?_, ?_, ?_, ?_, ?_, ?_, ?_⟩ <;> (rw [(bcell hbx6).1 _ _ (by first | (simp; done) | (simp; omega) | omega)]; simp [go_sem, World.cell?_alloc_past, *])
        have x6f2 : (∀ j, xw6.frozen? ⟨w.heap.size + 1 + 1, j, none⟩ = false) := by (intro j; rw [(bcell hbx6).2 _ _ (by first | (simp; done) | (simp; omega) | omega)]; simp [go_sem, *])
        obtain ⟨x6o0, x6n0, x6m0, x6t0_0, x6t0_1, x6o1, x6n1, x6m1, x6t1_0, x6t1_1, x6o2, x6n2, x6m2, x6t2_0, x6t2_1⟩ : w.heap.size < xw6.heap.size ∧ xw6.heap.size ≠ w.heap.size ∧ w.heap.size ≠ xw6.heap.size ∧ w.heap.size < xw6.heap.size + 1 ∧ w.heap.size < xw6.heap.size + 1 + 1 ∧ w.heap.size + 1 < xw6.heap.size ∧ xw6.heap.size ≠ w.heap.size + 1 ∧ w.heap.size + 1 ≠ xw6.heap.size ∧ w.heap.size + 1 < xw6.heap.size + 1 ∧ w.heap.size + 1 < xw6.heap.size + 1 + 1 ∧ w.heap.size + 1 + 1 < xw6.heap.size ∧ xw6.heap.size ≠ w.heap.size + 1 + 1 ∧ w.heap.size + 1 + 1 ≠ xw6.heap.size ∧ w.heap.size + 1 + 1 < xw6.heap.size + 1 ∧ w.heap.size + 1 + 1 < xw6.heap.size + 1 + 1 := by refine ⟨?_, ?_, ?_, ?_, ?_, ?_, ?_, ?_, ?_, ?_, ?_, ?_, ?_, ?_, ?_⟩ <;> omega
        have hBx6 : Below w.heap.size w xw6 := (by (repeat (first | (with_reducible refine Below.drew ?_) | (with_reducible refine below_drewN ?_ _) | (with_reducible refine Below.alloc ?_ (by first | omega | (simp; done) | (simp; omega) | (simp at *; omega)) _) | (with_reducible refine Below.setCell ?_ (by first | omega | (simp; done) | (simp; omega) | (simp at *; omega)) _) | (with_reducible exact Below.refl _ _) | (with_reducible assumption) | (with_reducible refine Below.trans ?_ (Below.mono (by assumption) (by first | omega | (simp; done) | (simp; omega) | (simp at *; omega)))))))
        clear hbx6 x5_0_0 x5_0_1 x5_0_2 x5_1_0 x5_1_1 x5_1_2 x5_1_3 x5_1_4 x5_2_0 x5_2_1 x5_2_2 x5_2_3 x5_2_4 x5_2_5 x5f2 x5o0 x5n0 x5m0 x5t0_0 x5t0_1 x5o1 x5n1 x5m1 x5t1_0 x5t1_1 x5o2 x5n2 x5m2 x5t2_0 x5t2_1 hBx5
        go_wp2_with fail
        refine hK.out _ _ (by simp [go_sem, World.cell?_alloc_past, *]) (fun hHeld => ?_)
        clear hK K
        try simp only [Act.put, sA, sB, sC]
        refine wpAnyH_ready (rs := [6, 7]) (by kernel_rfl) (by simp) ?_
        refine AllReadyH.cons rfl (fun K hK => ?_) (AllReadyH.cons rfl (fun K hK => ?_) (AllReadyH.nil))
        · skip
          go_simp
          go_wp2_with fail
          refine hK.out _ _ (by simp [go_sem, World.cell?_alloc_past, *]) (fun hHeld => ?_)
          clear hK K
          try simp only [Act.put, sA, sB, sC]
          refine wpAnyH_ready (rs := [7]) (by kernel_rfl) (by simp) ?_
          refine AllReadyH.cons rfl (fun K hK => ?_) (AllReadyH.nil)
          go_simp
          go_wp2_with fail
          refine hK.out _ _ (by simp [go_sem, World.cell?_alloc_past, *]) (fun hHeld => ?_)
          clear hK K
          try simp only [Act.put, sA, sB, sC]
          refine wpAnyH_ready (rs := [8]) (by kernel_rfl) (by simp) ?_
          refine AllReadyH.cons rfl (fun K hK => ?_) (AllReadyH.nil)
          go_simp
          go_wp2_with fail
          refine hK.out _ _ (by simp [go_sem, World.cell?_alloc_past, *]) (fun hHeld => ?_)
          clear hK K
          try simp only [Act.put, sA, sB, sC]
          refine wpAnyH_ready (rs := [9]) (by kernel_rfl) (by simp) ?_
          refine AllReadyH.cons rfl (fun K hK => ?_) (AllReadyH.nil)
          go_simp
          go_wp2_with fail
          refine hK.out _ _ (by simp [go_sem, World.cell?_alloc_past, *]) (fun hHeld => ?_)
          clear hK K
          try simp only [Act.put, sA, sB, sC]
          refine wpAnyH_done (by kernel_rfl) ?_ _
          go_wp2_with fail
          go_meet
          refine ⟨xw6.heap.size, xw6.heap.size + 1, rfl, rfl, by first | omega | (simp; done) | (simp; omega), by first | omega | (simp; done) | (simp; omega), by omega, by omega, ?_, ?_, ?_⟩
          · exact ⟨(by simp [go_sem, World.cell?_alloc_past, *]), (by simp [go_sem, World.cell?_alloc_past, *]), (by simp [go_sem, World.cell?_alloc_past, *]), (by simp [go_sem, World.cell?_alloc_past, *]), (by simp [go_sem, World.cell?_alloc_past, *]), (by simp [go_sem, World.cell?_alloc_past, *]), (by simp [go_sem, World.cell?_alloc_past, *]), (by simp [go_sem, World.cell?_alloc_past, *]), (by simp [go_sem, World.cell?_alloc_past, *]), (by simp [go_sem, World.cell?_alloc_past, *]), (by simp [go_sem, World.cell?_alloc_past, *]), (by simp [go_sem, World.cell?_alloc_past, *])⟩
          · intro j; simp [go_sem, *]
          · (repeat (first | (with_reducible refine Below.drew ?_) | (with_reducible refine below_drewN ?_ _) | (with_reducible refine Below.alloc ?_ (by first | omega | (simp; done) | (simp; omega) | (simp at *; omega)) _) | (with_reducible refine Below.setCell ?_ (by first | omega | (simp; done) | (simp; omega) | (simp at *; omega)) _) | (with_reducible exact Below.refl _ _) | (with_reducible assumption) | (with_reducible refine Below.trans ?_ (Below.mono (by assumption) (by first | omega | (simp; done) | (simp; omega) | (simp at *; omega))))))
        · skip
          go_simp
          go_wp2_with fail
          refine hK.out _ _ (by simp [go_sem, World.cell?_alloc_past, *]) (fun hHeld => ?_)
          clear hK K
          try simp only [Act.put, sA, sB, sC]
          refine wpAnyH_ready (rs := [6]) (by kernel_rfl) (by simp) ?_
          refine AllReadyH.cons rfl (fun K hK => ?_) (AllReadyH.nil)
          go_simp
          go_wp2_with fail
          refine hK.out _ _ (by simp [go_sem, World.cell?_alloc_past, *]) (fun hHeld => ?_)
          clear hK K
          try simp only [Act.put, sA, sB, sC]
          refine wpAnyH_ready (rs := [8]) (by kernel_rfl) (by simp) ?_
          refine AllReadyH.cons rfl (fun K hK => ?_) (AllReadyH.nil)
          go_simp
          go_wp2_with fail
          refine hK.out _ _ (by simp [go_sem, World.cell?_alloc_past, *]) (fun hHeld => ?_)
          clear hK K
          try simp only [Act.put, sA, sB, sC]
          refine wpAnyH_ready (rs := [9]) (by kernel_rfl) (by simp) ?_
          refine AllReadyH.cons rfl (fun K hK => ?_) (AllReadyH.nil)
          go_simp
          go_wp2_with fail
          refine hK.out _ _ (by simp [go_sem, World.cell?_alloc_past, *]) (fun hHeld => ?_)
          clear hK K
          try simp only [Act.put, sA, sB, sC]
          refine wpAnyH_done (by kernel_rfl) ?_ _
          go_wp2_with fail
          go_meet
          refine ⟨xw6.heap.size + 1, xw6.heap.size, rfl, rfl, by first | omega | (simp; done) | (simp; omega), by first | omega | (simp; done) | (simp; omega), by omega, by omega, ?_, ?_, ?_⟩
          · exact ⟨(by simp [go_sem, World.cell?_alloc_past, *]), (by simp [go_sem, World.cell?_alloc_past, *]), (by simp [go_sem, World.cell?_alloc_past, *]), (by simp [go_sem, World.cell?_alloc_past, *]), (by simp [go_sem, World.cell?_alloc_past, *]), (by simp [go_sem, World.cell?_alloc_past, *]), (by simp [go_sem, World.cell?_alloc_past, *]), (by simp [go_sem, World.cell?_alloc_past, *]), (by simp [go_sem, World.cell?_alloc_past, *]), (by simp [go_sem, World.cell?_alloc_past, *]), (by simp [go_sem, World.cell?_alloc_past, *]), (by simp [go_sem, World.cell?_alloc_past, *])⟩
          · intro j; simp [go_sem, *]
          · (repeat (first | (with_reducible refine Below.drew ?_) | (with_reducible refine below_drewN ?_ _) | (with_reducible refine Below.alloc ?_ (by first | omega | (simp; done) | (simp; omega) | (simp at *; omega)) _) | (with_reducible refine Below.setCell ?_ (by first | omega | (simp; done) | (simp; omega) | (simp at *; omega)) _) | (with_reducible exact Below.refl _ _) | (with_reducible assumption) | (with_reducible refine Below.trans ?_ (Below.mono (by assumption) (by first | omega | (simp; done) | (simp; omega) | (simp at *; omega))))))
      · skip
        go_simp
        go_wp2_with fail
        refine hK.out _ _ (by simp [go_sem, World.cell?_alloc_past, *]) (fun hHeld => ?_)
        clear hK K
        try simp only [Act.put, sA, sB, sC]
        refine wpAnyH_ready (rs := [5, 7]) (by kernel_rfl) (by simp) ?_
        refine AllReadyH.cons rfl (fun K hK => ?_) (AllReadyH.cons rfl (fun K hK => ?_) (AllReadyH.nil))
        · skip
          go_simp
          refine (sharesOf_any p q m _ hG2 hm).mono ?_
          rintro e xw6 ⟨rfl, hbx6⟩
          have zx6 := hbx6.size
          try simp at zx6
          obtain ⟨x6_0_0, x6_0_1, x6_0_2, x6_1_0, x6_1_1, x6_1_2, x6_1_3, x6_1_4, x6_2_0, x6_2_1, x6_2_2, x6_2_3, x6_2_4, x6_2_5, x6_3_0, x6_3_1, x6_3_2⟩ : xw6.cell? ⟨w.heap.size, 0, none⟩ = some (.int .i64 a) ∧ xw6.cell? ⟨w.heap.size, 1, none⟩ = some (.int .i64 b) ∧ xw6.cell? ⟨w.heap.size, 2, none⟩ = some (.int .i64 c) ∧ xw6.cell? ⟨w.heap.size + 1, 0, none⟩ = some (.int .i64 o) ∧ xw6.cell? ⟨w.heap.size + 1, 1, none⟩ = some (.int .i64 h) ∧ xw6.cell? ⟨w.heap.size + 1, 2, none⟩ = some (.int .i64 p) ∧ xw6.cell? ⟨w.heap.size + 1, 3, none⟩ = some (.int .i64 q) ∧ xw6.cell? ⟨w.heap.size + 1, 4, none⟩ = some (.int .i64 T) ∧ xw6.cell? ⟨w.heap.size + 1 + 1, 0, none⟩ = some (.int .i64 0) ∧ xw6.cell? ⟨w.heap.size + 1 + 1, 1, none⟩ = some (.int .i64 0) ∧ xw6.cell? ⟨w.heap.size + 1 + 1, 2, none⟩ = some (.int .i64 0) ∧ xw6.cell? ⟨w.heap.size + 1 + 1, 3, none⟩ = some (.int .i64 0) ∧ xw6.cell? ⟨w.heap.size + 1 + 1, 4, none⟩ = some (.int .i64 0) ∧ xw6.cell? ⟨w.heap.size + 1 + 1, 5, none⟩ = some (.int .i64 0) ∧ xw6.cell? ⟨xw5.heap.size, 0, none⟩ = some (.int .i64 0) ∧ xw6.cell? ⟨xw5.heap.size, 1, none⟩ = some (.int .i64 0) ∧ xw6.cell? ⟨xw5.heap.size, 2, none⟩ = some (.int .i64 0) := by refine ⟨?_, ?_, ?_, ?_, ?_, ?_, ?_, ?_, ?_, ?_, ?_, ?_, ?_, ?_, ?_, ?_, ?_⟩ <;> (rw [(bcell hbx6).1 _ _ (by first | (simp; done) | (simp; omega) | omega)]; simp [go_sem, World.cell?_alloc_past, *])
          obtain ⟨x6f2, x6f3⟩ : (∀ j, xw6.frozen? ⟨w.heap.size + 1 + 1, j, none⟩ = false) ∧ (∀ j, xw6.frozen? ⟨xw5.heap.size, j, none⟩ = false) := by refine ⟨?_, ?_⟩ <;> (intro j; rw [(bcell hbx6).2 _ _ (by first | (simp; done) | (simp; omega) | omega)]; simp [go_sem, *])
          obtain ⟨x6o0, x6n0, x6m0, x6t0_0, x6t0_1, x6o1, x6n1, x6m1, x6t1_0, x6t1_1, x6o2, x6n2, x6m2, x6t2_0, x6t2_1, x6o3, x6n3, x6m3, x6t3_0, x6t3_1⟩ : w.heap.size < xw6.heap.size ∧ xw6.heap.size ≠ w.heap.size ∧ w.heap.size ≠ xw6.heap.size ∧ w.heap.size < xw6.heap.size + 1 ∧ w.heap.size < xw6.heap.size + 1 + 1 ∧ w.heap.size + 1 < xw6.heap.size ∧ xw6.heap.size ≠ w.heap.size + 1 ∧ w.heap.size + 1 ≠ xw6.heap.size ∧ w.heap.size + 1 < xw6.heap.size + 1 ∧ w.heap.size + 1 < xw6.heap.size + 1 + 1 ∧ w.heap.size + 1 + 1 < xw6.heap.size ∧ xw6.heap.size ≠ w.heap.size + 1 + 1 ∧ w.heap.size + 1 + 1 ≠ xw6.heap.size ∧ w.heap.size + 1 + 1 < xw6.heap.size + 1 ∧ w.heap.size + 1 + 1 < xw6.heap.size + 1 + 1 ∧ xw5.heap.size < xw6.heap.size ∧ xw6.heap.size ≠ xw5.heap.size ∧ xw5.heap.size ≠ xw6.heap.size ∧ xw5.heap.size < xw6.heap.size + 1 ∧ xw5.heap.size < xw6.heap.size + 1 + 1 := by refine ⟨?_, ?_, ?_, ?_, ?_, ?_, ?_, ?_, ?_, ?_, ?_, ?_, ?_, ?_, ?_, ?_, ?_, ?_, ?_, ?_⟩ <;> omega
          have hBx6 : Below w.heap.size w xw6 := (by (repeat (first | (with_reducible refine Below.drew ?_) | (with_reducible refine below_drewN ?_ _) | (with_reducible refine Below.alloc ?_ (by first | omega | (simp; done) | (simp; omega) | (simp at *; omega)) _) | (with_reducible refine Below.setCell ?_ (by first | omega | (simp; done) | (simp; omega) | (simp at *; omega)) _) | (with_reducible exact Below.refl _ _) | (with_reducible assumption) | (with_reducible refine Below.trans ?_ (Below.mono (by assumption) (by first | omega | (simp; done) | (simp; omega) | (simp at *; omega)))))))
          clear hbx6 x5_0_0 x5_0_1 x5_0_2 x5_1_0 x5_1_1 x5_1_2 x5_1_3 x5_1_4 x5_2_0 x5_2_1 x5_2_2 x5_2_3 x5_2_4 x5_2_5 x5f2 x5o0 x5n0 x5m0 x5t0_0 x5t0_1 x5o1 x5n1 x5m1 x5t1_0 x5t1_1 x5o2 x5n2 x5m2 x5t2_0 x5t2_1 hBx5
          go_wp2_with fail
          refine hK.out _ _ (by simp [go_sem, World.cell?_alloc_past, *]) (fun hHeld => ?_)
          clear hK K
          try simp only [Act.put, sA, sB, sC]
          refine wpAnyH_ready (rs := [7]) (by kernel_rfl) (by simp) ?_
          refine AllReadyH.cons rfl (fun K hK => ?_) (AllReadyH.nil)
          go_simp
          go_wp2_with fail
          refine hK.out _ _ (by simp [go_sem, World.cell?_alloc_past, *]) (fun hHeld => ?_)
          clear hK K
          try simp only [Act.put, sA, sB, sC]
          refine wpAnyH_ready (rs := [8]) (by kernel_rfl) (by simp) ?_
          refine AllReadyH.cons rfl (fun K hK => ?_) (AllReadyH.nil)
          go_simp
          go_wp2_with fail
          refine hK.out _ _ (by simp [go_sem, World.cell?_alloc_past, *]) (fun hHeld => ?_)
          clear hK K
          try simp only [Act.put, sA, sB, sC]
          refine wpAnyH_ready (rs := [9]) (by kernel_rfl) (by simp) ?_
          refine AllReadyH.cons rfl (fun K hK => ?_) (AllReadyH.nil)
          go_simp
          go_wp2_with fail
          refine hK.out _ _ (by simp [go_sem, World.cell?_alloc_past, *]) (fun hHeld => ?_)
          clear hK K
          try simp only [Act.put, sA, sB, sC]
          refine wpAnyH_done (by kernel_rfl) ?_ _
          go_wp2_with fail
          go_meet
          refine ⟨xw5.heap.size, xw6.heap.size, rfl, rfl, by first | omega | (simp; done) | (simp; omega), by first | omega | (simp; done) | (simp; omega), by omega, by omega, ?_, ?_, ?_⟩
          · exact ⟨(by simp [go_sem, World.cell?_alloc_past, *]), (by simp [go_sem, World.cell?_alloc_past, *]), (by simp [go_sem, World.cell?_alloc_past, *]), (by simp [go_sem, World.cell?_alloc_past, *]), (by simp [go_sem, World.cell?_alloc_past, *]), (by simp [go_sem, World.cell?_alloc_past, *]), (by simp [go_sem, World.cell?_alloc_past, *]), (by simp [go_sem, World.cell?_alloc_past, *]), (by simp [go_sem, World.cell?_alloc_past, *]), (by simp [go_sem, World.cell?_alloc_past, *]), (by simp [go_sem, World.cell?_alloc_past, *]), (by simp [go_sem, World.cell?_alloc_past, *])⟩
          · intro j; simp [go_sem, *]
          · (repeat (first | (with_reducible refine Below.drew ?_) | (with_reducible refine below_drewN ?_ _) | (with_reducible refine Below.alloc ?_ (by first | omega | (simp; done) | (simp; omega) | (simp at *; omega)) _) | (with_reducible refine Below.setCell ?_ (by first | omega | (simp; done) | (simp; omega) | (simp at *; omega)) _) | (with_reducible exact Below.refl _ _) | (with_reducible assumption) | (with_reducible refine Below.trans ?_ (Below.mono (by assumption) (by first | omega | (simp; done) | (simp; omega) | (simp at *; omega))))))
        · skip
          go_simp
          go_wp2_with fail
          refine hK.out _ _ (by simp [go_sem, World.cell?_alloc_past, *]) (fun hHeld => ?_)
          clear hK K
          try simp only [Act.put, sA, sB, sC]
          refine wpAnyH_ready (rs := [5]) (by kernel_rfl) (by simp) ?_
          refine AllReadyH.cons rfl (fun K hK => ?_) (AllReadyH.nil)
          go_simp
          refine (sharesOf_any p q m _ hG2 hm).mono ?_
          rintro e xw6 ⟨rfl, hbx6⟩
          have zx6 := hbx6.size
          try simp at zx6
          obtain ⟨x6_0_0, x6_0_1, x6_0_2, x6_1_0, x6_1_1, x6_1_2, x6_1_3, x6_1_4, x6_2_0, x6_2_1, x6_2_2, x6_2_3, x6_2_4, x6_2_5, x6_3_0, x6_3_1, x6_3_2, x6_4_0, x6_4_1, x6_4_2⟩ : xw6.cell? ⟨w.heap.size, 0, none⟩ = some (.int .i64 a) ∧ xw6.cell? ⟨w.heap.size, 1, none⟩ = some (.int .i64 b) ∧ xw6.cell? ⟨w.heap.size, 2, none⟩ = some (.int .i64 c) ∧ xw6.cell? ⟨w.heap.size + 1, 0, none⟩ = some (.int .i64 o) ∧ xw6.cell? ⟨w.heap.size + 1, 1, none⟩ = some (.int .i64 h) ∧ xw6.cell? ⟨w.heap.size + 1, 2, none⟩ = some (.int .i64 p) ∧ xw6.cell? ⟨w.heap.size + 1, 3, none⟩ = some (.int .i64 q) ∧ xw6.cell? ⟨w.heap.size + 1, 4, none⟩ = some (.int .i64 T) ∧ xw6.cell? ⟨w.heap.size + 1 + 1, 0, none⟩ = some (.int .i64 0) ∧ xw6.cell? ⟨w.heap.size + 1 + 1, 1, none⟩ = some (.int .i64 0) ∧ xw6.cell? ⟨w.heap.size + 1 + 1, 2, none⟩ = some (.int .i64 0) ∧ xw6.cell? ⟨w.heap.size + 1 + 1, 3, none⟩ = some (.int .i64 0) ∧ xw6.cell? ⟨w.heap.size + 1 + 1, 4, none⟩ = some (.int .i64 0) ∧ xw6.cell? ⟨w.heap.size + 1 + 1, 5, none⟩ = some (.int .i64 0) ∧ xw6.cell? ⟨xw5.heap.size, 0, none⟩ = some (.int .i64 0) ∧ xw6.cell? ⟨xw5.heap.size, 1, none⟩ = some (.int .i64 0) ∧ xw6.cell? ⟨xw5.heap.size, 2, none⟩ = some (.int .i64 0) ∧ xw6.cell? ⟨xw5.heap.size + 1, 0, none⟩ = some (.int .i64 0) ∧ xw6.cell? ⟨xw5.heap.size + 1, 1, none⟩ = some (.int .i64 0) ∧ xw6.cell? ⟨xw5.heap.size + 1, 2, none⟩ = some (.int .i64 0) := by refine ⟨?_, ?_, ?_, ?_, ?_, ?_, ?_, ?_, ?_, ?_, ?_, ?_, ?_, ?_, ?_, ?_, ?_, ?_, ?_, ?_⟩ <;> (rw [(bcell hbx6).1 _ _ (by first | (simp; done) | (simp; omega) | omega)]; simp [go_sem, World.cell?_alloc_past, *])
          obtain ⟨x6f2, x6f3, x6f4⟩ : (∀ j, xw6.frozen? ⟨w.heap.size + 1 + 1, j, none⟩ = false) ∧ (∀ j, xw6.frozen? ⟨xw5.heap.size, j, none⟩ = false) ∧ (∀ j, xw6.frozen? ⟨xw5.heap.size + 1, j, none⟩ = false) := by refine ⟨?_, ?_, ?_⟩ <;> (intro j; rw [(bcell hbx6).2 _ _ (by first | (simp; done) | (simp; omega) | omega)]; simp [go_sem, *])
          obtain ⟨x6o0, x6n0, x6m0, x6t0_0, x6t0_1, x6o1, x6n1, x6m1, x6t1_0, x6t1_1, x6o2, x6n2, x6m2, x6t2_0, x6t2_1, x6o3, x6n3, x6m3, x6t3_0, x6t3_1, x6o4, x6n4, x6m4, x6t4_0, x6t4_1⟩ : w.heap.size < xw6.heap.size ∧ xw6.heap.size ≠ w.heap.size ∧ w.heap.size ≠ xw6.heap.size ∧ w.heap.size < xw6.heap.size + 1 ∧ w.heap.size < xw6.heap.size + 1 + 1 ∧ w.heap.size + 1 < xw6.heap.size ∧ xw6.heap.size ≠ w.heap.size + 1 ∧ w.heap.size + 1 ≠ xw6.heap.size ∧ w.heap.size + 1 < xw6.heap.size + 1 ∧ w.heap.size + 1 < xw6.heap.size + 1 + 1 ∧ w.heap.size + 1 + 1 < xw6.heap.size ∧ xw6.heap.size ≠ w.heap.size + 1 + 1 ∧ w.heap.size + 1 + 1 ≠ xw6.heap.size ∧ w.heap.size + 1 + 1 < xw6.heap.size + 1 ∧ w.heap.size + 1 + 1 < xw6.heap.size + 1 + 1 ∧ xw5.heap.size < xw6.heap.size ∧ xw6.heap.size ≠ xw5.heap.size ∧ xw5.heap.size ≠ xw6.heap.size ∧ xw5.heap.size < xw6.heap.size + 1 ∧ xw5.heap.size < xw6.heap.size + 1 + 1 ∧ xw5.heap.size + 1 < xw6.heap.size ∧ xw6.heap.size ≠ xw5.heap.size + 1 ∧ xw5.heap.size + 1 ≠ xw6.heap.size ∧ xw5.heap.size + 1 < xw6.heap.size + 1 ∧ xw5.heap.size + 1 < xw6.heap.size + 1 + 1 := by refine ⟨?_, ?_, ?_, ?_, ?_, ?_, ?_, ?_, ?_, ?_, ?_, ?_, ?_, ?_, ?_, ?_, ?_, ?_, ?_, ?_, ?_, ?_, ?_, ?_, ?_⟩ <;> omega
          have hBx6 : Below w.heap.size w xw6 := (by (repeat (first | (with_reducible refine Below.drew ?_) | (with_reducible refine below_drewN ?_ _) | (with_reducible refine Below.alloc ?_ (by first | omega | (simp; done) | (simp; omega) | (simp at *; omega)) _) | (with_reducible refine Below.setCell ?_ (by first | omega | (simp; done) | (simp; omega) | (simp at *; omega)) _) | (with_reducible exact Below.refl _ _) | (with_reducible assumption) | (with_reducible refine Below.trans ?_ (Below.mono (by assumption) (by first | omega | (simp; done) | (simp; omega) | (simp at *; omega)))))))
          clear hbx6 x5_0_0 x5_0_1 x5_0_2 x5_1_0 x5_1_1 x5_1_2 x5_1_3 x5_1_4 x5_2_0 x5_2_1 x5_2_2 x5_2_3 x5_2_4 x5_2_5 x5f2 x5o0 x5n0 x5m0 x5t0_0 x5t0_1 x5o1 x5n1 x5m1 x5t1_0 x5t1_1 x5o2 x5n2 x5m2 x5t2_0 x5t2_1 hBx5
          go_wp2_with fail
          refine hK.out _ _ (by simp [go_sem, World.cell?_alloc_past, *]) (fun hHeld => ?_)
          clear hK K
          try simp only [Act.put, sA, sB, sC]
          refine wpAnyH_ready (rs := [8]) (by kernel_rfl) (by simp) ?_
          refine AllReadyH.cons rfl (fun K hK => ?_) (AllReadyH.nil)
          go_simp
          go_wp2_with fail
          refine hK.out _ _ (by simp [go_sem, World.cell?_alloc_past, *]) (fun hHeld => ?_)
          clear hK K
          try simp only [Act.put, sA, sB, sC]
          refine wpAnyH_ready (rs := [9]) (by kernel_rfl) (by simp) ?_
          refine AllReadyH.cons rfl (fun K hK => ?_) (AllReadyH.nil)
          go_simp
          go_wp2_with fail
          refine hK.out _ _ (by simp [go_sem, World.cell?_alloc_past, *]) (fun hHeld => ?_)
          clear hK K
          try simp only [Act.put, sA, sB, sC]
          refine wpAnyH_done (by kernel_rfl) ?_ _
          go_wp2_with fail
          go_meet
          refine ⟨xw5.heap.size, xw5.heap.size + 1, rfl, rfl, by first | omega | (simp; done) | (simp; omega), by first | omega | (simp; done) | (simp; omega), by omega, by omega, ?_, ?_, ?_⟩
          · exact ⟨(by simp [go_sem, World.cell?_alloc_past, *]), (by simp [go_sem, World.cell?_alloc_past, *]), (by simp [go_sem, World.cell?_alloc_past, *]), (by simp [go_sem, World.cell?_alloc_past, *]), (by simp [go_sem, World.cell?_alloc_past, *]), (by simp [go_sem, World.cell?_alloc_past, *]), (by simp [go_sem, World.cell?_alloc_past, *]), (by simp [go_sem, World.cell?_alloc_past, *]), (by simp [go_sem, World.cell?_alloc_past, *]), (by simp [go_sem, World.cell?_alloc_past, *]), (by simp [go_sem, World.cell?_alloc_past, *]), (by simp [go_sem, World.cell?_alloc_past, *])⟩
          · intro j; simp [go_sem, *]
          · (repeat (first | (with_reducible refine Below.drew ?_) | (with_reducible refine below_drewN ?_ _) | (with_reducible refine Below.alloc ?_ (by first | omega | (simp; done) | (simp; omega) | (simp at *; omega)) _) | (with_reducible refine Below.setCell ?_ (by first | omega | (simp; done) | (simp; omega) | (simp at *; omega)) _) | (with_reducible exact Below.refl _ _) | (with_reducible assumption) | (with_reducible refine Below.trans ?_ (Below.mono (by assumption) (by first | omega | (simp; done) | (simp; omega) | (simp at *; omega))))))
      · skip
        go_simp
        go_wp2_with fail
        refine hK.out _ _ (by simp [go_sem, World.cell?_alloc_past, *]) (fun hHeld => ?_)
        clear hK K
        try simp only [Act.put, sA, sB, sC]
        refine wpAnyH_ready (rs := [5, 6]) (by kernel_rfl) (by simp) ?_
        refine AllReadyH.cons rfl (fun K hK => ?_) (AllReadyH.cons rfl (fun K hK => ?_) (AllReadyH.nil))
        · skip
          go_simp
          refine (sharesOf_any p q m _ hG2 hm).mono ?_
          rintro e xw6 ⟨rfl, hbx6⟩
          have zx6 := hbx6.size
          try simp at zx6
          obtain ⟨x6_0_0, x6_0_1, x6_0_2, x6_1_0, x6_1_1, x6_1_2, x6_1_3, x6_1_4, x6_2_0, x6_2_1, x6_2_2, x6_2_3, x6_2_4, x6_2_5, x6_3_0, x6_3_1, x6_3_2⟩ : xw6.cell? ⟨w.heap.size, 0, none⟩ = some (.int .i64 a) ∧ xw6.cell? ⟨w.heap.size, 1, none⟩ = some (.int .i64 b) ∧ xw6.cell? ⟨w.heap.size, 2, none⟩ = some (.int .i64 c) ∧ xw6.cell? ⟨w.heap.size + 1, 0, none⟩ = some (.int .i64 o) ∧ xw6.cell? ⟨w.heap.size + 1, 1, none⟩ = some (.int .i64 h) ∧ xw6.cell? ⟨w.heap.size + 1, 2, none⟩ = some (.int .i64 p) ∧ xw6.cell? ⟨w.heap.size + 1, 3, none⟩ = some (.int .i64 q) ∧ xw6.cell? ⟨w.heap.size + 1, 4, none⟩ = some (.int .i64 T) ∧ xw6.cell? ⟨w.heap.size + 1 + 1, 0, none⟩ = some (.int .i64 0) ∧ xw6.cell? ⟨w.heap.size + 1 + 1, 1, none⟩ = some (.int .i64 0) ∧ xw6.cell? ⟨w.heap.size + 1 + 1, 2, none⟩ = some (.int .i64 0) ∧ xw6.cell? ⟨w.heap.size + 1 + 1, 3, none⟩ = some (.int .i64 0) ∧ xw6.cell? ⟨w.heap.size + 1 + 1, 4, none⟩ = some (.int .i64 0) ∧ xw6.cell? ⟨w.heap.size + 1 + 1, 5, none⟩ = some (.int .i64 0) ∧ xw6.cell? ⟨xw5.heap.size, 0, none⟩ = some (.int .i64 0) ∧ xw6.cell? ⟨xw5.heap.size, 1, none⟩ = some (.int .i64 0) ∧ xw6.cell? ⟨xw5.heap.size, 2, none⟩ = some (.int .i64 0) := by refine ⟨?_, ?_, ?_, ?_, ?_, ?_, ?_, ?_, ?_, ?_, ?_, ?_, ?_, ?_, ?_, ?_, ?_⟩ <;> (rw [(bcell hbx6).1 _ _ (by first | (simp; done) | (simp; omega) | omega)]; simp [go_sem, World.cell?_alloc_past, *])
          obtain ⟨x6f2, x6f3⟩ : (∀ j, xw6.frozen? ⟨w.heap.size + 1 + 1, j, none⟩ = false) ∧ (∀ j, xw6.frozen? ⟨xw5.heap.size, j, none⟩ = false) := by refine ⟨?_, ?_⟩ <;> (intro j; rw [(bcell hbx6).2 _ _ (by first | (simp; done) | (simp; omega) | omega)]; simp [go_sem, *])
          obtain ⟨x6o0, x6n0, x6m0, x6t0_0, x6t0_1, x6o1, x6n1, x6m1, x6t1_0, x6t1_1, x6o2, x6n2, x6m2, x6t2_0, x6t2_1, x6o3, x6n3, x6m3, x6t3_0, x6t3_1⟩ : w.heap.size < xw6.heap.size ∧ xw6.heap.size ≠ w.heap.size ∧ w.heap.size ≠ xw6.heap.size ∧ w.heap.size < xw6.heap.size + 1 ∧ w.heap.size < xw6.heap.size + 1 + 1 ∧ w.heap.size + 1 < xw6.heap.size ∧ xw6.heap.size ≠ w.heap.size + 1 ∧ w.heap.size + 1 ≠ xw6.heap.size ∧ w.heap.size + 1 < xw6.heap.size + 1 ∧ w.heap.size + 1 < xw6.heap.size + 1 + 1 ∧ w.heap.size + 1 + 1 < xw6.heap.size ∧ xw6.heap.size ≠ w.heap.size + 1 + 1 ∧ w.heap.size + 1 + 1 ≠ xw6.heap.size ∧ w.heap.size + 1 + 1 < xw6.heap.size + 1 ∧ w.heap.size + 1 + 1 < xw6.heap.size + 1 + 1 ∧ xw5.heap.size < xw6.heap.size ∧ xw6.heap.size ≠ xw5.heap.size ∧ xw5.heap.size ≠ xw6.heap.size ∧ xw5.heap.size < xw6.heap.size + 1 ∧ xw5.heap.size < xw6.heap.size + 1 + 1 := by refine ⟨?_, ?_, ?_, ?_, ?_, ?_, ?_, ?_, ?_, ?_, ?_, ?_, ?_, ?_, ?_, ?_, ?_, ?_, ?_, ?_⟩ <;> omega
          have hBx6 : Below w.heap.size w xw6 := (by (repeat (first | (with_reducible refine Below.drew ?_) | (with_reducible refine below_drewN ?_ _) | (with_reducible refine Below.alloc ?_ (by first | omega | (simp; done) | (simp; omega) | (simp at *; omega)) _) | (with_reducible refine Below.setCell ?_ (by first | omega | (simp; done) | (simp; omega) | (simp at *; omega)) _) | (with_reducible exact Below.refl _ _) | (with_reducible assumption) | (with_reducible refine Below.trans ?_ (Below.mono (by assumption) (by first | omega | (simp; done) | (simp; omega) | (simp at *; omega)))))))
          clear hbx6 x5_0_0 x5_0_1 x5_0_2 x5_1_0 x5_1_1 x5_1_2 x5_1_3 x5_1_4 x5_2_0 x5_2_1 x5_2_2 x5_2_3 x5_2_4 x5_2_5 x5f2 x5o0 x5n0 x5m0 x5t0_0 x5t0_1 x5o1 x5n1 x5m1 x5t1_0 x5t1_1 x5o2 x5n2 x5m2 x5t2_0 x5t2_1 hBx5
          go_wp2_with fail
          refine hK.out _ _ (by simp [go_sem, World.cell?_alloc_past, *]) (fun hHeld => ?_)
          clear hK K
          try simp only [Act.put, sA, sB, sC]
          refine wpAnyH_ready (rs := [6]) (by kernel_rfl) (by simp) ?_
          refine AllReadyH.cons rfl (fun K hK => ?_) (AllReadyH.nil)
          go_simp
          go_wp2_with fail
          refine hK.out _ _ (by simp [go_sem, World.cell?_alloc_past, *]) (fun hHeld => ?_)
          clear hK K
          try simp only [Act.put, sA, sB, sC]
          refine wpAnyH_ready (rs := [8]) (by kernel_rfl) (by simp) ?_
          refine AllReadyH.cons rfl (fun K hK => ?_) (AllReadyH.nil)
          go_simp
          go_wp2_with fail
          refine hK.out _ _ (by simp [go_sem, World.cell?_alloc_past, *]) (fun hHeld => ?_)
          clear hK K
          try simp only [Act.put, sA, sB, sC]
          refine wpAnyH_ready (rs := [9]) (by kernel_rfl) (by simp) ?_
          refine AllReadyH.cons rfl (fun K hK => ?_) (AllReadyH.nil)
          go_simp
          go_wp2_with fail
          refine hK.out _ _ (by simp [go_sem, World.cell?_alloc_past, *]) (fun hHeld => ?_)
          clear hK K
          try simp only [Act.put, sA, sB, sC]
          refine wpAnyH_done (by kernel_rfl) ?_ _
          go_wp2_with fail
          go_meet
          refine ⟨xw6.heap.size, xw5.heap.size, rfl, rfl, by first | omega | (simp; done) | (simp; omega), by first | omega | (simp; done) | (simp; omega), by omega, by omega, ?_, ?_, ?_⟩
          · exact ⟨(by simp [go_sem, World.cell?_alloc_past, *]), (by simp [go_sem, World.cell?_alloc_past, *]), (by simp [go_sem, World.cell?_alloc_past, *]), (by simp [go_sem, World.cell?_alloc_past, *]), (by simp [go_sem, World.cell?_alloc_past, *]), (by simp [go_sem, World.cell?_alloc_past, *]), (by simp [go_sem, World.cell?_alloc_past, *]), (by simp [go_sem, World.cell?_alloc_past, *]), (by simp [go_sem, World.cell?_alloc_past, *]), (by simp [go_sem, World.cell?_alloc_past, *]), (by simp [go_sem, World.cell?_alloc_past, *]), (by simp [go_sem, World.cell?_alloc_past, *])⟩
          · intro j; simp [go_sem, *]
          · (repeat (first | (with_reducible refine Below.drew ?_) | (with_reducible refine below_drewN ?_ _) | (with_reducible refine Below.alloc ?_ (by first | omega | (simp; done) | (simp; omega) | (simp at *; omega)) _) | (with_reducible refine Below.setCell ?_ (by first | omega | (simp; done) | (simp; omega) | (simp at *; omega)) _) | (with_reducible exact Below.refl _ _) | (with_reducible assumption) | (with_reducible refine Below.trans ?_ (Below.mono (by assumption) (by first | omega | (simp; done) | (simp; omega) | (simp at *; omega))))))
        · skip
          go_simp
          go_wp2_with fail
          refine hK.out _ _ (by simp [go_sem, World.cell?_alloc_past, *]) (fun hHeld => ?_)
          clear hK K
          try simp only [Act.put, sA, sB, sC]
          refine wpAnyH_ready (rs := [5]) (by kernel_rfl) (by simp) ?_
          refine AllReadyH.cons rfl (fun K hK => ?_) (AllReadyH.nil)
          go_simp
          refine (sharesOf_any p q m _ hG2 hm).mono ?_
          rintro e xw6 ⟨rfl, hbx6⟩
          have zx6 := hbx6.size
          try simp at zx6
          obtain ⟨x6_0_0, x6_0_1, x6_0_2, x6_1_0, x6_1_1, x6_1_2, x6_1_3, x6_1_4, x6_2_0, x6_2_1, x6_2_2, x6_2_3, x6_2_4, x6_2_5, x6_3_0, x6_3_1, x6_3_2, x6_4_0, x6_4_1, x6_4_2⟩ : xw6.cell? ⟨w.heap.size, 0, none⟩ = some (.int .i64 a) ∧ xw6.cell? ⟨w.heap.size, 1, none⟩ = some (.int .i64 b) ∧ xw6.cell? ⟨w.heap.size, 2, none⟩ = some (.int .i64 c) ∧ xw6.cell? ⟨w.heap.size + 1, 0, none⟩ = some (.int .i64 o) ∧ xw6.cell? ⟨w.heap.size + 1, 1, none⟩ = some (.int .i64 h) ∧ xw6.cell? ⟨w.heap.size + 1, 2, none⟩ = some (.int .i64 p) ∧ xw6.cell? ⟨w.heap.size + 1, 3, none⟩ = some (.int .i64 q) ∧ xw6.cell? ⟨w.heap.size + 1, 4, none⟩ = some (.int .i64 T) ∧ xw6.cell? ⟨w.heap.size + 1 + 1, 0, none⟩ = some (.int .i64 0) ∧ xw6.cell? ⟨w.heap.size + 1 + 1, 1, none⟩ = some (.int .i64 0) ∧ xw6.cell? ⟨w.heap.size + 1 + 1, 2, none⟩ = some (.int .i64 0) ∧ xw6.cell? ⟨w.heap.size + 1 + 1, 3, none⟩ = some (.int .i64 0) ∧ xw6.cell? ⟨w.heap.size + 1 + 1, 4, none⟩ = some (.int .i64 0) ∧ xw6.cell? ⟨w.heap.size + 1 + 1, 5, none⟩ = some (.int .i64 0) ∧ xw6.cell? ⟨xw5.heap.size, 0, none⟩ = some (.int .i64 0) ∧ xw6.cell? ⟨xw5.heap.size, 1, none⟩ = some (.int .i64 0) ∧ xw6.cell? ⟨xw5.heap.size, 2, none⟩ = some (.int .i64 0) ∧ xw6.cell? ⟨xw5.heap.size + 1, 0, none⟩ = some (.int .i64 0) ∧ xw6.cell? ⟨xw5.heap.size + 1, 1, none⟩ = some (.int .i64 0) ∧ xw6.cell? ⟨xw5.heap.size + 1, 2, none⟩ = some (.int .i64 0) := by refine ⟨?_, ?_, ?_, ?_, ?_, ?_, ?_, ?_, ?_, ?_, ?_, ?_, ?_, ?_, ?_, ?_, ?_, ?_, ?_, ?_⟩ <;> (rw [(bcell hbx6).1 _ _ (by first | (simp; done) | (simp; omega) | omega)]; simp [go_sem, World.cell?_alloc_past, *])
          obtain ⟨x6f2, x6f3, x6f4⟩ : (∀ j, xw6.frozen? ⟨w.heap.size + 1 + 1, j, none⟩ = false) ∧ (∀ j, xw6.frozen? ⟨xw5.heap.size, j, none⟩ = false) ∧ (∀ j, xw6.frozen? ⟨xw5.heap.size + 1, j, none⟩ = false) := by refine ⟨?_, ?_, ?_⟩ <;> (intro j; rw [(bcell hbx6).2 _ _ (by first | (simp; done) | (simp; omega) | omega)]; simp [go_sem, *])
          obtain ⟨x6o0, x6n0, x6m0, x6t0_0, x6t0_1, x6o1, x6n1, x6m1, x6t1_0, x6t1_1, x6o2, x6n2, x6m2, x6t2_0, x6t2_1, x6o3, x6n3, x6m3, x6t3_0, x6t3_1, x6o4, x6n4, x6m4, x6t4_0, x6t4_1⟩ : w.heap.size < xw6.heap.size ∧ xw6.heap.size ≠ w.heap.size ∧ w.heap.size ≠ xw6.heap.size ∧ w.heap.size < xw6.heap.size + 1 ∧ w.heap.size < xw6.heap.size + 1 + 1 ∧ w.heap.size + 1 < xw6.heap.size ∧ xw6.heap.size ≠ w.heap.size + 1 ∧ w.heap.size + 1 ≠ xw6.heap.size ∧ w.heap.size + 1 < xw6.heap.size + 1 ∧ w.heap.size + 1 < xw6.heap.size + 1 + 1 ∧ w.heap.size + 1 + 1 < xw6.heap.size ∧ xw6.heap.size ≠ w.heap.size + 1 + 1 ∧ w.heap.size + 1 + 1 ≠ xw6.heap.size ∧ w.heap.size + 1 + 1 < xw6.heap.size + 1 ∧ w.heap.size + 1 + 1 < xw6.heap.size + 1 + 1 ∧ xw5.heap.size < xw6.heap.size ∧ xw6.heap.size ≠ xw5.heap.size ∧ xw5.heap.size ≠ xw6.heap.size ∧ xw5.heap.size < xw6.heap.size + 1 ∧ xw5.heap.size < xw6.heap.size + 1 + 1 ∧ xw5.heap.size + 1 < xw6.heap.size ∧ xw6.heap.size ≠ xw5.heap.size + 1 ∧ xw5.heap.size + 1 ≠ xw6.heap.size ∧ xw5.heap.size + 1 < xw6.heap.size + 1 ∧ xw5.heap.size + 1 < xw6.heap.size + 1 + 1 := by refine ⟨?_, ?_, ?_, ?_, ?_, ?_, ?_, ?_, ?_, ?_, ?_, ?_, ?_, ?_, ?_, ?_, ?_, ?_, ?_, ?_, ?_, ?_, ?_, ?_, ?_⟩ <;> omega
          have hBx6 : Below w.heap.size w xw6 := (by (repeat (first | (with_reducible refine Below.drew ?_) | (with_reducible refine below_drewN ?_ _) | (with_reducible refine Below.alloc ?_ (by first | omega | (simp; done) | (simp; omega) | (simp at *; omega)) _) | (with_reducible refine Below.setCell ?_ (by first | omega | (simp; done) | (simp; omega) | (simp at *; omega)) _) | (with_reducible exact Below.refl _ _) | (with_reducible assumption) | (with_reducible refine Below.trans ?_ (Below.mono (by assumption) (by first | omega | (simp; done) | (simp; omega) | (simp at *; omega)))))))
          clear hbx6 x5_0_0 x5_0_1 x5_0_2 x5_1_0 x5_1_1 x5_1_2 x5_1_3 x5_1_4 x5_2_0 x5_2_1 x5_2_2 x5_2_3 x5_2_4 x5_2_5 x5f2 x5o0 x5n0 x5m0 x5t0_0 x5t0_1 x5o1 x5n1 x5m1 x5t1_0 x5t1_1 x5o2 x5n2 x5m2 x5t2_0 x5t2_1 hBx5
          go_wp2_with fail
          refine hK.out _ _ (by simp [go_sem, World.cell?_alloc_past, *]) (fun hHeld => ?_)
          clear hK K
          try simp only [Act.put, sA, sB, sC]
          refine wpAnyH_ready (rs := [8]) (by kernel_rfl) (by simp) ?_
          refine AllReadyH.cons rfl (fun K hK => ?_) (AllReadyH.nil)
          go_simp
          go_wp2_with fail
          refine hK.out _ _ (by simp [go_sem, World.cell?_alloc_past, *]) (fun hHeld => ?_)
          clear hK K
          try simp only [Act.put, sA, sB, sC]
          refine wpAnyH_ready (rs := [9]) (by kernel_rfl) (by simp) ?_
          refine AllReadyH.cons rfl (fun K hK => ?_) (AllReadyH.nil)
          go_simp
          go_wp2_with fail
          refine hK.out _ _ (by simp [go_sem, World.cell?_alloc_past, *]) (fun hHeld => ?_)
          clear hK K
          try simp only [Act.put, sA, sB, sC]
          refine wpAnyH_done (by kernel_rfl) ?_ _
          go_wp2_with fail
          go_meet
          refine ⟨xw5.heap.size + 1, xw5.heap.size, rfl, rfl, by first | omega | (simp; done) | (simp; omega), by first | omega | (simp; done) | (simp; omega), by omega, by omega, ?_, ?_, ?_⟩
          · exact ⟨(by simp [go_sem, World.cell?_alloc_past, *]), (by simp [go_sem, World.cell?_alloc_past, *]), (by simp [go_sem, World.cell?_alloc_past, *]), (by simp [go_sem, World.cell?_alloc_past, *]), (by simp [go_sem, World.cell?_alloc_past, *]), (by simp [go_sem, World.cell?_alloc_past, *]), (by simp [go_sem, World.cell?_alloc_past, *]), (by simp [go_sem, World.cell?_alloc_past, *]), (by simp [go_sem, World.cell?_alloc_past, *]), (by simp [go_sem, World.cell?_alloc_past, *]), (by simp [go_sem, World.cell?_alloc_past, *]), (by simp [go_sem, World.cell?_alloc_past, *])⟩
          · intro j; simp [go_sem, *]
          · (repeat (first | (with_reducible refine Below.drew ?_) | (with_reducible refine below_drewN ?_ _) | (with_reducible refine Below.alloc ?_ (by first | omega | (simp; done) | (simp; omega) | (simp at *; omega)) _) | (with_reducible refine Below.setCell ?_ (by first | omega | (simp; done) | (simp; omega) | (simp at *; omega)) _) | (with_reducible exact Below.refl _ _) | (with_reducible assumption) | (with_reducible refine Below.trans ?_ (Below.mono (by assumption) (by first | omega | (simp; done) | (simp; omega) | (simp at *; omega))))))
    · skip
      go_simp
      go_wp2_with fail
      refine hK.out _ _ (by simp [go_sem, World.cell?_alloc_past, *]) (fun hHeld => ?_)
      clear hK K
      try simp only [Act.put, sA, sB, sC]
      refine wpAnyH_ready (rs := [2, 7]) (by kernel_rfl) (by simp) ?_
      refine AllReadyH.cons rfl (fun K hK => ?_) (AllReadyH.cons rfl (fun K hK => ?_) (AllReadyH.nil))
      · skip
        go_simp
        refine (missingOf_any a b c o h p q T n P Q U X Y Z _ hc hG hn T0 T1 hP hX).mono ?_
        rintro e xw5 ⟨rfl, hbx5⟩
        have zx5 := hbx5.size
        try simp at zx5
        obtain ⟨x5_0_0, x5_0_1, x5_0_2, x5_1_0, x5_1_1, x5_1_2, x5_1_3, x5_1_4, x5_2_0, x5_2_1, x5_2_2, x5_2_3, x5_2_4, x5_2_5, x5_3_0, x5_3_1, x5_3_2⟩ : xw5.cell? ⟨w.heap.size, 0, none⟩ = some (.int .i64 a) ∧ xw5.cell? ⟨w.heap.size, 1, none⟩ = some (.int .i64 b) ∧ xw5.cell? ⟨w.heap.size, 2, none⟩ = some (.int .i64 c) ∧ xw5.cell? ⟨w.heap.size + 1, 0, none⟩ = some (.int .i64 o) ∧ xw5.cell? ⟨w.heap.size + 1, 1, none⟩ = some (.int .i64 h) ∧ xw5.cell? ⟨w.heap.size + 1, 2, none⟩ = some (.int .i64 p) ∧ xw5.cell? ⟨w.heap.size + 1, 3, none⟩ = some (.int .i64 q) ∧ xw5.cell? ⟨w.heap.size + 1, 4, none⟩ = some (.int .i64 T) ∧ xw5.cell? ⟨w.heap.size + 1 + 1, 0, none⟩ = some (.int .i64 0) ∧ xw5.cell? ⟨w.heap.size + 1 + 1, 1, none⟩ = some (.int .i64 0) ∧ xw5.cell? ⟨w.heap.size + 1 + 1, 2, none⟩ = some (.int .i64 0) ∧ xw5.cell? ⟨w.heap.size + 1 + 1, 3, none⟩ = some (.int .i64 0) ∧ xw5.cell? ⟨w.heap.size + 1 + 1, 4, none⟩ = some (.int .i64 0) ∧ xw5.cell? ⟨w.heap.size + 1 + 1, 5, none⟩ = some (.int .i64 0) ∧ xw5.cell? ⟨xw4.heap.size + 1, 0, none⟩ = some (.int .i64 0) ∧ xw5.cell? ⟨xw4.heap.size + 1, 1, none⟩ = some (.int .i64 0) ∧ xw5.cell? ⟨xw4.heap.size + 1, 2, none⟩ = some (.int .i64 0) := by refine ⟨?_, ?_, ?_, ?_, ?_, ?_, ?_, ?_, ?_, ?_, ?_, ?_, ?_, ?_, ?_, ?_, ?_⟩ <;> (rw [(bcell hbx5).1 _ _ (by first | (simp; done) | (simp; omega) | omega)]; simp [go_sem, World.cell?_alloc_past, *])
        obtain ⟨x5f2, x5f3⟩ : (∀ j, xw5.frozen? ⟨w.heap.size + 1 + 1, j, none⟩ = false) ∧ (∀ j, xw5.frozen? ⟨xw4.heap.size + 1, j, none⟩ = false) := by refine ⟨?_, ?_⟩ <;> (intro j; rw [(bcell hbx5).2 _ _ (by first | (simp; done) | (simp; omega) | omega)]; simp [go_sem, *])
        obtain ⟨x5o0, x5n0, x5m0, x5t0_0, x5t0_1, x5o1, x5n1, x5m1, x5t1_0, x5t1_1, x5o2, x5n2, x5m2, x5t2_0, x5t2_1, x5o3, x5n3, x5m3, x5t3_0, x5t3_1⟩ : w.heap.size < xw5.heap.size ∧ xw5.heap.size ≠ w.heap.size ∧ w.heap.size ≠ xw5.heap.size ∧ w.heap.size < xw5.heap.size + 1 ∧ w.heap.size < xw5.heap.size + 1 + 1 ∧ w.heap.size + 1 < xw5.heap.size ∧ xw5.heap.size ≠ w.heap.size + 1 ∧ w.heap.size + 1 ≠ xw5.heap.size ∧ w.heap.size + 1 < xw5.heap.size + 1 ∧ w.heap.size + 1 < xw5.heap.size + 1 + 1 ∧ w.heap.size + 1 + 1 < xw5.heap.size ∧ xw5.heap.size ≠ w.heap.size + 1 + 1 ∧ w.heap.size + 1 + 1 ≠ xw5.heap.size ∧ w.heap.size + 1 + 1 < xw5.heap.size + 1 ∧ w.heap.size + 1 + 1 < xw5.heap.size + 1 + 1 ∧ xw4.heap.size + 1 < xw5.heap.size ∧ xw5.heap.size ≠ xw4.heap.size + 1 ∧ xw4.heap.size + 1 ≠ xw5.heap.size ∧ xw4.heap.size + 1 < xw5.heap.size + 1 ∧ xw4.heap.size + 1 < xw5.heap.size + 1 + 1 := by refine ⟨?_, ?_, ?_, ?_, ?_, ?_, ?_, ?_, ?_, ?_, ?_, ?_, ?_, ?_, ?_, ?_, ?_, ?_, ?_, ?_⟩ <;> omega
        have hBx5 : Below w.heap.size w xw5 := (by (repeat (first | (with_reducible refine Below.drew ?_) | (with_reducible refine below_drewN ?_ _) | (with_reducible refine Below.alloc ?_ (by first | omega | (simp; done) | (simp; omega) | (simp at *; omega)) _) | (with_reducible refine Below.setCell ?_ (by first | omega | (simp; done) | (simp; omega) | (simp at *; omega)) _) | (with_reducible exact Below.refl _ _) | (with_reducible assumption) | (with_reducible refine Below.trans ?_ (Below.mono (by assumption) (by first | omega | (simp; done) | (simp; omega) | (simp at *; omega)))))))
        clear hbx5 x4_0_0 x4_0_1 x4_0_2 x4_1_0 x4_1_1 x4_1_2 x4_1_3 x4_1_4 x4_2_0 x4_2_1 x4_2_2 x4_2_3 x4_2_4 x4_2_5 x4f2 x4o0 x4n0 x4t0_0 x4t0_1 x4o1 x4n1 x4t1_0 x4t1_1 x4o2 x4n2 x4t2_0 x4t2_1 hBx4
        go_wp2_with fail
        refine hK.out _ _ (by simp [go_sem, World.cell?_alloc_past, *]) (fun hHeld => ?_)
        clear hK K
        try simp only [Act.put, sA, sB, sC]
        refine wpAnyH_ready (rs := [5, 7]) (by kernel_rfl) (by simp) ?_
        refine AllReadyH.cons rfl (fun K hK => ?_) (AllReadyH.cons rfl (fun K hK => ?_) (AllReadyH.nil))
        · skip
          go_simp
          refine (sharesOf_any p q m _ hG2 hm).mono ?_
          rintro e xw6 ⟨rfl, hbx6⟩
          have zx6 := hbx6.size
          try simp at zx6
          obtain ⟨x6_0_0, x6_0_1, x6_0_2, x6_1_0, x6_1_1, x6_1_2, x6_1_3, x6_1_4, x6_2_0, x6_2_1, x6_2_2, x6_2_3, x6_2_4, x6_2_5, x6_3_0, x6_3_1, x6_3_2⟩ : xw6.cell? ⟨w.heap.size, 0, none⟩ = some (.int .i64 a) ∧ xw6.cell? ⟨w.heap.size, 1, none⟩ = some (.int .i64 b) ∧ xw6.cell? ⟨w.heap.size, 2, none⟩ = some (.int .i64 c) ∧ xw6.cell? ⟨w.heap.size + 1, 0, none⟩ = some (.int .i64 o) ∧ xw6.cell? ⟨w.heap.size + 1, 1, none⟩ = some (.int .i64 h) ∧ xw6.cell? ⟨w.heap.size + 1, 2, none⟩ = some (.int .i64 p) ∧ xw6.cell? ⟨w.heap.size + 1, 3, none⟩ = some (.int .i64 q) ∧ xw6.cell? ⟨w.heap.size + 1, 4, none⟩ = some (.int .i64 T) ∧ xw6.cell? ⟨w.heap.size + 1 + 1, 0, none⟩ = some (.int .i64 0) ∧ xw6.cell? ⟨w.heap.size + 1 + 1, 1, none⟩ = some (.int .i64 0) ∧ xw6.cell? ⟨w.heap.size + 1 + 1, 2, none⟩ = some (.int .i64 0) ∧ xw6.cell? ⟨w.heap.size + 1 + 1, 3, none⟩ = some (.int .i64 0) ∧ xw6.cell? ⟨w.heap.size + 1 + 1, 4, none⟩ = some (.int .i64 0) ∧ xw6.cell? ⟨w.heap.size + 1 + 1, 5, none⟩ = some (.int .i64 0) ∧ xw6.cell? ⟨xw4.heap.size + 1, 0, none⟩ = some (.int .i64 0) ∧ xw6.cell? ⟨xw4.heap.size + 1, 1, none⟩ = some (.int .i64 0) ∧ xw6.cell? ⟨xw4.heap.size + 1, 2, none⟩ = some (.int .i64 0) := by refine ⟨?_, ?_, ?_, ?_, ?_, ?_, ?_, ?_, ?_, ?_, ?_, ?_, ?_, ?_, ?_, ?_, ?_⟩ <;> (rw [(bcell hbx6).1 _ _ (by first | (simp; done) | (simp; omega) | omega)]; simp [go_sem, World.cell?_alloc_past, *])
          obtain ⟨x6f2, x6f3⟩ : (∀ j, xw6.frozen? ⟨w.heap.size + 1 + 1, j, none⟩ = false) ∧ (∀ j, xw6.frozen? ⟨xw4.heap.size + 1, j, none⟩ = false) := by refine ⟨?_, ?_⟩ <;> (intro j; rw [(bcell hbx6).2 _ _ (by first | (simp; done) | (simp; omega) | omega)]; simp [go_sem, *])
          obtain ⟨x6o0, x6n0, x6m0, x6t0_0, x6t0_1, x6o1, x6n1, x6m1, x6t1_0, x6t1_1, x6o2, x6n2, x6m2, x6t2_0, x6t2_1, x6o3, x6n3, x6m3, x6t3_0, x6t3_1⟩ : w.heap.size < xw6.heap.size ∧ xw6.heap.size ≠ w.heap.size ∧ w.heap.size ≠ xw6.heap.size ∧ w.heap.size < xw6.heap.size + 1 ∧ w.heap.size < xw6.heap.size + 1 + 1 ∧ w.heap.size + 1 < xw6.heap.size ∧ xw6.heap.size ≠ w.heap.size + 1 ∧ w.heap.size + 1 ≠ xw6.heap.size ∧ w.heap.size + 1 < xw6.heap.size + 1 ∧ w.heap.size + 1 < xw6.heap.size + 1 + 1 ∧ w.heap.size + 1 + 1 < xw6.heap.size ∧ xw6.heap.size ≠ w.heap.size + 1 + 1 ∧ w.heap.size + 1 + 1 ≠ xw6.heap.size ∧ w.heap.size + 1 + 1 < xw6.heap.size + 1 ∧ w.heap.size + 1 + 1 < xw6.heap.size + 1 + 1 ∧ xw4.heap.size + 1 < xw6.heap.size ∧ xw6.heap.size ≠ xw4.heap.size + 1 ∧ xw4.heap.size + 1 ≠ xw6.heap.size ∧ xw4.heap.size + 1 < xw6.heap.size + 1 ∧ xw4.heap.size + 1 < xw6.heap.size + 1 + 1 := by refine ⟨?_, ?_, ?_, ?_, ?_, ?_, ?_, ?_, ?_, ?_, ?_, ?_, ?_, ?_, ?_, ?_, ?_, ?_, ?_, ?_⟩ <;> omega
          have hBx6 : Below w.heap.size w xw6 := (by (repeat (first | (with_reducible refine Below.drew ?_) | (with_reducible refine below_drewN ?_ _) | (with_reducible refine Below.alloc ?_ (by first | omega | (simp; done) | (simp; omega) | (simp at *; omega)) _) | (with_reducible refine Below.setCell ?_ (by first | omega | (simp; done) | (simp; omega) | (simp at *; omega)) _) | (with_reducible exact Below.refl _ _) | (with_reducible assumption) | (with_reducible refine Below.trans ?_ (Below.mono (by assumption) (by first | omega | (simp; done) | (simp; omega) | (simp at *; omega)))))))
          clear hbx6 x5_0_0 x5_0_1 x5_0_2 x5_1_0 x5_1_1 x5_1_2 x5_1_3 x5_1_4 x5_2_0 x5_2_1 x5_2_2 x5_2_3 x5_2_4 x5_2_5 x5_3_0 x5_3_1 x5_3_2 x5f2 x5f3 x5o0 x5n0 x5m0 x5t0_0 x5t0_1 x5o1 x5n1 x5m1 x5t1_0 x5t1_1 x5o2 x5n2 x5m2 x5t2_0 x5t2_1 x5o3 x5n3 x5m3 x5t3_0 x5t3_1 hBx5
          go_wp2_with fail
          refine hK.out _ _ (by simp [go_sem, World.cell?_alloc_past, *]) (fun hHeld => ?_)
          clear hK K
          try simp only [Act.put, sA, sB, sC]
          refine wpAnyH_ready (rs := [7]) (by kernel_rfl) (by simp) ?_
          refine AllReadyH.cons rfl (fun K hK => ?_) (AllReadyH.nil)
          go_simp
          go_wp2_with fail
          refine hK.out _ _ (by simp [go_sem, World.cell?_alloc_past, *]) (fun hHeld => ?_)
          clear hK K
          try simp only [Act.put, sA, sB, sC]
          refine wpAnyH_ready (rs := [8]) (by kernel_rfl) (by simp) ?_
          refine AllReadyH.cons rfl (fun K hK => ?_) (AllReadyH.nil)
          go_simp
          go_wp2_with fail
          refine hK.out _ _ (by simp [go_sem, World.cell?_alloc_past, *]) (fun hHeld => ?_)
          clear hK K
          try simp only [Act.put, sA, sB, sC]
          refine wpAnyH_ready (rs := [9]) (by kernel_rfl) (by simp) ?_
          refine AllReadyH.cons rfl (fun K hK => ?_) (AllReadyH.nil)
          go_simp
          go_wp2_with fail
          refine hK.out _ _ (by simp [go_sem, World.cell?_alloc_past, *]) (fun hHeld => ?_)
          clear hK K
          try simp only [Act.put, sA, sB, sC]
          refine wpAnyH_done (by kernel_rfl) ?_ _
          go_wp2_with fail
          go_meet
          refine ⟨xw4.heap.size + 1, xw6.heap.size, rfl, rfl, by first | omega | (simp; done) | (simp; omega), by first | omega | (simp; done) | (simp; omega), by omega, by omega, ?_, ?_, ?_⟩
          · exact ⟨(by simp [go_sem, World.cell?_alloc_past, *]), (by simp [go_sem, World.cell?_alloc_past, *]), (by simp [go_sem, World.cell?_alloc_past, *]), (by simp [go_sem, World.cell?_alloc_past, *]), (by simp [go_sem, World.cell?_alloc_past, *]), (by simp [go_sem, World.cell?_alloc_past, *]), (by simp [go_sem, World.cell?_alloc_past, *]), (by simp [go_sem, World.cell?_alloc_past, *]), (by simp [go_sem, World.cell?_alloc_past, *]), (by simp [go_sem, World.cell?_alloc_past, *]), (by simp [go_sem, World.cell?_alloc_past, *]), (by simp [go_sem, World.cell?_alloc_past, *])⟩
          · intro j; simp [go_sem, *]
          · (repeat (first | (with_reducible refine Below.drew ?_) | (with_reducible refine below_drewN ?_ _) | (with_reducible refine Below.alloc ?_ (by first | omega | (simp; done) | (simp; omega) | (simp at *; omega)) _) | (with_reducible refine Below.setCell ?_ (by first | omega | (simp; done) | (simp; omega) | (simp at *; omega)) _) | (with_reducible exact Below.refl _ _) | (with_reducible assumption) | (with_reducible refine Below.trans ?_ (Below.mono (by assumption) (by first | omega | (simp; done) | (simp; omega) | (simp at *; omega))))))
        · skip
          go_simp
          go_wp2_with fail
          refine hK.out _ _ (by simp [go_sem, World.cell?_alloc_past, *]) (fun hHeld => ?_)
          clear hK K
          try simp only [Act.put, sA, sB, sC]
          refine wpAnyH_ready (rs := [5]) (by kernel_rfl) (by simp) ?_
          refine AllReadyH.cons rfl (fun K hK => ?_) (AllReadyH.nil)
          go_simp
          refine (sharesOf_any p q m _ hG2 hm).mono ?_
          rintro e xw6 ⟨rfl, hbx6⟩
          have zx6 := hbx6.size
          try simp at zx6
          obtain ⟨x6_0_0, x6_0_1, x6_0_2, x6_1_0, x6_1_1, x6_1_2, x6_1_3, x6_1_4, x6_2_0, x6_2_1, x6_2_2, x6_2_3, x6_2_4, x6_2_5, x6_3_0, x6_3_1, x6_3_2, x6_4_0, x6_4_1, x6_4_2⟩ : xw6.cell? ⟨w.heap.size, 0, none⟩ = some (.int .i64 a) ∧ xw6.cell? ⟨w.heap.size, 1, none⟩ = some (.int .i64 b) ∧ xw6.cell? ⟨w.heap.size, 2, none⟩ = some (.int .i64 c) ∧ xw6.cell? ⟨w.heap.size + 1, 0, none⟩ = some (.int .i64 o) ∧ xw6.cell? ⟨w.heap.size + 1, 1, none⟩ = some (.int .i64 h) ∧ xw6.cell? ⟨w.heap.size + 1, 2, none⟩ = some (.int .i64 p) ∧ xw6.cell? ⟨w.heap.size + 1, 3, none⟩ = some (.int .i64 q) ∧ xw6.cell? ⟨w.heap.size + 1, 4, none⟩ = some (.int .i64 T) ∧ xw6.cell? ⟨w.heap.size + 1 + 1, 0, none⟩ = some (.int .i64 0) ∧ xw6.cell? ⟨w.heap.size + 1 + 1, 1, none⟩ = some (.int .i64 0) ∧ xw6.cell? ⟨w.heap.size + 1 + 1, 2, none⟩ = some (.int .i64 0) ∧ xw6.cell? ⟨w.heap.size + 1 + 1, 3, none⟩ = some (.int .i64 0) ∧ xw6.cell? ⟨w.heap.size + 1 + 1, 4, none⟩ = some (.int .i64 0) ∧ xw6.cell? ⟨w.heap.size + 1 + 1, 5, none⟩ = some (.int .i64 0) ∧ xw6.cell? ⟨xw4.heap.size + 1, 0, none⟩ = some (.int .i64 0) ∧ xw6.cell? ⟨xw4.heap.size + 1, 1, none⟩ = some (.int .i64 0) ∧ xw6.cell? ⟨xw4.heap.size + 1, 2, none⟩ = some (.int .i64 0) ∧ xw6.cell? ⟨xw5.heap.size, 0, none⟩ = some (.int .i64 0) ∧ xw6.cell? ⟨xw5.heap.size, 1, none⟩ = some (.int .i64 0) ∧ xw6.cell? ⟨xw5.heap.size, 2, none⟩ = some (.int .i64 0) := by refine ⟨?_, ?_, ?_, ?_, ?_, ?_, ?_, ?_, ?_, ?_, ?_, ?_, ?_, ?_, ?_, ?_, ?_, ?_, ?_, ?_⟩ <;> (rw [(bcell hbx6).1 _ _ (by first | (simp; done) | (simp; omega) | omega)]; simp [go_sem, World.cell?_alloc_past, *])
          obtain ⟨x6f2, x6f3, x6f4⟩ : (∀ j, xw6.frozen? ⟨w.heap.size + 1 + 1, j, none⟩ = false) ∧ (∀ j, xw6.frozen? ⟨xw4.heap.size + 1, j, none⟩ = false) ∧ (∀ j, xw6.frozen? ⟨xw5.heap.size, j, none⟩ = false) := by refine ⟨?_, ?_, ?_⟩ <;> (intro j; rw [(bcell hbx6).2 _ _ (by first | (simp; done) | (simp; omega) | omega)]; simp [go_sem, *])
          obtain ⟨x6o0, x6n0, x6m0, x6t0_0, x6t0_1, x6o1, x6n1, x6m1, x6t1_0, x6t1_1, x6o2, x6n2, x6m2, x6t2_0, x6t2_1, x6o3, x6n3, x6m3, x6t3_0, x6t3_1, x6o4, x6n4, x6m4, x6t4_0, x6t4_1⟩ : w.heap.size < xw6.heap.size ∧ xw6.heap.size ≠ w.heap.size ∧ w.heap.size ≠ xw6.heap.size ∧ w.heap.size < xw6.heap.size + 1 ∧ w.heap.size < xw6.heap.size + 1 + 1 ∧ w.heap.size + 1 < xw6.heap.size ∧ xw6.heap.size ≠ w.heap.size + 1 ∧ w.heap.size + 1 ≠ xw6.heap.size ∧ w.heap.size + 1 < xw6.heap.size + 1 ∧ w.heap.size + 1 < xw6.heap.size + 1 + 1 ∧ w.heap.size + 1 + 1 < xw6.heap.size ∧ xw6.heap.size ≠ w.heap.size + 1 + 1 ∧ w.heap.size + 1 + 1 ≠ xw6.heap.size ∧ w.heap.size + 1 + 1 < xw6.heap.size + 1 ∧ w.heap.size + 1 + 1 < xw6.heap.size + 1 + 1 ∧ xw4.heap.size + 1 < xw6.heap.size ∧ xw6.heap.size ≠ xw4.heap.size + 1 ∧ xw4.heap.size + 1 ≠ xw6.heap.size ∧ xw4.heap.size + 1 < xw6.heap.size + 1 ∧ xw4.heap.size + 1 < xw6.heap.size + 1 + 1 ∧ xw5.heap.size < xw6.heap.size ∧ xw6.heap.size ≠ xw5.heap.size ∧ xw5.heap.size ≠ xw6.heap.size ∧ xw5.heap.size < xw6.heap.size + 1 ∧ xw5.heap.size < xw6.heap.size + 1 + 1 := by refine ⟨?_, ?_, ?_, ?_, ?_, ?_, ?_, ?_, ?_, ?_, ?_, ?_, ?_, ?_, ?_, ?_, ?_, ?_, ?_, ?_, ?_, ?_, ?_, ?_, ?_⟩ <;> omega
          have hBx6 : Below w.heap.size w xw6 := (by (repeat (first | (with_reducible refine Below.drew ?_) | (with_reducible refine below_drewN ?_ _) | (with_reducible refine Below.alloc ?_ (by first | omega | (simp; done) | (simp; omega) | (simp at *; omega)) _) | (with_reducible refine Below.setCell ?_ (by first | omega | (simp; done) | (simp; omega) | (simp at *; omega)) _) | (with_reducible exact Below.refl _ _) | (with_reducible assumption) | (with_reducible refine Below.trans ?_ (Below.mono (by assumption) (by first | omega | (simp; done) | (simp; omega) | (simp at *; omega)))))))
          clear hbx6 x5_0_0 x5_0_1 x5_0_2 x5_1_0 x5_1_1 x5_1_2 x5_1_3 x5_1_4 x5_2_0 x5_2_1 x5_2_2 x5_2_3 x5_2_4 x5_2_5 x5_3_0 x5_3_1 x5_3_2 x5f2 x5f3 x5o0 x5n0 x5m0 x5t0_0 x5t0_1 x5o1 x5n1 x5m1 x5t1_0 x5t1_1 x5o2 x5n2 x5m2 x5t2_0 x5t2_1 x5o3 x5n3 x5m3 x5t3_0 x5t3_1 hBx5
          go_wp2_with fail
          refine hK.out _ _ (by simp [go_sem, World.cell?_alloc_past, *]) (fun hHeld => ?_)
          clear hK K
          try simp only [Act.put, sA, sB, sC]
          refine wpAnyH_ready (rs := [8]) (by kernel_rfl) (by simp) ?_
          refine AllReadyH.cons rfl (fun K hK => ?_) (AllReadyH.nil)
          go_simp
          go_wp2_with fail
          refine hK.out _ _ (by simp [go_sem, World.cell?_alloc_past, *]) (fun hHeld => ?_)
          clear hK K
          try simp only [Act.put, sA, sB, sC]
          refine wpAnyH_ready (rs := [9]) (by kernel_rfl) (by simp) ?_
          refine AllReadyH.cons rfl (fun K hK => ?_) (AllReadyH.nil)
          go_simp
          go_wp2_with fail
          refine hK.out _ _ (by simp [go_sem, World.cell?_alloc_past, *]) (fun hHeld => ?_)
          clear hK K
          try simp only [Act.put, sA, sB, sC]
          refine wpAnyH_done (by kernel_rfl) ?_ _
          go_wp2_with fail
          go_meet
          refine ⟨xw4.heap.size + 1, xw5.heap.size, rfl, rfl, by first | omega | (simp; done) | (simp; omega), by first | omega | (simp; done) | (simp; omega), by omega, by omega, ?_, ?_, ?_⟩
          · exact ⟨(by simp [go_sem, World.cell?_alloc_past, *]), (by simp [go_sem, World.cell?_alloc_past, *]), (by simp [go_sem, World.cell?_alloc_past, *]), (by simp [go_sem, World.cell?_alloc_past, *]), (by simp [go_sem, World.cell?_alloc_past, *]), (by simp [go_sem, World.cell?_alloc_past, *]), (by simp [go_sem, World.cell?_alloc_past, *]), (by simp [go_sem, World.cell?_alloc_past, *]), (by simp [go_sem, World.cell?_alloc_past, *]), (by simp [go_sem, World.cell?_alloc_past, *]), (by simp [go_sem, World.cell?_alloc_past, *]), (by simp [go_sem, World.cell?_alloc_past, *])⟩
          · intro j; simp [go_sem, *]
          · (repeat (first | (with_reducible refine Below.drew ?_) | (with_reducible refine below_drewN ?_ _) | (with_reducible refine Below.alloc ?_ (by first | omega | (simp; done) | (simp; omega) | (simp at *; omega)) _) | (with_reducible refine Below.setCell ?_ (by first | omega | (simp; done) | (simp; omega) | (simp at *; omega)) _) | (with_reducible exact Below.refl _ _) | (with_reducible assumption) | (with_reducible refine Below.trans ?_ (Below.mono (by assumption) (by first | omega | (simp; done) | (simp; omega) | (simp at *; omega))))))
      · skip
        go_simp
        go_wp2_with fail
        refine hK.out _ _ (by simp [go_sem, World.cell?_alloc_past, *]) (fun hHeld => ?_)
        clear hK K
        try simp only [Act.put, sA, sB, sC]
        refine wpAnyH_ready (rs := [2]) (by kernel_rfl) (by simp) ?_
        refine AllReadyH.cons rfl (fun K hK => ?_) (AllReadyH.nil)
        go_simp
        refine (missingOf_any a b c o h p q T n P Q U X Y Z _ hc hG hn T0 T1 hP hX).mono ?_
        rintro e xw5 ⟨rfl, hbx5⟩
        have zx5 := hbx5.size
        try simp at zx5
        obtain ⟨x5_0_0, x5_0_1, x5_0_2, x5_1_0, x5_1_1, x5_1_2, x5_1_3, x5_1_4, x5_2_0, x5_2_1, x5_2_2, x5_2_3, x5_2_4, x5_2_5, x5_3_0, x5_3_1, x5_3_2, x5_4_0, x5_4_1, x5_4_2⟩ : xw5.cell? ⟨w.heap.size, 0, none⟩ = some (.int .i64 a) ∧ xw5.cell? ⟨w.heap.size, 1, none⟩ = some (.int .i64 b) ∧ xw5.cell? ⟨w.heap.size, 2, none⟩ = some (.int .i64 c) ∧ xw5.cell? ⟨w.heap.size + 1, 0, none⟩ = some (.int .i64 o) ∧ xw5.cell? ⟨w.heap.size + 1, 1, none⟩ = some (.int .i64 h) ∧ xw5.cell? ⟨w.heap.size + 1, 2, none⟩ = some (.int .i64 p) ∧ xw5.cell? ⟨w.heap.size + 1, 3, none⟩ = some (.int .i64 q) ∧ xw5.cell? ⟨w.heap.size + 1, 4, none⟩ = some (.int .i64 T) ∧ xw5.cell? ⟨w.heap.size + 1 + 1, 0, none⟩ = some (.int .i64 0) ∧ xw5.cell? ⟨w.heap.size + 1 + 1, 1, none⟩ = some (.int .i64 0) ∧ xw5.cell? ⟨w.heap.size + 1 + 1, 2, none⟩ = some (.int .i64 0) ∧ xw5.cell? ⟨w.heap.size + 1 + 1, 3, none⟩ = some (.int .i64 0) ∧ xw5.cell? ⟨w.heap.size + 1 + 1, 4, none⟩ = some (.int .i64 0) ∧ xw5.cell? ⟨w.heap.size + 1 + 1, 5, none⟩ = some (.int .i64 0) ∧ xw5.cell? ⟨xw4.heap.size + 1, 0, none⟩ = some (.int .i64 0) ∧ xw5.cell? ⟨xw4.heap.size + 1, 1, none⟩ = some (.int .i64 0) ∧ xw5.cell? ⟨xw4.heap.size + 1, 2, none⟩ = some (.int .i64 0) ∧ xw5.cell? ⟨xw4.heap.size + 1 + 1, 0, none⟩ = some (.int .i64 0) ∧ xw5.cell? ⟨xw4.heap.size + 1 + 1, 1, none⟩ = some (.int .i64 0) ∧ xw5.cell? ⟨xw4.heap.size + 1 + 1, 2, none⟩ = some (.int .i64 0) := by refine ⟨?_, ?_, ?_, ?_, ?_, ?_, ?_, ?_, ?_, ?_, ?_, ?_, ?_, ?_, ?_, ?_, ?_, ?_, ?_, ?_⟩ <;> (rw [(bcell hbx5).1 _ _ (by first | (simp; done) | (simp; omega) | omega)]; simp [go_sem, World.cell?_alloc_past, *])
        obtain ⟨x5f2, x5f3, x5f4⟩ : (∀ j, xw5.frozen? ⟨w.heap.size + 1 + 1, j, none⟩ = false) ∧ (∀ j, xw5.frozen? ⟨xw4.heap.size + 1, j, none⟩ = false) ∧ (∀ j, xw5.frozen? ⟨xw4.heap.size + 1 + 1, j, none⟩ = false) := by refine ⟨?_, ?_, ?_⟩ <;> (intro j; rw [(bcell hbx5).2 _ _ (by first | (simp; done) | (simp; omega) | omega)]; simp [go_sem, *])
        obtain ⟨x5o0, x5n0, x5m0, x5t0_0, x5t0_1, x5o1, x5n1, x5m1, x5t1_0, x5t1_1, x5o2, x5n2, x5m2, x5t2_0, x5t2_1, x5o3, x5n3, x5m3, x5t3_0, x5t3_1, x5o4, x5n4, x5m4, x5t4_0, x5t4_1⟩ : w.heap.size < xw5.heap.size ∧ xw5.heap.size ≠ w.heap.size ∧ w.heap.size ≠ xw5.heap.size ∧ w.heap.size < xw5.heap.size + 1 ∧ w.heap.size < xw5.heap.size + 1 + 1 ∧ w.heap.size + 1 < xw5.heap.size ∧ xw5.heap.size ≠ w.heap.size + 1 ∧ w.heap.size + 1 ≠ xw5.heap.size ∧ w.heap.size + 1 < xw5.heap.size + 1 ∧ w.heap.size + 1 < xw5.heap.size + 1 + 1 ∧ w.heap.size + 1 + 1 < xw5.heap.size ∧ xw5.heap.size ≠ w.heap.size + 1 + 1 ∧ w.heap.size + 1 + 1 ≠ xw5.heap.size ∧ w.heap.size + 1 + 1 < xw5.heap.size + 1 ∧ w.heap.size + 1 + 1 < xw5.heap.size + 1 + 1 ∧ xw4.heap.size + 1 < xw5.heap.size ∧ xw5.heap.size ≠ xw4.heap.size + 1 ∧ xw4.heap.size + 1 ≠ xw5.heap.size ∧ xw4.heap.size + 1 < xw5.heap.size + 1 ∧ xw4.heap.size + 1 < xw5.heap.size + 1 + 1 ∧ xw4.heap.size + 1 + 1 < xw5.heap.size ∧ xw5.heap.size ≠ xw4.heap.size + 1 + 1 ∧ xw4.heap.size + 1 + 1 ≠ xw5.heap.size ∧ xw4.heap.size + 1 + 1 < xw5.heap.size + 1 ∧ xw4.heap.size + 1 + 1 < xw5.heap.size + 1 + 1 := by refine ⟨?_, ?_, ?_, ?_, ?_, ?_, ?_, ?_, ?_, ?_, ?_, ?_, ?_, ?_, ?_, ?_, ?_, ?_, ?_, ?_, ?_, ?_, ?_, ?_, ?_⟩ <;> omega
        have hBx5 : Below w.heap.size w xw5 := (by (repeat (first | (with_reducible refine Below.drew ?_) | (with_reducible refine below_drewN ?_ _) | (with_reducible refine Below.alloc ?_ (by first | omega | (simp; done) | (simp; omega) | (simp at *; omega)) _) | (with_reducible refine Below.setCell ?_ (by first | omega | (simp; done) | (simp; omega) | (simp at *; omega)) _) | (with_reducible exact Below.refl _ _) | (with_reducible assumption) | (with_reducible refine Below.trans ?_ (Below.mono (by assumption) (by first | omega | (simp; done) | (simp; omega) | (simp at *; omega)))))))
        clear hbx5 x4_0_0 x4_0_1 x4_0_2 x4_1_0 x4_1_1 x4_1_2 x4_1_3 x4_1_4 x4_2_0 x4_2_1 x4_2_2 x4_2_3 x4_2_4 x4_2_5 x4f2 x4o0 x4n0 x4t0_0 x4t0_1 x4o1 x4n1 x4t1_0 x4t1_1 x4o2 x4n2 x4t2_0 x4t2_1 hBx4
        go_wp2_with fail
        refine hK.out _ _ (by simp [go_sem, World.cell?_alloc_past, *]) (fun hHeld => ?_)
        clear hK K
        try simp only [Act.put, sA, sB, sC]
        refine wpAnyH_ready (rs := [5]) (by kernel_rfl) (by simp) ?_
        refine AllReadyH.cons rfl (fun K hK => ?_) (AllReadyH.nil)
        go_simp
        refine (sharesOf_any p q m _ hG2 hm).mono ?_
        rintro e xw6 ⟨rfl, hbx6⟩
        have zx6 := hbx6.size
        try simp at zx6
        obtain ⟨x6_0_0, x6_0_1, x6_0_2, x6_1_0, x6_1_1, x6_1_2, x6_1_3, x6_1_4, x6_2_0, x6_2_1, x6_2_2, x6_2_3, x6_2_4, x6_2_5, x6_3_0, x6_3_1, x6_3_2, x6_4_0, x6_4_1, x6_4_2⟩ : xw6.cell? ⟨w.heap.size, 0, none⟩ = some (.int .i64 a) ∧ xw6.cell? ⟨w.heap.size, 1, none⟩ = some (.int .i64 b) ∧ xw6.cell? ⟨w.heap.size, 2, none⟩ = some (.int .i64 c) ∧ xw6.cell? ⟨w.heap.size + 1, 0, none⟩ = some (.int .i64 o) ∧ xw6.cell? ⟨w.heap.size + 1, 1, none⟩ = some (.int .i64 h) ∧ xw6.cell? ⟨w.heap.size + 1, 2, none⟩ = some (.int .i64 p) ∧ xw6.cell? ⟨w.heap.size + 1, 3, none⟩ = some (.int .i64 q) ∧ xw6.cell? ⟨w.heap.size + 1, 4, none⟩ = some (.int .i64 T) ∧ xw6.cell? ⟨w.heap.size + 1 + 1, 0, none⟩ = some (.int .i64 0) ∧ xw6.cell? ⟨w.heap.size + 1 + 1, 1, none⟩ = some (.int .i64 0) ∧ xw6.cell? ⟨w.heap.size + 1 + 1, 2, none⟩ = some (.int .i64 0) ∧ xw6.cell? ⟨w.heap.size + 1 + 1, 3, none⟩ = some (.int .i64 0) ∧ xw6.cell? ⟨w.heap.size + 1 + 1, 4, none⟩ = some (.int .i64 0) ∧ xw6.cell? ⟨w.heap.size + 1 + 1, 5, none⟩ = some (.int .i64 0) ∧ xw6.cell? ⟨xw4.heap.size + 1, 0, none⟩ = some (.int .i64 0) ∧ xw6.cell? ⟨xw4.heap.size + 1, 1, none⟩ = some (.int .i64 0) ∧ xw6.cell? ⟨xw4.heap.size + 1, 2, none⟩ = some (.int .i64 0) ∧ xw6.cell? ⟨xw4.heap.size + 1 + 1, 0, none⟩ = some (.int .i64 0) ∧ xw6.cell? ⟨xw4.heap.size + 1 + 1, 1, none⟩ = some (.int .i64 0) ∧ xw6.cell? ⟨xw4.heap.size + 1 + 1, 2, none⟩ = some (.int .i64 0) := by refine ⟨?_, ?_, ?_, ?_, ?_, ?_, ?_, ?_, ?_, ?_, ?_, ?_, ?_, ?_, ?_, ?_, ?_, ?_, ?_, ?_⟩ <;> (rw [(bcell hbx6).1 _ _ (by first | (simp; done) | (simp; omega) | omega)]; simp [go_sem, World.cell?_alloc_past, *])
        obtain ⟨x6f2, x6f3, x6f4⟩ : (∀ j, xw6.frozen? ⟨w.heap.size + 1 + 1, j, none⟩ = false) ∧ (∀ j, xw6.frozen? ⟨xw4.heap.size + 1, j, none⟩ = false) ∧ (∀ j, xw6.frozen? ⟨xw4.heap.size + 1 + 1, j, none⟩ = false) := by refine ⟨?_, ?_, ?_⟩ <;> (intro j; rw [(bcell hbx6).2 _ _ (by first | (simp; done) | (simp; omega) | omega)]; simp [go_sem, *])
        obtain ⟨x6o0, x6n0, x6m0, x6t0_0, x6t0_1, x6o1, x6n1, x6m1, x6t1_0, x6t1_1, x6o2, x6n2, x6m2, x6t2_0, x6t2_1, x6o3, x6n3, x6m3, x6t3_0, x6t3_1, x6o4, x6n4, x6m4, x6t4_0, x6t4_1⟩ : w.heap.size < xw6.heap.size ∧ xw6.heap.size ≠ w.heap.size ∧ w.heap.size ≠ xw6.heap.size ∧ w.heap.size < xw6.heap.size + 1 ∧ w.heap.size < xw6.heap.size + 1 + 1 ∧ w.heap.size + 1 < xw6.heap.size ∧ xw6.heap.size ≠ w.heap.size + 1 ∧ w.heap.size + 1 ≠ xw6.heap.size ∧ w.heap.size + 1 < xw6.heap.size + 1 ∧ w.heap.size + 1 < xw6.heap.size + 1 + 1 ∧ w.heap.size + 1 + 1 < xw6.heap.size ∧ xw6.heap.size ≠ w.heap.size + 1 + 1 ∧ w.heap.size + 1 + 1 ≠ xw6.heap.size ∧ w.heap.size + 1 + 1 < xw6.heap.size + 1 ∧ w.heap.size + 1 + 1 < xw6.heap.size + 1 + 1 ∧ xw4.heap.size + 1 < xw6.heap.size ∧ xw6.heap.size ≠ xw4.heap.size + 1 ∧ xw4.heap.size + 1 ≠ xw6.heap.size ∧ xw4.heap.size + 1 < xw6.heap.size + 1 ∧ xw4.heap.size + 1 < xw6.heap.size + 1 + 1 ∧ xw4.heap.size + 1 + 1 < xw6.heap.size ∧ xw6.heap.size ≠ xw4.heap.size + 1 + 1 ∧ xw4.heap.size + 1 + 1 ≠ xw6.heap.size ∧ xw4.heap.size + 1 + 1 < xw6.heap.size + 1 ∧ xw4.heap.size + 1 + 1 < xw6.heap.size + 1 + 1 := by refine ⟨?_, ?_, ?_, ?_, ?_, ?_, ?_, ?_, ?_, ?_, ?_, ?_, ?_, ?_, ?_, ?_, ?_, ?_, ?_, ?_, ?_, ?_, ?_, ?_, ?_⟩ <;> omega
        have hBx6 : Below w.heap.size w xw6 := (by (repeat (first | (with_reducible refine Below.drew ?_) | (with_reducible refine below_drewN ?_ _) | (with_reducible refine Below.alloc ?_ (by first | omega | (simp; done) | (simp; omega) | (simp at *; omega)) _) | (with_reducible refine Below.setCell ?_ (by first | omega | (simp; done) | (simp; omega) | (simp at *; omega)) _) | (with_reducible exact Below.refl _ _) | (with_reducible assumption) | (with_reducible refine Below.trans ?_ (Below.mono (by assumption) (by first | omega | (simp; done) | (simp; omega) | (simp at *; omega)))))))
        clear hbx6 x5_0_0 x5_0_1 x5_0_2 x5_1_0 x5_1_1 x5_1_2 x5_1_3 x5_1_4 x5_2_0 x5_2_1 x5_2_2 x5_2_3 x5_2_4 x5_2_5 x5_3_0 x5_3_1 x5_3_2 x5_4_0 x5_4_1 x5_4_2 x5f2 x5f3 x5f4 x5o0 x5n0 x5m0 x5t0_0 x5t0_1 x5o1 x5n1 x5m1 x5t1_0 x5t1_1 x5o2 x5n2 x5m2 x5t2_0 x5t2_1 x5o3 x5n3 x5m3 x5t3_0 x5t3_1 x5o4 x5n4 x5m4 x5t4_0 x5t4_1 hBx5
        go_wp2_with fail
        refine hK.out _ _ (by simp [go_sem, World.cell?_alloc_past, *]) (fun hHeld => ?_)
        clear hK K
        try simp only [Act.put, sA, sB, sC]
        refine wpAnyH_ready (rs := [8]) (by kernel_rfl) (by simp) ?_
        refine AllReadyH.cons rfl (fun K hK => ?_) (AllReadyH.nil)
        go_simp
        go_wp2_with fail
        refine hK.out _ _ (by simp [go_sem, World.cell?_alloc_past, *]) (fun hHeld => ?_)
        clear hK K
        try simp only [Act.put, sA, sB, sC]
        refine wpAnyH_ready (rs := [9]) (by kernel_rfl) (by simp) ?_
        refine AllReadyH.cons rfl (fun K hK => ?_) (AllReadyH.nil)
        go_simp
        go_wp2_with fail
        refine hK.out _ _ (by simp [go_sem, World.cell?_alloc_past, *]) (fun hHeld => ?_)
        clear hK K
        try simp only [Act.put, sA, sB, sC]
        refine wpAnyH_done (by kernel_rfl) ?_ _
        go_wp2_with fail
        go_meet
        refine ⟨xw4.heap.size + 1, xw4.heap.size + 1 + 1, rfl, rfl, by first | omega | (simp; done) | (simp; omega), by first | omega | (simp; done) | (simp; omega), by omega, by omega, ?_, ?_, ?_⟩
        · exact ⟨(by simp [go_sem, World.cell?_alloc_past, *]), (by simp [go_sem, World.cell?_alloc_past, *]), (by simp [go_sem, World.cell?_alloc_past, *]), (by simp [go_sem, World.cell?_alloc_past, *]), (by simp [go_sem, World.cell?_alloc_past, *]), (by simp [go_sem, World.cell?_alloc_past, *]), (by simp [go_sem, World.cell?_alloc_past, *]), (by simp [go_sem, World.cell?_alloc_past, *]), (by simp [go_sem, World.cell?_alloc_past, *]), (by simp [go_sem, World.cell?_alloc_past, *]), (by simp [go_sem, World.cell?_alloc_past, *]), (by simp [go_sem, World.cell?_alloc_past, *])⟩
        · intro j; simp [go_sem, *]
        · (repeat (first | (with_reducible refine Below.drew ?_) | (with_reducible refine below_drewN ?_ _) | (with_reducible refine Below.alloc ?_ (by first | omega | (simp; done) | (simp; omega) | (simp at *; omega)) _) | (with_reducible refine Below.setCell ?_ (by first | omega | (simp; done) | (simp; omega) | (simp at *; omega)) _) | (with_reducible exact Below.refl _ _) | (with_reducible assumption) | (with_reducible refine Below.trans ?_ (Below.mono (by assumption) (by first | omega | (simp; done) | (simp; omega) | (simp at *; omega))))))
    · skip
      go_simp
      go_wp2_with fail
      refine hK.out _ _ (by simp [go_sem, World.cell?_alloc_past, *]) (fun hHeld => ?_)
      clear hK K
      try simp only [Act.put, sA, sB, sC]
      refine wpAnyH_ready (rs := [2, 6]) (by kernel_rfl) (by simp) ?_
      refine AllReadyH.cons rfl (fun K hK => ?_) (AllReadyH.cons rfl (fun K hK => ?_) (AllReadyH.nil))
      · skip
        go_simp
        refine (missingOf_any a b c o h p q T n P Q U X Y Z _ hc hG hn T0 T1 hP hX).mono ?_
        rintro e xw5 ⟨rfl, hbx5⟩
        have zx5 := hbx5.size
        try simp at zx5
        obtain ⟨x5_0_0, x5_0_1, x5_0_2, x5_1_0, x5_1_1, x5_1_2, x5_1_3, x5_1_4, x5_2_0, x5_2_1, x5_2_2, x5_2_3, x5_2_4, x5_2_5, x5_3_0, x5_3_1, x5_3_2⟩ : xw5.cell? ⟨w.heap.size, 0, none⟩ = some (.int .i64 a) ∧ xw5.cell? ⟨w.heap.size, 1, none⟩ = some (.int .i64 b) ∧ xw5.cell? ⟨w.heap.size, 2, none⟩ = some (.int .i64 c) ∧ xw5.cell? ⟨w.heap.size + 1, 0, none⟩ = some (.int .i64 o) ∧ xw5.cell? ⟨w.heap.size + 1, 1, none⟩ = some (.int .i64 h) ∧ xw5.cell? ⟨w.heap.size + 1, 2, none⟩ = some (.int .i64 p) ∧ xw5.cell? ⟨w.heap.size + 1, 3, none⟩ = some (.int .i64 q) ∧ xw5.cell? ⟨w.heap.size + 1, 4, none⟩ = some (.int .i64 T) ∧ xw5.cell? ⟨w.heap.size + 1 + 1, 0, none⟩ = some (.int .i64 0) ∧ xw5.cell? ⟨w.heap.size + 1 + 1, 1, none⟩ = some (.int .i64 0) ∧ xw5.cell? ⟨w.heap.size + 1 + 1, 2, none⟩ = some (.int .i64 0) ∧ xw5.cell? ⟨w.heap.size + 1 + 1, 3, none⟩ = some (.int .i64 0) ∧ xw5.cell? ⟨w.heap.size + 1 + 1, 4, none⟩ = some (.int .i64 0) ∧ xw5.cell? ⟨w.heap.size + 1 + 1, 5, none⟩ = some (.int .i64 0) ∧ xw5.cell? ⟨xw4.heap.size + 1, 0, none⟩ = some (.int .i64 0) ∧ xw5.cell? ⟨xw4.heap.size + 1, 1, none⟩ = some (.int .i64 0) ∧ xw5.cell? ⟨xw4.heap.size + 1, 2, none⟩ = some (.int .i64 0) := by refine ⟨?_, ?_, ?_, ?_, ?_, ?_, ?_, ?_, ?_, ?_, ?_, ?_, ?_, ?_, ?_, ?_, ?_⟩ <;> (rw [(bcell hbx5).1 _ _ (by first | (simp; done) | (simp; omega) | omega)]; simp [go_sem, World.cell?_alloc_past, *])
        obtain ⟨x5f2, x5f3⟩ : (∀ j, xw5.frozen? ⟨w.heap.size + 1 + 1, j, none⟩ = false) ∧ (∀ j, xw5.frozen? ⟨xw4.heap.size + 1, j, none⟩ = false) := by refine ⟨?_, ?_⟩ <;> (intro j; rw [(bcell hbx5).2 _ _ (by first | (simp; done) | (simp; omega) | omega)]; simp [go_sem, *])
        obtain ⟨x5o0, x5n0, x5m0, x5t0_0, x5t0_1, x5o1, x5n1, x5m1, x5t1_0, x5t1_1, x5o2, x5n2, x5m2, x5t2_0, x5t2_1, x5o3, x5n3, x5m3, x5t3_0, x5t3_1⟩ : w.heap.size < xw5.heap.size ∧ xw5.heap.size ≠ w.heap.size ∧ w.heap.size ≠ xw5.heap.size ∧ w.heap.size < xw5.heap.size + 1 ∧ w.heap.size < xw5.heap.size + 1 + 1 ∧ w.heap.size + 1 < xw5.heap.size ∧ xw5.heap.size ≠ w.heap.size + 1 ∧ w.heap.size + 1 ≠ xw5.heap.size ∧ w.heap.size + 1 < xw5.heap.size + 1 ∧ w.heap.size + 1 < xw5.heap.size + 1 + 1 ∧ w.heap.size + 1 + 1 < xw5.heap.size ∧ xw5.heap.size ≠ w.heap.size + 1 + 1 ∧ w.heap.size + 1 + 1 ≠ xw5.heap.size ∧ w.heap.size + 1 + 1 < xw5.heap.size + 1 ∧ w.heap.size + 1 + 1 < xw5.heap.size + 1 + 1 ∧ xw4.heap.size + 1 < xw5.heap.size ∧ xw5.heap.size ≠ xw4.heap.size + 1 ∧ xw4.heap.size + 1 ≠ xw5.heap.size ∧ xw4.heap.size + 1 < xw5.heap.size + 1 ∧ xw4.heap.size + 1 < xw5.heap.size + 1 + 1 := by refine ⟨?_, ?_, ?_, ?_, ?_, ?_, ?_, ?_, ?_, ?_, ?_, ?_, ?_, ?_, ?_, ?_, ?_, ?_, ?_, ?_⟩ <;> omega
        have hBx5 : Below w.heap.size w xw5 := (by (repeat (first | (with_reducible refine Below.drew ?_) | (with_reducible refine below_drewN ?_ _) | (with_reducible refine Below.alloc ?_ (by first | omega | (simp; done) | (simp; omega) | (simp at *; omega)) _) | (with_reducible refine Below.setCell ?_ (by first | omega | (simp; done) | (simp; omega) | (simp at *; omega)) _) | (with_reducible exact Below.refl _ _) | (with_reducible assumption) | (with_reducible refine Below.trans ?_ (Below.mono (by assumption) (by first | omega | (simp; done) | (simp; omega) | (simp at *; omega)))))))
        clear hbx5 x4_0_0 x4_0_1 x4_0_2 x4_1_0 x4_1_1 x4_1_2 x4_1_3 x4_1_4 x4_2_0 x4_2_1 x4_2_2 x4_2_3 x4_2_4 x4_2_5 x4f2 x4o0 x4n0 x4t0_0 x4t0_1 x4o1 x4n1 x4t1_0 x4t1_1 x4o2 x4n2 x4t2_0 x4t2_1 hBx4
        go_wp2_with fail
        refine hK.out _ _ (by simp [go_sem, World.cell?_alloc_past, *]) (fun hHeld => ?_)
        clear hK K
        try simp only [Act.put, sA, sB, sC]
        refine wpAnyH_ready (rs := [5, 6]) (by kernel_rfl) (by simp) ?_
        refine AllReadyH.cons rfl (fun K hK => ?_) (AllReadyH.cons rfl (fun K hK => ?_) (AllReadyH.nil))
        · skip
          go_simp
          refine (sharesOf_any p q m _ hG2 hm).mono ?_
          rintro e xw6 ⟨rfl, hbx6⟩
          have zx6 := hbx6.size
          try simp at zx6
          obtain ⟨x6_0_0, x6_0_1, x6_0_2, x6_1_0, x6_1_1, x6_1_2, x6_1_3, x6_1_4, x6_2_0, x6_2_1, x6_2_2, x6_2_3, x6_2_4, x6_2_5, x6_3_0, x6_3_1, x6_3_2⟩ : xw6.cell? ⟨w.heap.size, 0, none⟩ = some (.int .i64 a) ∧ xw6.cell? ⟨w.heap.size, 1, none⟩ = some (.int .i64 b) ∧ xw6.cell? ⟨w.heap.size, 2, none⟩ = some (.int .i64 c) ∧ xw6.cell? ⟨w.heap.size + 1, 0, none⟩ = some (.int .i64 o) ∧ xw6.cell? ⟨w.heap.size + 1, 1, none⟩ = some (.int .i64 h) ∧ xw6.cell? ⟨w.heap.size + 1, 2, none⟩ = some (.int .i64 p) ∧ xw6.cell? ⟨w.heap.size + 1, 3, none⟩ = some (.int .i64 q) ∧ xw6.cell? ⟨w.heap.size + 1, 4, none⟩ = some (.int .i64 T) ∧ xw6.cell? ⟨w.heap.size + 1 + 1, 0, none⟩ = some (.int .i64 0) ∧ xw6.cell? ⟨w.heap.size + 1 + 1, 1, none⟩ = some (.int .i64 0) ∧ xw6.cell? ⟨w.heap.size + 1 + 1, 2, none⟩ = some (.int .i64 0) ∧ xw6.cell? ⟨w.heap.size + 1 + 1, 3, none⟩ = some (.int .i64 0) ∧ xw6.cell? ⟨w.heap.size + 1 + 1, 4, none⟩ = some (.int .i64 0) ∧ xw6.cell? ⟨w.heap.size + 1 + 1, 5, none⟩ = some (.int .i64 0) ∧ xw6.cell? ⟨xw4.heap.size + 1, 0, none⟩ = some (.int .i64 0) ∧ xw6.cell? ⟨xw4.heap.size + 1, 1, none⟩ = some (.int .i64 0) ∧ xw6.cell? ⟨xw4.heap.size + 1, 2, none⟩ = some (.int .i64 0) := by refine ⟨?_, ?_, ?_, ?_, ?_, ?_, ?_, ?_, ?_, ?_, ?_, ?_, ?_, ?_, ?_, ?_, ?_⟩ <;> (rw [(bcell hbx6).1 _ _ (by first | (simp; done) | (simp; omega) | omega)]; simp [go_sem, World.cell?_alloc_past, *])
          obtain ⟨x6f2, x6f3⟩ : (∀ j, xw6.frozen? ⟨w.heap.size + 1 + 1, j, none⟩ = false) ∧ (∀ j, xw6.frozen? ⟨xw4.heap.size + 1, j, none⟩ = false) := by refine ⟨?_, ?_⟩ <;> (intro j; rw [(bcell hbx6).2 _ _ (by first | (simp; done) | (simp; omega) | omega)]; simp [go_sem, *])
          obtain ⟨x6o0, x6n0, x6m0, x6t0_0, x6t0_1, x6o1, x6n1, x6m1, x6t1_0, x6t1_1, x6o2, x6n2, x6m2, x6t2_0, x6t2_1, x6o3, x6n3, x6m3, x6t3_0, x6t3_1⟩ : w.heap.size < xw6.heap.size ∧ xw6.heap.size ≠ w.heap.size ∧ w.heap.size ≠ xw6.heap.size ∧ w.heap.size < xw6.heap.size + 1 ∧ w.heap.size < xw6.heap.size + 1 + 1 ∧ w.heap.size + 1 < xw6.heap.size ∧ xw6.heap.size ≠ w.heap.size + 1 ∧ w.heap.size + 1 ≠ xw6.heap.size ∧ w.heap.size + 1 < xw6.heap.size + 1 ∧ w.heap.size + 1 < xw6.heap.size + 1 + 1 ∧ w.heap.size + 1 + 1 < xw6.heap.size ∧ xw6.heap.size ≠ w.heap.size + 1 + 1 ∧ w.heap.size + 1 + 1 ≠ xw6.heap.size ∧ w.heap.size + 1 + 1 < xw6.heap.size + 1 ∧ w.heap.size + 1 + 1 < xw6.heap.size + 1 + 1 ∧ xw4.heap.size + 1 < xw6.heap.size ∧ xw6.heap.size ≠ xw4.heap.size + 1 ∧ xw4.heap.size + 1 ≠ xw6.heap.size ∧ xw4.heap.size + 1 < xw6.heap.size + 1 ∧ xw4.heap.size + 1 < xw6.heap.size + 1 + 1 := by refine ⟨?_, ?_, ?_, ?_, ?_, ?_, ?_, ?_, ?_, ?_, ?_, ?_, ?_, ?_, ?_, ?_, ?_, ?_, ?_, ?_⟩ <;> omega
          have hBx6 : Below w.heap.size w xw6 := (by (repeat (first | (with_reducible refine Below.drew ?_) | (with_reducible refine below_drewN ?_ _) | (with_reducible refine Below.alloc ?_ (by first | omega | (simp; done) | (simp; omega) | (simp at *; omega)) _) | (with_reducible refine Below.setCell ?_ (by first | omega | (simp; done) | (simp; omega) | (simp at *; omega)) _) | (with_reducible exact Below.refl _ _) | (with_reducible assumption) | (with_reducible refine Below.trans ?_ (Below.mono (by assumption) (by first | omega | (simp; done) | (simp; omega) | (simp at *; omega)))))))
          clear hbx6 x5_0_0 x5_0_1 x5_0_2 x5_1_0 x5_1_1 x5_1_2 x5_1_3 x5_1_4 x5_2_0 x5_2_1 x5_2_2 x5_2_3 x5_2_4 x5_2_5 x5_3_0 x5_3_1 x5_3_2 x5f2 x5f3 x5o0 x5n0 x5m0 x5t0_0 x5t0_1 x5o1 x5n1 x5m1 x5t1_0 x5t1_1 x5o2 x5n2 x5m2 x5t2_0 x5t2_1 x5o3 x5n3 x5m3 x5t3_0 x5t3_1 hBx5
          go_wp2_with fail
          refine hK.out _ _ (by simp [go_sem, World.cell?_alloc_past, *]) (fun hHeld => ?_)
          clear hK K
          try simp only [Act.put, sA, sB, sC]
          refine wpAnyH_ready (rs := [6]) (by kernel_rfl) (by simp) ?_
          refine AllReadyH.cons rfl (fun K hK => ?_) (AllReadyH.nil)
          go_simp
          go_wp2_with fail
          refine hK.out _ _ (by simp [go_sem, World.cell?_alloc_past, *]) (fun hHeld => ?_)
          clear hK K
          try simp only [Act.put, sA, sB, sC]
          refine wpAnyH_ready (rs := [8]) (by kernel_rfl) (by simp) ?_
          refine AllReadyH.cons rfl (fun K hK => ?_) (AllReadyH.nil)
          go_simp
          go_wp2_with fail
          refine hK.out _ _ (by simp [go_sem, World.cell?_alloc_past, *]) (fun hHeld => ?_)
          clear hK K
          try simp only [Act.put, sA, sB, sC]
          refine wpAnyH_ready (rs := [9]) (by kernel_rfl) (by simp) ?_
          refine AllReadyH.cons rfl (fun K hK => ?_) (AllReadyH.nil)
          go_simp
          go_wp2_with fail
          refine hK.out _ _ (by simp [go_sem, World.cell?_alloc_past, *]) (fun hHeld => ?_)
          clear hK K
          try simp only [Act.put, sA, sB, sC]
          refine wpAnyH_done (by kernel_rfl) ?_ _
          go_wp2_with fail
          go_meet
          refine ⟨xw6.heap.size, xw4.heap.size + 1, rfl, rfl, by first | omega | (simp; done) | (simp; omega), by first | omega | (simp; done) | (simp; omega), by omega, by omega, ?_, ?_, ?_⟩
          · exact ⟨(by simp [go_sem, World.cell?_alloc_past, *]), (by simp [go_sem, World.cell?_alloc_past, *]), (by simp [go_sem, World.cell?_alloc_past, *]), (by simp [go_sem, World.cell?_alloc_past, *]), (by simp [go_sem, World.cell?_alloc_past, *]), (by simp [go_sem, World.cell?_alloc_past, *]), (by simp [go_sem, World.cell?_alloc_past, *]), (by simp [go_sem, World.cell?_alloc_past, *]), (by simp [go_sem, World.cell?_alloc_past, *]), (by simp [go_sem, World.cell?_alloc_past, *]), (by simp [go_sem, World.cell?_alloc_past, *]), (by simp [go_sem, World.cell?_alloc_past, *])⟩
          · intro j; simp [go_sem, *]
          · (repeat (first | (with_reducible refine Below.drew ?_) | (with_reducible refine below_drewN ?_ _) | (with_reducible refine Below.alloc ?_ (by first | omega | (simp; done) | (simp; omega) | (simp at *; omega)) _) | (with_reducible refine Below.setCell ?_ (by first | omega | (simp; done) | (simp; omega) | (simp at *; omega)) _) | (with_reducible exact Below.refl _ _) | (with_reducible assumption) | (with_reducible refine Below.trans ?_ (Below.mono (by assumption) (by first | omega | (simp; done) | (simp; omega) | (simp at *; omega))))))
        · skip
          go_simp
          go_wp2_with fail
          refine hK.out _ _ (by simp [go_sem, World.cell?_alloc_past, *]) (fun hHeld => ?_)
          clear hK K
          try simp only [Act.put, sA, sB, sC]
          refine wpAnyH_ready (rs := [5]) (by kernel_rfl) (by simp) ?_
          refine AllReadyH.cons rfl (fun K hK => ?_) (AllReadyH.nil)
          go_simp
          refine (sharesOf_any p q m _ hG2 hm).mono ?_
          rintro e xw6 ⟨rfl, hbx6⟩
          have zx6 := hbx6.size
          try simp at zx6
          obtain ⟨x6_0_0, x6_0_1, x6_0_2, x6_1_0, x6_1_1, x6_1_2, x6_1_3, x6_1_4, x6_2_0, x6_2_1, x6_2_2, x6_2_3, x6_2_4, x6_2_5, x6_3_0, x6_3_1, x6_3_2, x6_4_0, x6_4_1, x6_4_2⟩ : xw6.cell? ⟨w.heap.size, 0, none⟩ = some (.int .i64 a) ∧ xw6.cell? ⟨w.heap.size, 1, none⟩ = some (.int .i64 b) ∧ xw6.cell? ⟨w.heap.size, 2, none⟩ = some (.int .i64 c) ∧ xw6.cell? ⟨w.heap.size + 1, 0, none⟩ = some (.int .i64 o) ∧ xw6.cell? ⟨w.heap.size + 1, 1, none⟩ = some (.int .i64 h) ∧ xw6.cell? ⟨w.heap.size + 1, 2, none⟩ = some (.int .i64 p) ∧ xw6.cell? ⟨w.heap.size + 1, 3, none⟩ = some (.int .i64 q) ∧ xw6.cell? ⟨w.heap.size + 1, 4, none⟩ = some (.int .i64 T) ∧ xw6.cell? ⟨w.heap.size + 1 + 1, 0, none⟩ = some (.int .i64 0) ∧ xw6.cell? ⟨w.heap.size + 1 + 1, 1, none⟩ = some (.int .i64 0) ∧ xw6.cell? ⟨w.heap.size + 1 + 1, 2, none⟩ = some (.int .i64 0) ∧ xw6.cell? ⟨w.heap.size + 1 + 1, 3, none⟩ = some (.int .i64 0) ∧ xw6.cell? ⟨w.heap.size + 1 + 1, 4, none⟩ = some (.int .i64 0) ∧ xw6.cell? ⟨w.heap.size + 1 + 1, 5, none⟩ = some (.int .i64 0) ∧ xw6.cell? ⟨xw4.heap.size + 1, 0, none⟩ = some (.int .i64 0) ∧ xw6.cell? ⟨xw4.heap.size + 1, 1, none⟩ = some (.int .i64 0) ∧ xw6.cell? ⟨xw4.heap.size + 1, 2, none⟩ = some (.int .i64 0) ∧ xw6.cell? ⟨xw5.heap.size, 0, none⟩ = some (.int .i64 0) ∧ xw6.cell? ⟨xw5.heap.size, 1, none⟩ = some (.int .i64 0) ∧ xw6.cell? ⟨xw5.heap.size, 2, none⟩ = some (.int .i64 0) := by refine ⟨?_, ?_, ?_, ?_, ?_, ?_, ?_, ?_, ?_, ?_, ?_, ?_, ?_, ?_, ?_, ?_, ?_, ?_, ?_, ?_⟩ <;> (rw [(bcell hbx6).1 _ _ (by first | (simp; done) | (simp; omega) | omega)]; simp [go_sem, World.cell?_alloc_past, *])
          obtain ⟨x6f2, x6f3, x6f4⟩ : (∀ j, xw6.frozen? ⟨w.heap.size + 1 + 1, j, none⟩ = false) ∧ (∀ j, xw6.frozen? ⟨xw4.heap.size + 1, j, none⟩ = false) ∧ (∀ j, xw6.frozen? ⟨xw5.heap.size, j, none⟩ = false) := by refine ⟨?_, ?_, ?_⟩ <;> (intro j; rw [(bcell hbx6).2 _ _ (by first | (simp; done) | (simp; omega) | omega)]; simp [go_sem, *])
          obtain ⟨x6o0, x6n0, x6m0, x6t0_0, x6t0_1, x6o1, x6n1, x6m1, x6t1_0, x6t1_1, x6o2, x6n2, x6m2, x6t2_0, x6t2_1, x6o3, x6n3, x6m3, x6t3_0, x6t3_1, x6o4, x6n4, x6m4, x6t4_0, x6t4_1⟩ : w.heap.size < xw6.heap.size ∧ xw6.heap.size ≠ w.heap.size ∧ w.heap.size ≠ xw6.heap.size ∧ w.heap.size < xw6.heap.size + 1 ∧ w.heap.size < xw6.heap.size + 1 + 1 ∧ w.heap.size + 1 < xw6.heap.size ∧ xw6.heap.size ≠ w.heap.size + 1 ∧ w.heap.size + 1 ≠ xw6.heap.size ∧ w.heap.size + 1 < xw6.heap.size + 1 ∧ w.heap.size + 1 < xw6.heap.size + 1 + 1 ∧ w.heap.size + 1 + 1 < xw6.heap.size ∧ xw6.heap.size ≠ w.heap.size + 1 + 1 ∧ w.heap.size + 1 + 1 ≠ xw6.heap.size ∧ w.heap.size + 1 + 1 < xw6.heap.size + 1 ∧ w.heap.size + 1 + 1 < xw6.heap.size + 1 + 1 ∧ xw4.heap.size + 1 < xw6.heap.size ∧ xw6.heap.size ≠ xw4.heap.size + 1 ∧ xw4.heap.size + 1 ≠ xw6.heap.size ∧ xw4.heap.size + 1 < xw6.heap.size + 1 ∧ xw4.heap.size + 1 < xw6.heap.size + 1 + 1 ∧ xw5.heap.size < xw6.heap.size ∧ xw6.heap.size ≠ xw5.heap.size ∧ xw5.heap.size ≠ xw6.heap.size ∧ xw5.heap.size < xw6.heap.size + 1 ∧ xw5.heap.size < xw6.heap.size + 1 + 1 := by refine ⟨?_, ?_, ?_, ?_, ?_, ?_, ?_, ?_, ?_, ?_, ?_, ?_, ?_, ?_, ?_, ?_, ?_, ?_, ?_, ?_, ?_, ?_, ?_, ?_, ?_⟩ <;> omega
          have hBx6 : Below w.heap.size w xw6 := (by (repeat (first | (with_reducible refine Below.drew ?_) | (with_reducible refine below_drewN ?_ _) | (with_reducible refine Below.alloc ?_ (by first | omega | (simp; done) | (simp; omega) | (simp at *; omega)) _) | (with_reducible refine Below.setCell ?_ (by first | omega | (simp; done) | (simp; omega) | (simp at *; omega)) _) | (with_reducible exact Below.refl _ _) | (with_reducible assumption) | (with_reducible refine Below.trans ?_ (Below.mono (by assumption) (by first | omega | (simp; done) | (simp; omega) | (simp at *; omega)))))))
          clear hbx6 x5_0_0 x5_0_1 x5_0_2 x5_1_0 x5_1_1 x5_1_2 x5_1_3 x5_1_4 x5_2_0 x5_2_1 x5_2_2 x5_2_3 x5_2_4 x5_2_5 x5_3_0 x5_3_1 x5_3_2 x5f2 x5f3 x5o0 x5n0 x5m0 x5t0_0 x5t0_1 x5o1 x5n1 x5m1 x5t1_0 x5t1_1 x5o2 x5n2 x5m2 x5t2_0 x5t2_1 x5o3 x5n3 x5m3 x5t3_0 x5t3_1 hBx5
          go_wp2_with fail
          refine hK.out _ _ (by simp [go_sem, World.cell?_alloc_past, *]) (fun hHeld => ?_)
          clear hK K
          try simp only [Act.put, sA, sB, sC]
          refine wpAnyH_ready (rs := [8]) (by kernel_rfl) (by simp) ?_
          refine AllReadyH.cons rfl (fun K hK => ?_) (AllReadyH.nil)
          go_simp
          go_wp2_with fail
          refine hK.out _ _ (by simp [go_sem, World.cell?_alloc_past, *]) (fun hHeld => ?_)
          clear hK K
          try simp only [Act.put, sA, sB, sC]
          refine wpAnyH_ready (rs := [9]) (by kernel_rfl) (by simp) ?_
          refine AllReadyH.cons rfl (fun K hK => ?_) (AllReadyH.nil)
          go_simp
          go_wp2_with fail
          refine hK.out _ _ (by simp [go_sem, World.cell?_alloc_past, *]) (fun hHeld => ?_)
          clear hK K
          try simp only [Act.put, sA, sB, sC]
          refine wpAnyH_done (by kernel_rfl) ?_ _
          go_wp2_with fail
          go_meet
          refine ⟨xw5.heap.size, xw4.heap.size + 1, rfl, rfl, by first | omega | (simp; done) | (simp; omega), by first | omega | (simp; done) | (simp; omega), by omega, by omega, ?_, ?_, ?_⟩
          · exact ⟨(by simp [go_sem, World.cell?_alloc_past, *]), (by simp [go_sem, World.cell?_alloc_past, *]), (by simp [go_sem, World.cell?_alloc_past, *]), (by simp [go_sem, World.cell?_alloc_past, *]), (by simp [go_sem, World.cell?_alloc_past, *]), (by simp [go_sem, World.cell?_alloc_past, *]), (by simp [go_sem, World.cell?_alloc_past, *]), (by simp [go_sem, World.cell?_alloc_past, *]), (by simp [go_sem, World.cell?_alloc_past, *]), (by simp [go_sem, World.cell?_alloc_past, *]), (by simp [go_sem, World.cell?_alloc_past, *]), (by simp [go_sem, World.cell?_alloc_past, *])⟩
          · intro j; simp [go_sem, *]
          · (repeat (first | (with_reducible refine Below.drew ?_) | (with_reducible refine below_drewN ?_ _) | (with_reducible refine Below.alloc ?_ (by first | omega | (simp; done) | (simp; omega) | (simp at *; omega)) _) | (with_reducible refine Below.setCell ?_ (by first | omega | (simp; done) | (simp; omega) | (simp at *; omega)) _) | (with_reducible exact Below.refl _ _) | (with_reducible assumption) | (with_reducible refine Below.trans ?_ (Below.mono (by assumption) (by first | omega | (simp; done) | (simp; omega) | (simp at *; omega))))))
      · skip
        go_simp
        go_wp2_with fail
        refine hK.out _ _ (by simp [go_sem, World.cell?_alloc_past, *]) (fun hHeld => ?_)
        clear hK K
        try simp only [Act.put, sA, sB, sC]
        refine wpAnyH_ready (rs := [2]) (by kernel_rfl) (by simp) ?_
        refine AllReadyH.cons rfl (fun K hK => ?_) (AllReadyH.nil)
        go_simp
        refine (missingOf_any a b c o h p q T n P Q U X Y Z _ hc hG hn T0 T1 hP hX).mono ?_
        rintro e xw5 ⟨rfl, hbx5⟩
        have zx5 := hbx5.size
        try simp at zx5
        obtain ⟨x5_0_0, x5_0_1, x5_0_2, x5_1_0, x5_1_1, x5_1_2, x5_1_3, x5_1_4, x5_2_0, x5_2_1, x5_2_2, x5_2_3, x5_2_4, x5_2_5, x5_3_0, x5_3_1, x5_3_2, x5_4_0, x5_4_1, x5_4_2⟩ : xw5.cell? ⟨w.heap.size, 0, none⟩ = some (.int .i64 a) ∧ xw5.cell? ⟨w.heap.size, 1, none⟩ = some (.int .i64 b) ∧ xw5.cell? ⟨w.heap.size, 2, none⟩ = some (.int .i64 c) ∧ xw5.cell? ⟨w.heap.size + 1, 0, none⟩ = some (.int .i64 o) ∧ xw5.cell? ⟨w.heap.size + 1, 1, none⟩ = some (.int .i64 h) ∧ xw5.cell? ⟨w.heap.size + 1, 2, none⟩ = some (.int .i64 p) ∧ xw5.cell? ⟨w.heap.size + 1, 3, none⟩ = some (.int .i64 q) ∧ xw5.cell? ⟨w.heap.size + 1, 4, none⟩ = some (.int .i64 T) ∧ xw5.cell? ⟨w.heap.size + 1 + 1, 0, none⟩ = some (.int .i64 0) ∧ xw5.cell? ⟨w.heap.size + 1 + 1, 1, none⟩ = some (.int .i64 0) ∧ xw5.cell? ⟨w.heap.size + 1 + 1, 2, none⟩ = some (.int .i64 0) ∧ xw5.cell? ⟨w.heap.size + 1 + 1, 3, none⟩ = some (.int .i64 0) ∧ xw5.cell? ⟨w.heap.size + 1 + 1, 4, none⟩ = some (.int .i64 0) ∧ xw5.cell? ⟨w.heap.size + 1 + 1, 5, none⟩ = some (.int .i64 0) ∧ xw5.cell? ⟨xw4.heap.size + 1, 0, none⟩ = some (.int .i64 0) ∧ xw5.cell? ⟨xw4.heap.size + 1, 1, none⟩ = some (.int .i64 0) ∧ xw5.cell? ⟨xw4.heap.size + 1, 2, none⟩ = some (.int .i64 0) ∧ xw5.cell? ⟨xw4.heap.size + 1 + 1, 0, none⟩ = some (.int .i64 0) ∧ xw5.cell? ⟨xw4.heap.size + 1 + 1, 1, none⟩ = some (.int .i64 0) ∧ xw5.cell? ⟨xw4.heap.size + 1 + 1, 2, none⟩ = some (.int .i64 0) := by refine ⟨?_, ?_, ?_, ?_, ?_, ?_, ?_, ?_, ?_, ?_, ?_, ?_, ?_, ?_, ?_, ?_, ?_, ?_, ?_, ?_⟩ <;> (rw [(bcell hbx5).1 _ _ (by first | (simp; done) | (simp; omega) | omega)]; simp [go_sem, World.cell?_alloc_past, *])
        obtain ⟨x5f2, x5f3, x5f4⟩ : (∀ j, xw5.frozen? ⟨w.heap.size + 1 + 1, j, none⟩ = false) ∧ (∀ j, xw5.frozen? ⟨xw4.heap.size + 1, j, none⟩ = false) ∧ (∀ j, xw5.frozen? ⟨xw4.heap.size + 1 + 1, j, none⟩ = false) := by refine ⟨?_, ?_, ?_⟩ <;> (intro j; rw [(bcell hbx5).2 _ _ (by first | (simp; done) | (simp; omega) | omega)]; simp [go_sem, *])
        obtain ⟨x5o0, x5n0, x5m0, x5t0_0, x5t0_1, x5o1, x5n1, x5m1, x5t1_0, x5t1_1, x5o2, x5n2, x5m2, x5t2_0, x5t2_1, x5o3, x5n3, x5m3, x5t3_0, x5t3_1, x5o4, x5n4, x5m4, x5t4_0, x5t4_1⟩ : w.heap.size < xw5.heap.size ∧ xw5.heap.size ≠ w.heap.size ∧ w.heap.size ≠ xw5.heap.size ∧ w.heap.size < xw5.heap.size + 1 ∧ w.heap.size < xw5.heap.size + 1 + 1 ∧ w.heap.size + 1 < xw5.heap.size ∧ xw5.heap.size ≠ w.heap.size + 1 ∧ w.heap.size + 1 ≠ xw5.heap.size ∧ w.heap.size + 1 < xw5.heap.size + 1 ∧ w.heap.size + 1 < xw5.heap.size + 1 + 1 ∧ w.heap.size + 1 + 1 < xw5.heap.size ∧ xw5.heap.size ≠ w.heap.size + 1 + 1 ∧ w.heap.size + 1 + 1 ≠ xw5.heap.size ∧ w.heap.size + 1 + 1 < xw5.heap.size + 1 ∧ w.heap.size + 1 + 1 < xw5.heap.size + 1 + 1 ∧ xw4.heap.size + 1 < xw5.heap.size ∧ xw5.heap.size ≠ xw4.heap.size + 1 ∧ xw4.heap.size + 1 ≠ xw5.heap.size ∧ xw4.heap.size + 1 < xw5.heap.size + 1 ∧ xw4.heap.size + 1 < xw5.heap.size + 1 + 1 ∧ xw4.heap.size + 1 + 1 < xw5.heap.size ∧ xw5.heap.size ≠ xw4.heap.size + 1 + 1 ∧ xw4.heap.size + 1 + 1 ≠ xw5.heap.size ∧ xw4.heap.size + 1 + 1 < xw5.heap.size + 1 ∧ xw4.heap.size + 1 + 1 < xw5.heap.size + 1 + 1 := by refine ⟨?_, ?_, ?_, ?_, ?_, ?_, ?_, ?_, ?_, ?_, ?_, ?_, ?_, ?_, ?_, ?_, ?_, ?_, ?_, ?_, ?_, ?_, ?_, ?_, ?_⟩ <;> omega
        have hBx5 : Below w.heap.size w xw5 := (by (repeat (first | (with_reducible refine Below.drew ?_) | (with_reducible refine below_drewN ?_ _) | (with_reducible refine Below.alloc ?_ (by first | omega | (simp; done) | (simp; omega) | (simp at *; omega)) _) | (with_reducible refine Below.setCell ?_ (by first | omega | (simp; done) | (simp; omega) | (simp at *; omega)) _) | (with_reducible exact Below.refl _ _) | (with_reducible assumption) | (with_reducible refine Below.trans ?_ (Below.mono (by assumption) (by first | omega | (simp; done) | (simp; omega) | (simp at *; omega)))))))
        clear hbx5 x4_0_0 x4_0_1 x4_0_2 x4_1_0 x4_1_1 x4_1_2 x4_1_3 x4_1_4 x4_2_0 x4_2_1 x4_2_2 x4_2_3 x4_2_4 x4_2_5 x4f2 x4o0 x4n0 x4t0_0 x4t0_1 x4o1 x4n1 x4t1_0 x4t1_1 x4o2 x4n2 x4t2_0 x4t2_1 hBx4
        go_wp2_with fail
        refine hK.out _ _ (by simp [go_sem, World.cell?_alloc_past, *]) (fun hHeld => ?_)
        clear hK K
        try simp only [Act.put, sA, sB, sC]
        refine wpAnyH_ready (rs := [5]) (by kernel_rfl) (by simp) ?_
        refine AllReadyH.cons rfl (fun K hK => ?_) (AllReadyH.nil)
        go_simp
        refine (sharesOf_any p q m _ hG2 hm).mono ?_
        rintro e xw6 ⟨rfl, hbx6⟩
        have zx6 := hbx6.size
        try simp at zx6
        obtain ⟨x6_0_0, x6_0_1, x6_0_2, x6_1_0, x6_1_1, x6_1_2, x6_1_3, x6_1_4, x6_2_0, x6_2_1, x6_2_2, x6_2_3, x6_2_4, x6_2_5, x6_3_0, x6_3_1, x6_3_2, x6_4_0, x6_4_1, x6_4_2⟩ : xw6.cell? ⟨w.heap.size, 0, none⟩ = some (.int .i64 a) ∧ xw6.cell? ⟨w.heap.size, 1, none⟩ = some (.int .i64 b) ∧ xw6.cell? ⟨w.heap.size, 2, none⟩ = some (.int .i64 c) ∧ xw6.cell? ⟨w.heap.size + 1, 0, none⟩ = some (.int .i64 o) ∧ xw6.cell? ⟨w.heap.size + 1, 1, none⟩ = some (.int .i64 h) ∧ xw6.cell? ⟨w.heap.size + 1, 2, none⟩ = some (.int .i64 p) ∧ xw6.cell? ⟨w.heap.size + 1, 3, none⟩ = some (.int .i64 q) ∧ xw6.cell? ⟨w.heap.size + 1, 4, none⟩ = some (.int .i64 T) ∧ xw6.cell? ⟨w.heap.size + 1 + 1, 0, none⟩ = some (.int .i64 0) ∧ xw6.cell? ⟨w.heap.size + 1 + 1, 1, none⟩ = some (.int .i64 0) ∧ xw6.cell? ⟨w.heap.size + 1 + 1, 2, none⟩ = some (.int .i64 0) ∧ xw6.cell? ⟨w.heap.size + 1 + 1, 3, none⟩ = some (.int .i64 0) ∧ xw6.cell? ⟨w.heap.size + 1 + 1, 4, none⟩ = some (.int .i64 0) ∧ xw6.cell? ⟨w.heap.size + 1 + 1, 5, none⟩ = some (.int .i64 0) ∧ xw6.cell? ⟨xw4.heap.size + 1, 0, none⟩ = some (.int .i64 0) ∧ xw6.cell? ⟨xw4.heap.size + 1, 1, none⟩ = some (.int .i64 0) ∧ xw6.cell? ⟨xw4.heap.size + 1, 2, none⟩ = some (.int .i64 0) ∧ xw6.cell? ⟨xw4.heap.size + 1 + 1, 0, none⟩ = some (.int .i64 0) ∧ xw6.cell? ⟨xw4.heap.size + 1 + 1, 1, none⟩ = some (.int .i64 0) ∧ xw6.cell? ⟨xw4.heap.size + 1 + 1, 2, none⟩ = some (.int .i64 0) := by refine ⟨?_, ?_, ?_, ?_, ?_, ?_, ?_, ?_, ?_, ?_, ?_, ?_, ?_, ?_, ?_, ?_, ?_, ?_, ?_, ?_⟩ <;> (rw [(bcell hbx6).1 _ _ (by first | (simp; done) | (simp; omega) | omega)]; simp [go_sem, World.cell?_alloc_past, *])
        obtain ⟨x6f2, x6f3, x6f4⟩ : (∀ j, xw6.frozen? ⟨w.heap.size + 1 + 1, j, none⟩ = false) ∧ (∀ j, xw6.frozen? ⟨xw4.heap.size + 1, j, none⟩ = false) ∧ (∀ j, xw6.frozen? ⟨xw4.heap.size + 1 + 1, j, none⟩ = false) := by refine ⟨?_, ?_, ?_⟩ <;> (intro j; rw [(bcell hbx6).2 _ _ (by first | (simp; done) | (simp; omega) | omega)]; simp [go_sem, *])
        obtain ⟨x6o0, x6n0, x6m0, x6t0_0, x6t0_1, x6o1, x6n1, x6m1, x6t1_0, x6t1_1, x6o2, x6n2, x6m2, x6t2_0, x6t2_1, x6o3, x6n3, x6m3, x6t3_0, x6t3_1, x6o4, x6n4, x6m4, x6t4_0, x6t4_1⟩ : w.heap.size < xw6.heap.size ∧ xw6.heap.size ≠ w.heap.size ∧ w.heap.size ≠ xw6.heap.size ∧ w.heap.size < xw6.heap.size + 1 ∧ w.heap.size < xw6.heap.size + 1 + 1 ∧ w.heap.size + 1 < xw6.heap.size ∧ xw6.heap.size ≠ w.heap.size + 1 ∧ w.heap.size + 1 ≠ xw6.heap.size ∧ w.heap.size + 1 < xw6.heap.size + 1 ∧ w.heap.size + 1 < xw6.heap.size + 1 + 1 ∧ w.heap.size + 1 + 1 < xw6.heap.size ∧ xw6.heap.size ≠ w.heap.size + 1 + 1 ∧ w.heap.size + 1 + 1 ≠ xw6.heap.size ∧ w.heap.size + 1 + 1 < xw6.heap.size + 1 ∧ w.heap.size + 1 + 1 < xw6.heap.size + 1 + 1 ∧ xw4.heap.size + 1 < xw6.heap.size ∧ xw6.heap.size ≠ xw4.heap.size + 1 ∧ xw4.heap.size + 1 ≠ xw6.heap.size ∧ xw4.heap.size + 1 < xw6.heap.size + 1 ∧ xw4.heap.size + 1 < xw6.heap.size + 1 + 1 ∧ xw4.heap.size + 1 + 1 < xw6.heap.size ∧ xw6.heap.size ≠ xw4.heap.size + 1 + 1 ∧ xw4.heap.size + 1 + 1 ≠ xw6.heap.size ∧ xw4.heap.size + 1 + 1 < xw6.heap.size + 1 ∧ xw4.heap.size + 1 + 1 < xw6.heap.size + 1 + 1 := by refine ⟨?_, ?_, ?_, ?_, ?_, ?_, ?_, ?_, ?_, ?_, ?_, ?_, ?_, ?_, ?_, ?_, ?_, ?_, ?_, ?_, ?_, ?_, ?_, ?_, ?_⟩ <;> omega
        have hBx6 : Below w.heap.size w xw6 := (by (repeat (first | (with_reducible refine Below.drew ?_) | (with_reducible refine below_drewN ?_ _) | (with_reducible refine Below.alloc ?_ (by first | omega | (simp; done) | (simp; omega) | (simp at *; omega)) _) | (with_reducible refine Below.setCell ?_ (by first | omega | (simp; done) | (simp; omega) | (simp at *; omega)) _) | (with_reducible exact Below.refl _ _) | (with_reducible assumption) | (with_reducible refine Below.trans ?_ (Below.mono (by assumption) (by first | omega | (simp; done) | (simp; omega) | (simp at *; omega)))))))
        clear hbx6 x5_0_0 x5_0_1 x5_0_2 x5_1_0 x5_1_1 x5_1_2 x5_1_3 x5_1_4 x5_2_0 x5_2_1 x5_2_2 x5_2_3 x5_2_4 x5_2_5 x5_3_0 x5_3_1 x5_3_2 x5_4_0 x5_4_1 x5_4_2 x5f2 x5f3 x5f4 x5o0 x5n0 x5m0 x5t0_0 x5t0_1 x5o1 x5n1 x5m1 x5t1_0 x5t1_1 x5o2 x5n2 x5m2 x5t2_0 x5t2_1 x5o3 x5n3 x5m3 x5t3_0 x5t3_1 x5o4 x5n4 x5m4 x5t4_0 x5t4_1 hBx5
        go_wp2_with fail
        refine hK.out _ _ (by simp [go_sem, World.cell?_alloc_past, *]) (fun hHeld => ?_)
        clear hK K
        try simp only [Act.put, sA, sB, sC]
        refine wpAnyH_ready (rs := [8]) (by kernel_rfl) (by simp) ?_
        refine AllReadyH.cons rfl (fun K hK => ?_) (AllReadyH.nil)
        go_simp
        go_wp2_with fail
        refine hK.out _ _ (by simp [go_sem, World.cell?_alloc_past, *]) (fun hHeld => ?_)
        clear hK K
        try simp only [Act.put, sA, sB, sC]
        refine wpAnyH_ready (rs := [9]) (by kernel_rfl) (by simp) ?_
        refine AllReadyH.cons rfl (fun K hK => ?_) (AllReadyH.nil)
        go_simp
        go_wp2_with fail
        refine hK.out _ _ (by simp [go_sem, World.cell?_alloc_past, *]) (fun hHeld => ?_)
        clear hK K
        try simp only [Act.put, sA, sB, sC]
        refine wpAnyH_done (by kernel_rfl) ?_ _
        go_wp2_with fail
        go_meet
        refine ⟨xw4.heap.size + 1 + 1, xw4.heap.size + 1, rfl, rfl, by first | omega | (simp; done) | (simp; omega), by first | omega | (simp; done) | (simp; omega), by omega, by omega, ?_, ?_, ?_⟩
        · exact ⟨(by simp [go_sem, World.cell?_alloc_past, *]), (by simp [go_sem, World.cell?_alloc_past, *]), (by simp [go_sem, World.cell?_alloc_past, *]), (by simp [go_sem, World.cell?_alloc_past, *]), (by simp [go_sem, World.cell?_alloc_past, *]), (by simp [go_sem, World.cell?_alloc_past, *]), (by simp [go_sem, World.cell?_alloc_past, *]), (by simp [go_sem, World.cell?_alloc_past, *]), (by simp [go_sem, World.cell?_alloc_past, *]), (by simp [go_sem, World.cell?_alloc_past, *]), (by simp [go_sem, World.cell?_alloc_past, *]), (by simp [go_sem, World.cell?_alloc_past, *])⟩
        · intro j; simp [go_sem, *]
        · (repeat (first | (with_reducible refine Below.drew ?_) | (with_reducible refine below_drewN ?_ _) | (with_reducible refine Below.alloc ?_ (by first | omega | (simp; done) | (simp; omega) | (simp at *; omega)) _) | (with_reducible refine Below.setCell ?_ (by first | omega | (simp; done) | (simp; omega) | (simp at *; omega)) _) | (with_reducible exact Below.refl _ _) | (with_reducible assumption) | (with_reducible refine Below.trans ?_ (Below.mono (by assumption) (by first | omega | (simp; done) | (simp; omega) | (simp at *; omega))))))
  case rest =>
    obtain ⟨u, v, rfl, rfl, lu, lv, gu, gv, ⟨k0, k1, k2, k3, k4, k5, k6, k7, k8, k9, k10, k11⟩, kf, kB⟩ := hcut
    have o1 : w.heap.size + 1 + 1 < wc.heap.size := by omega
    have o2 : wc.heap.size ≠ w.heap.size + 1 + 1 := by omega
    have nu1 : u ≠ wc.heap.size := by omega
    have nv1 : v ≠ wc.heap.size := by omega
    rcases hway with hw | hw | hw | hw | hw
    · obtain ⟨rfl, rfl, rfl, rfl, rfl, rfl, rfl, rfl⟩ := hw
      go_wp2
      refine bodyPost_ret (v := .tuple #[.agg #[.int .i64 0, .int .i64 0, .int .i64 0, .int .i64 0, .int .i64 0, .int .i64 0], .int .i64 11]) (by simp [results, Try.results39, go_sem, *]) rfl ⟨rfl, ?_⟩
      (repeat (first | (with_reducible refine Below.drew ?_) | (with_reducible refine below_drewN ?_ _) | (with_reducible refine Below.alloc ?_ (by first | omega | (simp; done) | (simp; omega) | (simp at *; omega)) _) | (with_reducible refine Below.setCell ?_ (by first | omega | (simp; done) | (simp; omega) | (simp at *; omega)) _) | (with_reducible exact Below.refl _ _) | (with_reducible assumption) | (with_reducible refine Below.trans ?_ (Below.mono (by assumption) (by first | omega | (simp; done) | (simp; omega) | (simp at *; omega))))))
    · obtain ⟨hm0, hn0, rfl, rfl, rfl, rfl, rfl, rfl, rfl⟩ := hw
      obtain ⟨dm1, dm2⟩ := HDM.out
      have gm1 := dm1 hm0
      have gm2 := dm2 hm0
      clear dm1 dm2
      have hm0b : (m == 0) = false := by simpa using hm0
      obtain ⟨e1, e2, e3⟩ := E123.out
      go_wp2
      refine wp_loop_rounds 1 ?_
      have tb0 : w.heap.size + 1 + 1 < wc.heap.size + 1 := by omega
      have tb1 : w.heap.size + 1 + 1 < wc.heap.size + 1 + 1 := by omega
      have tb2 : w.heap.size + 1 + 1 < wc.heap.size + 1 + 1 + 1 := by omega
      rw [rounds_succ]
      go_wp2
      refine bodyPost_ret (v := .tuple #[.agg #[.int .i64 0, .int .i64 0, .int .i64 0, .int .i64 0, .int .i64 0, .int .i64 0], .int .i64 12]) (by simp [results, Try.results39, go_sem, *]) rfl ⟨rfl, ?_⟩
      (repeat (first | (with_reducible refine Below.drew ?_) | (with_reducible refine below_drewN ?_ _) | (with_reducible refine Below.alloc ?_ (by first | omega | (simp; done) | (simp; omega) | (simp at *; omega)) _) | (with_reducible refine Below.setCell ?_ (by first | omega | (simp; done) | (simp; omega) | (simp at *; omega)) _) | (with_reducible exact Below.refl _ _) | (with_reducible assumption) | (with_reducible refine Below.trans ?_ (Below.mono (by assumption) (by first | omega | (simp; done) | (simp; omega) | (simp at *; omega))))))
    · obtain ⟨hm0, hn0, hn1, rfl, rfl, rfl, rfl, rfl, rfl, rfl⟩ := hw
      obtain ⟨dm1, dm2⟩ := HDM.out
      have gm1 := dm1 hm0
      have gm2 := dm2 hm0
      clear dm1 dm2
      have hm0b : (m == 0) = false := by simpa using hm0
      obtain ⟨e1, e2, e3⟩ := E123.out
      go_wp2
      refine wp_loop_rounds 2 ?_
      have tb0 : w.heap.size + 1 + 1 < wc.heap.size + 1 := by omega
      have tb1 : w.heap.size + 1 + 1 < wc.heap.size + 1 + 1 := by omega
      have tb2 : w.heap.size + 1 + 1 < wc.heap.size + 1 + 1 + 1 := by omega
      rw [rounds_succ]
      go_wp2_with fail
      refine (rounded2_any A0 D (A0 / D) (upI A0 D) _ gm2 (by omega) bA0.1 bA0.2 (Lib.hid rfl) (Lib.hid rfl)).mono ?_
      rintro e yw1 ⟨rfl, hby1⟩
      have zy1 := hby1.size
      try simp at zy1
      obtain ⟨y1_0_0, y1_0_1, y1_0_2, y1_0_3, y1_0_4, y1_0_5, y1_1_0, y1_1_1, y1_1_2, y1_1_3, y1_1_4, y1_1_5⟩ : yw1.cell? ⟨w.heap.size + 1 + 1, 0, none⟩ = some (.int .i64 0) ∧ yw1.cell? ⟨w.heap.size + 1 + 1, 1, none⟩ = some (.int .i64 0) ∧ yw1.cell? ⟨w.heap.size + 1 + 1, 2, none⟩ = some (.int .i64 0) ∧ yw1.cell? ⟨w.heap.size + 1 + 1, 3, none⟩ = some (.int .i64 0) ∧ yw1.cell? ⟨w.heap.size + 1 + 1, 4, none⟩ = some (.int .i64 0) ∧ yw1.cell? ⟨w.heap.size + 1 + 1, 5, none⟩ = some (.int .i64 0) ∧ yw1.cell? ⟨wc.heap.size + 1, 0, none⟩ = some (.int .i64 0) ∧ yw1.cell? ⟨wc.heap.size + 1, 1, none⟩ = some (.int .i64 0) ∧ yw1.cell? ⟨wc.heap.size + 1, 2, none⟩ = some (.int .i64 0) ∧ yw1.cell? ⟨wc.heap.size + 1, 3, none⟩ = some (.int .i64 0) ∧ yw1.cell? ⟨wc.heap.size + 1, 4, none⟩ = some (.int .i64 0) ∧ yw1.cell? ⟨wc.heap.size + 1, 5, none⟩ = some (.int .i64 0) := by refine ⟨?_, ?_, ?_, ?_, ?_, ?_, ?_, ?_, ?_, ?_, ?_, ?_⟩ <;> (rw [(bcell hby1).1 _ _ (by first | (simp; done) | (simp; omega) | omega)]; simp [go_sem, World.cell?_alloc_past, *])
      obtain ⟨y1f0, y1f1⟩ : (∀ j, yw1.frozen? ⟨w.heap.size + 1 + 1, j, none⟩ = false) ∧ (∀ j, yw1.frozen? ⟨wc.heap.size + 1, j, none⟩ = false) := by refine ⟨?_, ?_⟩ <;> (intro j; rw [(bcell hby1).2 _ _ (by first | (simp; done) | (simp; omega) | omega)]; simp [go_sem, *])
      obtain ⟨y1o0, y1n0, y1m0, y1t0_0, y1t0_1, y1t0_2, y1t0_3, y1o1, y1n1, y1m1, y1t1_0, y1t1_1, y1t1_2, y1t1_3⟩ : w.heap.size + 1 + 1 < yw1.heap.size ∧ yw1.heap.size ≠ w.heap.size + 1 + 1 ∧ w.heap.size + 1 + 1 ≠ yw1.heap.size ∧ w.heap.size + 1 + 1 < yw1.heap.size + 1 ∧ w.heap.size + 1 + 1 < yw1.heap.size + 1 + 1 ∧ w.heap.size + 1 + 1 < yw1.heap.size + 1 + 1 + 1 ∧ w.heap.size + 1 + 1 < yw1.heap.size + 1 + 1 + 1 + 1 ∧ wc.heap.size + 1 < yw1.heap.size ∧ yw1.heap.size ≠ wc.heap.size + 1 ∧ wc.heap.size + 1 ≠ yw1.heap.size ∧ wc.heap.size + 1 < yw1.heap.size + 1 ∧ wc.heap.size + 1 < yw1.heap.size + 1 + 1 ∧ wc.heap.size + 1 < yw1.heap.size + 1 + 1 + 1 ∧ wc.heap.size + 1 < yw1.heap.size + 1 + 1 + 1 + 1 := by refine ⟨?_, ?_, ?_, ?_, ?_, ?_, ?_, ?_, ?_, ?_, ?_, ?_, ?_, ?_⟩ <;> omega
      have hBy1 : Below w.heap.size w yw1 := (by (repeat (first | (with_reducible refine Below.drew ?_) | (with_reducible refine below_drewN ?_ _) | (with_reducible refine Below.alloc ?_ (by first | omega | (simp; done) | (simp; omega) | (simp at *; omega)) _) | (with_reducible refine Below.setCell ?_ (by first | omega | (simp; done) | (simp; omega) | (simp at *; omega)) _) | (with_reducible exact Below.refl _ _) | (with_reducible assumption) | (with_reducible refine Below.trans ?_ (Below.mono (by assumption) (by first | omega | (simp; done) | (simp; omega) | (simp at *; omega)))))))
      clear hby1 
      go_wp2_with fail
      rw [rounds_succ]
      go_wp2
      refine bodyPost_ret (v := .tuple #[.agg #[.int .i64 0, .int .i64 0, .int .i64 0, .int .i64 0, .int .i64 0, .int .i64 0], .int .i64 12]) (by simp [results, Try.results39, go_sem, *]) rfl ⟨rfl, ?_⟩
      (repeat (first | (with_reducible refine Below.drew ?_) | (with_reducible refine below_drewN ?_ _) | (with_reducible refine Below.alloc ?_ (by first | omega | (simp; done) | (simp; omega) | (simp at *; omega)) _) | (with_reducible refine Below.setCell ?_ (by first | omega | (simp; done) | (simp; omega) | (simp at *; omega)) _) | (with_reducible exact Below.refl _ _) | (with_reducible assumption) | (with_reducible refine Below.trans ?_ (Below.mono (by assumption) (by first | omega | (simp; done) | (simp; omega) | (simp at *; omega))))))
    · obtain ⟨hm0, hn0, hn1, hn2, rfl, rfl, rfl, rfl, rfl, rfl, rfl⟩ := hw
      obtain ⟨dm1, dm2⟩ := HDM.out
      have gm1 := dm1 hm0
      have gm2 := dm2 hm0
      clear dm1 dm2
      have hm0b : (m == 0) = false := by simpa using hm0
      obtain ⟨e1, e2, e3⟩ := E123.out
      go_wp2
      refine wp_loop_rounds 3 ?_
      have tb0 : w.heap.size + 1 + 1 < wc.heap.size + 1 := by omega
      have tb1 : w.heap.size + 1 + 1 < wc.heap.size + 1 + 1 := by omega
      have tb2 : w.heap.size + 1 + 1 < wc.heap.size + 1 + 1 + 1 := by omega
      rw [rounds_succ]
      go_wp2_with fail
      refine (rounded2_any A0 D (A0 / D) (upI A0 D) _ gm2 (by omega) bA0.1 bA0.2 (Lib.hid rfl) (Lib.hid rfl)).mono ?_
      rintro e yw1 ⟨rfl, hby1⟩
      have zy1 := hby1.size
      try simp at zy1
      obtain ⟨y1_0_0, y1_0_1, y1_0_2, y1_0_3, y1_0_4, y1_0_5, y1_1_0, y1_1_1, y1_1_2, y1_1_3, y1_1_4, y1_1_5⟩ : yw1.cell? ⟨w.heap.size + 1 + 1, 0, none⟩ = some (.int .i64 0) ∧ yw1.cell? ⟨w.heap.size + 1 + 1, 1, none⟩ = some (.int .i64 0) ∧ yw1.cell? ⟨w.heap.size + 1 + 1, 2, none⟩ = some (.int .i64 0) ∧ yw1.cell? ⟨w.heap.size + 1 + 1, 3, none⟩ = some (.int .i64 0) ∧ yw1.cell? ⟨w.heap.size + 1 + 1, 4, none⟩ = some (.int .i64 0) ∧ yw1.cell? ⟨w.heap.size + 1 + 1, 5, none⟩ = some (.int .i64 0) ∧ yw1.cell? ⟨wc.heap.size + 1, 0, none⟩ = some (.int .i64 0) ∧ yw1.cell? ⟨wc.heap.size + 1, 1, none⟩ = some (.int .i64 0) ∧ yw1.cell? ⟨wc.heap.size + 1, 2, none⟩ = some (.int .i64 0) ∧ yw1.cell? ⟨wc.heap.size + 1, 3, none⟩ = some (.int .i64 0) ∧ yw1.cell? ⟨wc.heap.size + 1, 4, none⟩ = some (.int .i64 0) ∧ yw1.cell? ⟨wc.heap.size + 1, 5, none⟩ = some (.int .i64 0) := by refine ⟨?_, ?_, ?_, ?_, ?_, ?_, ?_, ?_, ?_, ?_, ?_, ?_⟩ <;> (rw [(bcell hby1).1 _ _ (by first | (simp; done) | (simp; omega) | omega)]; simp [go_sem, World.cell?_alloc_past, *])
      obtain ⟨y1f0, y1f1⟩ : (∀ j, yw1.frozen? ⟨w.heap.size + 1 + 1, j, none⟩ = false) ∧ (∀ j, yw1.frozen? ⟨wc.heap.size + 1, j, none⟩ = false) := by refine ⟨?_, ?_⟩ <;> (intro j; rw [(bcell hby1).2 _ _ (by first | (simp; done) | (simp; omega) | omega)]; simp [go_sem, *])
      obtain ⟨y1o0, y1n0, y1m0, y1t0_0, y1t0_1, y1t0_2, y1t0_3, y1o1, y1n1, y1m1, y1t1_0, y1t1_1, y1t1_2, y1t1_3⟩ : w.heap.size + 1 + 1 < yw1.heap.size ∧ yw1.heap.size ≠ w.heap.size + 1 + 1 ∧ w.heap.size + 1 + 1 ≠ yw1.heap.size ∧ w.heap.size + 1 + 1 < yw1.heap.size + 1 ∧ w.heap.size + 1 + 1 < yw1.heap.size + 1 + 1 ∧ w.heap.size + 1 + 1 < yw1.heap.size + 1 + 1 + 1 ∧ w.heap.size + 1 + 1 < yw1.heap.size + 1 + 1 + 1 + 1 ∧ wc.heap.size + 1 < yw1.heap.size ∧ yw1.heap.size ≠ wc.heap.size + 1 ∧ wc.heap.size + 1 ≠ yw1.heap.size ∧ wc.heap.size + 1 < yw1.heap.size + 1 ∧ wc.heap.size + 1 < yw1.heap.size + 1 + 1 ∧ wc.heap.size + 1 < yw1.heap.size + 1 + 1 + 1 ∧ wc.heap.size + 1 < yw1.heap.size + 1 + 1 + 1 + 1 := by refine ⟨?_, ?_, ?_, ?_, ?_, ?_, ?_, ?_, ?_, ?_, ?_, ?_, ?_, ?_⟩ <;> omega
      have hBy1 : Below w.heap.size w yw1 := (by (repeat (first | (with_reducible refine Below.drew ?_) | (with_reducible refine below_drewN ?_ _) | (with_reducible refine Below.alloc ?_ (by first | omega | (simp; done) | (simp; omega) | (simp at *; omega)) _) | (with_reducible refine Below.setCell ?_ (by first | omega | (simp; done) | (simp; omega) | (simp at *; omega)) _) | (with_reducible exact Below.refl _ _) | (with_reducible assumption) | (with_reducible refine Below.trans ?_ (Below.mono (by assumption) (by first | omega | (simp; done) | (simp; omega) | (simp at *; omega)))))))
      clear hby1 
      go_wp2_with fail
      rw [rounds_succ]
      go_wp2_with fail
      refine (rounded2_any A1 D (A1 / D) (upI A1 D) _ gm2 (by omega) bA1.1 bA1.2 (Lib.hid rfl) (Lib.hid rfl)).mono ?_
      rintro e yw2 ⟨rfl, hby2⟩
      have zy2 := hby2.size
      try simp at zy2
      obtain ⟨y2_0_0, y2_0_1, y2_0_2, y2_0_3, y2_0_4, y2_0_5, y2_1_0, y2_1_1, y2_1_2, y2_1_3, y2_1_4, y2_1_5⟩ : yw2.cell? ⟨w.heap.size + 1 + 1, 0, none⟩ = some (.int .i64 0) ∧ yw2.cell? ⟨w.heap.size + 1 + 1, 1, none⟩ = some (.int .i64 0) ∧ yw2.cell? ⟨w.heap.size + 1 + 1, 2, none⟩ = some (.int .i64 0) ∧ yw2.cell? ⟨w.heap.size + 1 + 1, 3, none⟩ = some (.int .i64 0) ∧ yw2.cell? ⟨w.heap.size + 1 + 1, 4, none⟩ = some (.int .i64 0) ∧ yw2.cell? ⟨w.heap.size + 1 + 1, 5, none⟩ = some (.int .i64 0) ∧ yw2.cell? ⟨wc.heap.size + 1, 0, none⟩ = some (.int .i64 (A0 / D)) ∧ yw2.cell? ⟨wc.heap.size + 1, 1, none⟩ = some (.int .i64 (upI A0 D)) ∧ yw2.cell? ⟨wc.heap.size + 1, 2, none⟩ = some (.int .i64 0) ∧ yw2.cell? ⟨wc.heap.size + 1, 3, none⟩ = some (.int .i64 0) ∧ yw2.cell? ⟨wc.heap.size + 1, 4, none⟩ = some (.int .i64 0) ∧ yw2.cell? ⟨wc.heap.size + 1, 5, none⟩ = some (.int .i64 0) := by refine ⟨?_, ?_, ?_, ?_, ?_, ?_, ?_, ?_, ?_, ?_, ?_, ?_⟩ <;> (rw [(bcell hby2).1 _ _ (by first | (simp; done) | (simp; omega) | omega)]; simp [go_sem, World.cell?_alloc_past, *])
      obtain ⟨y2f0, y2f1⟩ : (∀ j, yw2.frozen? ⟨w.heap.size + 1 + 1, j, none⟩ = false) ∧ (∀ j, yw2.frozen? ⟨wc.heap.size + 1, j, none⟩ = false) := by refine ⟨?_, ?_⟩ <;> (intro j; rw [(bcell hby2).2 _ _ (by first | (simp; done) | (simp; omega) | omega)]; simp [go_sem, *])
      obtain ⟨y2o0, y2n0, y2m0, y2t0_0, y2t0_1, y2t0_2, y2t0_3, y2o1, y2n1, y2m1, y2t1_0, y2t1_1, y2t1_2, y2t1_3⟩ : w.heap.size + 1 + 1 < yw2.heap.size ∧ yw2.heap.size ≠ w.heap.size + 1 + 1 ∧ w.heap.size + 1 + 1 ≠ yw2.heap.size ∧ w.heap.size + 1 + 1 < yw2.heap.size + 1 ∧ w.heap.size + 1 + 1 < yw2.heap.size + 1 + 1 ∧ w.heap.size + 1 + 1 < yw2.heap.size + 1 + 1 + 1 ∧ w.heap.size + 1 + 1 < yw2.heap.size + 1 + 1 + 1 + 1 ∧ wc.heap.size + 1 < yw2.heap.size ∧ yw2.heap.size ≠ wc.heap.size + 1 ∧ wc.heap.size + 1 ≠ yw2.heap.size ∧ wc.heap.size + 1 < yw2.heap.size + 1 ∧ wc.heap.size + 1 < yw2.heap.size + 1 + 1 ∧ wc.heap.size + 1 < yw2.heap.size + 1 + 1 + 1 ∧ wc.heap.size + 1 < yw2.heap.size + 1 + 1 + 1 + 1 := by refine ⟨?_, ?_, ?_, ?_, ?_, ?_, ?_, ?_, ?_, ?_, ?_, ?_, ?_, ?_⟩ <;> omega
      have hBy2 : Below w.heap.size w yw2 := (by (repeat (first | (with_reducible refine Below.drew ?_) | (with_reducible refine below_drewN ?_ _) | (with_reducible refine Below.alloc ?_ (by first | omega | (simp; done) | (simp; omega) | (simp at *; omega)) _) | (with_reducible refine Below.setCell ?_ (by first | omega | (simp; done) | (simp; omega) | (simp at *; omega)) _) | (with_reducible exact Below.refl _ _) | (with_reducible assumption) | (with_reducible refine Below.trans ?_ (Below.mono (by assumption) (by first | omega | (simp; done) | (simp; omega) | (simp at *; omega)))))))
      clear hby2 y1_0_0 y1_0_1 y1_0_2 y1_0_3 y1_0_4 y1_0_5 y1_1_0 y1_1_1 y1_1_2 y1_1_3 y1_1_4 y1_1_5 y1f0 y1f1 y1o0 y1n0 y1m0 y1t0_0 y1t0_1 y1t0_2 y1t0_3 y1o1 y1n1 y1m1 y1t1_0 y1t1_1 y1t1_2 y1t1_3 hBy1
      go_wp2_with fail
      rw [rounds_succ]
      go_wp2
      refine bodyPost_ret (v := .tuple #[.agg #[.int .i64 0, .int .i64 0, .int .i64 0, .int .i64 0, .int .i64 0, .int .i64 0], .int .i64 12]) (by simp [results, Try.results39, go_sem, *]) rfl ⟨rfl, ?_⟩
      (repeat (first | (with_reducible refine Below.drew ?_) | (with_reducible refine below_drewN ?_ _) | (with_reducible refine Below.alloc ?_ (by first | omega | (simp; done) | (simp; omega) | (simp at *; omega)) _) | (with_reducible refine Below.setCell ?_ (by first | omega | (simp; done) | (simp; omega) | (simp at *; omega)) _) | (with_reducible exact Below.refl _ _) | (with_reducible assumption) | (with_reducible refine Below.trans ?_ (Below.mono (by assumption) (by first | omega | (simp; done) | (simp; omega) | (simp at *; omega))))))
    · obtain ⟨hm0, hn0, hn1, hn2, rfl, hq⟩ := hw
      obtain ⟨dm1, dm2⟩ := HDM.out
      have gm1 := dm1 hm0
      have gm2 := dm2 hm0
      clear dm1 dm2
      have hm0b : (m == 0) = false := by simpa using hm0
      obtain ⟨e1, e2, e3⟩ := E123.out
      have hq0 := Lib.hid hq.out.1
      have hq1 := Lib.hid hq.out.2.1
      have hq2 := Lib.hid hq.out.2.2.1
      have hq3 := Lib.hid hq.out.2.2.2.1
      have hq4 := Lib.hid hq.out.2.2.2.2.1
      have hq5 := Lib.hid hq.out.2.2.2.2.2
      go_wp2
      refine wp_loop_rounds 4 ?_
      have tb0 : w.heap.size + 1 + 1 < wc.heap.size + 1 := by omega
      have tb1 : w.heap.size + 1 + 1 < wc.heap.size + 1 + 1 := by omega
      have tb2 : w.heap.size + 1 + 1 < wc.heap.size + 1 + 1 + 1 := by omega
      rw [rounds_succ]
      go_wp2_with fail
      refine (rounded2_any A0 D r0 R0 _ gm2 (by omega) bA0.1 bA0.2 hq0 hq1).mono ?_
      rintro e yw1 ⟨rfl, hby1⟩
      have zy1 := hby1.size
      try simp at zy1
      obtain ⟨y1_0_0, y1_0_1, y1_0_2, y1_0_3, y1_0_4, y1_0_5, y1_1_0, y1_1_1, y1_1_2, y1_1_3, y1_1_4, y1_1_5⟩ : yw1.cell? ⟨w.heap.size + 1 + 1, 0, none⟩ = some (.int .i64 0) ∧ yw1.cell? ⟨w.heap.size + 1 + 1, 1, none⟩ = some (.int .i64 0) ∧ yw1.cell? ⟨w.heap.size + 1 + 1, 2, none⟩ = some (.int .i64 0) ∧ yw1.cell? ⟨w.heap.size + 1 + 1, 3, none⟩ = some (.int .i64 0) ∧ yw1.cell? ⟨w.heap.size + 1 + 1, 4, none⟩ = some (.int .i64 0) ∧ yw1.cell? ⟨w.heap.size + 1 + 1, 5, none⟩ = some (.int .i64 0) ∧ yw1.cell? ⟨wc.heap.size + 1, 0, none⟩ = some (.int .i64 0) ∧ yw1.cell? ⟨wc.heap.size + 1, 1, none⟩ = some (.int .i64 0) ∧ yw1.cell? ⟨wc.heap.size + 1, 2, none⟩ = some (.int .i64 0) ∧ yw1.cell? ⟨wc.heap.size + 1, 3, none⟩ = some (.int .i64 0) ∧ yw1.cell? ⟨wc.heap.size + 1, 4, none⟩ = some (.int .i64 0) ∧ yw1.cell? ⟨wc.heap.size + 1, 5, none⟩ = some (.int .i64 0) := by refine ⟨?_, ?_, ?_, ?_, ?_, ?_, ?_, ?_, ?_, ?_, ?_, ?_⟩ <;> (rw [(bcell hby1).1 _ _ (by first | (simp; done) | (simp; omega) | omega)]; simp [go_sem, World.cell?_alloc_past, *])
      obtain ⟨y1f0, y1f1⟩ : (∀ j, yw1.frozen? ⟨w.heap.size + 1 + 1, j, none⟩ = false) ∧ (∀ j, yw1.frozen? ⟨wc.heap.size + 1, j, none⟩ = false) := by refine ⟨?_, ?_⟩ <;> (intro j; rw [(bcell hby1).2 _ _ (by first | (simp; done) | (simp; omega) | omega)]; simp [go_sem, *])
      obtain ⟨y1o0, y1n0, y1m0, y1t0_0, y1t0_1, y1t0_2, y1t0_3, y1o1, y1n1, y1m1, y1t1_0, y1t1_1, y1t1_2, y1t1_3⟩ : w.heap.size + 1 + 1 < yw1.heap.size ∧ yw1.heap.size ≠ w.heap.size + 1 + 1 ∧ w.heap.size + 1 + 1 ≠ yw1.heap.size ∧ w.heap.size + 1 + 1 < yw1.heap.size + 1 ∧ w.heap.size + 1 + 1 < yw1.heap.size + 1 + 1 ∧ w.heap.size + 1 + 1 < yw1.heap.size + 1 + 1 + 1 ∧ w.heap.size + 1 + 1 < yw1.heap.size + 1 + 1 + 1 + 1 ∧ wc.heap.size + 1 < yw1.heap.size ∧ yw1.heap.size ≠ wc.heap.size + 1 ∧ wc.heap.size + 1 ≠ yw1.heap.size ∧ wc.heap.size + 1 < yw1.heap.size + 1 ∧ wc.heap.size + 1 < yw1.heap.size + 1 + 1 ∧ wc.heap.size + 1 < yw1.heap.size + 1 + 1 + 1 ∧ wc.heap.size + 1 < yw1.heap.size + 1 + 1 + 1 + 1 := by refine ⟨?_, ?_, ?_, ?_, ?_, ?_, ?_, ?_, ?_, ?_, ?_, ?_, ?_, ?_⟩ <;> omega
      have hBy1 : Below w.heap.size w yw1 := (by (repeat (first | (with_reducible refine Below.drew ?_) | (with_reducible refine below_drewN ?_ _) | (with_reducible refine Below.alloc ?_ (by first | omega | (simp; done) | (simp; omega) | (simp at *; omega)) _) | (with_reducible refine Below.setCell ?_ (by first | omega | (simp; done) | (simp; omega) | (simp at *; omega)) _) | (with_reducible exact Below.refl _ _) | (with_reducible assumption) | (with_reducible refine Below.trans ?_ (Below.mono (by assumption) (by first | omega | (simp; done) | (simp; omega) | (simp at *; omega)))))))
      clear hby1 
      go_wp2_with fail
      rw [rounds_succ]
      go_wp2_with fail
      refine (rounded2_any A1 D r1 R1 _ gm2 (by omega) bA1.1 bA1.2 hq2 hq3).mono ?_
      rintro e yw2 ⟨rfl, hby2⟩
      have zy2 := hby2.size
      try simp at zy2
      obtain ⟨y2_0_0, y2_0_1, y2_0_2, y2_0_3, y2_0_4, y2_0_5, y2_1_0, y2_1_1, y2_1_2, y2_1_3, y2_1_4, y2_1_5⟩ : yw2.cell? ⟨w.heap.size + 1 + 1, 0, none⟩ = some (.int .i64 0) ∧ yw2.cell? ⟨w.heap.size + 1 + 1, 1, none⟩ = some (.int .i64 0) ∧ yw2.cell? ⟨w.heap.size + 1 + 1, 2, none⟩ = some (.int .i64 0) ∧ yw2.cell? ⟨w.heap.size + 1 + 1, 3, none⟩ = some (.int .i64 0) ∧ yw2.cell? ⟨w.heap.size + 1 + 1, 4, none⟩ = some (.int .i64 0) ∧ yw2.cell? ⟨w.heap.size + 1 + 1, 5, none⟩ = some (.int .i64 0) ∧ yw2.cell? ⟨wc.heap.size + 1, 0, none⟩ = some (.int .i64 r0) ∧ yw2.cell? ⟨wc.heap.size + 1, 1, none⟩ = some (.int .i64 R0) ∧ yw2.cell? ⟨wc.heap.size + 1, 2, none⟩ = some (.int .i64 0) ∧ yw2.cell? ⟨wc.heap.size + 1, 3, none⟩ = some (.int .i64 0) ∧ yw2.cell? ⟨wc.heap.size + 1, 4, none⟩ = some (.int .i64 0) ∧ yw2.cell? ⟨wc.heap.size + 1, 5, none⟩ = some (.int .i64 0) := by refine ⟨?_, ?_, ?_, ?_, ?_, ?_, ?_, ?_, ?_, ?_, ?_, ?_⟩ <;> (rw [(bcell hby2).1 _ _ (by first | (simp; done) | (simp; omega) | omega)]; simp [go_sem, World.cell?_alloc_past, *])
      obtain ⟨y2f0, y2f1⟩ : (∀ j, yw2.frozen? ⟨w.heap.size + 1 + 1, j, none⟩ = false) ∧ (∀ j, yw2.frozen? ⟨wc.heap.size + 1, j, none⟩ = false) := by refine ⟨?_, ?_⟩ <;> (intro j; rw [(bcell hby2).2 _ _ (by first | (simp; done) | (simp; omega) | omega)]; simp [go_sem, *])
      obtain ⟨y2o0, y2n0, y2m0, y2t0_0, y2t0_1, y2t0_2, y2t0_3, y2o1, y2n1, y2m1, y2t1_0, y2t1_1, y2t1_2, y2t1_3⟩ : w.heap.size + 1 + 1 < yw2.heap.size ∧ yw2.heap.size ≠ w.heap.size + 1 + 1 ∧ w.heap.size + 1 + 1 ≠ yw2.heap.size ∧ w.heap.size + 1 + 1 < yw2.heap.size + 1 ∧ w.heap.size + 1 + 1 < yw2.heap.size + 1 + 1 ∧ w.heap.size + 1 + 1 < yw2.heap.size + 1 + 1 + 1 ∧ w.heap.size + 1 + 1 < yw2.heap.size + 1 + 1 + 1 + 1 ∧ wc.heap.size + 1 < yw2.heap.size ∧ yw2.heap.size ≠ wc.heap.size + 1 ∧ wc.heap.size + 1 ≠ yw2.heap.size ∧ wc.heap.size + 1 < yw2.heap.size + 1 ∧ wc.heap.size + 1 < yw2.heap.size + 1 + 1 ∧ wc.heap.size + 1 < yw2.heap.size + 1 + 1 + 1 ∧ wc.heap.size + 1 < yw2.heap.size + 1 + 1 + 1 + 1 := by refine ⟨?_, ?_, ?_, ?_, ?_, ?_, ?_, ?_, ?_, ?_, ?_, ?_, ?_, ?_⟩ <;> omega
      have hBy2 : Below w.heap.size w yw2 := (by (repeat (first | (with_reducible refine Below.drew ?_) | (with_reducible refine below_drewN ?_ _) | (with_reducible refine Below.alloc ?_ (by first | omega | (simp; done) | (simp; omega) | (simp at *; omega)) _) | (with_reducible refine Below.setCell ?_ (by first | omega | (simp; done) | (simp; omega) | (simp at *; omega)) _) | (with_reducible exact Below.refl _ _) | (with_reducible assumption) | (with_reducible refine Below.trans ?_ (Below.mono (by assumption) (by first | omega | (simp; done) | (simp; omega) | (simp at *; omega)))))))
      clear hby2 y1_0_0 y1_0_1 y1_0_2 y1_0_3 y1_0_4 y1_0_5 y1_1_0 y1_1_1 y1_1_2 y1_1_3 y1_1_4 y1_1_5 y1f0 y1f1 y1o0 y1n0 y1m0 y1t0_0 y1t0_1 y1t0_2 y1t0_3 y1o1 y1n1 y1m1 y1t1_0 y1t1_1 y1t1_2 y1t1_3 hBy1
      go_wp2_with fail
      rw [rounds_succ]
      go_wp2_with fail
      refine (rounded2_any Z m r2 R2 _ gm1 (by omega) (by omega) (by omega) hq4 hq5).mono ?_
      rintro e yw3 ⟨rfl, hby3⟩
      have zy3 := hby3.size
      try simp at zy3
      obtain ⟨y3_0_0, y3_0_1, y3_0_2, y3_0_3, y3_0_4, y3_0_5, y3_1_0, y3_1_1, y3_1_2, y3_1_3, y3_1_4, y3_1_5⟩ : yw3.cell? ⟨w.heap.size + 1 + 1, 0, none⟩ = some (.int .i64 0) ∧ yw3.cell? ⟨w.heap.size + 1 + 1, 1, none⟩ = some (.int .i64 0) ∧ yw3.cell? ⟨w.heap.size + 1 + 1, 2, none⟩ = some (.int .i64 0) ∧ yw3.cell? ⟨w.heap.size + 1 + 1, 3, none⟩ = some (.int .i64 0) ∧ yw3.cell? ⟨w.heap.size + 1 + 1, 4, none⟩ = some (.int .i64 0) ∧ yw3.cell? ⟨w.heap.size + 1 + 1, 5, none⟩ = some (.int .i64 0) ∧ yw3.cell? ⟨wc.heap.size + 1, 0, none⟩ = some (.int .i64 r0) ∧ yw3.cell? ⟨wc.heap.size + 1, 1, none⟩ = some (.int .i64 R0) ∧ yw3.cell? ⟨wc.heap.size + 1, 2, none⟩ = some (.int .i64 r1) ∧ yw3.cell? ⟨wc.heap.size + 1, 3, none⟩ = some (.int .i64 R1) ∧ yw3.cell? ⟨wc.heap.size + 1, 4, none⟩ = some (.int .i64 0) ∧ yw3.cell? ⟨wc.heap.size + 1, 5, none⟩ = some (.int .i64 0) := by refine ⟨?_, ?_, ?_, ?_, ?_, ?_, ?_, ?_, ?_, ?_, ?_, ?_⟩ <;> (rw [(bcell hby3).1 _ _ (by first | (simp; done) | (simp; omega) | omega)]; simp [go_sem, World.cell?_alloc_past, *])
      obtain ⟨y3f0, y3f1⟩ : (∀ j, yw3.frozen? ⟨w.heap.size + 1 + 1, j, none⟩ = false) ∧ (∀ j, yw3.frozen? ⟨wc.heap.size + 1, j, none⟩ = false) := by refine ⟨?_, ?_⟩ <;> (intro j; rw [(bcell hby3).2 _ _ (by first | (simp; done) | (simp; omega) | omega)]; simp [go_sem, *])
      obtain ⟨y3o0, y3n0, y3m0, y3t0_0, y3t0_1, y3t0_2, y3t0_3, y3o1, y3n1, y3m1, y3t1_0, y3t1_1, y3t1_2, y3t1_3⟩ : w.heap.size + 1 + 1 < yw3.heap.size ∧ yw3.heap.size ≠ w.heap.size + 1 + 1 ∧ w.heap.size + 1 + 1 ≠ yw3.heap.size ∧ w.heap.size + 1 + 1 < yw3.heap.size + 1 ∧ w.heap.size + 1 + 1 < yw3.heap.size + 1 + 1 ∧ w.heap.size + 1 + 1 < yw3.heap.size + 1 + 1 + 1 ∧ w.heap.size + 1 + 1 < yw3.heap.size + 1 + 1 + 1 + 1 ∧ wc.heap.size + 1 < yw3.heap.size ∧ yw3.heap.size ≠ wc.heap.size + 1 ∧ wc.heap.size + 1 ≠ yw3.heap.size ∧ wc.heap.size + 1 < yw3.heap.size + 1 ∧ wc.heap.size + 1 < yw3.heap.size + 1 + 1 ∧ wc.heap.size + 1 < yw3.heap.size + 1 + 1 + 1 ∧ wc.heap.size + 1 < yw3.heap.size + 1 + 1 + 1 + 1 := by refine ⟨?_, ?_, ?_, ?_, ?_, ?_, ?_, ?_, ?_, ?_, ?_, ?_, ?_, ?_⟩ <;> omega
      have hBy3 : Below w.heap.size w yw3 := (by (repeat (first | (with_reducible refine Below.drew ?_) | (with_reducible refine below_drewN ?_ _) | (with_reducible refine Below.alloc ?_ (by first | omega | (simp; done) | (simp; omega) | (simp at *; omega)) _) | (with_reducible refine Below.setCell ?_ (by first | omega | (simp; done) | (simp; omega) | (simp at *; omega)) _) | (with_reducible exact Below.refl _ _) | (with_reducible assumption) | (with_reducible refine Below.trans ?_ (Below.mono (by assumption) (by first | omega | (simp; done) | (simp; omega) | (simp at *; omega)))))))
      clear hby3 y2_0_0 y2_0_1 y2_0_2 y2_0_3 y2_0_4 y2_0_5 y2_1_0 y2_1_1 y2_1_2 y2_1_3 y2_1_4 y2_1_5 y2f0 y2f1 y2o0 y2n0 y2m0 y2t0_0 y2t0_1 y2t0_2 y2t0_3 y2o1 y2n1 y2m1 y2t1_0 y2t1_1 y2t1_2 y2t1_3 hBy2
      go_wp2_with fail
      rw [rounds_succ]
      go_wp2
      refine bodyPost_ret (v := .tuple #[.agg #[.int .i64 r0, .int .i64 R0, .int .i64 r1, .int .i64 R1, .int .i64 r2, .int .i64 R2], .int .i64 0]) (by simp [results, Try.results39, go_sem, *]) rfl ⟨rfl, ?_⟩
      (repeat (first | (with_reducible refine Below.drew ?_) | (with_reducible refine below_drewN ?_ _) | (with_reducible refine Below.alloc ?_ (by first | omega | (simp; done) | (simp; omega) | (simp at *; omega)) _) | (with_reducible refine Below.setCell ?_ (by first | omega | (simp; done) | (simp; omega) | (simp at *; omega)) _) | (with_reducible exact Below.refl _ _) | (with_reducible assumption) | (with_reducible refine Below.trans ?_ (Below.mono (by assumption) (by first | omega | (simp; done) | (simp; omega) | (simp at *; omega))))))
end Go.Proofs.Ytjkhjjmmkdfjmaa
