/- SiteCosines: the statement returns true for every angle. -/
import Derived.Test.YtallnjehhoengaaGreatSRefC
import Derived.Test.YtallnjehhoengaaGreatSCosP
import Derived.Test.YtallnjehhoengaaGreatSAwk2
import Derived.Outline
namespace Go.Proofs.YtallnjehhoengaaGreat
open Go.ChangeShapes Go.WideShapes Go.ChangeAt Go.RowKit
set_option linter.unusedVariables false
set_option linter.unusedSimpArgs false
attribute [local go_sem ↓] Go.wp_at_zero Go.wp_at_succ
theorem wthn_is (n a b : Int) (x : Bool) (w : World) (hb : Hid (inB n a b = x)) :
    Calls Tryz.prog 16 #[.int .i64 n, .int .i64 a, .int .i64 b] w fun e w' => e = .returned (.bool x) ∧ w = w' := by
  have := baseWithin_any n a b w
  rw [hb.out] at this; exact this
theorem ret_true {p : Prop} [Decidable p] (h : p) : (Ending.returned (.bool (decide p)) : Ending) = .returned (.bool true) := by rw [decide_eq_true h]
theorem refCos_is (n : Nat) (a b : Int) (w : World) (hn : n < 4096) (hc : Hid (cosP n = (a, b))) :
    Calls Tryz.prog 17 #[.int .i64 n] w fun e w' => e = .returned (.agg #[.int .i64 a, .int .i64 b]) ∧ Below w.heap.size w w' := by
  have := refCos_any n w hn
  rw [hc.out] at this; exact this
theorem lsq_bd {a b : Int} (a0 : -100000000 ≤ a) (a1 : a ≤ 100000000) (b0 : -100000000 ≤ b) (b1 : b ≤ 100000000) : 0 ≤ lsq a b ∧ lsq a b ≤ 10000000000000000 := by
  have h1 := sq_bd a0 a1
  have h2 := sq_bd b0 b1
  unfold lsq
  split <;> omega
theorem msq_bd {a b : Int} (a0 : -100000000 ≤ a) (a1 : a ≤ 100000000) (b0 : -100000000 ≤ b) (b1 : b ≤ 100000000) : 0 ≤ msq a b ∧ msq a b ≤ 10000000000000000 := by
  have h1 := sq_bd a0 a1
  have h2 := sq_bd b0 b1
  unfold msq; omega
set_option maxRecDepth 100000 in
set_option maxHeartbeats 1000000 in
theorem siteCos_bad (n : Int) (w : World) (hE : Hid (angE n = 2)) (hW : Hid (inB n 0 4095 = false)) :
    Calls Tryz.prog 3 #[.int .i64 n] w fun e w' => e = .returned (.bool true) ∧ Below w.heap.size w w' := by
  go_enter Tryz.func3, Tryz.ntmps3
  go_wp2_with fail
  refine (awake_any _).mono ?_
  rintro e xw1 ⟨rfl, hbx1⟩
  have zx1 := hbx1.size
  try simp at zx1
  have hBx1 : Below w.heap.size w xw1 := (by (repeat (first | (with_reducible refine Below.drew ?_) | (with_reducible refine below_drewN ?_ _) | (with_reducible refine Below.alloc ?_ (by first | omega | (simp; done) | (simp; omega) | (simp at *; omega)) _) | (with_reducible refine Below.setCell ?_ (by first | omega | (simp; done) | (simp; omega) | (simp at *; omega)) _) | (with_reducible exact Below.refl _ _) | (with_reducible assumption) | (with_reducible refine Below.trans ?_ (Below.mono (by assumption) (by first | omega | (simp; done) | (simp; omega) | (simp at *; omega)))))))
  clear hbx1 
  go_wp2_with fail
  refine (Cos_bad n 2 _ hE (by decide)).mono ?_
  rintro e xw2 ⟨rfl, hbx2⟩
  have zx2 := hbx2.size
  try simp at zx2
  have hBx2 : Below w.heap.size w xw2 := (by (repeat (first | (with_reducible refine Below.drew ?_) | (with_reducible refine below_drewN ?_ _) | (with_reducible refine Below.alloc ?_ (by first | omega | (simp; done) | (simp; omega) | (simp at *; omega)) _) | (with_reducible refine Below.setCell ?_ (by first | omega | (simp; done) | (simp; omega) | (simp at *; omega)) _) | (with_reducible exact Below.refl _ _) | (with_reducible assumption) | (with_reducible refine Below.trans ?_ (Below.mono (by assumption) (by first | omega | (simp; done) | (simp; omega) | (simp at *; omega)))))))
  clear hbx2 hBx1
  go_wp2_with ((go_at_call 16; ((with_reducible refine (wthn_is n 0 4095 false _ hW).mono ?_)); rintro e w' ⟨rfl, rfl⟩))
  go_ret
  exact ⟨rfl, (by (repeat (first | (with_reducible refine Below.drew ?_) | (with_reducible refine below_drewN ?_ _) | (with_reducible refine Below.alloc ?_ (by first | omega | (simp; done) | (simp; omega) | (simp at *; omega)) _) | (with_reducible refine Below.setCell ?_ (by first | omega | (simp; done) | (simp; omega) | (simp at *; omega)) _) | (with_reducible exact Below.refl _ _) | (with_reducible assumption) | (with_reducible refine Below.trans ?_ (Below.mono (by assumption) (by first | omega | (simp; done) | (simp; omega) | (simp at *; omega)))))))⟩
set_option maxRecDepth 100000 in
set_option maxHeartbeats 4000000 in
theorem siteCos_good (n m1 m2 : Nat) (a b c d u v L1 L2 M1 M2 : Int) (w : World) (hn : n < 4096) (l1 : m1 < 4096) (l2 : m2 < 4096) (hW : Hid (inB (n : Int) 0 4095 = true)) (hm1 : Hid (((n : Int) - 1024) % 4096 = (m1 : Int))) (hm2 : Hid ((-(n : Int)) % 4096 = (m2 : Int)))
    (hc : Hid (cosP n = (a, b))) (hc1 : Hid (cosP m1 = (c, d))) (hc2 : Hid (cosP m2 = (u, v))) (hL1 : Hid (lsq a b = L1)) (hL2 : Hid (lsq c d = L2)) (hM1 : Hid (msq a b = M1)) (hM2 : Hid (msq c d = M2))
    (ab : a ≤ b) (abw : b - a ≤ 1000) (c0 : -100000000 ≤ c) (cd : c ≤ d) (d1 : d ≤ 100000000) (ll : L1 + L2 ≤ 10000000000000000) (mm : 10000000000000000 ≤ M1 + M2) (ov : max a u ≤ min b v)
    (a0 : -100000000 ≤ a) (b1 : b ≤ 100000000) (hW2 : Hid (inB c (-100000000) d = true)) :
    Calls Tryz.prog 3 #[.int .i64 n] w fun e w' => e = .returned (.bool true) ∧ Below w.heap.size w w' := by
  have bL1 := lsq_bd (a := a) (b := b) (by omega) (by omega) (by omega) (by omega)
  have bL2 := lsq_bd (a := c) (b := d) (by omega) (by omega) (by omega) (by omega)
  have bM1 := msq_bd (a := a) (b := b) (by omega) (by omega) (by omega) (by omega)
  have bM2 := msq_bd (a := c) (b := d) (by omega) (by omega) (by omega) (by omega)
  rw [hL1.out] at bL1
  rw [hL2.out] at bL2
  rw [hM1.out] at bM1
  rw [hM2.out] at bM2
  have e1 : IntKind.i64.wrap ((n : Int) - 1024) = (n : Int) - 1024 := IntWalk.i64_in _ (by omega)
  have e2 : IntKind.i64.wrap (-(n : Int)) = -(n : Int) := IntWalk.i64_in _ (by omega)
  have e3 : IntKind.i64.wrap (b - a) = b - a := IntWalk.i64_in _ (by omega)
  have e4 : IntKind.i64.wrap (L1 + L2) = L1 + L2 := IntWalk.i64_in _ (by omega)
  have e5 : IntKind.i64.wrap (M1 + M2) = M1 + M2 := IntWalk.i64_in _ (by omega)
  have g1 : ¬ b < a := by omega
  have g2 : ¬ 1000 < b - a := by omega
  have g3 : a - b ≤ 0 := by omega
  go_enter Tryz.func3, Tryz.ntmps3
  go_wp2_with fail
  refine (awake_any _).mono ?_
  rintro e xw1 ⟨rfl, hbx1⟩
  have zx1 := hbx1.size
  try simp at zx1
  have hBx1 : Below w.heap.size w xw1 := (by (repeat (first | (with_reducible refine Below.drew ?_) | (with_reducible refine below_drewN ?_ _) | (with_reducible refine Below.alloc ?_ (by first | omega | (simp; done) | (simp; omega) | (simp at *; omega)) _) | (with_reducible refine Below.setCell ?_ (by first | omega | (simp; done) | (simp; omega) | (simp at *; omega)) _) | (with_reducible exact Below.refl _ _) | (with_reducible assumption) | (with_reducible refine Below.trans ?_ (Below.mono (by assumption) (by first | omega | (simp; done) | (simp; omega) | (simp at *; omega)))))))
  clear hbx1 
  go_wp2_with fail
  refine (Cos_good n a b _ hn hc).mono ?_
  rintro e xw2 ⟨rfl, hbx2⟩
  have zx2 := hbx2.size
  try simp at zx2
  have hBx2 : Below w.heap.size w xw2 := (by (repeat (first | (with_reducible refine Below.drew ?_) | (with_reducible refine below_drewN ?_ _) | (with_reducible refine Below.alloc ?_ (by first | omega | (simp; done) | (simp; omega) | (simp at *; omega)) _) | (with_reducible refine Below.setCell ?_ (by first | omega | (simp; done) | (simp; omega) | (simp at *; omega)) _) | (with_reducible exact Below.refl _ _) | (with_reducible assumption) | (with_reducible refine Below.trans ?_ (Below.mono (by assumption) (by first | omega | (simp; done) | (simp; omega) | (simp at *; omega)))))))
  clear hbx2 hBx1
  go_upto_region 6 with ((go_at_call 16; ((with_reducible refine (wthn_is (n : Int) 0 4095 true _ hW).mono ?_)); rintro e w' ⟨rfl, rfl⟩))
  refine wp_region_held_drew (S := (fun w' => w'.cell? ⟨xw2.heap.size, 0, none⟩ = some (.int .i64 a) ∧ w'.cell? ⟨xw2.heap.size, 1, none⟩ = some (.int .i64 b))) (by kernel_rfl) (by simp [go_sem, World.cell?_alloc_past, *]) (fun hHeld => ?_)
  refine tkH 0 ⟨some 27, _, _, _, _, _⟩ ?_ rfl ?_ (by assumption) ?_
  rotate_left
  · (intro w hSw; (try dsimp only at hSw); go_simp; all_goals with_reducible rfl)
  try simp only [Act.put, sA, sB, sC]
  refine tkH 1 ⟨some 28, _, _, _, _, _⟩ ?_ rfl ?_ (by assumption) ?_
  rotate_left
  · (intro w hSw; (try dsimp only at hSw); go_simp; all_goals with_reducible rfl)
  try simp only [Act.put, sA, sB, sC]
  refine tkH 2 ⟨some 29, _, _, _, _, _⟩ ?_ rfl ?_ (by assumption) ?_
  rotate_left
  · (intro w hSw; (try dsimp only at hSw); go_simp; all_goals with_reducible rfl)
  try simp only [Act.put, sA, sB, sC]
  refine tkH 3 ⟨some 30, _, _, _, _, _⟩ ?_ rfl ?_ (by assumption) ?_
  rotate_left
  · (intro w hSw; (try dsimp only at hSw); go_simp; all_goals with_reducible rfl)
  try simp only [Act.put, sA, sB, sC]
  refine tkH 4 ⟨some 31, _, _, _, _, _⟩ ?_ rfl ?_ (by assumption) ?_
  rotate_left
  · (intro w hSw; (try dsimp only at hSw); go_simp; all_goals with_reducible rfl)
  try simp only [Act.put, sA, sB, sC]
  refine wpAnyH_ready (rs := [5]) (by kernel_rfl) (by simp) ?_
  refine AllReadyH.cons rfl (fun K hK => ?_) AllReadyH.nil
  go_simp
  refine (refCos_is n a b _ hn hc).mono ?_
  rintro e xw3 ⟨rfl, hbx3⟩
  have zx3 := hbx3.size
  try simp at zx3
  obtain ⟨x3_0_0, x3_0_1⟩ : xw3.cell? ⟨xw2.heap.size, 0, none⟩ = some (.int .i64 a) ∧ xw3.cell? ⟨xw2.heap.size, 1, none⟩ = some (.int .i64 b) := by refine ⟨?_, ?_⟩ <;> (rw [(bcell hbx3).1 _ _ (by first | (simp; done) | (simp; omega) | omega)]; simp [go_sem, World.cell?_alloc_past, *])
  obtain ⟨x3o0, x3n0, x3m0, x3t0_0⟩ : xw2.heap.size < xw3.heap.size ∧ xw3.heap.size ≠ xw2.heap.size ∧ xw2.heap.size ≠ xw3.heap.size ∧ xw2.heap.size < xw3.heap.size + 1 := by refine ⟨?_, ?_, ?_, ?_⟩ <;> omega
  have hBx3 : Below w.heap.size w xw3 := (by (repeat (first | (with_reducible refine Below.drew ?_) | (with_reducible refine below_drewN ?_ _) | (with_reducible refine Below.alloc ?_ (by first | omega | (simp; done) | (simp; omega) | (simp at *; omega)) _) | (with_reducible refine Below.setCell ?_ (by first | omega | (simp; done) | (simp; omega) | (simp at *; omega)) _) | (with_reducible exact Below.refl _ _) | (with_reducible assumption) | (with_reducible refine Below.trans ?_ (Below.mono (by assumption) (by first | omega | (simp; done) | (simp; omega) | (simp at *; omega)))))))
  clear hbx3 hBx2
  go_wp2_with fail
  refine hK.out _ _ (by simp [go_sem, World.cell?_alloc_past, *]) (fun hHeld => ?_)
  clear hK K
  try simp only [Act.put, sA, sB, sC]
  refine tkH 6 ⟨some 33, _, _, _, _, _⟩ ?_ rfl ?_ (by assumption) ?_
  rotate_left
  · (intro w hSw; (try dsimp only at hSw); go_simp; all_goals with_reducible rfl)
  try simp only [Act.put, sA, sB, sC]
  refine tkH 7 ⟨some 34, _, _, _, _, _⟩ ?_ rfl ?_ (by assumption) ?_
  rotate_left
  · (intro w hSw; (try dsimp only at hSw); go_simp; all_goals with_reducible rfl)
  try simp only [Act.put, sA, sB, sC]
  refine tkH 8 ⟨some 35, _, _, _, _, _⟩ ?_ rfl ?_ (by assumption) ?_
  rotate_left
  · (intro w hSw; (try dsimp only at hSw); go_simp; all_goals with_reducible rfl)
  try simp only [Act.put, sA, sB, sC]
  refine tkH 9 ⟨some 36, _, _, _, _, _⟩ ?_ rfl ?_ (by assumption) ?_
  rotate_left
  · (intro w hSw; (try dsimp only at hSw); go_simp; all_goals with_reducible rfl)
  try simp only [Act.put, sA, sB, sC]
  refine tkH 10 ⟨some 37, _, _, _, _, _⟩ ?_ rfl ?_ (by assumption) ?_
  rotate_left
  · (intro w hSw; (try dsimp only at hSw); go_simp; all_goals with_reducible rfl)
  try simp only [Act.put, sA, sB, sC]
  refine tkH 11 ⟨some 38, _, _, _, _, _⟩ ?_ rfl ?_ (by assumption) ?_
  rotate_left
  · (intro w hSw; (try dsimp only at hSw); go_simp; all_goals with_reducible rfl)
  try simp only [Act.put, sA, sB, sC]
  refine tkH 12 ⟨some 39, _, _, _, _, _⟩ ?_ rfl ?_ (by assumption) ?_
  rotate_left
  · (intro w hSw; (try dsimp only at hSw); go_simp; all_goals with_reducible rfl)
  try simp only [Act.put, sA, sB, sC]
  refine tkH 13 ⟨some 40, _, _, _, _, _⟩ ?_ rfl ?_ (by assumption) ?_
  rotate_left
  · (intro w hSw; (try dsimp only at hSw); go_simp; all_goals with_reducible rfl)
  try simp only [Act.put, sA, sB, sC]
  try rw [show decide (b < a) = false from decide_eq_false (by omega)]
  refine tkH 14 ⟨some 41, _, _, _, _, _⟩ ?_ rfl ?_ (by assumption) ?_
  rotate_left
  · (intro w hSw; (try dsimp only at hSw); go_simp; all_goals with_reducible rfl)
  try simp only [Act.put, sA, sB, sC]
  refine tkH 15 ⟨some 42, _, _, _, _, _⟩ ?_ rfl ?_ (by assumption) ?_
  rotate_left
  · (intro w hSw; (try dsimp only at hSw); go_simp; all_goals with_reducible rfl)
  try simp only [Act.put, sA, sB, sC]
  refine tkH 16 ⟨some 43, _, _, _, _, _⟩ ?_ rfl ?_ (by assumption) ?_
  rotate_left
  · (intro w hSw; (try dsimp only at hSw); go_simp; all_goals with_reducible rfl)
  try simp only [Act.put, sA, sB, sC]
  refine tkH 17 ⟨some 44, _, _, _, _, _⟩ ?_ rfl ?_ (by assumption) ?_
  rotate_left
  · (intro w hSw; (try dsimp only at hSw); go_simp; all_goals with_reducible rfl)
  try simp only [Act.put, sA, sB, sC]
  refine tkH 18 ⟨some 45, _, _, _, _, _⟩ ?_ rfl ?_ (by assumption) ?_
  rotate_left
  · (intro w hSw; (try dsimp only at hSw); go_simp; all_goals with_reducible rfl)
  try simp only [Act.put, sA, sB, sC]
  refine tkH 19 ⟨some 46, _, _, _, _, _⟩ ?_ rfl ?_ (by assumption) ?_
  rotate_left
  · (intro w hSw; (try dsimp only at hSw); go_simp; all_goals with_reducible rfl)
  try simp only [Act.put, sA, sB, sC]
  refine tkH 20 ⟨some 47, _, _, _, _, _⟩ ?_ rfl ?_ (by assumption) ?_
  rotate_left
  · (intro w hSw; (try dsimp only at hSw); go_simp; all_goals with_reducible rfl)
  try simp only [Act.put, sA, sB, sC]
  refine tkH 21 ⟨some 48, _, _, _, _, _⟩ ?_ rfl ?_ (by assumption) ?_
  rotate_left
  · (intro w hSw; (try dsimp only at hSw); go_simp; all_goals with_reducible rfl)
  try simp only [Act.put, sA, sB, sC]
  try rw [show decide (1000 < b - a) = false from decide_eq_false (by omega)]
  refine tkH 22 ⟨some 49, _, _, _, _, _⟩ ?_ rfl ?_ (by assumption) ?_
  rotate_left
  · (intro w hSw; (try dsimp only at hSw); go_simp; all_goals with_reducible rfl)
  try simp only [Act.put, sA, sB, sC]
  refine wpAnyH_done (by kernel_rfl) ?_ _
  go_wp2_with fail
  refine (bMod_is _ (m1 : Int) _ (by omega) (by omega) hm1).mono ?_
  rintro e w' ⟨rfl, rfl⟩
  go_wp2_with fail
  refine (Cos_good m1 c d _ l1 hc1).mono ?_
  rintro e xw4 ⟨rfl, hbx4⟩
  have zx4 := hbx4.size
  try simp at zx4
  obtain ⟨x4_0_0, x4_0_1⟩ : xw4.cell? ⟨xw2.heap.size, 0, none⟩ = some (.int .i64 a) ∧ xw4.cell? ⟨xw2.heap.size, 1, none⟩ = some (.int .i64 b) := by refine ⟨?_, ?_⟩ <;> (rw [(bcell hbx4).1 _ _ (by first | (simp; done) | (simp; omega) | omega)]; simp [go_sem, World.cell?_alloc_past, *])
  obtain ⟨x4o0, x4n0, x4m0, x4t0_0⟩ : xw2.heap.size < xw4.heap.size ∧ xw4.heap.size ≠ xw2.heap.size ∧ xw2.heap.size ≠ xw4.heap.size ∧ xw2.heap.size < xw4.heap.size + 1 := by refine ⟨?_, ?_, ?_, ?_⟩ <;> omega
  have hBx4 : Below w.heap.size w xw4 := (by (repeat (first | (with_reducible refine Below.drew ?_) | (with_reducible refine below_drewN ?_ _) | (with_reducible refine Below.alloc ?_ (by first | omega | (simp; done) | (simp; omega) | (simp at *; omega)) _) | (with_reducible refine Below.setCell ?_ (by first | omega | (simp; done) | (simp; omega) | (simp at *; omega)) _) | (with_reducible exact Below.refl _ _) | (with_reducible assumption) | (with_reducible refine Below.trans ?_ (Below.mono (by assumption) (by first | omega | (simp; done) | (simp; omega) | (simp at *; omega)))))))
  clear hbx4 x3_0_0 x3_0_1 x3o0 x3n0 x3m0 x3t0_0 hBx3
  go_wp2_with fail
  refine (bMod_is _ (m2 : Int) _ (by omega) (by omega) hm2).mono ?_
  rintro e w' ⟨rfl, rfl⟩
  go_wp2_with fail
  refine (Cos_good m2 u v _ l2 hc2).mono ?_
  rintro e xw5 ⟨rfl, hbx5⟩
  have zx5 := hbx5.size
  try simp at zx5
  obtain ⟨x5_0_0, x5_0_1, x5_1_0, x5_1_1⟩ : xw5.cell? ⟨xw2.heap.size, 0, none⟩ = some (.int .i64 a) ∧ xw5.cell? ⟨xw2.heap.size, 1, none⟩ = some (.int .i64 b) ∧ xw5.cell? ⟨xw4.heap.size, 0, none⟩ = some (.int .i64 c) ∧ xw5.cell? ⟨xw4.heap.size, 1, none⟩ = some (.int .i64 d) := by refine ⟨?_, ?_, ?_, ?_⟩ <;> (rw [(bcell hbx5).1 _ _ (by first | (simp; done) | (simp; omega) | omega)]; simp [go_sem, World.cell?_alloc_past, *])
  obtain ⟨x5o0, x5n0, x5m0, x5t0_0, x5o1, x5n1, x5m1, x5t1_0⟩ : xw2.heap.size < xw5.heap.size ∧ xw5.heap.size ≠ xw2.heap.size ∧ xw2.heap.size ≠ xw5.heap.size ∧ xw2.heap.size < xw5.heap.size + 1 ∧ xw4.heap.size < xw5.heap.size ∧ xw5.heap.size ≠ xw4.heap.size ∧ xw4.heap.size ≠ xw5.heap.size ∧ xw4.heap.size < xw5.heap.size + 1 := by refine ⟨?_, ?_, ?_, ?_, ?_, ?_, ?_, ?_⟩ <;> omega
  have hBx5 : Below w.heap.size w xw5 := (by (repeat (first | (with_reducible refine Below.drew ?_) | (with_reducible refine below_drewN ?_ _) | (with_reducible refine Below.alloc ?_ (by first | omega | (simp; done) | (simp; omega) | (simp at *; omega)) _) | (with_reducible refine Below.setCell ?_ (by first | omega | (simp; done) | (simp; omega) | (simp at *; omega)) _) | (with_reducible exact Below.refl _ _) | (with_reducible assumption) | (with_reducible refine Below.trans ?_ (Below.mono (by assumption) (by first | omega | (simp; done) | (simp; omega) | (simp at *; omega)))))))
  clear hbx5 x4_0_0 x4_0_1 x4o0 x4n0 x4m0 x4t0_0 hBx4
  go_upto_region 11 with (fail)
  refine wp_region_held_drew (S := (fun w' => w'.cell? ⟨xw2.heap.size, 0, none⟩ = some (.int .i64 a) ∧ w'.cell? ⟨xw2.heap.size, 1, none⟩ = some (.int .i64 b) ∧ w'.cell? ⟨xw4.heap.size, 0, none⟩ = some (.int .i64 c) ∧ w'.cell? ⟨xw4.heap.size, 1, none⟩ = some (.int .i64 d) ∧ w'.cell? ⟨xw5.heap.size, 0, none⟩ = some (.int .i64 u) ∧ w'.cell? ⟨xw5.heap.size, 1, none⟩ = some (.int .i64 v))) (by kernel_rfl) (by simp [go_sem, World.cell?_alloc_past, *]) (fun hHeld => ?_)
  refine tkH 0 ⟨some 64, _, _, _, _, _⟩ ?_ rfl ?_ (by assumption) ?_
  rotate_left
  · (intro w hSw; (try dsimp only at hSw); go_simp; all_goals with_reducible rfl)
  try simp only [Act.put, sA, sB, sC]
  refine tkH 1 ⟨some 65, _, _, _, _, _⟩ ?_ rfl ?_ (by assumption) ?_
  rotate_left
  · (intro w hSw; (try dsimp only at hSw); go_simp; all_goals with_reducible rfl)
  try simp only [Act.put, sA, sB, sC]
  refine tkH 2 ⟨some 66, _, _, _, _, _⟩ ?_ rfl ?_ (by assumption) ?_
  rotate_left
  · (intro w hSw; (try dsimp only at hSw); go_simp; all_goals with_reducible rfl)
  try simp only [Act.put, sA, sB, sC]
  refine tkH 3 ⟨some 67, _, _, _, _, _⟩ ?_ rfl ?_ (by assumption) ?_
  rotate_left
  · (intro w hSw; (try dsimp only at hSw); go_simp; all_goals with_reducible rfl)
  try simp only [Act.put, sA, sB, sC]
  refine tkH 4 ⟨some 68, _, _, _, _, _⟩ ?_ rfl ?_ (by assumption) ?_
  rotate_left
  · (intro w hSw; (try dsimp only at hSw); go_simp; all_goals with_reducible rfl)
  try simp only [Act.put, sA, sB, sC]
  refine tkH 5 ⟨some 69, _, _, _, _, _⟩ ?_ rfl ?_ (by assumption) ?_
  rotate_left
  · (intro w hSw; (try dsimp only at hSw); go_simp; all_goals with_reducible rfl)
  try simp only [Act.put, sA, sB, sC]
  refine tkH 6 ⟨some 70, _, _, _, _, _⟩ ?_ rfl ?_ (by assumption) ?_
  rotate_left
  · (intro w hSw; (try dsimp only at hSw); go_simp; all_goals with_reducible rfl)
  try simp only [Act.put, sA, sB, sC]
  refine tkH 7 ⟨some 71, _, _, _, _, _⟩ ?_ rfl ?_ (by assumption) ?_
  rotate_left
  · (intro w hSw; (try dsimp only at hSw); go_simp; all_goals with_reducible rfl)
  try simp only [Act.put, sA, sB, sC]
  refine tkH 8 ⟨some 72, _, _, _, _, _⟩ ?_ rfl ?_ (by assumption) ?_
  rotate_left
  · (intro w hSw; (try dsimp only at hSw); go_simp; all_goals with_reducible rfl)
  try simp only [Act.put, sA, sB, sC]
  refine tkH 9 ⟨some 73, _, _, _, _, _⟩ ?_ rfl ?_ (by assumption) ?_
  rotate_left
  · (intro w hSw; (try dsimp only at hSw); go_simp; all_goals with_reducible rfl)
  try simp only [Act.put, sA, sB, sC]
  refine tkH 10 ⟨some 74, _, _, _, _, _⟩ ?_ rfl ?_ (by assumption) ?_
  rotate_left
  · (intro w hSw; (try dsimp only at hSw); go_simp; all_goals with_reducible rfl)
  try simp only [Act.put, sA, sB, sC]
  refine wpAnyH_ready (rs := [11]) (by kernel_rfl) (by simp) ?_
  refine AllReadyH.cons rfl (fun K hK => ?_) AllReadyH.nil
  go_simp
  refine (wthn_is c (-100000000) d true _ hW2).mono ?_
  rintro e w' ⟨rfl, rfl⟩
  go_wp2_with fail
  refine hK.out _ _ (by simp [go_sem, World.cell?_alloc_past, *]) (fun hHeld => ?_)
  clear hK K
  try simp only [Act.put, sA, sB, sC]
  refine tkH 12 ⟨some 76, _, _, _, _, _⟩ ?_ rfl ?_ (by assumption) ?_
  rotate_left
  · (intro w hSw; (try dsimp only at hSw); go_simp; all_goals with_reducible rfl)
  try simp only [Act.put, sA, sB, sC]
  refine tkH 13 ⟨some 77, _, _, _, _, _⟩ ?_ rfl ?_ (by assumption) ?_
  rotate_left
  · (intro w hSw; (try dsimp only at hSw); go_simp; all_goals with_reducible rfl)
  try simp only [Act.put, sA, sB, sC]
  refine tkH 14 ⟨some 78, _, _, _, _, _⟩ ?_ rfl ?_ (by assumption) ?_
  rotate_left
  · (intro w hSw; (try dsimp only at hSw); go_simp; all_goals with_reducible rfl)
  try simp only [Act.put, sA, sB, sC]
  refine tkH 15 ⟨some 79, _, _, _, _, _⟩ ?_ rfl ?_ (by assumption) ?_
  rotate_left
  · (intro w hSw; (try dsimp only at hSw); go_simp; all_goals with_reducible rfl)
  try simp only [Act.put, sA, sB, sC]
  refine tkH 16 ⟨some 80, _, _, _, _, _⟩ ?_ rfl ?_ (by assumption) ?_
  rotate_left
  · (intro w hSw; (try dsimp only at hSw); go_simp; all_goals with_reducible rfl)
  try simp only [Act.put, sA, sB, sC]
  try rw [show decide (d ≤ 100000000) = true from decide_eq_true (by omega)]
  refine tkH 17 ⟨some 81, _, _, _, _, _⟩ ?_ rfl ?_ (by assumption) ?_
  rotate_left
  · (intro w hSw; (try dsimp only at hSw); go_simp; all_goals with_reducible rfl)
  try simp only [Act.put, sA, sB, sC]
  refine tkH 18 ⟨some 82, _, _, _, _, _⟩ ?_ rfl ?_ (by assumption) ?_
  rotate_left
  · (intro w hSw; (try dsimp only at hSw); go_simp; all_goals with_reducible rfl)
  try simp only [Act.put, sA, sB, sC]
  refine tkH 19 ⟨some 83, _, _, _, _, _⟩ ?_ rfl ?_ (by assumption) ?_
  rotate_left
  · (intro w hSw; (try dsimp only at hSw); go_simp; all_goals with_reducible rfl)
  try simp only [Act.put, sA, sB, sC]
  refine tkH 21 ⟨some 85, _, _, _, _, _⟩ ?_ rfl ?_ (by assumption) ?_
  rotate_left
  · (intro w hSw; (try dsimp only at hSw); go_simp; all_goals with_reducible rfl)
  try simp only [Act.put, sA, sB, sC]
  refine tkH 24 ⟨some 88, _, _, _, _, _⟩ ?_ rfl ?_ (by assumption) ?_
  rotate_left
  · (intro w hSw; (try dsimp only at hSw); go_simp; all_goals with_reducible rfl)
  try simp only [Act.put, sA, sB, sC]
  refine wpAnyH_ready (rs := [20]) (by kernel_rfl) (by simp) ?_
  refine AllReadyH.cons rfl (fun K hK => ?_) AllReadyH.nil
  go_simp
  refine (least_is a b L1 _ (by omega) (by omega) (by omega) (by omega) hL1).mono ?_
  rintro e xw6 ⟨rfl, hbx6⟩
  have zx6 := hbx6.size
  try simp at zx6
  obtain ⟨x6_0_0, x6_0_1, x6_1_0, x6_1_1, x6_2_0, x6_2_1⟩ : xw6.cell? ⟨xw2.heap.size, 0, none⟩ = some (.int .i64 a) ∧ xw6.cell? ⟨xw2.heap.size, 1, none⟩ = some (.int .i64 b) ∧ xw6.cell? ⟨xw4.heap.size, 0, none⟩ = some (.int .i64 c) ∧ xw6.cell? ⟨xw4.heap.size, 1, none⟩ = some (.int .i64 d) ∧ xw6.cell? ⟨xw5.heap.size, 0, none⟩ = some (.int .i64 u) ∧ xw6.cell? ⟨xw5.heap.size, 1, none⟩ = some (.int .i64 v) := by refine ⟨?_, ?_, ?_, ?_, ?_, ?_⟩ <;> (rw [(bcell hbx6).1 _ _ (by first | (simp; done) | (simp; omega) | omega)]; simp [go_sem, World.cell?_alloc_past, *])
  obtain ⟨x6o0, x6n0, x6m0, x6t0_0, x6o1, x6n1, x6m1, x6t1_0, x6o2, x6n2, x6m2, x6t2_0⟩ : xw2.heap.size < xw6.heap.size ∧ xw6.heap.size ≠ xw2.heap.size ∧ xw2.heap.size ≠ xw6.heap.size ∧ xw2.heap.size < xw6.heap.size + 1 ∧ xw4.heap.size < xw6.heap.size ∧ xw6.heap.size ≠ xw4.heap.size ∧ xw4.heap.size ≠ xw6.heap.size ∧ xw4.heap.size < xw6.heap.size + 1 ∧ xw5.heap.size < xw6.heap.size ∧ xw6.heap.size ≠ xw5.heap.size ∧ xw5.heap.size ≠ xw6.heap.size ∧ xw5.heap.size < xw6.heap.size + 1 := by refine ⟨?_, ?_, ?_, ?_, ?_, ?_, ?_, ?_, ?_, ?_, ?_, ?_⟩ <;> omega
  have hBx6 : Below w.heap.size w xw6 := (by (repeat (first | (with_reducible refine Below.drew ?_) | (with_reducible refine below_drewN ?_ _) | (with_reducible refine Below.alloc ?_ (by first | omega | (simp; done) | (simp; omega) | (simp at *; omega)) _) | (with_reducible refine Below.setCell ?_ (by first | omega | (simp; done) | (simp; omega) | (simp at *; omega)) _) | (with_reducible exact Below.refl _ _) | (with_reducible assumption) | (with_reducible refine Below.trans ?_ (Below.mono (by assumption) (by first | omega | (simp; done) | (simp; omega) | (simp at *; omega)))))))
  clear hbx6 x5_0_0 x5_0_1 x5_1_0 x5_1_1 x5o0 x5n0 x5m0 x5t0_0 x5o1 x5n1 x5m1 x5t1_0 hBx5
  go_wp2_with fail
  refine hK.out _ _ (by simp [go_sem, World.cell?_alloc_past, *]) (fun hHeld => ?_)
  clear hK K
  try simp only [Act.put, sA, sB, sC]
  refine wpAnyH_ready (rs := [22]) (by kernel_rfl) (by simp) ?_
  refine AllReadyH.cons rfl (fun K hK => ?_) AllReadyH.nil
  go_simp
  refine (least_is c d L2 _ (by omega) (by omega) (by omega) (by omega) hL2).mono ?_
  rintro e xw7 ⟨rfl, hbx7⟩
  have zx7 := hbx7.size
  try simp at zx7
  obtain ⟨x7_0_0, x7_0_1, x7_1_0, x7_1_1, x7_2_0, x7_2_1⟩ : xw7.cell? ⟨xw2.heap.size, 0, none⟩ = some (.int .i64 a) ∧ xw7.cell? ⟨xw2.heap.size, 1, none⟩ = some (.int .i64 b) ∧ xw7.cell? ⟨xw4.heap.size, 0, none⟩ = some (.int .i64 c) ∧ xw7.cell? ⟨xw4.heap.size, 1, none⟩ = some (.int .i64 d) ∧ xw7.cell? ⟨xw5.heap.size, 0, none⟩ = some (.int .i64 u) ∧ xw7.cell? ⟨xw5.heap.size, 1, none⟩ = some (.int .i64 v) := by refine ⟨?_, ?_, ?_, ?_, ?_, ?_⟩ <;> (rw [(bcell hbx7).1 _ _ (by first | (simp; done) | (simp; omega) | omega)]; simp [go_sem, World.cell?_alloc_past, *])
  obtain ⟨x7o0, x7n0, x7m0, x7t0_0, x7o1, x7n1, x7m1, x7t1_0, x7o2, x7n2, x7m2, x7t2_0⟩ : xw2.heap.size < xw7.heap.size ∧ xw7.heap.size ≠ xw2.heap.size ∧ xw2.heap.size ≠ xw7.heap.size ∧ xw2.heap.size < xw7.heap.size + 1 ∧ xw4.heap.size < xw7.heap.size ∧ xw7.heap.size ≠ xw4.heap.size ∧ xw4.heap.size ≠ xw7.heap.size ∧ xw4.heap.size < xw7.heap.size + 1 ∧ xw5.heap.size < xw7.heap.size ∧ xw7.heap.size ≠ xw5.heap.size ∧ xw5.heap.size ≠ xw7.heap.size ∧ xw5.heap.size < xw7.heap.size + 1 := by refine ⟨?_, ?_, ?_, ?_, ?_, ?_, ?_, ?_, ?_, ?_, ?_, ?_⟩ <;> omega
  have hBx7 : Below w.heap.size w xw7 := (by (repeat (first | (with_reducible refine Below.drew ?_) | (with_reducible refine below_drewN ?_ _) | (with_reducible refine Below.alloc ?_ (by first | omega | (simp; done) | (simp; omega) | (simp at *; omega)) _) | (with_reducible refine Below.setCell ?_ (by first | omega | (simp; done) | (simp; omega) | (simp at *; omega)) _) | (with_reducible exact Below.refl _ _) | (with_reducible assumption) | (with_reducible refine Below.trans ?_ (Below.mono (by assumption) (by first | omega | (simp; done) | (simp; omega) | (simp at *; omega)))))))
  clear hbx7 x6_0_0 x6_0_1 x6_1_0 x6_1_1 x6_2_0 x6_2_1 x6o0 x6n0 x6m0 x6t0_0 x6o1 x6n1 x6m1 x6t1_0 x6o2 x6n2 x6m2 x6t2_0 hBx6
  go_wp2_with fail
  refine hK.out _ _ (by simp [go_sem, World.cell?_alloc_past, *]) (fun hHeld => ?_)
  clear hK K
  try simp only [Act.put, sA, sB, sC]
  refine tkH 23 ⟨some 87, _, _, _, _, _⟩ ?_ rfl ?_ (by assumption) ?_
  rotate_left
  · (intro w hSw; (try dsimp only at hSw); go_simp; all_goals with_reducible rfl)
  try simp only [Act.put, sA, sB, sC]
  refine tkH 25 ⟨some 89, _, _, _, _, _⟩ ?_ rfl ?_ (by assumption) ?_
  rotate_left
  · (intro w hSw; (try dsimp only at hSw); go_simp; all_goals with_reducible rfl)
  try simp only [Act.put, sA, sB, sC]
  try rw [show decide (L1 + L2 ≤ 10000000000000000) = true from decide_eq_true (by omega)]
  refine tkH 26 ⟨some 90, _, _, _, _, _⟩ ?_ rfl ?_ (by assumption) ?_
  rotate_left
  · (intro w hSw; (try dsimp only at hSw); go_simp; all_goals with_reducible rfl)
  try simp only [Act.put, sA, sB, sC]
  refine tkH 27 ⟨some 91, _, _, _, _, _⟩ ?_ rfl ?_ (by assumption) ?_
  rotate_left
  · (intro w hSw; (try dsimp only at hSw); go_simp; all_goals with_reducible rfl)
  try simp only [Act.put, sA, sB, sC]
  refine tkH 28 ⟨some 92, _, _, _, _, _⟩ ?_ rfl ?_ (by assumption) ?_
  rotate_left
  · (intro w hSw; (try dsimp only at hSw); go_simp; all_goals with_reducible rfl)
  try simp only [Act.put, sA, sB, sC]
  refine tkH 30 ⟨some 94, _, _, _, _, _⟩ ?_ rfl ?_ (by assumption) ?_
  rotate_left
  · (intro w hSw; (try dsimp only at hSw); go_simp; all_goals with_reducible rfl)
  try simp only [Act.put, sA, sB, sC]
  refine tkH 33 ⟨some 97, _, _, _, _, _⟩ ?_ rfl ?_ (by assumption) ?_
  rotate_left
  · (intro w hSw; (try dsimp only at hSw); go_simp; all_goals with_reducible rfl)
  try simp only [Act.put, sA, sB, sC]
  refine wpAnyH_ready (rs := [29]) (by kernel_rfl) (by simp) ?_
  refine AllReadyH.cons rfl (fun K hK => ?_) AllReadyH.nil
  go_simp
  refine (most_is a b M1 _ (by omega) (by omega) (by omega) (by omega) hM1).mono ?_
  rintro e xw8 ⟨rfl, hbx8⟩
  have zx8 := hbx8.size
  try simp at zx8
  obtain ⟨x8_0_0, x8_0_1, x8_1_0, x8_1_1, x8_2_0, x8_2_1⟩ : xw8.cell? ⟨xw2.heap.size, 0, none⟩ = some (.int .i64 a) ∧ xw8.cell? ⟨xw2.heap.size, 1, none⟩ = some (.int .i64 b) ∧ xw8.cell? ⟨xw4.heap.size, 0, none⟩ = some (.int .i64 c) ∧ xw8.cell? ⟨xw4.heap.size, 1, none⟩ = some (.int .i64 d) ∧ xw8.cell? ⟨xw5.heap.size, 0, none⟩ = some (.int .i64 u) ∧ xw8.cell? ⟨xw5.heap.size, 1, none⟩ = some (.int .i64 v) := by refine ⟨?_, ?_, ?_, ?_, ?_, ?_⟩ <;> (rw [(bcell hbx8).1 _ _ (by first | (simp; done) | (simp; omega) | omega)]; simp [go_sem, World.cell?_alloc_past, *])
  obtain ⟨x8o0, x8n0, x8m0, x8t0_0, x8o1, x8n1, x8m1, x8t1_0, x8o2, x8n2, x8m2, x8t2_0⟩ : xw2.heap.size < xw8.heap.size ∧ xw8.heap.size ≠ xw2.heap.size ∧ xw2.heap.size ≠ xw8.heap.size ∧ xw2.heap.size < xw8.heap.size + 1 ∧ xw4.heap.size < xw8.heap.size ∧ xw8.heap.size ≠ xw4.heap.size ∧ xw4.heap.size ≠ xw8.heap.size ∧ xw4.heap.size < xw8.heap.size + 1 ∧ xw5.heap.size < xw8.heap.size ∧ xw8.heap.size ≠ xw5.heap.size ∧ xw5.heap.size ≠ xw8.heap.size ∧ xw5.heap.size < xw8.heap.size + 1 := by refine ⟨?_, ?_, ?_, ?_, ?_, ?_, ?_, ?_, ?_, ?_, ?_, ?_⟩ <;> omega
  have hBx8 : Below w.heap.size w xw8 := (by (repeat (first | (with_reducible refine Below.drew ?_) | (with_reducible refine below_drewN ?_ _) | (with_reducible refine Below.alloc ?_ (by first | omega | (simp; done) | (simp; omega) | (simp at *; omega)) _) | (with_reducible refine Below.setCell ?_ (by first | omega | (simp; done) | (simp; omega) | (simp at *; omega)) _) | (with_reducible exact Below.refl _ _) | (with_reducible assumption) | (with_reducible refine Below.trans ?_ (Below.mono (by assumption) (by first | omega | (simp; done) | (simp; omega) | (simp at *; omega)))))))
  clear hbx8 x7_0_0 x7_0_1 x7_1_0 x7_1_1 x7_2_0 x7_2_1 x7o0 x7n0 x7m0 x7t0_0 x7o1 x7n1 x7m1 x7t1_0 x7o2 x7n2 x7m2 x7t2_0 hBx7
  go_wp2_with fail
  refine hK.out _ _ (by simp [go_sem, World.cell?_alloc_past, *]) (fun hHeld => ?_)
  clear hK K
  try simp only [Act.put, sA, sB, sC]
  refine wpAnyH_ready (rs := [31]) (by kernel_rfl) (by simp) ?_
  refine AllReadyH.cons rfl (fun K hK => ?_) AllReadyH.nil
  go_simp
  refine (most_is c d M2 _ (by omega) (by omega) (by omega) (by omega) hM2).mono ?_
  rintro e xw9 ⟨rfl, hbx9⟩
  have zx9 := hbx9.size
  try simp at zx9
  obtain ⟨x9_0_0, x9_0_1, x9_1_0, x9_1_1, x9_2_0, x9_2_1⟩ : xw9.cell? ⟨xw2.heap.size, 0, none⟩ = some (.int .i64 a) ∧ xw9.cell? ⟨xw2.heap.size, 1, none⟩ = some (.int .i64 b) ∧ xw9.cell? ⟨xw4.heap.size, 0, none⟩ = some (.int .i64 c) ∧ xw9.cell? ⟨xw4.heap.size, 1, none⟩ = some (.int .i64 d) ∧ xw9.cell? ⟨xw5.heap.size, 0, none⟩ = some (.int .i64 u) ∧ xw9.cell? ⟨xw5.heap.size, 1, none⟩ = some (.int .i64 v) := by refine ⟨?_, ?_, ?_, ?_, ?_, ?_⟩ <;> (rw [(bcell hbx9).1 _ _ (by first | (simp; done) | (simp; omega) | omega)]; simp [go_sem, World.cell?_alloc_past, *])
  obtain ⟨x9o0, x9n0, x9m0, x9t0_0, x9o1, x9n1, x9m1, x9t1_0, x9o2, x9n2, x9m2, x9t2_0⟩ : xw2.heap.size < xw9.heap.size ∧ xw9.heap.size ≠ xw2.heap.size ∧ xw2.heap.size ≠ xw9.heap.size ∧ xw2.heap.size < xw9.heap.size + 1 ∧ xw4.heap.size < xw9.heap.size ∧ xw9.heap.size ≠ xw4.heap.size ∧ xw4.heap.size ≠ xw9.heap.size ∧ xw4.heap.size < xw9.heap.size + 1 ∧ xw5.heap.size < xw9.heap.size ∧ xw9.heap.size ≠ xw5.heap.size ∧ xw5.heap.size ≠ xw9.heap.size ∧ xw5.heap.size < xw9.heap.size + 1 := by refine ⟨?_, ?_, ?_, ?_, ?_, ?_, ?_, ?_, ?_, ?_, ?_, ?_⟩ <;> omega
  have hBx9 : Below w.heap.size w xw9 := (by (repeat (first | (with_reducible refine Below.drew ?_) | (with_reducible refine below_drewN ?_ _) | (with_reducible refine Below.alloc ?_ (by first | omega | (simp; done) | (simp; omega) | (simp at *; omega)) _) | (with_reducible refine Below.setCell ?_ (by first | omega | (simp; done) | (simp; omega) | (simp at *; omega)) _) | (with_reducible exact Below.refl _ _) | (with_reducible assumption) | (with_reducible refine Below.trans ?_ (Below.mono (by assumption) (by first | omega | (simp; done) | (simp; omega) | (simp at *; omega)))))))
  clear hbx9 x8_0_0 x8_0_1 x8_1_0 x8_1_1 x8_2_0 x8_2_1 x8o0 x8n0 x8m0 x8t0_0 x8o1 x8n1 x8m1 x8t1_0 x8o2 x8n2 x8m2 x8t2_0 hBx8
  go_wp2_with fail
  refine hK.out _ _ (by simp [go_sem, World.cell?_alloc_past, *]) (fun hHeld => ?_)
  clear hK K
  try simp only [Act.put, sA, sB, sC]
  refine tkH 32 ⟨some 96, _, _, _, _, _⟩ ?_ rfl ?_ (by assumption) ?_
  rotate_left
  · (intro w hSw; (try dsimp only at hSw); go_simp; all_goals with_reducible rfl)
  try simp only [Act.put, sA, sB, sC]
  refine tkH 34 ⟨some 98, _, _, _, _, _⟩ ?_ rfl ?_ (by assumption) ?_
  rotate_left
  · (intro w hSw; (try dsimp only at hSw); go_simp; all_goals with_reducible rfl)
  try simp only [Act.put, sA, sB, sC]
  try rw [show decide (10000000000000000 ≤ M1 + M2) = true from decide_eq_true (by omega)]
  refine tkH 35 ⟨some 99, _, _, _, _, _⟩ ?_ rfl ?_ (by assumption) ?_
  rotate_left
  · (intro w hSw; (try dsimp only at hSw); go_simp; all_goals with_reducible rfl)
  try simp only [Act.put, sA, sB, sC]
  refine tkH 36 ⟨some 100, _, _, _, _, _⟩ ?_ rfl ?_ (by assumption) ?_
  rotate_left
  · (intro w hSw; (try dsimp only at hSw); go_simp; all_goals with_reducible rfl)
  try simp only [Act.put, sA, sB, sC]
  refine tkH 37 ⟨some 101, _, _, _, _, _⟩ ?_ rfl ?_ (by assumption) ?_
  rotate_left
  · (intro w hSw; (try dsimp only at hSw); go_simp; all_goals with_reducible rfl)
  try simp only [Act.put, sA, sB, sC]
  refine tkH 38 ⟨some 102, _, _, _, _, _⟩ ?_ rfl ?_ (by assumption) ?_
  rotate_left
  · (intro w hSw; (try dsimp only at hSw); go_simp; all_goals with_reducible rfl)
  try simp only [Act.put, sA, sB, sC]
  refine tkH 39 ⟨some 103, _, _, _, _, _⟩ ?_ rfl ?_ (by assumption) ?_
  rotate_left
  · (intro w hSw; (try dsimp only at hSw); go_simp; all_goals with_reducible rfl)
  try simp only [Act.put, sA, sB, sC]
  refine tkH 40 ⟨some 104, _, _, _, _, _⟩ ?_ rfl ?_ (by assumption) ?_
  rotate_left
  · (intro w hSw; (try dsimp only at hSw); go_simp; all_goals with_reducible rfl)
  try simp only [Act.put, sA, sB, sC]
  refine tkH 41 ⟨some 105, _, _, _, _, _⟩ ?_ rfl ?_ (by assumption) ?_
  rotate_left
  · (intro w hSw; (try dsimp only at hSw); go_simp; all_goals with_reducible rfl)
  try simp only [Act.put, sA, sB, sC]
  refine tkH 42 ⟨some 106, _, _, _, _, _⟩ ?_ rfl ?_ (by assumption) ?_
  rotate_left
  · (intro w hSw; (try dsimp only at hSw); go_simp; all_goals with_reducible rfl)
  try simp only [Act.put, sA, sB, sC]
  refine tkH 43 ⟨some 107, _, _, _, _, _⟩ ?_ rfl ?_ (by assumption) ?_
  rotate_left
  · (intro w hSw; (try dsimp only at hSw); go_simp; all_goals with_reducible rfl)
  try simp only [Act.put, sA, sB, sC]
  refine tkH 44 ⟨some 108, _, _, _, _, _⟩ ?_ rfl ?_ (by assumption) ?_
  rotate_left
  · (intro w hSw; (try dsimp only at hSw); go_simp; all_goals with_reducible rfl)
  try simp only [Act.put, sA, sB, sC]
  refine tkH 45 ⟨some 109, _, _, _, _, _⟩ ?_ rfl ?_ (by assumption) ?_
  rotate_left
  · (intro w hSw; (try dsimp only at hSw); go_simp; all_goals with_reducible rfl)
  try simp only [Act.put, sA, sB, sC]
  refine tkH 46 ⟨some 110, _, _, _, _, _⟩ ?_ rfl ?_ (by assumption) ?_
  rotate_left
  · (intro w hSw; (try dsimp only at hSw); go_simp; all_goals with_reducible rfl)
  try simp only [Act.put, sA, sB, sC]
  refine tkH 47 ⟨some 111, _, _, _, _, _⟩ ?_ rfl ?_ (by assumption) ?_
  rotate_left
  · (intro w hSw; (try dsimp only at hSw); go_simp; all_goals with_reducible rfl)
  try simp only [Act.put, sA, sB, sC]
  trace_state
  refine tkH 48 ⟨some 112, _, _, _, _, _⟩ ?_ rfl ?_ (by assumption) ?_
  rotate_left
  · (intro w hSw; (try dsimp only at hSw); go_simp; all_goals with_reducible rfl)
  try simp only [Act.put, sA, sB, sC]
  refine tkH 49 ⟨some 2, _, _, _, _, _⟩ ?_ rfl ?_ (by assumption) ?_
  rotate_left
  · (intro w hSw; (try dsimp only at hSw); go_simp; all_goals with_reducible rfl)
  try simp only [Act.put, sA, sB, sC]
  refine wpAnyH_done (by kernel_rfl) ?_ _
  go_wp2
  go_ret
  exact ⟨rfl, (by (repeat (first | (with_reducible refine Below.drew ?_) | (with_reducible refine below_drewN ?_ _) | (with_reducible refine Below.alloc ?_ (by first | omega | (simp; done) | (simp; omega) | (simp at *; omega)) _) | (with_reducible refine Below.setCell ?_ (by first | omega | (simp; done) | (simp; omega) | (simp at *; omega)) _) | (with_reducible exact Below.refl _ _) | (with_reducible assumption) | (with_reducible refine Below.trans ?_ (Below.mono (by assumption) (by first | omega | (simp; done) | (simp; omega) | (simp at *; omega)))))))⟩
theorem siteCosines_any (n : Int) (w : World) :
    Calls Tryz.prog 3 #[.int .i64 n] w fun e w' => e = .returned (.bool true) ∧ Below w.heap.size w w' := by
  rcases inB_cases n 0 4095 with h | h
  · obtain ⟨h0, h1⟩ := inB_iff.1 h
    obtain ⟨k, rfl⟩ : ∃ k : Nat, n = (k : Int) := ⟨n.toNat, by omega⟩
    have hk : k < 4096 := by omega
    have o := cos_ok hk
    have mm := cos_mir hk
    unfold okB at o
    unfold meetB at mm
    simp only [Bool.and_eq_true, decide_eq_true_eq] at o mm
    obtain ⟨⟨⟨⟨⟨⟨o1, o2⟩, o3⟩, o4⟩, o5⟩, o6⟩, o7⟩ := o
    have bd := cosP_bd k
    exact siteCos_good k ((k + 3072) % 4096) ((4096 - k) % 4096) _ _ _ _ _ _ _ _ _ _ w hk (Nat.mod_lt _ (by omega)) (Nat.mod_lt _ (by omega)) (Lib.hid h) (Lib.hid (by omega)) (Lib.hid (by omega)) (Lib.hid rfl) (Lib.hid rfl) (Lib.hid rfl) (Lib.hid rfl) (Lib.hid rfl) (Lib.hid rfl) (Lib.hid rfl) o1 o2 o3 o4 o5 o6 o7 mm bd.1 bd.2.2 (Lib.hid (inB_iff.2 ⟨o3, o4⟩))
  · exact siteCos_bad n w (Lib.hid (rngE_f h)) (Lib.hid h)
end Go.Proofs.YtallnjehhoengaaGreat
