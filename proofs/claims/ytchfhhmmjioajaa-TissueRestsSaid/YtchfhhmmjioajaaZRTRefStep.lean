import Derived.Test.YtchfhhmmjioajaaZRTSteps
import Derived.Test.YtchfhhmmjioajaaZRTRefSat
import Derived.Test.YtchfhhmmjioajaaZRTRefDec
import Derived.Test.YtchfhhmmjioajaaZRMSmall
import Derived.Deep.DrawnRows
import Derived.Deep.CutRange
import Derived.Deep.CutBlock
import Derived.Outline
namespace Go.Proofs.Ytchfhhmmjioajaa
open Go.ChangeShapes Go.WideShapes Go.ChangeAt Go.RowKit
set_option linter.unusedVariables false
set_option linter.unusedSimpArgs false
attribute [local go_sem ↓] Go.wp_at_zero Go.wp_at_succ
set_option maxHeartbeats 1000000 in
theorem refBehind_00 (l m n a b x y lo hi : Int) (w : World) (l0 : 0 ≤ l) (l1 : l ≤ 100000000) (m0 : 0 ≤ m) (m1 : m ≤ 100000000) (n0 : 0 ≤ n) (n1 : n ≤ 1000) (a0 : 400 ≤ a) (a1 : a ≤ 31100) (b0 : 400 ≤ b) (b1 : b ≤ 31100) (x0 : 0 ≤ x) (x1 : x ≤ 1000000000) (y0 : 0 ≤ y) (y1 : y ≤ 1000000000) (hlo : Hid (n * (a - 63) = lo)) (hhi : Hid (n * (b - 63) = hi)) (hc1 : lo ≤ l) (hc2 : hi ≤ m) :
    Calls Try.prog 131 #[.agg #[.int .i64 l, .int .i64 m], .int .i64 n, .agg #[.int .i64 a, .int .i64 b], .agg #[.int .i64 x, .int .i64 y]] w fun e w' => e = .returned (.agg #[.int .i64 (lo + shLo (l - lo) x), .int .i64 (hi + shHi (m - hi) y)]) ∧ Below w.heap.size w w' := by
  have blo : 0 ≤ lo ∧ lo ≤ 31037000 := by rw [← hlo.out]; exact ⟨Int.mul_nonneg n0 (by omega), Int.le_trans (Int.mul_le_mul n1 (show a - 63 ≤ 31037 by omega) (by omega) (by omega)) (by omega)⟩
  have bhi : 0 ≤ hi ∧ hi ≤ 31037000 := by rw [← hhi.out]; exact ⟨Int.mul_nonneg n0 (by omega), Int.le_trans (Int.mul_le_mul n1 (show b - 63 ≤ 31037 by omega) (by omega) (by omega)) (by omega)⟩
  have HB1 := Lib.hid (fun w => refBreathed_is n a lo w n0 n1 a0 a1 hlo)
  have HB2 := Lib.hid (fun w => refBreathed_is n b hi w n0 n1 b0 b1 hhi)
  obtain ⟨P1, hP1⟩ : ∃ z, Hid ((l - lo) * x = z) := ⟨_, rfl⟩
  obtain ⟨r1, hr1⟩ : ∃ z, Hid (shLo (l - lo) x = z) := ⟨_, rfl⟩
  have bP1 : 0 ≤ P1 ∧ P1 ≤ 100000000000000000 := by
    rw [← hP1.out]
    exact ⟨Int.mul_nonneg (by omega) (by omega), Int.le_trans (Int.mul_le_mul (show l - lo ≤ 100000000 by omega) (show x ≤ 1000000000 by omega) (by omega) (by omega)) (by omega)⟩
  have br1 := shLo_bd2 (n := l - lo) (p := x) (by omega) (by omega) (by omega)
  rw [hr1.out] at br1
  have e1 : IntKind.i64.wrap ((l - lo) * x) = P1 := by rw [hP1.out]; exact IntWalk.i64_in _ (by omega)
  have HF1 : Hid (∀ w, Calls Try.prog 105 #[.int .i64 P1, .int .i64 1000000000] w fun e w' => e = .returned (.int .i64 r1) ∧ w = w') := fun w => by
    have := baseFloor_nn P1 1000000000 w bP1.1 (by omega) (by omega) (by omega)
    rw [show P1 / 1000000000 = r1 by rw [← hr1.out, ← hP1.out]; rfl] at this
    exact this
  obtain ⟨P2, hP2⟩ : ∃ z, Hid ((m - hi) * y = z) := ⟨_, rfl⟩
  obtain ⟨r2, hr2⟩ : ∃ z, Hid (shHi (m - hi) y = z) := ⟨_, rfl⟩
  have bP2 : 0 ≤ P2 ∧ P2 ≤ 100000000000000000 := by
    rw [← hP2.out]
    exact ⟨Int.mul_nonneg (by omega) (by omega), Int.le_trans (Int.mul_le_mul (show m - hi ≤ 100000000 by omega) (show y ≤ 1000000000 by omega) (by omega) (by omega)) (by omega)⟩
  have br2 := shHi_bd2 (n := m - hi) (p := y) (by omega) (by omega) (by omega)
  rw [hr2.out] at br2
  have e2 : IntKind.i64.wrap ((m - hi) * y) = P2 := by rw [hP2.out]; exact IntWalk.i64_in _ (by omega)
  have HF2 : Hid (∀ w, Calls Try.prog 106 #[.int .i64 P2, .int .i64 1000000000] w fun e w' => e = .returned (.int .i64 r2) ∧ w = w') := fun w => by
    have := baseCeil_nn P2 1000000000 w bP2.1 (by omega) (by omega) (by omega)
    rw [show (P2 + 1000000000 - 1) / 1000000000 = r2 by rw [← hr2.out, ← hP2.out]; rfl] at this
    exact this
  rw [hr1.out, hr2.out]
  clear hlo hhi hP1 hP2 hr1 hr2
  go_enter Try.func131, Try.ntmps131
  go_upto_region 1 with (fail)
  refine wp_region_held_drew (S := (fun w' => w'.cell? ⟨w.heap.size + 1, 0, none⟩ = some (.int .i64 a) ∧ w'.cell? ⟨w.heap.size + 1, 1, none⟩ = some (.int .i64 b))) (by kernel_rfl) (by simp [go_sem, World.cell?_alloc_past, *]) (fun hHeld => ?_)
  refine wpAnyH_take (i := 0) (oi := ⟨some 12, _, _, _, _, _⟩) (v := ?_) rfl (by kernel_rfl) (by kernel_rfl) (by kernel_rfl) (fun _ _ _ h => h) (Or.inl ⟨by kernel_rfl, ?_⟩) (by assumption) ?_
  rotate_left
  · (intro w hSw; (try dsimp only at hSw); go_simp; all_goals with_reducible rfl)
  try simp only [Act.put, List.setIfInBounds_toArray, List.set_cons_zero, List.set_cons_succ]
  refine wpAnyH_take (i := 1) (oi := ⟨some 13, _, _, _, _, _⟩) (v := ?_) rfl (by kernel_rfl) (by kernel_rfl) (by kernel_rfl) (fun _ _ _ h => h) (Or.inl ⟨by kernel_rfl, ?_⟩) (by assumption) ?_
  rotate_left
  · (intro w hSw; (try dsimp only at hSw); go_simp; all_goals with_reducible rfl)
  try simp only [Act.put, List.setIfInBounds_toArray, List.set_cons_zero, List.set_cons_succ]
  refine wpAnyH_take (i := 2) (oi := ⟨some 14, _, _, _, _, _⟩) (v := ?_) rfl (by kernel_rfl) (by kernel_rfl) (by kernel_rfl) (fun _ _ _ h => h) (Or.inl ⟨by kernel_rfl, ?_⟩) (by assumption) ?_
  rotate_left
  · (intro w hSw; (try dsimp only at hSw); go_simp; all_goals with_reducible rfl)
  try simp only [Act.put, List.setIfInBounds_toArray, List.set_cons_zero, List.set_cons_succ]
  refine wpAnyH_take (i := 4) (oi := ⟨some 16, _, _, _, _, _⟩) (v := ?_) rfl (by kernel_rfl) (by kernel_rfl) (by kernel_rfl) (fun _ _ _ h => h) (Or.inl ⟨by kernel_rfl, ?_⟩) (by assumption) ?_
  rotate_left
  · (intro w hSw; (try dsimp only at hSw); go_simp; all_goals with_reducible rfl)
  try simp only [Act.put, List.setIfInBounds_toArray, List.set_cons_zero, List.set_cons_succ]
  refine wpAnyH_take (i := 5) (oi := ⟨some 17, _, _, _, _, _⟩) (v := ?_) rfl (by kernel_rfl) (by kernel_rfl) (by kernel_rfl) (fun _ _ _ h => h) (Or.inl ⟨by kernel_rfl, ?_⟩) (by assumption) ?_
  rotate_left
  · (intro w hSw; (try dsimp only at hSw); go_simp; all_goals with_reducible rfl)
  try simp only [Act.put, List.setIfInBounds_toArray, List.set_cons_zero, List.set_cons_succ]
  refine wpAnyH_take (i := 6) (oi := ⟨some 18, _, _, _, _, _⟩) (v := ?_) rfl (by kernel_rfl) (by kernel_rfl) (by kernel_rfl) (fun _ _ _ h => h) (Or.inl ⟨by kernel_rfl, ?_⟩) (by assumption) ?_
  rotate_left
  · (intro w hSw; (try dsimp only at hSw); go_simp; all_goals with_reducible rfl)
  try simp only [Act.put, List.setIfInBounds_toArray, List.set_cons_zero, List.set_cons_succ]
  refine wpAnyH_ready (rs := [3]) (by kernel_rfl) (by simp) ?_
  refine AllReadyH.cons rfl (fun K hK => ?_) AllReadyH.nil
  go_simp
  refine (HB1.out _).mono ?_
  rintro e w2 ⟨rfl, rfl⟩
  go_wp2_with fail
  refine hK.out _ _ (by simp [go_sem, World.cell?_alloc_past, *]) (fun hHeld => ?_)
  clear hK K
  try simp only [Act.put, List.setIfInBounds_toArray, List.set_cons_zero, List.set_cons_succ]
  refine wpAnyH_ready (rs := [7]) (by kernel_rfl) (by simp) ?_
  refine AllReadyH.cons rfl (fun K hK => ?_) AllReadyH.nil
  go_simp
  refine (HB2.out _).mono ?_
  rintro e w2 ⟨rfl, rfl⟩
  go_wp2_with fail
  refine hK.out _ _ (by simp [go_sem, World.cell?_alloc_past, *]) (fun hHeld => ?_)
  clear hK K
  try simp only [Act.put, List.setIfInBounds_toArray, List.set_cons_zero, List.set_cons_succ]
  refine wpAnyH_take (i := 8) (oi := ⟨some 9, _, _, _, _, _⟩) (v := ?_) rfl (by kernel_rfl) (by kernel_rfl) (by kernel_rfl) (fun _ _ _ h => h) (Or.inl ⟨by kernel_rfl, ?_⟩) (by assumption) ?_
  rotate_left
  · (intro w hSw; (try dsimp only at hSw); go_simp; all_goals with_reducible rfl)
  try simp only [Act.put, List.setIfInBounds_toArray, List.set_cons_zero, List.set_cons_succ]
  refine wpAnyH_take (i := 9) (oi := ⟨some 10, _, _, _, _, _⟩) (v := ?_) rfl (by kernel_rfl) (by kernel_rfl) (by kernel_rfl) (fun _ _ _ h => h) (Or.inl ⟨by kernel_rfl, ?_⟩) (by assumption) ?_
  rotate_left
  · (intro w hSw; (try dsimp only at hSw); go_simp; all_goals with_reducible rfl)
  try simp only [Act.put, List.setIfInBounds_toArray, List.set_cons_zero, List.set_cons_succ]
  refine wpAnyH_done (by kernel_rfl) ?_ _
  go_wp2_with (first | (go_at_call 105; ((with_reducible refine (HF1.out _).mono ?_)); rintro e w' ⟨rfl, rfl⟩) | (go_at_call 106; ((with_reducible refine (HF2.out _).mono ?_)); rintro e w' ⟨rfl, rfl⟩))
  refine bodyPost_ret (v := .agg #[.int .i64 (lo + r1), .int .i64 (hi + r2)]) (by simp [results, Try.results131, go_sem, World.cell?_alloc_past, *]) rfl ⟨rfl, ?_⟩
  (repeat (first | (with_reducible refine Below.drew ?_) | (with_reducible refine below_drewN ?_ _) | (with_reducible refine Below.alloc ?_ (by first | omega | (simp; done) | (simp; omega) | (simp at *; omega)) _) | (with_reducible refine Below.setCell ?_ (by first | omega | (simp; done) | (simp; omega) | (simp at *; omega)) _) | (with_reducible exact Below.refl _ _) | (with_reducible assumption) | (with_reducible refine Below.trans ?_ (Below.mono (by assumption) (by first | omega | (simp; done) | (simp; omega) | (simp at *; omega))))))
set_option maxHeartbeats 1000000 in
theorem refBehind_01 (l m n a b x y lo hi : Int) (w : World) (l0 : 0 ≤ l) (l1 : l ≤ 100000000) (m0 : 0 ≤ m) (m1 : m ≤ 100000000) (n0 : 0 ≤ n) (n1 : n ≤ 1000) (a0 : 400 ≤ a) (a1 : a ≤ 31100) (b0 : 400 ≤ b) (b1 : b ≤ 31100) (x0 : 0 ≤ x) (x1 : x ≤ 1000000000) (y0 : 0 ≤ y) (y1 : y ≤ 1000000000) (hlo : Hid (n * (a - 63) = lo)) (hhi : Hid (n * (b - 63) = hi)) (hc1 : lo ≤ l) (hc2 : ¬ hi ≤ m) :
    Calls Try.prog 131 #[.agg #[.int .i64 l, .int .i64 m], .int .i64 n, .agg #[.int .i64 a, .int .i64 b], .agg #[.int .i64 x, .int .i64 y]] w fun e w' => e = .returned (.agg #[.int .i64 (lo + shLo (l - lo) x), .int .i64 (hi - shLo (hi - m) x)]) ∧ Below w.heap.size w w' := by
  have blo : 0 ≤ lo ∧ lo ≤ 31037000 := by rw [← hlo.out]; exact ⟨Int.mul_nonneg n0 (by omega), Int.le_trans (Int.mul_le_mul n1 (show a - 63 ≤ 31037 by omega) (by omega) (by omega)) (by omega)⟩
  have bhi : 0 ≤ hi ∧ hi ≤ 31037000 := by rw [← hhi.out]; exact ⟨Int.mul_nonneg n0 (by omega), Int.le_trans (Int.mul_le_mul n1 (show b - 63 ≤ 31037 by omega) (by omega) (by omega)) (by omega)⟩
  have HB1 := Lib.hid (fun w => refBreathed_is n a lo w n0 n1 a0 a1 hlo)
  have HB2 := Lib.hid (fun w => refBreathed_is n b hi w n0 n1 b0 b1 hhi)
  obtain ⟨P1, hP1⟩ : ∃ z, Hid ((l - lo) * x = z) := ⟨_, rfl⟩
  obtain ⟨r1, hr1⟩ : ∃ z, Hid (shLo (l - lo) x = z) := ⟨_, rfl⟩
  have bP1 : 0 ≤ P1 ∧ P1 ≤ 100000000000000000 := by
    rw [← hP1.out]
    exact ⟨Int.mul_nonneg (by omega) (by omega), Int.le_trans (Int.mul_le_mul (show l - lo ≤ 100000000 by omega) (show x ≤ 1000000000 by omega) (by omega) (by omega)) (by omega)⟩
  have br1 := shLo_bd2 (n := l - lo) (p := x) (by omega) (by omega) (by omega)
  rw [hr1.out] at br1
  have e1 : IntKind.i64.wrap ((l - lo) * x) = P1 := by rw [hP1.out]; exact IntWalk.i64_in _ (by omega)
  have HF1 : Hid (∀ w, Calls Try.prog 105 #[.int .i64 P1, .int .i64 1000000000] w fun e w' => e = .returned (.int .i64 r1) ∧ w = w') := fun w => by
    have := baseFloor_nn P1 1000000000 w bP1.1 (by omega) (by omega) (by omega)
    rw [show P1 / 1000000000 = r1 by rw [← hr1.out, ← hP1.out]; rfl] at this
    exact this
  obtain ⟨P2, hP2⟩ : ∃ z, Hid ((hi - m) * x = z) := ⟨_, rfl⟩
  obtain ⟨r2, hr2⟩ : ∃ z, Hid (shLo (hi - m) x = z) := ⟨_, rfl⟩
  have bP2 : 0 ≤ P2 ∧ P2 ≤ 100000000000000000 := by
    rw [← hP2.out]
    exact ⟨Int.mul_nonneg (by omega) (by omega), Int.le_trans (Int.mul_le_mul (show hi - m ≤ 100000000 by omega) (show x ≤ 1000000000 by omega) (by omega) (by omega)) (by omega)⟩
  have br2 := shLo_bd2 (n := hi - m) (p := x) (by omega) (by omega) (by omega)
  rw [hr2.out] at br2
  have e2 : IntKind.i64.wrap ((hi - m) * x) = P2 := by rw [hP2.out]; exact IntWalk.i64_in _ (by omega)
  have HF2 : Hid (∀ w, Calls Try.prog 105 #[.int .i64 P2, .int .i64 1000000000] w fun e w' => e = .returned (.int .i64 r2) ∧ w = w') := fun w => by
    have := baseFloor_nn P2 1000000000 w bP2.1 (by omega) (by omega) (by omega)
    rw [show P2 / 1000000000 = r2 by rw [← hr2.out, ← hP2.out]; rfl] at this
    exact this
  rw [hr1.out, hr2.out]
  clear hlo hhi hP1 hP2 hr1 hr2
  go_enter Try.func131, Try.ntmps131
  go_upto_region 1 with (fail)
  refine wp_region_held_drew (S := (fun w' => w'.cell? ⟨w.heap.size + 1, 0, none⟩ = some (.int .i64 a) ∧ w'.cell? ⟨w.heap.size + 1, 1, none⟩ = some (.int .i64 b))) (by kernel_rfl) (by simp [go_sem, World.cell?_alloc_past, *]) (fun hHeld => ?_)
  refine wpAnyH_take (i := 0) (oi := ⟨some 12, _, _, _, _, _⟩) (v := ?_) rfl (by kernel_rfl) (by kernel_rfl) (by kernel_rfl) (fun _ _ _ h => h) (Or.inl ⟨by kernel_rfl, ?_⟩) (by assumption) ?_
  rotate_left
  · (intro w hSw; (try dsimp only at hSw); go_simp; all_goals with_reducible rfl)
  try simp only [Act.put, List.setIfInBounds_toArray, List.set_cons_zero, List.set_cons_succ]
  refine wpAnyH_take (i := 1) (oi := ⟨some 13, _, _, _, _, _⟩) (v := ?_) rfl (by kernel_rfl) (by kernel_rfl) (by kernel_rfl) (fun _ _ _ h => h) (Or.inl ⟨by kernel_rfl, ?_⟩) (by assumption) ?_
  rotate_left
  · (intro w hSw; (try dsimp only at hSw); go_simp; all_goals with_reducible rfl)
  try simp only [Act.put, List.setIfInBounds_toArray, List.set_cons_zero, List.set_cons_succ]
  refine wpAnyH_take (i := 2) (oi := ⟨some 14, _, _, _, _, _⟩) (v := ?_) rfl (by kernel_rfl) (by kernel_rfl) (by kernel_rfl) (fun _ _ _ h => h) (Or.inl ⟨by kernel_rfl, ?_⟩) (by assumption) ?_
  rotate_left
  · (intro w hSw; (try dsimp only at hSw); go_simp; all_goals with_reducible rfl)
  try simp only [Act.put, List.setIfInBounds_toArray, List.set_cons_zero, List.set_cons_succ]
  refine wpAnyH_take (i := 4) (oi := ⟨some 16, _, _, _, _, _⟩) (v := ?_) rfl (by kernel_rfl) (by kernel_rfl) (by kernel_rfl) (fun _ _ _ h => h) (Or.inl ⟨by kernel_rfl, ?_⟩) (by assumption) ?_
  rotate_left
  · (intro w hSw; (try dsimp only at hSw); go_simp; all_goals with_reducible rfl)
  try simp only [Act.put, List.setIfInBounds_toArray, List.set_cons_zero, List.set_cons_succ]
  refine wpAnyH_take (i := 5) (oi := ⟨some 17, _, _, _, _, _⟩) (v := ?_) rfl (by kernel_rfl) (by kernel_rfl) (by kernel_rfl) (fun _ _ _ h => h) (Or.inl ⟨by kernel_rfl, ?_⟩) (by assumption) ?_
  rotate_left
  · (intro w hSw; (try dsimp only at hSw); go_simp; all_goals with_reducible rfl)
  try simp only [Act.put, List.setIfInBounds_toArray, List.set_cons_zero, List.set_cons_succ]
  refine wpAnyH_take (i := 6) (oi := ⟨some 18, _, _, _, _, _⟩) (v := ?_) rfl (by kernel_rfl) (by kernel_rfl) (by kernel_rfl) (fun _ _ _ h => h) (Or.inl ⟨by kernel_rfl, ?_⟩) (by assumption) ?_
  rotate_left
  · (intro w hSw; (try dsimp only at hSw); go_simp; all_goals with_reducible rfl)
  try simp only [Act.put, List.setIfInBounds_toArray, List.set_cons_zero, List.set_cons_succ]
  refine wpAnyH_ready (rs := [3]) (by kernel_rfl) (by simp) ?_
  refine AllReadyH.cons rfl (fun K hK => ?_) AllReadyH.nil
  go_simp
  refine (HB1.out _).mono ?_
  rintro e w2 ⟨rfl, rfl⟩
  go_wp2_with fail
  refine hK.out _ _ (by simp [go_sem, World.cell?_alloc_past, *]) (fun hHeld => ?_)
  clear hK K
  try simp only [Act.put, List.setIfInBounds_toArray, List.set_cons_zero, List.set_cons_succ]
  refine wpAnyH_ready (rs := [7]) (by kernel_rfl) (by simp) ?_
  refine AllReadyH.cons rfl (fun K hK => ?_) AllReadyH.nil
  go_simp
  refine (HB2.out _).mono ?_
  rintro e w2 ⟨rfl, rfl⟩
  go_wp2_with fail
  refine hK.out _ _ (by simp [go_sem, World.cell?_alloc_past, *]) (fun hHeld => ?_)
  clear hK K
  try simp only [Act.put, List.setIfInBounds_toArray, List.set_cons_zero, List.set_cons_succ]
  refine wpAnyH_take (i := 8) (oi := ⟨some 9, _, _, _, _, _⟩) (v := ?_) rfl (by kernel_rfl) (by kernel_rfl) (by kernel_rfl) (fun _ _ _ h => h) (Or.inl ⟨by kernel_rfl, ?_⟩) (by assumption) ?_
  rotate_left
  · (intro w hSw; (try dsimp only at hSw); go_simp; all_goals with_reducible rfl)
  try simp only [Act.put, List.setIfInBounds_toArray, List.set_cons_zero, List.set_cons_succ]
  refine wpAnyH_take (i := 9) (oi := ⟨some 10, _, _, _, _, _⟩) (v := ?_) rfl (by kernel_rfl) (by kernel_rfl) (by kernel_rfl) (fun _ _ _ h => h) (Or.inl ⟨by kernel_rfl, ?_⟩) (by assumption) ?_
  rotate_left
  · (intro w hSw; (try dsimp only at hSw); go_simp; all_goals with_reducible rfl)
  try simp only [Act.put, List.setIfInBounds_toArray, List.set_cons_zero, List.set_cons_succ]
  refine wpAnyH_done (by kernel_rfl) ?_ _
  go_wp2_with (first | (go_at_call 105; ((with_reducible refine (HF1.out _).mono ?_)); rintro e w' ⟨rfl, rfl⟩) | (go_at_call 105; ((with_reducible refine (HF2.out _).mono ?_)); rintro e w' ⟨rfl, rfl⟩))
  refine bodyPost_ret (v := .agg #[.int .i64 (lo + r1), .int .i64 (hi - r2)]) (by simp [results, Try.results131, go_sem, World.cell?_alloc_past, *]) rfl ⟨rfl, ?_⟩
  (repeat (first | (with_reducible refine Below.drew ?_) | (with_reducible refine below_drewN ?_ _) | (with_reducible refine Below.alloc ?_ (by first | omega | (simp; done) | (simp; omega) | (simp at *; omega)) _) | (with_reducible refine Below.setCell ?_ (by first | omega | (simp; done) | (simp; omega) | (simp at *; omega)) _) | (with_reducible exact Below.refl _ _) | (with_reducible assumption) | (with_reducible refine Below.trans ?_ (Below.mono (by assumption) (by first | omega | (simp; done) | (simp; omega) | (simp at *; omega))))))
set_option maxHeartbeats 1000000 in
theorem refBehind_10 (l m n a b x y lo hi : Int) (w : World) (l0 : 0 ≤ l) (l1 : l ≤ 100000000) (m0 : 0 ≤ m) (m1 : m ≤ 100000000) (n0 : 0 ≤ n) (n1 : n ≤ 1000) (a0 : 400 ≤ a) (a1 : a ≤ 31100) (b0 : 400 ≤ b) (b1 : b ≤ 31100) (x0 : 0 ≤ x) (x1 : x ≤ 1000000000) (y0 : 0 ≤ y) (y1 : y ≤ 1000000000) (hlo : Hid (n * (a - 63) = lo)) (hhi : Hid (n * (b - 63) = hi)) (hc1 : ¬ lo ≤ l) (hc2 : hi ≤ m) :
    Calls Try.prog 131 #[.agg #[.int .i64 l, .int .i64 m], .int .i64 n, .agg #[.int .i64 a, .int .i64 b], .agg #[.int .i64 x, .int .i64 y]] w fun e w' => e = .returned (.agg #[.int .i64 (lo - shHi (lo - l) y), .int .i64 (hi + shHi (m - hi) y)]) ∧ Below w.heap.size w w' := by
  have blo : 0 ≤ lo ∧ lo ≤ 31037000 := by rw [← hlo.out]; exact ⟨Int.mul_nonneg n0 (by omega), Int.le_trans (Int.mul_le_mul n1 (show a - 63 ≤ 31037 by omega) (by omega) (by omega)) (by omega)⟩
  have bhi : 0 ≤ hi ∧ hi ≤ 31037000 := by rw [← hhi.out]; exact ⟨Int.mul_nonneg n0 (by omega), Int.le_trans (Int.mul_le_mul n1 (show b - 63 ≤ 31037 by omega) (by omega) (by omega)) (by omega)⟩
  have HB1 := Lib.hid (fun w => refBreathed_is n a lo w n0 n1 a0 a1 hlo)
  have HB2 := Lib.hid (fun w => refBreathed_is n b hi w n0 n1 b0 b1 hhi)
  obtain ⟨P1, hP1⟩ : ∃ z, Hid ((lo - l) * y = z) := ⟨_, rfl⟩
  obtain ⟨r1, hr1⟩ : ∃ z, Hid (shHi (lo - l) y = z) := ⟨_, rfl⟩
  have bP1 : 0 ≤ P1 ∧ P1 ≤ 100000000000000000 := by
    rw [← hP1.out]
    exact ⟨Int.mul_nonneg (by omega) (by omega), Int.le_trans (Int.mul_le_mul (show lo - l ≤ 100000000 by omega) (show y ≤ 1000000000 by omega) (by omega) (by omega)) (by omega)⟩
  have br1 := shHi_bd2 (n := lo - l) (p := y) (by omega) (by omega) (by omega)
  rw [hr1.out] at br1
  have e1 : IntKind.i64.wrap ((lo - l) * y) = P1 := by rw [hP1.out]; exact IntWalk.i64_in _ (by omega)
  have HF1 : Hid (∀ w, Calls Try.prog 106 #[.int .i64 P1, .int .i64 1000000000] w fun e w' => e = .returned (.int .i64 r1) ∧ w = w') := fun w => by
    have := baseCeil_nn P1 1000000000 w bP1.1 (by omega) (by omega) (by omega)
    rw [show (P1 + 1000000000 - 1) / 1000000000 = r1 by rw [← hr1.out, ← hP1.out]; rfl] at this
    exact this
  obtain ⟨P2, hP2⟩ : ∃ z, Hid ((m - hi) * y = z) := ⟨_, rfl⟩
  obtain ⟨r2, hr2⟩ : ∃ z, Hid (shHi (m - hi) y = z) := ⟨_, rfl⟩
  have bP2 : 0 ≤ P2 ∧ P2 ≤ 100000000000000000 := by
    rw [← hP2.out]
    exact ⟨Int.mul_nonneg (by omega) (by omega), Int.le_trans (Int.mul_le_mul (show m - hi ≤ 100000000 by omega) (show y ≤ 1000000000 by omega) (by omega) (by omega)) (by omega)⟩
  have br2 := shHi_bd2 (n := m - hi) (p := y) (by omega) (by omega) (by omega)
  rw [hr2.out] at br2
  have e2 : IntKind.i64.wrap ((m - hi) * y) = P2 := by rw [hP2.out]; exact IntWalk.i64_in _ (by omega)
  have HF2 : Hid (∀ w, Calls Try.prog 106 #[.int .i64 P2, .int .i64 1000000000] w fun e w' => e = .returned (.int .i64 r2) ∧ w = w') := fun w => by
    have := baseCeil_nn P2 1000000000 w bP2.1 (by omega) (by omega) (by omega)
    rw [show (P2 + 1000000000 - 1) / 1000000000 = r2 by rw [← hr2.out, ← hP2.out]; rfl] at this
    exact this
  rw [hr1.out, hr2.out]
  clear hlo hhi hP1 hP2 hr1 hr2
  go_enter Try.func131, Try.ntmps131
  go_upto_region 1 with (fail)
  refine wp_region_held_drew (S := (fun w' => w'.cell? ⟨w.heap.size + 1, 0, none⟩ = some (.int .i64 a) ∧ w'.cell? ⟨w.heap.size + 1, 1, none⟩ = some (.int .i64 b))) (by kernel_rfl) (by simp [go_sem, World.cell?_alloc_past, *]) (fun hHeld => ?_)
  refine wpAnyH_take (i := 0) (oi := ⟨some 12, _, _, _, _, _⟩) (v := ?_) rfl (by kernel_rfl) (by kernel_rfl) (by kernel_rfl) (fun _ _ _ h => h) (Or.inl ⟨by kernel_rfl, ?_⟩) (by assumption) ?_
  rotate_left
  · (intro w hSw; (try dsimp only at hSw); go_simp; all_goals with_reducible rfl)
  try simp only [Act.put, List.setIfInBounds_toArray, List.set_cons_zero, List.set_cons_succ]
  refine wpAnyH_take (i := 1) (oi := ⟨some 13, _, _, _, _, _⟩) (v := ?_) rfl (by kernel_rfl) (by kernel_rfl) (by kernel_rfl) (fun _ _ _ h => h) (Or.inl ⟨by kernel_rfl, ?_⟩) (by assumption) ?_
  rotate_left
  · (intro w hSw; (try dsimp only at hSw); go_simp; all_goals with_reducible rfl)
  try simp only [Act.put, List.setIfInBounds_toArray, List.set_cons_zero, List.set_cons_succ]
  refine wpAnyH_take (i := 2) (oi := ⟨some 14, _, _, _, _, _⟩) (v := ?_) rfl (by kernel_rfl) (by kernel_rfl) (by kernel_rfl) (fun _ _ _ h => h) (Or.inl ⟨by kernel_rfl, ?_⟩) (by assumption) ?_
  rotate_left
  · (intro w hSw; (try dsimp only at hSw); go_simp; all_goals with_reducible rfl)
  try simp only [Act.put, List.setIfInBounds_toArray, List.set_cons_zero, List.set_cons_succ]
  refine wpAnyH_take (i := 4) (oi := ⟨some 16, _, _, _, _, _⟩) (v := ?_) rfl (by kernel_rfl) (by kernel_rfl) (by kernel_rfl) (fun _ _ _ h => h) (Or.inl ⟨by kernel_rfl, ?_⟩) (by assumption) ?_
  rotate_left
  · (intro w hSw; (try dsimp only at hSw); go_simp; all_goals with_reducible rfl)
  try simp only [Act.put, List.setIfInBounds_toArray, List.set_cons_zero, List.set_cons_succ]
  refine wpAnyH_take (i := 5) (oi := ⟨some 17, _, _, _, _, _⟩) (v := ?_) rfl (by kernel_rfl) (by kernel_rfl) (by kernel_rfl) (fun _ _ _ h => h) (Or.inl ⟨by kernel_rfl, ?_⟩) (by assumption) ?_
  rotate_left
  · (intro w hSw; (try dsimp only at hSw); go_simp; all_goals with_reducible rfl)
  try simp only [Act.put, List.setIfInBounds_toArray, List.set_cons_zero, List.set_cons_succ]
  refine wpAnyH_take (i := 6) (oi := ⟨some 18, _, _, _, _, _⟩) (v := ?_) rfl (by kernel_rfl) (by kernel_rfl) (by kernel_rfl) (fun _ _ _ h => h) (Or.inl ⟨by kernel_rfl, ?_⟩) (by assumption) ?_
  rotate_left
  · (intro w hSw; (try dsimp only at hSw); go_simp; all_goals with_reducible rfl)
  try simp only [Act.put, List.setIfInBounds_toArray, List.set_cons_zero, List.set_cons_succ]
  refine wpAnyH_ready (rs := [3]) (by kernel_rfl) (by simp) ?_
  refine AllReadyH.cons rfl (fun K hK => ?_) AllReadyH.nil
  go_simp
  refine (HB1.out _).mono ?_
  rintro e w2 ⟨rfl, rfl⟩
  go_wp2_with fail
  refine hK.out _ _ (by simp [go_sem, World.cell?_alloc_past, *]) (fun hHeld => ?_)
  clear hK K
  try simp only [Act.put, List.setIfInBounds_toArray, List.set_cons_zero, List.set_cons_succ]
  refine wpAnyH_ready (rs := [7]) (by kernel_rfl) (by simp) ?_
  refine AllReadyH.cons rfl (fun K hK => ?_) AllReadyH.nil
  go_simp
  refine (HB2.out _).mono ?_
  rintro e w2 ⟨rfl, rfl⟩
  go_wp2_with fail
  refine hK.out _ _ (by simp [go_sem, World.cell?_alloc_past, *]) (fun hHeld => ?_)
  clear hK K
  try simp only [Act.put, List.setIfInBounds_toArray, List.set_cons_zero, List.set_cons_succ]
  refine wpAnyH_take (i := 8) (oi := ⟨some 9, _, _, _, _, _⟩) (v := ?_) rfl (by kernel_rfl) (by kernel_rfl) (by kernel_rfl) (fun _ _ _ h => h) (Or.inl ⟨by kernel_rfl, ?_⟩) (by assumption) ?_
  rotate_left
  · (intro w hSw; (try dsimp only at hSw); go_simp; all_goals with_reducible rfl)
  try simp only [Act.put, List.setIfInBounds_toArray, List.set_cons_zero, List.set_cons_succ]
  refine wpAnyH_take (i := 9) (oi := ⟨some 10, _, _, _, _, _⟩) (v := ?_) rfl (by kernel_rfl) (by kernel_rfl) (by kernel_rfl) (fun _ _ _ h => h) (Or.inl ⟨by kernel_rfl, ?_⟩) (by assumption) ?_
  rotate_left
  · (intro w hSw; (try dsimp only at hSw); go_simp; all_goals with_reducible rfl)
  try simp only [Act.put, List.setIfInBounds_toArray, List.set_cons_zero, List.set_cons_succ]
  refine wpAnyH_done (by kernel_rfl) ?_ _
  go_wp2_with (first | (go_at_call 106; ((with_reducible refine (HF1.out _).mono ?_)); rintro e w' ⟨rfl, rfl⟩) | (go_at_call 106; ((with_reducible refine (HF2.out _).mono ?_)); rintro e w' ⟨rfl, rfl⟩))
  refine bodyPost_ret (v := .agg #[.int .i64 (lo - r1), .int .i64 (hi + r2)]) (by simp [results, Try.results131, go_sem, World.cell?_alloc_past, *]) rfl ⟨rfl, ?_⟩
  (repeat (first | (with_reducible refine Below.drew ?_) | (with_reducible refine below_drewN ?_ _) | (with_reducible refine Below.alloc ?_ (by first | omega | (simp; done) | (simp; omega) | (simp at *; omega)) _) | (with_reducible refine Below.setCell ?_ (by first | omega | (simp; done) | (simp; omega) | (simp at *; omega)) _) | (with_reducible exact Below.refl _ _) | (with_reducible assumption) | (with_reducible refine Below.trans ?_ (Below.mono (by assumption) (by first | omega | (simp; done) | (simp; omega) | (simp at *; omega))))))
set_option maxHeartbeats 1000000 in
theorem refBehind_11 (l m n a b x y lo hi : Int) (w : World) (l0 : 0 ≤ l) (l1 : l ≤ 100000000) (m0 : 0 ≤ m) (m1 : m ≤ 100000000) (n0 : 0 ≤ n) (n1 : n ≤ 1000) (a0 : 400 ≤ a) (a1 : a ≤ 31100) (b0 : 400 ≤ b) (b1 : b ≤ 31100) (x0 : 0 ≤ x) (x1 : x ≤ 1000000000) (y0 : 0 ≤ y) (y1 : y ≤ 1000000000) (hlo : Hid (n * (a - 63) = lo)) (hhi : Hid (n * (b - 63) = hi)) (hc1 : ¬ lo ≤ l) (hc2 : ¬ hi ≤ m) :
    Calls Try.prog 131 #[.agg #[.int .i64 l, .int .i64 m], .int .i64 n, .agg #[.int .i64 a, .int .i64 b], .agg #[.int .i64 x, .int .i64 y]] w fun e w' => e = .returned (.agg #[.int .i64 (lo - shHi (lo - l) y), .int .i64 (hi - shLo (hi - m) x)]) ∧ Below w.heap.size w w' := by
  have blo : 0 ≤ lo ∧ lo ≤ 31037000 := by rw [← hlo.out]; exact ⟨Int.mul_nonneg n0 (by omega), Int.le_trans (Int.mul_le_mul n1 (show a - 63 ≤ 31037 by omega) (by omega) (by omega)) (by omega)⟩
  have bhi : 0 ≤ hi ∧ hi ≤ 31037000 := by rw [← hhi.out]; exact ⟨Int.mul_nonneg n0 (by omega), Int.le_trans (Int.mul_le_mul n1 (show b - 63 ≤ 31037 by omega) (by omega) (by omega)) (by omega)⟩
  have HB1 := Lib.hid (fun w => refBreathed_is n a lo w n0 n1 a0 a1 hlo)
  have HB2 := Lib.hid (fun w => refBreathed_is n b hi w n0 n1 b0 b1 hhi)
  obtain ⟨P1, hP1⟩ : ∃ z, Hid ((lo - l) * y = z) := ⟨_, rfl⟩
  obtain ⟨r1, hr1⟩ : ∃ z, Hid (shHi (lo - l) y = z) := ⟨_, rfl⟩
  have bP1 : 0 ≤ P1 ∧ P1 ≤ 100000000000000000 := by
    rw [← hP1.out]
    exact ⟨Int.mul_nonneg (by omega) (by omega), Int.le_trans (Int.mul_le_mul (show lo - l ≤ 100000000 by omega) (show y ≤ 1000000000 by omega) (by omega) (by omega)) (by omega)⟩
  have br1 := shHi_bd2 (n := lo - l) (p := y) (by omega) (by omega) (by omega)
  rw [hr1.out] at br1
  have e1 : IntKind.i64.wrap ((lo - l) * y) = P1 := by rw [hP1.out]; exact IntWalk.i64_in _ (by omega)
  have HF1 : Hid (∀ w, Calls Try.prog 106 #[.int .i64 P1, .int .i64 1000000000] w fun e w' => e = .returned (.int .i64 r1) ∧ w = w') := fun w => by
    have := baseCeil_nn P1 1000000000 w bP1.1 (by omega) (by omega) (by omega)
    rw [show (P1 + 1000000000 - 1) / 1000000000 = r1 by rw [← hr1.out, ← hP1.out]; rfl] at this
    exact this
  obtain ⟨P2, hP2⟩ : ∃ z, Hid ((hi - m) * x = z) := ⟨_, rfl⟩
  obtain ⟨r2, hr2⟩ : ∃ z, Hid (shLo (hi - m) x = z) := ⟨_, rfl⟩
  have bP2 : 0 ≤ P2 ∧ P2 ≤ 100000000000000000 := by
    rw [← hP2.out]
    exact ⟨Int.mul_nonneg (by omega) (by omega), Int.le_trans (Int.mul_le_mul (show hi - m ≤ 100000000 by omega) (show x ≤ 1000000000 by omega) (by omega) (by omega)) (by omega)⟩
  have br2 := shLo_bd2 (n := hi - m) (p := x) (by omega) (by omega) (by omega)
  rw [hr2.out] at br2
  have e2 : IntKind.i64.wrap ((hi - m) * x) = P2 := by rw [hP2.out]; exact IntWalk.i64_in _ (by omega)
  have HF2 : Hid (∀ w, Calls Try.prog 105 #[.int .i64 P2, .int .i64 1000000000] w fun e w' => e = .returned (.int .i64 r2) ∧ w = w') := fun w => by
    have := baseFloor_nn P2 1000000000 w bP2.1 (by omega) (by omega) (by omega)
    rw [show P2 / 1000000000 = r2 by rw [← hr2.out, ← hP2.out]; rfl] at this
    exact this
  rw [hr1.out, hr2.out]
  clear hlo hhi hP1 hP2 hr1 hr2
  go_enter Try.func131, Try.ntmps131
  go_upto_region 1 with (fail)
  refine wp_region_held_drew (S := (fun w' => w'.cell? ⟨w.heap.size + 1, 0, none⟩ = some (.int .i64 a) ∧ w'.cell? ⟨w.heap.size + 1, 1, none⟩ = some (.int .i64 b))) (by kernel_rfl) (by simp [go_sem, World.cell?_alloc_past, *]) (fun hHeld => ?_)
  refine wpAnyH_take (i := 0) (oi := ⟨some 12, _, _, _, _, _⟩) (v := ?_) rfl (by kernel_rfl) (by kernel_rfl) (by kernel_rfl) (fun _ _ _ h => h) (Or.inl ⟨by kernel_rfl, ?_⟩) (by assumption) ?_
  rotate_left
  · (intro w hSw; (try dsimp only at hSw); go_simp; all_goals with_reducible rfl)
  try simp only [Act.put, List.setIfInBounds_toArray, List.set_cons_zero, List.set_cons_succ]
  refine wpAnyH_take (i := 1) (oi := ⟨some 13, _, _, _, _, _⟩) (v := ?_) rfl (by kernel_rfl) (by kernel_rfl) (by kernel_rfl) (fun _ _ _ h => h) (Or.inl ⟨by kernel_rfl, ?_⟩) (by assumption) ?_
  rotate_left
  · (intro w hSw; (try dsimp only at hSw); go_simp; all_goals with_reducible rfl)
  try simp only [Act.put, List.setIfInBounds_toArray, List.set_cons_zero, List.set_cons_succ]
  refine wpAnyH_take (i := 2) (oi := ⟨some 14, _, _, _, _, _⟩) (v := ?_) rfl (by kernel_rfl) (by kernel_rfl) (by kernel_rfl) (fun _ _ _ h => h) (Or.inl ⟨by kernel_rfl, ?_⟩) (by assumption) ?_
  rotate_left
  · (intro w hSw; (try dsimp only at hSw); go_simp; all_goals with_reducible rfl)
  try simp only [Act.put, List.setIfInBounds_toArray, List.set_cons_zero, List.set_cons_succ]
  refine wpAnyH_take (i := 4) (oi := ⟨some 16, _, _, _, _, _⟩) (v := ?_) rfl (by kernel_rfl) (by kernel_rfl) (by kernel_rfl) (fun _ _ _ h => h) (Or.inl ⟨by kernel_rfl, ?_⟩) (by assumption) ?_
  rotate_left
  · (intro w hSw; (try dsimp only at hSw); go_simp; all_goals with_reducible rfl)
  try simp only [Act.put, List.setIfInBounds_toArray, List.set_cons_zero, List.set_cons_succ]
  refine wpAnyH_take (i := 5) (oi := ⟨some 17, _, _, _, _, _⟩) (v := ?_) rfl (by kernel_rfl) (by kernel_rfl) (by kernel_rfl) (fun _ _ _ h => h) (Or.inl ⟨by kernel_rfl, ?_⟩) (by assumption) ?_
  rotate_left
  · (intro w hSw; (try dsimp only at hSw); go_simp; all_goals with_reducible rfl)
  try simp only [Act.put, List.setIfInBounds_toArray, List.set_cons_zero, List.set_cons_succ]
  refine wpAnyH_take (i := 6) (oi := ⟨some 18, _, _, _, _, _⟩) (v := ?_) rfl (by kernel_rfl) (by kernel_rfl) (by kernel_rfl) (fun _ _ _ h => h) (Or.inl ⟨by kernel_rfl, ?_⟩) (by assumption) ?_
  rotate_left
  · (intro w hSw; (try dsimp only at hSw); go_simp; all_goals with_reducible rfl)
  try simp only [Act.put, List.setIfInBounds_toArray, List.set_cons_zero, List.set_cons_succ]
  refine wpAnyH_ready (rs := [3]) (by kernel_rfl) (by simp) ?_
  refine AllReadyH.cons rfl (fun K hK => ?_) AllReadyH.nil
  go_simp
  refine (HB1.out _).mono ?_
  rintro e w2 ⟨rfl, rfl⟩
  go_wp2_with fail
  refine hK.out _ _ (by simp [go_sem, World.cell?_alloc_past, *]) (fun hHeld => ?_)
  clear hK K
  try simp only [Act.put, List.setIfInBounds_toArray, List.set_cons_zero, List.set_cons_succ]
  refine wpAnyH_ready (rs := [7]) (by kernel_rfl) (by simp) ?_
  refine AllReadyH.cons rfl (fun K hK => ?_) AllReadyH.nil
  go_simp
  refine (HB2.out _).mono ?_
  rintro e w2 ⟨rfl, rfl⟩
  go_wp2_with fail
  refine hK.out _ _ (by simp [go_sem, World.cell?_alloc_past, *]) (fun hHeld => ?_)
  clear hK K
  try simp only [Act.put, List.setIfInBounds_toArray, List.set_cons_zero, List.set_cons_succ]
  refine wpAnyH_take (i := 8) (oi := ⟨some 9, _, _, _, _, _⟩) (v := ?_) rfl (by kernel_rfl) (by kernel_rfl) (by kernel_rfl) (fun _ _ _ h => h) (Or.inl ⟨by kernel_rfl, ?_⟩) (by assumption) ?_
  rotate_left
  · (intro w hSw; (try dsimp only at hSw); go_simp; all_goals with_reducible rfl)
  try simp only [Act.put, List.setIfInBounds_toArray, List.set_cons_zero, List.set_cons_succ]
  refine wpAnyH_take (i := 9) (oi := ⟨some 10, _, _, _, _, _⟩) (v := ?_) rfl (by kernel_rfl) (by kernel_rfl) (by kernel_rfl) (fun _ _ _ h => h) (Or.inl ⟨by kernel_rfl, ?_⟩) (by assumption) ?_
  rotate_left
  · (intro w hSw; (try dsimp only at hSw); go_simp; all_goals with_reducible rfl)
  try simp only [Act.put, List.setIfInBounds_toArray, List.set_cons_zero, List.set_cons_succ]
  refine wpAnyH_done (by kernel_rfl) ?_ _
  go_wp2_with (first | (go_at_call 106; ((with_reducible refine (HF1.out _).mono ?_)); rintro e w' ⟨rfl, rfl⟩) | (go_at_call 105; ((with_reducible refine (HF2.out _).mono ?_)); rintro e w' ⟨rfl, rfl⟩))
  refine bodyPost_ret (v := .agg #[.int .i64 (lo - r1), .int .i64 (hi - r2)]) (by simp [results, Try.results131, go_sem, World.cell?_alloc_past, *]) rfl ⟨rfl, ?_⟩
  (repeat (first | (with_reducible refine Below.drew ?_) | (with_reducible refine below_drewN ?_ _) | (with_reducible refine Below.alloc ?_ (by first | omega | (simp; done) | (simp; omega) | (simp at *; omega)) _) | (with_reducible refine Below.setCell ?_ (by first | omega | (simp; done) | (simp; omega) | (simp at *; omega)) _) | (with_reducible exact Below.refl _ _) | (with_reducible assumption) | (with_reducible refine Below.trans ?_ (Below.mono (by assumption) (by first | omega | (simp; done) | (simp; omega) | (simp at *; omega))))))
theorem refBehind_any (l m n a b x y lo hi : Int) (w : World) (l0 : 0 ≤ l) (l1 : l ≤ 100000000) (m0 : 0 ≤ m) (m1 : m ≤ 100000000) (n0 : 0 ≤ n) (n1 : n ≤ 1000) (a0 : 400 ≤ a) (a1 : a ≤ 31100) (b0 : 400 ≤ b) (b1 : b ≤ 31100) (x0 : 0 ≤ x) (x1 : x ≤ 1000000000) (y0 : 0 ≤ y) (y1 : y ≤ 1000000000) (hlo : Hid (n * (a - 63) = lo)) (hhi : Hid (n * (b - 63) = hi)) :
    Calls Try.prog 131 #[.agg #[.int .i64 l, .int .i64 m], .int .i64 n, .agg #[.int .i64 a, .int .i64 b], .agg #[.int .i64 x, .int .i64 y]] w fun e w' => e = .returned (.agg #[.int .i64 (apL l lo x y), .int .i64 (apH m hi x y)]) ∧ Below w.heap.size w w' := by
  unfold apL apH
  by_cases h1 : lo ≤ l <;> by_cases h2 : hi ≤ m
  · rw [if_pos h1, if_pos h2]; exact refBehind_00 l m n a b x y lo hi w l0 l1 m0 m1 n0 n1 a0 a1 b0 b1 x0 x1 y0 y1 hlo hhi h1 h2
  · rw [if_pos h1, if_neg h2]; exact refBehind_01 l m n a b x y lo hi w l0 l1 m0 m1 n0 n1 a0 a1 b0 b1 x0 x1 y0 y1 hlo hhi h1 h2
  · rw [if_neg h1, if_pos h2]; exact refBehind_10 l m n a b x y lo hi w l0 l1 m0 m1 n0 n1 a0 a1 b0 b1 x0 x1 y0 y1 hlo hhi h1 h2
  · rw [if_neg h1, if_neg h2]; exact refBehind_11 l m n a b x y lo hi w l0 l1 m0 m1 n0 n1 a0 a1 b0 b1 x0 x1 y0 y1 hlo hhi h1 h2
end Go.Proofs.Ytchfhhmmjioajaa
