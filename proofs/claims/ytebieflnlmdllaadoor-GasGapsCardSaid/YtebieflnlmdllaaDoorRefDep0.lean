/- What the specification of the depths for a gas returns. -/
import Derived.Test.YtebieflnlmdllaaDoorRefA
import Derived.Deep.Cut
import Derived.Outline
namespace Go.Proofs.YtebieflnlmdllaaDoor
open Go.ChangeShapes Go.WideShapes Go.ChangeAt Go.RowKit
set_option linter.unusedVariables false
set_option linter.unusedSimpArgs false
attribute [local go_sem ↓] Go.wp_at_zero Go.wp_at_succ

theorem refDepthsFor_0 (h s a b : Int) (w : World) :
    Calls Tryd.prog 33 #[.agg #[.int .i64 0, .int .i64 h], .int .i64 s, .agg #[.int .i64 a, .int .i64 b]] w fun e w' => e = .returned (.tuple #[.agg #[.int .i64 0, .int .i64 0], .bool false]) ∧ Below w.heap.size w w' := by
  go_enter Tryd.func33, Tryd.ntmps33
  go_wp2
  refine bodyPost_ret (v := .tuple #[.agg #[.int .i64 0, .int .i64 0], .bool false]) (by simp [results, Tryd.results33, go_sem]) rfl ⟨rfl, (by (repeat (first | (with_reducible refine Below.drew ?_) | (with_reducible refine below_drewN ?_ _) | (with_reducible refine Below.alloc ?_ (by first | omega | (simp; done) | (simp; omega) | (simp at *; omega)) _) | (with_reducible refine Below.setCell ?_ (by first | omega | (simp; done) | (simp; omega) | (simp at *; omega)) _) | (with_reducible exact Below.refl _ _) | (with_reducible assumption) | (with_reducible refine Below.trans ?_ (Below.mono (by assumption) (by first | omega | (simp; done) | (simp; omega) | (simp at *; omega)))))))⟩
set_option maxHeartbeats 1000000 in
theorem refDep_00 (o h s a b A B : Int) (x : Bool) (w : World) (k1 : 1 ≤ o) (k2 : o ≤ 1000) (k3 : 400 ≤ s) (k4 : s ≤ 1100) (k5 : 1 ≤ a) (k6 : a ≤ 4000) (k7 : 1 ≤ b) (k8 : b ≤ 4000) (q1 : 0 ≤ A) (q2 : A ≤ 5000000) (q3 : 0 ≤ B) (q4 : B ≤ 4000000)
    (hA : Hid ((1000 * a + o - 1) / o = A)) (hB : Hid (1000 * b / o = B)) (c1 : ¬ s < A) (c2 : ¬ B - s < 30000) (hx : decide (0 ≤ 30000) = x) :
    Calls Tryd.prog 33 #[.agg #[.int .i64 o, .int .i64 h], .int .i64 s, .agg #[.int .i64 a, .int .i64 b]] w fun e w' => e = .returned (.tuple #[.agg #[.int .i64 (0), .int .i64 (30000)], .bool x]) ∧ Below w.heap.size w w' := by
  have ho : (o == 0) = false := by simp; omega
  have cF := fun w => baseFloor_nn (1000 * b) o w (by omega) (by omega) (by omega) (by omega)
  have cC := fun w => baseCeil_nn (1000 * a) o w (by omega) (by omega) (by omega) (by omega)
  rw [hB.out] at cF
  rw [hA.out] at cC
  have u4 : IntKind.i64.wrap (1000 * a) = 1000 * a := IntWalk.i64_in _ (by omega)
  have u5 : IntKind.i64.wrap (1000 * b) = 1000 * b := IntWalk.i64_in _ (by omega)
  have u6 : IntKind.i64.wrap (A - s) = A - s := IntWalk.i64_in _ (by omega)
  have u7 : IntKind.i64.wrap (B - s) = B - s := IntWalk.i64_in _ (by omega)
  have HF := Lib.hid cF
  have HC := Lib.hid cC
  have HX := Lib.hid hx
  clear cF cC hx
  go_enter Tryd.func33, Tryd.ntmps33
  go_upto_region 3 with (fail)
  go_cut [8] from 9 (fun s8 wx => s8 = .pointer (some ⟨w.heap.size + 1 + 1 + 1, 0, none⟩) ∧ wx = ((((w.alloc (.cells #[.int .i64 o, .int .i64 h] 23)).alloc (.cells #[.int .i64 a, .int .i64 b] 47)).alloc (.cells #[.int .i64 0, .int .i64 0] 49)).alloc (.cells #[.int .i64 (0), .int .i64 (30000)] 49)).drew)
  case first =>
    go_region_held3 (fun w' => w'.cell? ⟨w.heap.size, 0, none⟩ = some (.int .i64 o) ∧ w'.cell? ⟨w.heap.size + 1, 0, none⟩ = some (.int .i64 a) ∧ w'.cell? ⟨w.heap.size + 1, 1, none⟩ = some (.int .i64 b)) (simp [go_sem, World.cell?_alloc_past])
      (first
        | (go_at_call 80; ((with_reducible refine (HF.out _).mono ?_)); rintro e w' ⟨rfl, rfl⟩)
        | (go_at_call 79; ((with_reducible refine (HC.out _).mono ?_)); rintro e w' ⟨rfl, rfl⟩))
    all_goals (go_wp2_with fail; go_meet; exact ⟨rfl, rfl⟩)
  case rest =>
    obtain ⟨rfl, rfl⟩ := hcut
    obtain rfl := HX.out
    go_wp2
    go_region
    all_goals
      go_wp2
      refine bodyPost_ret (v := .tuple #[.agg #[.int .i64 (0), .int .i64 (30000)], .bool (decide ((0 : Int) ≤ 30000))]) (by simp [results, Tryd.results33, go_sem]) rfl ⟨rfl, ?_⟩
      (repeat (first | (with_reducible refine Below.drew ?_) | (with_reducible refine below_drewN ?_ _) | (with_reducible refine Below.alloc ?_ (by first | omega | (simp; done) | (simp; omega) | (simp at *; omega)) _) | (with_reducible refine Below.setCell ?_ (by first | omega | (simp; done) | (simp; omega) | (simp at *; omega)) _) | (with_reducible exact Below.refl _ _) | (with_reducible assumption) | (with_reducible refine Below.trans ?_ (Below.mono (by assumption) (by first | omega | (simp; done) | (simp; omega) | (simp at *; omega))))))
set_option maxHeartbeats 1000000 in
theorem refDep_01 (o h s a b A B : Int) (x : Bool) (w : World) (k1 : 1 ≤ o) (k2 : o ≤ 1000) (k3 : 400 ≤ s) (k4 : s ≤ 1100) (k5 : 1 ≤ a) (k6 : a ≤ 4000) (k7 : 1 ≤ b) (k8 : b ≤ 4000) (q1 : 0 ≤ A) (q2 : A ≤ 5000000) (q3 : 0 ≤ B) (q4 : B ≤ 4000000)
    (hA : Hid ((1000 * a + o - 1) / o = A)) (hB : Hid (1000 * b / o = B)) (c1 : ¬ s < A) (c2 : B - s < 30000) (hx : decide (0 ≤ B - s) = x) :
    Calls Tryd.prog 33 #[.agg #[.int .i64 o, .int .i64 h], .int .i64 s, .agg #[.int .i64 a, .int .i64 b]] w fun e w' => e = .returned (.tuple #[.agg #[.int .i64 (0), .int .i64 (B - s)], .bool x]) ∧ Below w.heap.size w w' := by
  have ho : (o == 0) = false := by simp; omega
  have cF := fun w => baseFloor_nn (1000 * b) o w (by omega) (by omega) (by omega) (by omega)
  have cC := fun w => baseCeil_nn (1000 * a) o w (by omega) (by omega) (by omega) (by omega)
  rw [hB.out] at cF
  rw [hA.out] at cC
  have u4 : IntKind.i64.wrap (1000 * a) = 1000 * a := IntWalk.i64_in _ (by omega)
  have u5 : IntKind.i64.wrap (1000 * b) = 1000 * b := IntWalk.i64_in _ (by omega)
  have u6 : IntKind.i64.wrap (A - s) = A - s := IntWalk.i64_in _ (by omega)
  have u7 : IntKind.i64.wrap (B - s) = B - s := IntWalk.i64_in _ (by omega)
  have HF := Lib.hid cF
  have HC := Lib.hid cC
  have HX := Lib.hid hx
  clear cF cC hx
  go_enter Tryd.func33, Tryd.ntmps33
  go_upto_region 3 with (fail)
  go_cut [8] from 9 (fun s8 wx => s8 = .pointer (some ⟨w.heap.size + 1 + 1 + 1, 0, none⟩) ∧ wx = ((((w.alloc (.cells #[.int .i64 o, .int .i64 h] 23)).alloc (.cells #[.int .i64 a, .int .i64 b] 47)).alloc (.cells #[.int .i64 0, .int .i64 0] 49)).alloc (.cells #[.int .i64 (0), .int .i64 (B - s)] 49)).drew)
  case first =>
    go_region_held3 (fun w' => w'.cell? ⟨w.heap.size, 0, none⟩ = some (.int .i64 o) ∧ w'.cell? ⟨w.heap.size + 1, 0, none⟩ = some (.int .i64 a) ∧ w'.cell? ⟨w.heap.size + 1, 1, none⟩ = some (.int .i64 b)) (simp [go_sem, World.cell?_alloc_past])
      (first
        | (go_at_call 80; ((with_reducible refine (HF.out _).mono ?_)); rintro e w' ⟨rfl, rfl⟩)
        | (go_at_call 79; ((with_reducible refine (HC.out _).mono ?_)); rintro e w' ⟨rfl, rfl⟩))
    all_goals (go_wp2_with fail; go_meet; exact ⟨rfl, rfl⟩)
  case rest =>
    obtain ⟨rfl, rfl⟩ := hcut
    obtain rfl := HX.out
    go_wp2
    go_region
    all_goals
      go_wp2
      refine bodyPost_ret (v := .tuple #[.agg #[.int .i64 (0), .int .i64 (B - s)], .bool (decide ((0 : Int) ≤ B - s))]) (by simp [results, Tryd.results33, go_sem]) rfl ⟨rfl, ?_⟩
      (repeat (first | (with_reducible refine Below.drew ?_) | (with_reducible refine below_drewN ?_ _) | (with_reducible refine Below.alloc ?_ (by first | omega | (simp; done) | (simp; omega) | (simp at *; omega)) _) | (with_reducible refine Below.setCell ?_ (by first | omega | (simp; done) | (simp; omega) | (simp at *; omega)) _) | (with_reducible exact Below.refl _ _) | (with_reducible assumption) | (with_reducible refine Below.trans ?_ (Below.mono (by assumption) (by first | omega | (simp; done) | (simp; omega) | (simp at *; omega))))))
end Go.Proofs.YtebieflnlmdllaaDoor
