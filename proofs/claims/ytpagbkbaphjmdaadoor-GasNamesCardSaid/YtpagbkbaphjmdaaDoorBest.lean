/- What gas.BestGas returns. -/
import Derived.Test.YtpagbkbaphjmdaaDoorAim
import Derived.Outline
namespace Go.Proofs.YtpagbkbaphjmdaaDoor
open Go.ChangeShapes Go.WideShapes Go.ChangeAt Go.RowKit
set_option linter.unusedVariables false

def bestHe (s p n : Int) : Int := if 1000 * (s + n) / p < 1000 then 1000 - 1000 * (s + n) / p else 0
def bestOx (s p n b : Int) : Int := if 1000 * b / p ≤ 1000 - bestHe s p n then 1000 * b / p else 1000 - bestHe s p n
theorem metBy_m (o h s d a b n p : Int) (w : World) (k1 : 400 ≤ s) (k2 : s ≤ 1100) (k3 : 0 ≤ n) (k4 : n ≤ 30000) (k5 : 1 ≤ a) (k6 : a ≤ 4000) (k7 : 1 ≤ b) (k8 : b ≤ 4000) (k9 : 0 ≤ o) (k10 : o ≤ 1000) (k11 : 0 ≤ h) (k12 : h ≤ 1000) (k13 : 0 ≤ p) (k14 : p ≤ 40000) (m : Bool) (hm : metB o h s a b n p = m) :
    Calls Tryd.prog 32 #[.agg #[.int .i64 s, .int .i64 d, .int .i64 a, .int .i64 b, .int .i64 n, .int .i64 p], .agg #[.int .i64 o, .int .i64 h]] w fun e w' => e = .returned (.bool m) ∧ Below w.heap.size w w' := by
  rw [← hm]; exact metBy_any o h s d a b n p w k1 k2 k3 k4 k5 k6 k7 k8 k9 k10 k11 k12 k13 k14
theorem BestGas_t1 (s d a b n : Int) (w : World) (hb : (aimE s d a b n != 0) = true) :
    Calls Tryd.prog 14 #[.agg #[.int .i64 s, .int .i64 d, .int .i64 a, .int .i64 b, .int .i64 n]] w fun e w' => e = .returned (.tuple #[.agg #[.int .i64 0, .int .i64 0], .int .i64 (aimE s d a b n)]) ∧ Below w.heap.size w w' := by
  go_enter Tryd.func14, Tryd.ntmps14
  go_wp2_with ((go_at_call 29; ((with_reducible refine (checkAim_any _ _ _ _ _ _).mono ?_)); rintro e w' ⟨rfl, rfl⟩))
  refine bodyPost_ret (v := .tuple #[.agg #[.int .i64 0, .int .i64 0], .int .i64 (aimE s d a b n)]) (by simp [results, Tryd.results14, go_sem]) rfl ⟨rfl, (by (repeat (first | (with_reducible refine Below.drew ?_) | (with_reducible refine below_drewN ?_ _) | (with_reducible refine Below.alloc ?_ (by first | omega | (simp; done) | (simp; omega) | (simp at *; omega)) _) | (with_reducible refine Below.setCell ?_ (by first | omega | (simp; done) | (simp; omega) | (simp at *; omega)) _) | (with_reducible exact Below.refl _ _) | (with_reducible assumption) | (with_reducible refine Below.trans ?_ (Below.mono (by assumption) (by first | omega | (simp; done) | (simp; omega) | (simp at *; omega)))))))⟩
set_option maxHeartbeats 1000000 in
theorem BestGas_PAt (s d a b n : Int) (w : World) (hb : (aimE s d a b n != 0) = false) (k1 : 400 ≤ s) (k2 : s ≤ 1100) (k3 : 0 ≤ n) (k4 : n ≤ 30000) (k5 : 1 ≤ a) (k6 : a ≤ 4000) (k7 : 1 ≤ b) (k8 : b ≤ 4000) (k9 : 0 ≤ d) (k10 : d ≤ 30000) (hq : 1000 * (s + n) / (s + d) < 1000) (hr : 1000 * b / (s + d) ≤ 1000 - bestHe s (s + d) n) (HM : Hid (metB (bestOx s (s + d) n b) (bestHe s (s + d) n) s a b n (s + d) = true)) :
    Calls Tryd.prog 14 #[.agg #[.int .i64 s, .int .i64 d, .int .i64 a, .int .i64 b, .int .i64 n]] w fun e w' => e = .returned (.tuple #[.agg #[.int .i64 (bestOx s (s + d) n b), .int .i64 (bestHe s (s + d) n)], .int .i64 0]) ∧ Below w.heap.size w w' := by
  obtain ⟨q, Hq⟩ : ∃ q, Hid (1000 * (s + n) / (s + d) = q) := ⟨_, rfl⟩
  obtain ⟨r, Hr⟩ : ∃ r, Hid (1000 * b / (s + d) = r) := ⟨_, rfl⟩
  have q1 : 0 ≤ q := by rw [← Hq.out]; exact Int.ediv_nonneg (by omega) (by omega)
  have q2 : q ≤ 1000 * (s + n) := by rw [← Hq.out]; exact Int.ediv_le_self _ (by omega)
  have r1 : 0 ≤ r := by rw [← Hr.out]; exact Int.ediv_nonneg (by omega) (by omega)
  have r2 : r ≤ 1000 * b := by rw [← Hr.out]; exact Int.ediv_le_self _ (by omega)
  have e0 : IntKind.i64.wrap (1000 * (s + n)) = 1000 * (s + n) := IntWalk.i64_in _ (by omega)
  have e3 : IntKind.i64.wrap (1000 - q) = 1000 - q := IntWalk.i64_in _ (by omega)
  have d1 : IntKind.i64.wrap ((1000 * (s + n)).tdiv (s + d)) = q := by rw [← Hq.out]; exact quo_in _ _ (by omega) (by omega) (by omega)
  rw [Hq.out] at hq
  obtain ⟨x, Hx⟩ : ∃ x, Hid (bestHe s (s + d) n = x) := ⟨_, rfl⟩
  have ex : 1000 - q = x := by rw [← Hx.out]; unfold bestHe; rw [Hq.out, if_pos hq]
  have x1 : 0 ≤ x := by omega
  have x2 : x ≤ 1000 := by omega
  have x0 : 0 < x := by omega
  have e4 : IntKind.i64.wrap x = x := IntWalk.i64_in _ (by omega)
  rw [Hx.out, Hr.out] at hr
  have HY : Hid (bestOx s (s + d) n b = r) := by unfold bestOx Hid; rw [Hx.out, Hr.out]; rw [if_pos hr]
  have HA : Hid (metB (r) x s a b n (s + d) = true) := by have := HM.out; rw [Hx.out, HY.out] at this; exact this
  have y3 : (0 : Int) ≤ r := by omega
  have y4 : (r : Int) ≤ 1000 := by omega
  rw [HY.out, Hx.out]
  have d2 : 1000 * (s + n) / (s + d) = q := Hq.out
  have d3 : 1000 * b / (s + d) = r := Hr.out
  have d0 : ¬ s + d = 0 := by omega
  have d4 : 1 ≤ s + d := by omega
  clear HM
  go_enter Tryd.func14, Tryd.ntmps14
  go_wp2_with (first | (go_at_call 29; ((with_reducible refine (checkAim_any _ _ _ _ _ _).mono ?_)); rintro e w' ⟨rfl, rfl⟩) | (go_at_call 30; ((with_reducible refine (withPressure_any _ _ _ _ _ _ k1 k2 k9 k10).mono ?_)); rintro e w' ⟨rfl, rfl⟩))
  go_region_held3 (fun w' => w'.cell? ⟨w.heap.size + 1 + 1 + 1 + 1 + 1 + 1 + 1 + 1, 0, none⟩ = some (.int .i64 s) ∧ w'.cell? ⟨w.heap.size + 1 + 1 + 1 + 1 + 1 + 1 + 1 + 1, 1, none⟩ = some (.int .i64 d) ∧ w'.cell? ⟨w.heap.size + 1 + 1 + 1 + 1 + 1 + 1 + 1 + 1, 2, none⟩ = some (.int .i64 a) ∧ w'.cell? ⟨w.heap.size + 1 + 1 + 1 + 1 + 1 + 1 + 1 + 1, 3, none⟩ = some (.int .i64 b) ∧ w'.cell? ⟨w.heap.size + 1 + 1 + 1 + 1 + 1 + 1 + 1 + 1, 4, none⟩ = some (.int .i64 n) ∧ w'.cell? ⟨w.heap.size + 1 + 1 + 1 + 1 + 1 + 1 + 1 + 1, 5, none⟩ = some (.int .i64 (s + d))) (simp [go_sem, World.cell?_alloc_past])
    (first
      | (go_at_call 31; ((with_reducible refine (narcoticPressure_any _ _ _ _ _ _ _ k1 k2 k3 k4).mono ?_)); rintro e w' ⟨rfl, rfl⟩))
  all_goals try (exfalso; rename_i hz; rw [e0, d1, e3] at hz; omega)
  go_wp2_with ((go_at_call 32; ((with_reducible refine (metBy_m _ _ _ _ _ _ _ _ _ k1 k2 k3 k4 k5 k6 k7 k8 y3 y4 x1 x2 (by omega) (by omega) _ HA.out).mono ?_)); rintro e w1 ⟨rfl, hbw⟩; obtain ⟨hbc, hbf⟩ := bcell hbw; have hbs := hbw.size))
  have c0 : w1.cell? ⟨w.heap.size + 1, 0, none⟩ = some (.int .i64 0) := by rw [hbc _ _ (by simp; try omega)]; simp [go_sem, World.cell?_alloc_past]
  have c1 : w1.cell? ⟨w.heap.size + 1, 1, none⟩ = some (.int .i64 0) := by rw [hbc _ _ (by simp; try omega)]; simp [go_sem, World.cell?_alloc_past]
  refine bodyPost_ret (v := .tuple #[.agg #[.int .i64 (r), .int .i64 x], .int .i64 0]) (by simp [results, Tryd.results14, go_sem, c0, c1]) rfl ⟨rfl, ?_⟩
  (repeat (first | (with_reducible refine Below.drew ?_) | (with_reducible refine below_drewN ?_ _) | (with_reducible refine Below.alloc ?_ (by first | omega | (simp; done) | (simp; omega) | (simp at *; omega)) _) | (with_reducible refine Below.setCell ?_ (by first | omega | (simp; done) | (simp; omega) | (simp at *; omega)) _) | (with_reducible exact Below.refl _ _) | (with_reducible assumption) | (with_reducible refine Below.trans ?_ (Below.mono (by assumption) (by first | omega | (simp; done) | (simp; omega) | (simp at *; omega))))))
set_option maxHeartbeats 1000000 in
theorem BestGas_PAf (s d a b n : Int) (w : World) (hb : (aimE s d a b n != 0) = false) (k1 : 400 ≤ s) (k2 : s ≤ 1100) (k3 : 0 ≤ n) (k4 : n ≤ 30000) (k5 : 1 ≤ a) (k6 : a ≤ 4000) (k7 : 1 ≤ b) (k8 : b ≤ 4000) (k9 : 0 ≤ d) (k10 : d ≤ 30000) (hq : 1000 * (s + n) / (s + d) < 1000) (hr : 1000 * b / (s + d) ≤ 1000 - bestHe s (s + d) n) (HM : Hid (metB (bestOx s (s + d) n b) (bestHe s (s + d) n) s a b n (s + d) = false)) :
    Calls Tryd.prog 14 #[.agg #[.int .i64 s, .int .i64 d, .int .i64 a, .int .i64 b, .int .i64 n]] w fun e w' => e = .returned (.tuple #[.agg #[.int .i64 0, .int .i64 0], .int .i64 12]) ∧ Below w.heap.size w w' := by
  obtain ⟨q, Hq⟩ : ∃ q, Hid (1000 * (s + n) / (s + d) = q) := ⟨_, rfl⟩
  obtain ⟨r, Hr⟩ : ∃ r, Hid (1000 * b / (s + d) = r) := ⟨_, rfl⟩
  have q1 : 0 ≤ q := by rw [← Hq.out]; exact Int.ediv_nonneg (by omega) (by omega)
  have q2 : q ≤ 1000 * (s + n) := by rw [← Hq.out]; exact Int.ediv_le_self _ (by omega)
  have r1 : 0 ≤ r := by rw [← Hr.out]; exact Int.ediv_nonneg (by omega) (by omega)
  have r2 : r ≤ 1000 * b := by rw [← Hr.out]; exact Int.ediv_le_self _ (by omega)
  have e0 : IntKind.i64.wrap (1000 * (s + n)) = 1000 * (s + n) := IntWalk.i64_in _ (by omega)
  have e3 : IntKind.i64.wrap (1000 - q) = 1000 - q := IntWalk.i64_in _ (by omega)
  have d1 : IntKind.i64.wrap ((1000 * (s + n)).tdiv (s + d)) = q := by rw [← Hq.out]; exact quo_in _ _ (by omega) (by omega) (by omega)
  rw [Hq.out] at hq
  obtain ⟨x, Hx⟩ : ∃ x, Hid (bestHe s (s + d) n = x) := ⟨_, rfl⟩
  have ex : 1000 - q = x := by rw [← Hx.out]; unfold bestHe; rw [Hq.out, if_pos hq]
  have x1 : 0 ≤ x := by omega
  have x2 : x ≤ 1000 := by omega
  have x0 : 0 < x := by omega
  have e4 : IntKind.i64.wrap x = x := IntWalk.i64_in _ (by omega)
  rw [Hx.out, Hr.out] at hr
  have HY : Hid (bestOx s (s + d) n b = r) := by unfold bestOx Hid; rw [Hx.out, Hr.out]; rw [if_pos hr]
  have HA : Hid (metB (r) x s a b n (s + d) = false) := by have := HM.out; rw [Hx.out, HY.out] at this; exact this
  have y3 : (0 : Int) ≤ r := by omega
  have y4 : (r : Int) ≤ 1000 := by omega
  skip
  have d2 : 1000 * (s + n) / (s + d) = q := Hq.out
  have d3 : 1000 * b / (s + d) = r := Hr.out
  have d0 : ¬ s + d = 0 := by omega
  have d4 : 1 ≤ s + d := by omega
  clear HM
  go_enter Tryd.func14, Tryd.ntmps14
  go_wp2_with (first | (go_at_call 29; ((with_reducible refine (checkAim_any _ _ _ _ _ _).mono ?_)); rintro e w' ⟨rfl, rfl⟩) | (go_at_call 30; ((with_reducible refine (withPressure_any _ _ _ _ _ _ k1 k2 k9 k10).mono ?_)); rintro e w' ⟨rfl, rfl⟩))
  go_region_held3 (fun w' => w'.cell? ⟨w.heap.size + 1 + 1 + 1 + 1 + 1 + 1 + 1 + 1, 0, none⟩ = some (.int .i64 s) ∧ w'.cell? ⟨w.heap.size + 1 + 1 + 1 + 1 + 1 + 1 + 1 + 1, 1, none⟩ = some (.int .i64 d) ∧ w'.cell? ⟨w.heap.size + 1 + 1 + 1 + 1 + 1 + 1 + 1 + 1, 2, none⟩ = some (.int .i64 a) ∧ w'.cell? ⟨w.heap.size + 1 + 1 + 1 + 1 + 1 + 1 + 1 + 1, 3, none⟩ = some (.int .i64 b) ∧ w'.cell? ⟨w.heap.size + 1 + 1 + 1 + 1 + 1 + 1 + 1 + 1, 4, none⟩ = some (.int .i64 n) ∧ w'.cell? ⟨w.heap.size + 1 + 1 + 1 + 1 + 1 + 1 + 1 + 1, 5, none⟩ = some (.int .i64 (s + d))) (simp [go_sem, World.cell?_alloc_past])
    (first
      | (go_at_call 31; ((with_reducible refine (narcoticPressure_any _ _ _ _ _ _ _ k1 k2 k3 k4).mono ?_)); rintro e w' ⟨rfl, rfl⟩))
  all_goals try (exfalso; rename_i hz; rw [e0, d1, e3] at hz; omega)
  go_wp2_with ((go_at_call 32; ((with_reducible refine (metBy_m _ _ _ _ _ _ _ _ _ k1 k2 k3 k4 k5 k6 k7 k8 y3 y4 x1 x2 (by omega) (by omega) _ HA.out).mono ?_)); rintro e w1 ⟨rfl, hbw⟩; obtain ⟨hbc, hbf⟩ := bcell hbw; have hbs := hbw.size))
  have c0 : w1.cell? ⟨w.heap.size + 1, 0, none⟩ = some (.int .i64 0) := by rw [hbc _ _ (by simp; try omega)]; simp [go_sem, World.cell?_alloc_past]
  have c1 : w1.cell? ⟨w.heap.size + 1, 1, none⟩ = some (.int .i64 0) := by rw [hbc _ _ (by simp; try omega)]; simp [go_sem, World.cell?_alloc_past]
  refine bodyPost_ret (v := .tuple #[.agg #[.int .i64 0, .int .i64 0], .int .i64 12]) (by simp [results, Tryd.results14, go_sem, c0, c1]) rfl ⟨rfl, ?_⟩
  (repeat (first | (with_reducible refine Below.drew ?_) | (with_reducible refine below_drewN ?_ _) | (with_reducible refine Below.alloc ?_ (by first | omega | (simp; done) | (simp; omega) | (simp at *; omega)) _) | (with_reducible refine Below.setCell ?_ (by first | omega | (simp; done) | (simp; omega) | (simp at *; omega)) _) | (with_reducible exact Below.refl _ _) | (with_reducible assumption) | (with_reducible refine Below.trans ?_ (Below.mono (by assumption) (by first | omega | (simp; done) | (simp; omega) | (simp at *; omega))))))
set_option maxHeartbeats 1000000 in
theorem BestGas_PBt (s d a b n : Int) (w : World) (hb : (aimE s d a b n != 0) = false) (k1 : 400 ≤ s) (k2 : s ≤ 1100) (k3 : 0 ≤ n) (k4 : n ≤ 30000) (k5 : 1 ≤ a) (k6 : a ≤ 4000) (k7 : 1 ≤ b) (k8 : b ≤ 4000) (k9 : 0 ≤ d) (k10 : d ≤ 30000) (hq : 1000 * (s + n) / (s + d) < 1000) (hr : ¬ 1000 * b / (s + d) ≤ 1000 - bestHe s (s + d) n) (HM : Hid (metB (bestOx s (s + d) n b) (bestHe s (s + d) n) s a b n (s + d) = true)) :
    Calls Tryd.prog 14 #[.agg #[.int .i64 s, .int .i64 d, .int .i64 a, .int .i64 b, .int .i64 n]] w fun e w' => e = .returned (.tuple #[.agg #[.int .i64 (bestOx s (s + d) n b), .int .i64 (bestHe s (s + d) n)], .int .i64 0]) ∧ Below w.heap.size w w' := by
  obtain ⟨q, Hq⟩ : ∃ q, Hid (1000 * (s + n) / (s + d) = q) := ⟨_, rfl⟩
  obtain ⟨r, Hr⟩ : ∃ r, Hid (1000 * b / (s + d) = r) := ⟨_, rfl⟩
  have q1 : 0 ≤ q := by rw [← Hq.out]; exact Int.ediv_nonneg (by omega) (by omega)
  have q2 : q ≤ 1000 * (s + n) := by rw [← Hq.out]; exact Int.ediv_le_self _ (by omega)
  have r1 : 0 ≤ r := by rw [← Hr.out]; exact Int.ediv_nonneg (by omega) (by omega)
  have r2 : r ≤ 1000 * b := by rw [← Hr.out]; exact Int.ediv_le_self _ (by omega)
  have e0 : IntKind.i64.wrap (1000 * (s + n)) = 1000 * (s + n) := IntWalk.i64_in _ (by omega)
  have e3 : IntKind.i64.wrap (1000 - q) = 1000 - q := IntWalk.i64_in _ (by omega)
  have d1 : IntKind.i64.wrap ((1000 * (s + n)).tdiv (s + d)) = q := by rw [← Hq.out]; exact quo_in _ _ (by omega) (by omega) (by omega)
  rw [Hq.out] at hq
  obtain ⟨x, Hx⟩ : ∃ x, Hid (bestHe s (s + d) n = x) := ⟨_, rfl⟩
  have ex : 1000 - q = x := by rw [← Hx.out]; unfold bestHe; rw [Hq.out, if_pos hq]
  have x1 : 0 ≤ x := by omega
  have x2 : x ≤ 1000 := by omega
  have x0 : 0 < x := by omega
  have e4 : IntKind.i64.wrap x = x := IntWalk.i64_in _ (by omega)
  rw [Hx.out, Hr.out] at hr
  have HY : Hid (bestOx s (s + d) n b = 1000 - x) := by unfold bestOx Hid; rw [Hx.out, Hr.out]; rw [if_neg hr]
  have HA : Hid (metB (1000 - x) x s a b n (s + d) = true) := by have := HM.out; rw [Hx.out, HY.out] at this; exact this
  have y3 : (0 : Int) ≤ 1000 - x := by omega
  have y4 : (1000 - x : Int) ≤ 1000 := by omega
  rw [HY.out, Hx.out]
  have d2 : 1000 * (s + n) / (s + d) = q := Hq.out
  have d3 : 1000 * b / (s + d) = r := Hr.out
  have d0 : ¬ s + d = 0 := by omega
  have d4 : 1 ≤ s + d := by omega
  clear HM
  go_enter Tryd.func14, Tryd.ntmps14
  go_wp2_with (first | (go_at_call 29; ((with_reducible refine (checkAim_any _ _ _ _ _ _).mono ?_)); rintro e w' ⟨rfl, rfl⟩) | (go_at_call 30; ((with_reducible refine (withPressure_any _ _ _ _ _ _ k1 k2 k9 k10).mono ?_)); rintro e w' ⟨rfl, rfl⟩))
  go_region_held3 (fun w' => w'.cell? ⟨w.heap.size + 1 + 1 + 1 + 1 + 1 + 1 + 1 + 1, 0, none⟩ = some (.int .i64 s) ∧ w'.cell? ⟨w.heap.size + 1 + 1 + 1 + 1 + 1 + 1 + 1 + 1, 1, none⟩ = some (.int .i64 d) ∧ w'.cell? ⟨w.heap.size + 1 + 1 + 1 + 1 + 1 + 1 + 1 + 1, 2, none⟩ = some (.int .i64 a) ∧ w'.cell? ⟨w.heap.size + 1 + 1 + 1 + 1 + 1 + 1 + 1 + 1, 3, none⟩ = some (.int .i64 b) ∧ w'.cell? ⟨w.heap.size + 1 + 1 + 1 + 1 + 1 + 1 + 1 + 1, 4, none⟩ = some (.int .i64 n) ∧ w'.cell? ⟨w.heap.size + 1 + 1 + 1 + 1 + 1 + 1 + 1 + 1, 5, none⟩ = some (.int .i64 (s + d))) (simp [go_sem, World.cell?_alloc_past])
    (first
      | (go_at_call 31; ((with_reducible refine (narcoticPressure_any _ _ _ _ _ _ _ k1 k2 k3 k4).mono ?_)); rintro e w' ⟨rfl, rfl⟩))
  all_goals try (exfalso; rename_i hz; rw [e0, d1, e3] at hz; omega)
  go_wp2_with ((go_at_call 32; ((with_reducible refine (metBy_m _ _ _ _ _ _ _ _ _ k1 k2 k3 k4 k5 k6 k7 k8 y3 y4 x1 x2 (by omega) (by omega) _ HA.out).mono ?_)); rintro e w1 ⟨rfl, hbw⟩; obtain ⟨hbc, hbf⟩ := bcell hbw; have hbs := hbw.size))
  have c0 : w1.cell? ⟨w.heap.size + 1, 0, none⟩ = some (.int .i64 0) := by rw [hbc _ _ (by simp; try omega)]; simp [go_sem, World.cell?_alloc_past]
  have c1 : w1.cell? ⟨w.heap.size + 1, 1, none⟩ = some (.int .i64 0) := by rw [hbc _ _ (by simp; try omega)]; simp [go_sem, World.cell?_alloc_past]
  refine bodyPost_ret (v := .tuple #[.agg #[.int .i64 (1000 - x), .int .i64 x], .int .i64 0]) (by simp [results, Tryd.results14, go_sem, c0, c1]) rfl ⟨rfl, ?_⟩
  (repeat (first | (with_reducible refine Below.drew ?_) | (with_reducible refine below_drewN ?_ _) | (with_reducible refine Below.alloc ?_ (by first | omega | (simp; done) | (simp; omega) | (simp at *; omega)) _) | (with_reducible refine Below.setCell ?_ (by first | omega | (simp; done) | (simp; omega) | (simp at *; omega)) _) | (with_reducible exact Below.refl _ _) | (with_reducible assumption) | (with_reducible refine Below.trans ?_ (Below.mono (by assumption) (by first | omega | (simp; done) | (simp; omega) | (simp at *; omega))))))
set_option maxHeartbeats 1000000 in
theorem BestGas_PBf (s d a b n : Int) (w : World) (hb : (aimE s d a b n != 0) = false) (k1 : 400 ≤ s) (k2 : s ≤ 1100) (k3 : 0 ≤ n) (k4 : n ≤ 30000) (k5 : 1 ≤ a) (k6 : a ≤ 4000) (k7 : 1 ≤ b) (k8 : b ≤ 4000) (k9 : 0 ≤ d) (k10 : d ≤ 30000) (hq : 1000 * (s + n) / (s + d) < 1000) (hr : ¬ 1000 * b / (s + d) ≤ 1000 - bestHe s (s + d) n) (HM : Hid (metB (bestOx s (s + d) n b) (bestHe s (s + d) n) s a b n (s + d) = false)) :
    Calls Tryd.prog 14 #[.agg #[.int .i64 s, .int .i64 d, .int .i64 a, .int .i64 b, .int .i64 n]] w fun e w' => e = .returned (.tuple #[.agg #[.int .i64 0, .int .i64 0], .int .i64 12]) ∧ Below w.heap.size w w' := by
  obtain ⟨q, Hq⟩ : ∃ q, Hid (1000 * (s + n) / (s + d) = q) := ⟨_, rfl⟩
  obtain ⟨r, Hr⟩ : ∃ r, Hid (1000 * b / (s + d) = r) := ⟨_, rfl⟩
  have q1 : 0 ≤ q := by rw [← Hq.out]; exact Int.ediv_nonneg (by omega) (by omega)
  have q2 : q ≤ 1000 * (s + n) := by rw [← Hq.out]; exact Int.ediv_le_self _ (by omega)
  have r1 : 0 ≤ r := by rw [← Hr.out]; exact Int.ediv_nonneg (by omega) (by omega)
  have r2 : r ≤ 1000 * b := by rw [← Hr.out]; exact Int.ediv_le_self _ (by omega)
  have e0 : IntKind.i64.wrap (1000 * (s + n)) = 1000 * (s + n) := IntWalk.i64_in _ (by omega)
  have e3 : IntKind.i64.wrap (1000 - q) = 1000 - q := IntWalk.i64_in _ (by omega)
  have d1 : IntKind.i64.wrap ((1000 * (s + n)).tdiv (s + d)) = q := by rw [← Hq.out]; exact quo_in _ _ (by omega) (by omega) (by omega)
  rw [Hq.out] at hq
  obtain ⟨x, Hx⟩ : ∃ x, Hid (bestHe s (s + d) n = x) := ⟨_, rfl⟩
  have ex : 1000 - q = x := by rw [← Hx.out]; unfold bestHe; rw [Hq.out, if_pos hq]
  have x1 : 0 ≤ x := by omega
  have x2 : x ≤ 1000 := by omega
  have x0 : 0 < x := by omega
  have e4 : IntKind.i64.wrap x = x := IntWalk.i64_in _ (by omega)
  rw [Hx.out, Hr.out] at hr
  have HY : Hid (bestOx s (s + d) n b = 1000 - x) := by unfold bestOx Hid; rw [Hx.out, Hr.out]; rw [if_neg hr]
  have HA : Hid (metB (1000 - x) x s a b n (s + d) = false) := by have := HM.out; rw [Hx.out, HY.out] at this; exact this
  have y3 : (0 : Int) ≤ 1000 - x := by omega
  have y4 : (1000 - x : Int) ≤ 1000 := by omega
  skip
  have d2 : 1000 * (s + n) / (s + d) = q := Hq.out
  have d3 : 1000 * b / (s + d) = r := Hr.out
  have d0 : ¬ s + d = 0 := by omega
  have d4 : 1 ≤ s + d := by omega
  clear HM
  go_enter Tryd.func14, Tryd.ntmps14
  go_wp2_with (first | (go_at_call 29; ((with_reducible refine (checkAim_any _ _ _ _ _ _).mono ?_)); rintro e w' ⟨rfl, rfl⟩) | (go_at_call 30; ((with_reducible refine (withPressure_any _ _ _ _ _ _ k1 k2 k9 k10).mono ?_)); rintro e w' ⟨rfl, rfl⟩))
  go_region_held3 (fun w' => w'.cell? ⟨w.heap.size + 1 + 1 + 1 + 1 + 1 + 1 + 1 + 1, 0, none⟩ = some (.int .i64 s) ∧ w'.cell? ⟨w.heap.size + 1 + 1 + 1 + 1 + 1 + 1 + 1 + 1, 1, none⟩ = some (.int .i64 d) ∧ w'.cell? ⟨w.heap.size + 1 + 1 + 1 + 1 + 1 + 1 + 1 + 1, 2, none⟩ = some (.int .i64 a) ∧ w'.cell? ⟨w.heap.size + 1 + 1 + 1 + 1 + 1 + 1 + 1 + 1, 3, none⟩ = some (.int .i64 b) ∧ w'.cell? ⟨w.heap.size + 1 + 1 + 1 + 1 + 1 + 1 + 1 + 1, 4, none⟩ = some (.int .i64 n) ∧ w'.cell? ⟨w.heap.size + 1 + 1 + 1 + 1 + 1 + 1 + 1 + 1, 5, none⟩ = some (.int .i64 (s + d))) (simp [go_sem, World.cell?_alloc_past])
    (first
      | (go_at_call 31; ((with_reducible refine (narcoticPressure_any _ _ _ _ _ _ _ k1 k2 k3 k4).mono ?_)); rintro e w' ⟨rfl, rfl⟩))
  all_goals try (exfalso; rename_i hz; rw [e0, d1, e3] at hz; omega)
  go_wp2_with ((go_at_call 32; ((with_reducible refine (metBy_m _ _ _ _ _ _ _ _ _ k1 k2 k3 k4 k5 k6 k7 k8 y3 y4 x1 x2 (by omega) (by omega) _ HA.out).mono ?_)); rintro e w1 ⟨rfl, hbw⟩; obtain ⟨hbc, hbf⟩ := bcell hbw; have hbs := hbw.size))
  have c0 : w1.cell? ⟨w.heap.size + 1, 0, none⟩ = some (.int .i64 0) := by rw [hbc _ _ (by simp; try omega)]; simp [go_sem, World.cell?_alloc_past]
  have c1 : w1.cell? ⟨w.heap.size + 1, 1, none⟩ = some (.int .i64 0) := by rw [hbc _ _ (by simp; try omega)]; simp [go_sem, World.cell?_alloc_past]
  refine bodyPost_ret (v := .tuple #[.agg #[.int .i64 0, .int .i64 0], .int .i64 12]) (by simp [results, Tryd.results14, go_sem, c0, c1]) rfl ⟨rfl, ?_⟩
  (repeat (first | (with_reducible refine Below.drew ?_) | (with_reducible refine below_drewN ?_ _) | (with_reducible refine Below.alloc ?_ (by first | omega | (simp; done) | (simp; omega) | (simp at *; omega)) _) | (with_reducible refine Below.setCell ?_ (by first | omega | (simp; done) | (simp; omega) | (simp at *; omega)) _) | (with_reducible exact Below.refl _ _) | (with_reducible assumption) | (with_reducible refine Below.trans ?_ (Below.mono (by assumption) (by first | omega | (simp; done) | (simp; omega) | (simp at *; omega))))))
set_option maxHeartbeats 1000000 in
theorem BestGas_ZAt (s d a b n : Int) (w : World) (hb : (aimE s d a b n != 0) = false) (k1 : 400 ≤ s) (k2 : s ≤ 1100) (k3 : 0 ≤ n) (k4 : n ≤ 30000) (k5 : 1 ≤ a) (k6 : a ≤ 4000) (k7 : 1 ≤ b) (k8 : b ≤ 4000) (k9 : 0 ≤ d) (k10 : d ≤ 30000) (hq : ¬ 1000 * (s + n) / (s + d) < 1000) (hr : 1000 * b / (s + d) ≤ 1000 - bestHe s (s + d) n) (HM : Hid (metB (bestOx s (s + d) n b) (bestHe s (s + d) n) s a b n (s + d) = true)) :
    Calls Tryd.prog 14 #[.agg #[.int .i64 s, .int .i64 d, .int .i64 a, .int .i64 b, .int .i64 n]] w fun e w' => e = .returned (.tuple #[.agg #[.int .i64 (bestOx s (s + d) n b), .int .i64 (bestHe s (s + d) n)], .int .i64 0]) ∧ Below w.heap.size w w' := by
  obtain ⟨q, Hq⟩ : ∃ q, Hid (1000 * (s + n) / (s + d) = q) := ⟨_, rfl⟩
  obtain ⟨r, Hr⟩ : ∃ r, Hid (1000 * b / (s + d) = r) := ⟨_, rfl⟩
  have q1 : 0 ≤ q := by rw [← Hq.out]; exact Int.ediv_nonneg (by omega) (by omega)
  have q2 : q ≤ 1000 * (s + n) := by rw [← Hq.out]; exact Int.ediv_le_self _ (by omega)
  have r1 : 0 ≤ r := by rw [← Hr.out]; exact Int.ediv_nonneg (by omega) (by omega)
  have r2 : r ≤ 1000 * b := by rw [← Hr.out]; exact Int.ediv_le_self _ (by omega)
  have e0 : IntKind.i64.wrap (1000 * (s + n)) = 1000 * (s + n) := IntWalk.i64_in _ (by omega)
  have e3 : IntKind.i64.wrap (1000 - q) = 1000 - q := IntWalk.i64_in _ (by omega)
  have d1 : IntKind.i64.wrap ((1000 * (s + n)).tdiv (s + d)) = q := by rw [← Hq.out]; exact quo_in _ _ (by omega) (by omega) (by omega)
  rw [Hq.out] at hq
  have Hx : Hid (bestHe s (s + d) n = 0) := by unfold bestHe Hid; rw [Hq.out, if_neg hq]
  have x1 : (0 : Int) ≤ 0 := by omega
  have x3 : 1000 ≤ q := by omega
  have x2 : (0 : Int) ≤ 1000 := by omega
  rw [Hx.out, Hr.out] at hr
  have HY : Hid (bestOx s (s + d) n b = r) := by unfold bestOx Hid; rw [Hx.out, Hr.out]; rw [if_pos hr]
  have HA : Hid (metB (r) 0 s a b n (s + d) = true) := by have := HM.out; rw [Hx.out, HY.out] at this; exact this
  have y3 : (0 : Int) ≤ r := by omega
  have y4 : (r : Int) ≤ 1000 := by omega
  rw [HY.out, Hx.out]
  have d2 : 1000 * (s + n) / (s + d) = q := Hq.out
  have d3 : 1000 * b / (s + d) = r := Hr.out
  have d0 : ¬ s + d = 0 := by omega
  have d4 : 1 ≤ s + d := by omega
  clear HM
  go_enter Tryd.func14, Tryd.ntmps14
  go_wp2_with (first | (go_at_call 29; ((with_reducible refine (checkAim_any _ _ _ _ _ _).mono ?_)); rintro e w' ⟨rfl, rfl⟩) | (go_at_call 30; ((with_reducible refine (withPressure_any _ _ _ _ _ _ k1 k2 k9 k10).mono ?_)); rintro e w' ⟨rfl, rfl⟩))
  go_region_held3 (fun w' => w'.cell? ⟨w.heap.size + 1 + 1 + 1 + 1 + 1 + 1 + 1 + 1, 0, none⟩ = some (.int .i64 s) ∧ w'.cell? ⟨w.heap.size + 1 + 1 + 1 + 1 + 1 + 1 + 1 + 1, 1, none⟩ = some (.int .i64 d) ∧ w'.cell? ⟨w.heap.size + 1 + 1 + 1 + 1 + 1 + 1 + 1 + 1, 2, none⟩ = some (.int .i64 a) ∧ w'.cell? ⟨w.heap.size + 1 + 1 + 1 + 1 + 1 + 1 + 1 + 1, 3, none⟩ = some (.int .i64 b) ∧ w'.cell? ⟨w.heap.size + 1 + 1 + 1 + 1 + 1 + 1 + 1 + 1, 4, none⟩ = some (.int .i64 n) ∧ w'.cell? ⟨w.heap.size + 1 + 1 + 1 + 1 + 1 + 1 + 1 + 1, 5, none⟩ = some (.int .i64 (s + d))) (simp [go_sem, World.cell?_alloc_past])
    (first
      | (go_at_call 31; ((with_reducible refine (narcoticPressure_any _ _ _ _ _ _ _ k1 k2 k3 k4).mono ?_)); rintro e w' ⟨rfl, rfl⟩))
  all_goals try (exfalso; rename_i hz; rw [e0, d1, e3] at hz; omega)
  go_wp2_with ((go_at_call 32; ((with_reducible refine (metBy_m _ _ _ _ _ _ _ _ _ k1 k2 k3 k4 k5 k6 k7 k8 y3 y4 x1 x2 (by omega) (by omega) _ HA.out).mono ?_)); rintro e w1 ⟨rfl, hbw⟩; obtain ⟨hbc, hbf⟩ := bcell hbw; have hbs := hbw.size))
  have c0 : w1.cell? ⟨w.heap.size + 1, 0, none⟩ = some (.int .i64 0) := by rw [hbc _ _ (by simp; try omega)]; simp [go_sem, World.cell?_alloc_past]
  have c1 : w1.cell? ⟨w.heap.size + 1, 1, none⟩ = some (.int .i64 0) := by rw [hbc _ _ (by simp; try omega)]; simp [go_sem, World.cell?_alloc_past]
  refine bodyPost_ret (v := .tuple #[.agg #[.int .i64 (r), .int .i64 0], .int .i64 0]) (by simp [results, Tryd.results14, go_sem, c0, c1]) rfl ⟨rfl, ?_⟩
  (repeat (first | (with_reducible refine Below.drew ?_) | (with_reducible refine below_drewN ?_ _) | (with_reducible refine Below.alloc ?_ (by first | omega | (simp; done) | (simp; omega) | (simp at *; omega)) _) | (with_reducible refine Below.setCell ?_ (by first | omega | (simp; done) | (simp; omega) | (simp at *; omega)) _) | (with_reducible exact Below.refl _ _) | (with_reducible assumption) | (with_reducible refine Below.trans ?_ (Below.mono (by assumption) (by first | omega | (simp; done) | (simp; omega) | (simp at *; omega))))))
set_option maxHeartbeats 1000000 in
theorem BestGas_ZAf (s d a b n : Int) (w : World) (hb : (aimE s d a b n != 0) = false) (k1 : 400 ≤ s) (k2 : s ≤ 1100) (k3 : 0 ≤ n) (k4 : n ≤ 30000) (k5 : 1 ≤ a) (k6 : a ≤ 4000) (k7 : 1 ≤ b) (k8 : b ≤ 4000) (k9 : 0 ≤ d) (k10 : d ≤ 30000) (hq : ¬ 1000 * (s + n) / (s + d) < 1000) (hr : 1000 * b / (s + d) ≤ 1000 - bestHe s (s + d) n) (HM : Hid (metB (bestOx s (s + d) n b) (bestHe s (s + d) n) s a b n (s + d) = false)) :
    Calls Tryd.prog 14 #[.agg #[.int .i64 s, .int .i64 d, .int .i64 a, .int .i64 b, .int .i64 n]] w fun e w' => e = .returned (.tuple #[.agg #[.int .i64 0, .int .i64 0], .int .i64 12]) ∧ Below w.heap.size w w' := by
  obtain ⟨q, Hq⟩ : ∃ q, Hid (1000 * (s + n) / (s + d) = q) := ⟨_, rfl⟩
  obtain ⟨r, Hr⟩ : ∃ r, Hid (1000 * b / (s + d) = r) := ⟨_, rfl⟩
  have q1 : 0 ≤ q := by rw [← Hq.out]; exact Int.ediv_nonneg (by omega) (by omega)
  have q2 : q ≤ 1000 * (s + n) := by rw [← Hq.out]; exact Int.ediv_le_self _ (by omega)
  have r1 : 0 ≤ r := by rw [← Hr.out]; exact Int.ediv_nonneg (by omega) (by omega)
  have r2 : r ≤ 1000 * b := by rw [← Hr.out]; exact Int.ediv_le_self _ (by omega)
  have e0 : IntKind.i64.wrap (1000 * (s + n)) = 1000 * (s + n) := IntWalk.i64_in _ (by omega)
  have e3 : IntKind.i64.wrap (1000 - q) = 1000 - q := IntWalk.i64_in _ (by omega)
  have d1 : IntKind.i64.wrap ((1000 * (s + n)).tdiv (s + d)) = q := by rw [← Hq.out]; exact quo_in _ _ (by omega) (by omega) (by omega)
  rw [Hq.out] at hq
  have Hx : Hid (bestHe s (s + d) n = 0) := by unfold bestHe Hid; rw [Hq.out, if_neg hq]
  have x1 : (0 : Int) ≤ 0 := by omega
  have x3 : 1000 ≤ q := by omega
  have x2 : (0 : Int) ≤ 1000 := by omega
  rw [Hx.out, Hr.out] at hr
  have HY : Hid (bestOx s (s + d) n b = r) := by unfold bestOx Hid; rw [Hx.out, Hr.out]; rw [if_pos hr]
  have HA : Hid (metB (r) 0 s a b n (s + d) = false) := by have := HM.out; rw [Hx.out, HY.out] at this; exact this
  have y3 : (0 : Int) ≤ r := by omega
  have y4 : (r : Int) ≤ 1000 := by omega
  skip
  have d2 : 1000 * (s + n) / (s + d) = q := Hq.out
  have d3 : 1000 * b / (s + d) = r := Hr.out
  have d0 : ¬ s + d = 0 := by omega
  have d4 : 1 ≤ s + d := by omega
  clear HM
  go_enter Tryd.func14, Tryd.ntmps14
  go_wp2_with (first | (go_at_call 29; ((with_reducible refine (checkAim_any _ _ _ _ _ _).mono ?_)); rintro e w' ⟨rfl, rfl⟩) | (go_at_call 30; ((with_reducible refine (withPressure_any _ _ _ _ _ _ k1 k2 k9 k10).mono ?_)); rintro e w' ⟨rfl, rfl⟩))
  go_region_held3 (fun w' => w'.cell? ⟨w.heap.size + 1 + 1 + 1 + 1 + 1 + 1 + 1 + 1, 0, none⟩ = some (.int .i64 s) ∧ w'.cell? ⟨w.heap.size + 1 + 1 + 1 + 1 + 1 + 1 + 1 + 1, 1, none⟩ = some (.int .i64 d) ∧ w'.cell? ⟨w.heap.size + 1 + 1 + 1 + 1 + 1 + 1 + 1 + 1, 2, none⟩ = some (.int .i64 a) ∧ w'.cell? ⟨w.heap.size + 1 + 1 + 1 + 1 + 1 + 1 + 1 + 1, 3, none⟩ = some (.int .i64 b) ∧ w'.cell? ⟨w.heap.size + 1 + 1 + 1 + 1 + 1 + 1 + 1 + 1, 4, none⟩ = some (.int .i64 n) ∧ w'.cell? ⟨w.heap.size + 1 + 1 + 1 + 1 + 1 + 1 + 1 + 1, 5, none⟩ = some (.int .i64 (s + d))) (simp [go_sem, World.cell?_alloc_past])
    (first
      | (go_at_call 31; ((with_reducible refine (narcoticPressure_any _ _ _ _ _ _ _ k1 k2 k3 k4).mono ?_)); rintro e w' ⟨rfl, rfl⟩))
  all_goals try (exfalso; rename_i hz; rw [e0, d1, e3] at hz; omega)
  go_wp2_with ((go_at_call 32; ((with_reducible refine (metBy_m _ _ _ _ _ _ _ _ _ k1 k2 k3 k4 k5 k6 k7 k8 y3 y4 x1 x2 (by omega) (by omega) _ HA.out).mono ?_)); rintro e w1 ⟨rfl, hbw⟩; obtain ⟨hbc, hbf⟩ := bcell hbw; have hbs := hbw.size))
  have c0 : w1.cell? ⟨w.heap.size + 1, 0, none⟩ = some (.int .i64 0) := by rw [hbc _ _ (by simp; try omega)]; simp [go_sem, World.cell?_alloc_past]
  have c1 : w1.cell? ⟨w.heap.size + 1, 1, none⟩ = some (.int .i64 0) := by rw [hbc _ _ (by simp; try omega)]; simp [go_sem, World.cell?_alloc_past]
  refine bodyPost_ret (v := .tuple #[.agg #[.int .i64 0, .int .i64 0], .int .i64 12]) (by simp [results, Tryd.results14, go_sem, c0, c1]) rfl ⟨rfl, ?_⟩
  (repeat (first | (with_reducible refine Below.drew ?_) | (with_reducible refine below_drewN ?_ _) | (with_reducible refine Below.alloc ?_ (by first | omega | (simp; done) | (simp; omega) | (simp at *; omega)) _) | (with_reducible refine Below.setCell ?_ (by first | omega | (simp; done) | (simp; omega) | (simp at *; omega)) _) | (with_reducible exact Below.refl _ _) | (with_reducible assumption) | (with_reducible refine Below.trans ?_ (Below.mono (by assumption) (by first | omega | (simp; done) | (simp; omega) | (simp at *; omega))))))
set_option maxHeartbeats 1000000 in
theorem BestGas_ZBt (s d a b n : Int) (w : World) (hb : (aimE s d a b n != 0) = false) (k1 : 400 ≤ s) (k2 : s ≤ 1100) (k3 : 0 ≤ n) (k4 : n ≤ 30000) (k5 : 1 ≤ a) (k6 : a ≤ 4000) (k7 : 1 ≤ b) (k8 : b ≤ 4000) (k9 : 0 ≤ d) (k10 : d ≤ 30000) (hq : ¬ 1000 * (s + n) / (s + d) < 1000) (hr : ¬ 1000 * b / (s + d) ≤ 1000 - bestHe s (s + d) n) (HM : Hid (metB (bestOx s (s + d) n b) (bestHe s (s + d) n) s a b n (s + d) = true)) :
    Calls Tryd.prog 14 #[.agg #[.int .i64 s, .int .i64 d, .int .i64 a, .int .i64 b, .int .i64 n]] w fun e w' => e = .returned (.tuple #[.agg #[.int .i64 (bestOx s (s + d) n b), .int .i64 (bestHe s (s + d) n)], .int .i64 0]) ∧ Below w.heap.size w w' := by
  obtain ⟨q, Hq⟩ : ∃ q, Hid (1000 * (s + n) / (s + d) = q) := ⟨_, rfl⟩
  obtain ⟨r, Hr⟩ : ∃ r, Hid (1000 * b / (s + d) = r) := ⟨_, rfl⟩
  have q1 : 0 ≤ q := by rw [← Hq.out]; exact Int.ediv_nonneg (by omega) (by omega)
  have q2 : q ≤ 1000 * (s + n) := by rw [← Hq.out]; exact Int.ediv_le_self _ (by omega)
  have r1 : 0 ≤ r := by rw [← Hr.out]; exact Int.ediv_nonneg (by omega) (by omega)
  have r2 : r ≤ 1000 * b := by rw [← Hr.out]; exact Int.ediv_le_self _ (by omega)
  have e0 : IntKind.i64.wrap (1000 * (s + n)) = 1000 * (s + n) := IntWalk.i64_in _ (by omega)
  have e3 : IntKind.i64.wrap (1000 - q) = 1000 - q := IntWalk.i64_in _ (by omega)
  have d1 : IntKind.i64.wrap ((1000 * (s + n)).tdiv (s + d)) = q := by rw [← Hq.out]; exact quo_in _ _ (by omega) (by omega) (by omega)
  rw [Hq.out] at hq
  have Hx : Hid (bestHe s (s + d) n = 0) := by unfold bestHe Hid; rw [Hq.out, if_neg hq]
  have x1 : (0 : Int) ≤ 0 := by omega
  have x3 : 1000 ≤ q := by omega
  have x2 : (0 : Int) ≤ 1000 := by omega
  rw [Hx.out, Hr.out] at hr
  have HY : Hid (bestOx s (s + d) n b = 1000) := by unfold bestOx Hid; rw [Hx.out, Hr.out]; rw [if_neg hr]; rfl
  have HA : Hid (metB (1000) 0 s a b n (s + d) = true) := by have := HM.out; rw [Hx.out, HY.out] at this; exact this
  have y3 : (0 : Int) ≤ 1000 := by omega
  have y4 : (1000 : Int) ≤ 1000 := by omega
  rw [HY.out, Hx.out]
  have d2 : 1000 * (s + n) / (s + d) = q := Hq.out
  have d3 : 1000 * b / (s + d) = r := Hr.out
  have d0 : ¬ s + d = 0 := by omega
  have d4 : 1 ≤ s + d := by omega
  clear HM
  go_enter Tryd.func14, Tryd.ntmps14
  go_wp2_with (first | (go_at_call 29; ((with_reducible refine (checkAim_any _ _ _ _ _ _).mono ?_)); rintro e w' ⟨rfl, rfl⟩) | (go_at_call 30; ((with_reducible refine (withPressure_any _ _ _ _ _ _ k1 k2 k9 k10).mono ?_)); rintro e w' ⟨rfl, rfl⟩))
  go_region_held3 (fun w' => w'.cell? ⟨w.heap.size + 1 + 1 + 1 + 1 + 1 + 1 + 1 + 1, 0, none⟩ = some (.int .i64 s) ∧ w'.cell? ⟨w.heap.size + 1 + 1 + 1 + 1 + 1 + 1 + 1 + 1, 1, none⟩ = some (.int .i64 d) ∧ w'.cell? ⟨w.heap.size + 1 + 1 + 1 + 1 + 1 + 1 + 1 + 1, 2, none⟩ = some (.int .i64 a) ∧ w'.cell? ⟨w.heap.size + 1 + 1 + 1 + 1 + 1 + 1 + 1 + 1, 3, none⟩ = some (.int .i64 b) ∧ w'.cell? ⟨w.heap.size + 1 + 1 + 1 + 1 + 1 + 1 + 1 + 1, 4, none⟩ = some (.int .i64 n) ∧ w'.cell? ⟨w.heap.size + 1 + 1 + 1 + 1 + 1 + 1 + 1 + 1, 5, none⟩ = some (.int .i64 (s + d))) (simp [go_sem, World.cell?_alloc_past])
    (first
      | (go_at_call 31; ((with_reducible refine (narcoticPressure_any _ _ _ _ _ _ _ k1 k2 k3 k4).mono ?_)); rintro e w' ⟨rfl, rfl⟩))
  all_goals try (exfalso; rename_i hz; rw [e0, d1, e3] at hz; omega)
  go_wp2_with ((go_at_call 32; ((with_reducible refine (metBy_m _ _ _ _ _ _ _ _ _ k1 k2 k3 k4 k5 k6 k7 k8 y3 y4 x1 x2 (by omega) (by omega) _ HA.out).mono ?_)); rintro e w1 ⟨rfl, hbw⟩; obtain ⟨hbc, hbf⟩ := bcell hbw; have hbs := hbw.size))
  have c0 : w1.cell? ⟨w.heap.size + 1, 0, none⟩ = some (.int .i64 0) := by rw [hbc _ _ (by simp; try omega)]; simp [go_sem, World.cell?_alloc_past]
  have c1 : w1.cell? ⟨w.heap.size + 1, 1, none⟩ = some (.int .i64 0) := by rw [hbc _ _ (by simp; try omega)]; simp [go_sem, World.cell?_alloc_past]
  refine bodyPost_ret (v := .tuple #[.agg #[.int .i64 (1000), .int .i64 0], .int .i64 0]) (by simp [results, Tryd.results14, go_sem, c0, c1]) rfl ⟨rfl, ?_⟩
  (repeat (first | (with_reducible refine Below.drew ?_) | (with_reducible refine below_drewN ?_ _) | (with_reducible refine Below.alloc ?_ (by first | omega | (simp; done) | (simp; omega) | (simp at *; omega)) _) | (with_reducible refine Below.setCell ?_ (by first | omega | (simp; done) | (simp; omega) | (simp at *; omega)) _) | (with_reducible exact Below.refl _ _) | (with_reducible assumption) | (with_reducible refine Below.trans ?_ (Below.mono (by assumption) (by first | omega | (simp; done) | (simp; omega) | (simp at *; omega))))))
set_option maxHeartbeats 1000000 in
theorem BestGas_ZBf (s d a b n : Int) (w : World) (hb : (aimE s d a b n != 0) = false) (k1 : 400 ≤ s) (k2 : s ≤ 1100) (k3 : 0 ≤ n) (k4 : n ≤ 30000) (k5 : 1 ≤ a) (k6 : a ≤ 4000) (k7 : 1 ≤ b) (k8 : b ≤ 4000) (k9 : 0 ≤ d) (k10 : d ≤ 30000) (hq : ¬ 1000 * (s + n) / (s + d) < 1000) (hr : ¬ 1000 * b / (s + d) ≤ 1000 - bestHe s (s + d) n) (HM : Hid (metB (bestOx s (s + d) n b) (bestHe s (s + d) n) s a b n (s + d) = false)) :
    Calls Tryd.prog 14 #[.agg #[.int .i64 s, .int .i64 d, .int .i64 a, .int .i64 b, .int .i64 n]] w fun e w' => e = .returned (.tuple #[.agg #[.int .i64 0, .int .i64 0], .int .i64 12]) ∧ Below w.heap.size w w' := by
  obtain ⟨q, Hq⟩ : ∃ q, Hid (1000 * (s + n) / (s + d) = q) := ⟨_, rfl⟩
  obtain ⟨r, Hr⟩ : ∃ r, Hid (1000 * b / (s + d) = r) := ⟨_, rfl⟩
  have q1 : 0 ≤ q := by rw [← Hq.out]; exact Int.ediv_nonneg (by omega) (by omega)
  have q2 : q ≤ 1000 * (s + n) := by rw [← Hq.out]; exact Int.ediv_le_self _ (by omega)
  have r1 : 0 ≤ r := by rw [← Hr.out]; exact Int.ediv_nonneg (by omega) (by omega)
  have r2 : r ≤ 1000 * b := by rw [← Hr.out]; exact Int.ediv_le_self _ (by omega)
  have e0 : IntKind.i64.wrap (1000 * (s + n)) = 1000 * (s + n) := IntWalk.i64_in _ (by omega)
  have e3 : IntKind.i64.wrap (1000 - q) = 1000 - q := IntWalk.i64_in _ (by omega)
  have d1 : IntKind.i64.wrap ((1000 * (s + n)).tdiv (s + d)) = q := by rw [← Hq.out]; exact quo_in _ _ (by omega) (by omega) (by omega)
  rw [Hq.out] at hq
  have Hx : Hid (bestHe s (s + d) n = 0) := by unfold bestHe Hid; rw [Hq.out, if_neg hq]
  have x1 : (0 : Int) ≤ 0 := by omega
  have x3 : 1000 ≤ q := by omega
  have x2 : (0 : Int) ≤ 1000 := by omega
  rw [Hx.out, Hr.out] at hr
  have HY : Hid (bestOx s (s + d) n b = 1000) := by unfold bestOx Hid; rw [Hx.out, Hr.out]; rw [if_neg hr]; rfl
  have HA : Hid (metB (1000) 0 s a b n (s + d) = false) := by have := HM.out; rw [Hx.out, HY.out] at this; exact this
  have y3 : (0 : Int) ≤ 1000 := by omega
  have y4 : (1000 : Int) ≤ 1000 := by omega
  skip
  have d2 : 1000 * (s + n) / (s + d) = q := Hq.out
  have d3 : 1000 * b / (s + d) = r := Hr.out
  have d0 : ¬ s + d = 0 := by omega
  have d4 : 1 ≤ s + d := by omega
  clear HM
  go_enter Tryd.func14, Tryd.ntmps14
  go_wp2_with (first | (go_at_call 29; ((with_reducible refine (checkAim_any _ _ _ _ _ _).mono ?_)); rintro e w' ⟨rfl, rfl⟩) | (go_at_call 30; ((with_reducible refine (withPressure_any _ _ _ _ _ _ k1 k2 k9 k10).mono ?_)); rintro e w' ⟨rfl, rfl⟩))
  go_region_held3 (fun w' => w'.cell? ⟨w.heap.size + 1 + 1 + 1 + 1 + 1 + 1 + 1 + 1, 0, none⟩ = some (.int .i64 s) ∧ w'.cell? ⟨w.heap.size + 1 + 1 + 1 + 1 + 1 + 1 + 1 + 1, 1, none⟩ = some (.int .i64 d) ∧ w'.cell? ⟨w.heap.size + 1 + 1 + 1 + 1 + 1 + 1 + 1 + 1, 2, none⟩ = some (.int .i64 a) ∧ w'.cell? ⟨w.heap.size + 1 + 1 + 1 + 1 + 1 + 1 + 1 + 1, 3, none⟩ = some (.int .i64 b) ∧ w'.cell? ⟨w.heap.size + 1 + 1 + 1 + 1 + 1 + 1 + 1 + 1, 4, none⟩ = some (.int .i64 n) ∧ w'.cell? ⟨w.heap.size + 1 + 1 + 1 + 1 + 1 + 1 + 1 + 1, 5, none⟩ = some (.int .i64 (s + d))) (simp [go_sem, World.cell?_alloc_past])
    (first
      | (go_at_call 31; ((with_reducible refine (narcoticPressure_any _ _ _ _ _ _ _ k1 k2 k3 k4).mono ?_)); rintro e w' ⟨rfl, rfl⟩))
  all_goals try (exfalso; rename_i hz; rw [e0, d1, e3] at hz; omega)
  go_wp2_with ((go_at_call 32; ((with_reducible refine (metBy_m _ _ _ _ _ _ _ _ _ k1 k2 k3 k4 k5 k6 k7 k8 y3 y4 x1 x2 (by omega) (by omega) _ HA.out).mono ?_)); rintro e w1 ⟨rfl, hbw⟩; obtain ⟨hbc, hbf⟩ := bcell hbw; have hbs := hbw.size))
  have c0 : w1.cell? ⟨w.heap.size + 1, 0, none⟩ = some (.int .i64 0) := by rw [hbc _ _ (by simp; try omega)]; simp [go_sem, World.cell?_alloc_past]
  have c1 : w1.cell? ⟨w.heap.size + 1, 1, none⟩ = some (.int .i64 0) := by rw [hbc _ _ (by simp; try omega)]; simp [go_sem, World.cell?_alloc_past]
  refine bodyPost_ret (v := .tuple #[.agg #[.int .i64 0, .int .i64 0], .int .i64 12]) (by simp [results, Tryd.results14, go_sem, c0, c1]) rfl ⟨rfl, ?_⟩
  (repeat (first | (with_reducible refine Below.drew ?_) | (with_reducible refine below_drewN ?_ _) | (with_reducible refine Below.alloc ?_ (by first | omega | (simp; done) | (simp; omega) | (simp at *; omega)) _) | (with_reducible refine Below.setCell ?_ (by first | omega | (simp; done) | (simp; omega) | (simp at *; omega)) _) | (with_reducible exact Below.refl _ _) | (with_reducible assumption) | (with_reducible refine Below.trans ?_ (Below.mono (by assumption) (by first | omega | (simp; done) | (simp; omega) | (simp at *; omega))))))
theorem BestGas_t2 (s d a b n : Int) (w : World) (hb : (aimE s d a b n != 0) = false) (m : Bool) (HM : Hid (metB (bestOx s (s + d) n b) (bestHe s (s + d) n) s a b n (s + d) = m)) :
    Calls Tryd.prog 14 #[.agg #[.int .i64 s, .int .i64 d, .int .i64 a, .int .i64 b, .int .i64 n]] w fun e w' => e = .returned (.tuple #[.agg #[.int .i64 (if m = true then bestOx s (s + d) n b else 0), .int .i64 (if m = true then bestHe s (s + d) n else 0)], .int .i64 (if m = true then 0 else 12)]) ∧ Below w.heap.size w w' := by
  obtain ⟨⟨k1, k2⟩, ⟨k9, k10⟩, ⟨k5, k6, k7, k8, _⟩, k3, k4⟩ := aimE_z (show aimE s d a b n = 0 by simpa using hb)
  by_cases hq : 1000 * (s + n) / (s + d) < 1000 <;> by_cases hr : 1000 * b / (s + d) ≤ 1000 - bestHe s (s + d) n <;> cases m
  · exact BestGas_PAf s d a b n w hb k1 k2 k3 k4 k5 k6 k7 k8 k9 k10 hq hr HM
  · exact BestGas_PAt s d a b n w hb k1 k2 k3 k4 k5 k6 k7 k8 k9 k10 hq hr HM
  · exact BestGas_PBf s d a b n w hb k1 k2 k3 k4 k5 k6 k7 k8 k9 k10 hq hr HM
  · exact BestGas_PBt s d a b n w hb k1 k2 k3 k4 k5 k6 k7 k8 k9 k10 hq hr HM
  · exact BestGas_ZAf s d a b n w hb k1 k2 k3 k4 k5 k6 k7 k8 k9 k10 hq hr HM
  · exact BestGas_ZAt s d a b n w hb k1 k2 k3 k4 k5 k6 k7 k8 k9 k10 hq hr HM
  · exact BestGas_ZBf s d a b n w hb k1 k2 k3 k4 k5 k6 k7 k8 k9 k10 hq hr HM
  · exact BestGas_ZBt s d a b n w hb k1 k2 k3 k4 k5 k6 k7 k8 k9 k10 hq hr HM
def bestE (s d a b n : Int) : Int := if aimE s d a b n = 0 then (if metB (bestOx s (s + d) n b) (bestHe s (s + d) n) s a b n (s + d) = true then 0 else 12) else aimE s d a b n
def bestO (s d a b n : Int) : Int := if bestE s d a b n = 0 then bestOx s (s + d) n b else 0
def bestH (s d a b n : Int) : Int := if bestE s d a b n = 0 then bestHe s (s + d) n else 0
theorem BestGas_any (s d a b n : Int) (w : World) :
    Calls Tryd.prog 14 #[.agg #[.int .i64 s, .int .i64 d, .int .i64 a, .int .i64 b, .int .i64 n]] w fun e w' => e = .returned (.tuple #[.agg #[.int .i64 (bestO s d a b n), .int .i64 (bestH s d a b n)], .int .i64 (bestE s d a b n)]) ∧ Below w.heap.size w w' := by
  unfold bestO bestH
  rcases ez (aimE s d a b n) with ⟨h, hb⟩ | ⟨h, hb⟩
  · cases hm : metB (bestOx s (s + d) n b) (bestHe s (s + d) n) s a b n (s + d)
    · have he : bestE s d a b n = 12 := by unfold bestE; rw [if_pos h.out, hm]; rfl
      rw [he]
      exact BestGas_t2 s d a b n w hb false hm
    · have he : bestE s d a b n = 0 := by unfold bestE; rw [if_pos h.out, hm]; rfl
      rw [he]
      exact BestGas_t2 s d a b n w hb true hm
  · have he : bestE s d a b n = aimE s d a b n := if_neg h.out
    rw [he, if_neg h.out, if_neg h.out]
    exact BestGas_t1 s d a b n w hb
end Go.Proofs.YtpagbkbaphjmdaaDoor
