import Derived.Test.YtojaompfffpofaaGreatZWRootB
import Derived.Laws.StructEq
import Derived.Outline
namespace Go.Proofs.YtojaompfffpofaaGreat
open Go.ChangeShapes Go.WideShapes Go.ChangeAt Go.RowKit
set_option linter.unusedVariables false
set_option linter.unusedSimpArgs false
attribute [local go_sem ↓] Go.wp_at_zero Go.wp_at_succ
/-- Floor and Ceil of any number. -/
def clD (n d : Int) : Int := (n + d - 1) / d
theorem floor_is (n d q : Int) (w : World) (h0 : 0 ≤ n) (h1 : n ≤ 1000000000000000000) (h2 : 0 < d) (h3 : d ≤ 1000000000000000000) (hq : Hid (n / d = q)) :
    Calls Tryz.prog 115 #[.int .i64 n, .int .i64 d] w fun e w' => e = .returned (.int .i64 q) ∧ w = w' := by
  rw [← hq.out]; exact baseFloor_nn n d w h0 h1 h2 h3
theorem ceil_is (n d q : Int) (w : World) (h0 : 0 ≤ n) (h1 : n ≤ 1000000000000000000) (h2 : 0 < d) (h3 : d ≤ 1000000000000000000) (hq : Hid (clD n d = q)) :
    Calls Tryz.prog 116 #[.int .i64 n, .int .i64 d] w fun e w' => e = .returned (.int .i64 q) ∧ w = w' := by
  rw [← hq.out]; exact baseCeil_nn n d w h0 h1 h2 h3
theorem div_add_mul {a k p : Int} (hp : 0 < p) : (k * p + a) / p = k + a / p := by
  rw [Int.add_comm, Int.add_mul_ediv_right _ _ (by omega)]; omega
theorem angLo_eq {w : Wv} (hw : WvOk w) {t : Int} (h0 : 0 ≤ t) : angLo w t = (w.f + 4096 * t / w.p) % 4096 := by
  have hp := hw.p0
  unfold angLo angI
  generalize hN : w.f * w.p + 4096 * t = N
  have e1 : N / w.p = w.f + 4096 * t / w.p := by rw [← hN]; exact div_add_mul (by omega)
  rw [← e1]
  have e2 := Int.emod_add_mul_ediv N (4096 * w.p)
  have e3 : N / w.p = (N % (4096 * w.p)) / w.p + 4096 * (N / (4096 * w.p)) := by
    have : N = (4096 * (N / (4096 * w.p))) * w.p + N % (4096 * w.p) := by
      have e4 : 4096 * w.p * (N / (4096 * w.p)) = 4096 * (N / (4096 * w.p)) * w.p := by grind
      omega
    rw [show N / w.p = ((4096 * (N / (4096 * w.p))) * w.p + N % (4096 * w.p)) / w.p by rw [← this], div_add_mul (by omega)]
    omega
  have hb := angLo_bd hw h0
  unfold angLo angI at hb
  rw [hN] at hb
  omega
theorem angHi_eq {w : Wv} (hw : WvOk w) {t : Int} (h0 : 0 ≤ t) : angHi w t = w.f + clD (4096 * t) w.p - 4096 * ((w.f + 4096 * t / w.p) / 4096) := by
  have hp := hw.p0
  unfold angHi angI clD
  generalize hN : w.f * w.p + 4096 * t = N
  have e1 : N / w.p = w.f + 4096 * t / w.p := by rw [← hN]; exact div_add_mul (by omega)
  have e5 : (N + w.p - 1) / w.p = w.f + (4096 * t + w.p - 1) / w.p := by
    rw [← hN, show w.f * w.p + 4096 * t + w.p - 1 = w.f * w.p + (4096 * t + w.p - 1) by omega]; exact div_add_mul (by omega)
  rw [← e1]
  have e2 := Int.emod_add_mul_ediv N (4096 * w.p)
  have e4 : 4096 * w.p * (N / (4096 * w.p)) = 4096 * (N / (4096 * w.p)) * w.p := by grind
  have e6 : N / w.p / 4096 = N / (4096 * w.p) := by rw [Int.ediv_ediv_of_nonneg (by omega), Int.mul_comm]
  rw [e6]
  have e7 : (N + w.p - 1) / w.p = (N % (4096 * w.p) + w.p - 1) / w.p + 4096 * (N / (4096 * w.p)) := by
    have : N + w.p - 1 = (4096 * (N / (4096 * w.p))) * w.p + (N % (4096 * w.p) + w.p - 1) := by omega
    rw [show (N + w.p - 1) / w.p = ((4096 * (N / (4096 * w.p))) * w.p + (N % (4096 * w.p) + w.p - 1)) / w.p by rw [← this], div_add_mul (by omega)]
    omega
  omega
set_option maxRecDepth 100000 in
set_option maxHeartbeats 1000000 in
theorem refAngle_is (h p f t lo hi : Int) (w : World) (hW : Hid (WvOk ⟨h, p, f⟩)) (t0 : 0 ≤ t) (t1 : t ≤ 2000000) (hlo : Hid (angLo ⟨h, p, f⟩ t = lo)) (hhi : Hid (angHi ⟨h, p, f⟩ t = hi)) :
    Calls Tryz.prog 143 #[.agg #[.int .i64 h, .int .i64 p, .int .i64 f], .int .i64 t] w fun e w' => e = .returned (.agg #[.int .i64 lo, .int .i64 hi]) ∧ Below w.heap.size w w' := by
  obtain ⟨_, _, p0, p1, f0, f1⟩ := hW.out
  dsimp only at p0 p1 f0 f1
  have q1 := angLo_eq hW.out t0
  have q2 := angHi_eq hW.out t0
  rw [hlo.out] at q1
  rw [hhi.out] at q2
  dsimp only at q1 q2
  have bl := angLo_bd hW.out t0
  have bh := angHi_bd hW.out t0
  rw [hlo.out] at bl
  rw [hhi.out] at bh
  obtain ⟨N, hN⟩ : ∃ N, Hid (4096 * t = N) := ⟨_, Lib.hid rfl⟩
  rw [hN.out] at q1 q2
  have N0 : 0 ≤ N := by rw [← hN.out]; omega
  have N1 : N ≤ 10000000000 := by rw [← hN.out]; omega
  have g0 : 0 ≤ N / p := Int.ediv_nonneg N0 (by omega)
  have g1 : N / p ≤ N := Int.ediv_le_self _ N0
  have c0 : 0 ≤ clD N p := Int.ediv_nonneg (by omega) (by omega)
  have c1 : clD N p ≤ N + p - 1 := Int.ediv_le_self _ (by omega)
  obtain ⟨a, ha⟩ : ∃ a, Hid (N / p = a) := ⟨_, Lib.hid rfl⟩
  obtain ⟨b, hb⟩ : ∃ b, Hid (clD N p = b) := ⟨_, Lib.hid rfl⟩
  rw [ha.out] at q1 q2 g0 g1
  rw [hb.out] at q2 c0 c1
  obtain ⟨c, hc⟩ : ∃ c, Hid ((f + a) / 4096 = c) := ⟨_, Lib.hid rfl⟩
  have d0 : 0 ≤ (f + a) / 4096 := by omega
  have d1 : (f + a) / 4096 ≤ f + a := Int.ediv_le_self _ (by omega)
  have q3 : lo = f + a - c * 4096 := by rw [← hc.out]; omega
  rw [hc.out] at q2 d0 d1
  have q4 : hi = f + b - c * 4096 := by omega
  have w1 : IntKind.i64.wrap (4096 * t) = N := by rw [hN.out]; exact IntWalk.i64_in _ (by omega)
  have w2 : IntKind.i64.wrap (f + a) = f + a := IntWalk.i64_in _ (by omega)
  have w3 : IntKind.i64.wrap (f + b) = f + b := IntWalk.i64_in _ (by omega)
  have w4 : IntKind.i64.wrap (c * 4096) = c * 4096 := IntWalk.i64_in _ (by omega)
  have w5 : IntKind.i64.wrap (f + a - c * 4096) = lo := by rw [← q3]; exact IntWalk.i64_in _ (by omega)
  have w6 : IntKind.i64.wrap (f + b - c * 4096) = hi := by rw [← q4]; exact IntWalk.i64_in _ (by omega)
  have F1 := fun w => floor_is N p a w N0 (by omega) (by omega) (by omega) ha
  have F2 := fun w => ceil_is N p b w N0 (by omega) (by omega) (by omega) hb
  have F3 := fun w => floor_is (f + a) 4096 c w (by omega) (by omega) (by omega) (by omega) hc
  have HF1 := Lib.hid F1
  have HF2 := Lib.hid F2
  have HF3 := Lib.hid F3
  have fa0 : 0 ≤ f + a := by omega
  clear q1 q2 q3 q4 F1 F2 F3 hW hlo hhi d1
  go_enter Tryz.func143, Tryz.ntmps143
  go_upto_region 2 with (fail)
  refine wp_region_held_drew (S := (fun w' => w'.cell? ⟨w.heap.size, 1, none⟩ = some (.int .i64 p) ∧ w'.cell? ⟨w.heap.size, 2, none⟩ = some (.int .i64 f))) (by kernel_rfl) (by simp [go_sem, World.cell?_alloc_past, *]) (fun hHeld => ?_)
  refine tkH 0 ⟨some 11, _, _, _, _, _⟩ ?_ rfl ?_ (by assumption) ?_
  rotate_left
  · (intro w hSw; (try dsimp only at hSw); go_simp; all_goals with_reducible rfl)
  try simp only [Act.put, sA, sB, sC]
  refine tkH 1 ⟨some 12, _, _, _, _, _⟩ ?_ rfl ?_ (by assumption) ?_
  rotate_left
  · (intro w hSw; (try dsimp only at hSw); go_simp; all_goals with_reducible rfl)
  try simp only [Act.put, sA, sB, sC]
  refine tkH 2 ⟨some 13, _, _, _, _, _⟩ ?_ rfl ?_ (by assumption) ?_
  rotate_left
  · (intro w hSw; (try dsimp only at hSw); go_simp; all_goals with_reducible rfl)
  try simp only [Act.put, sA, sB, sC]
  refine tkH 3 ⟨some 14, _, _, _, _, _⟩ ?_ rfl ?_ (by assumption) ?_
  rotate_left
  · (intro w hSw; (try dsimp only at hSw); go_simp; all_goals with_reducible rfl)
  try simp only [Act.put, sA, sB, sC]
  refine tkH 4 ⟨some 15, _, _, _, _, _⟩ ?_ rfl ?_ (by assumption) ?_
  rotate_left
  · (intro w hSw; (try dsimp only at hSw); go_simp; all_goals with_reducible rfl)
  try simp only [Act.put, sA, sB, sC]
  refine wpAnyH_ready (rs := [5]) (by kernel_rfl) (by simp) ?_
  refine AllReadyH.cons rfl (fun K hK => ?_) AllReadyH.nil
  go_simp
  refine (HF1.out _).mono ?_
  rintro e w' ⟨rfl, rfl⟩
  go_wp2_with fail
  refine hK.out _ _ (by simp [go_sem, World.cell?_alloc_past, *]) (fun hHeld => ?_)
  clear hK K
  try simp only [Act.put, sA, sB, sC]
  refine tkH 6 ⟨some 17, _, _, _, _, _⟩ ?_ rfl ?_ (by assumption) ?_
  rotate_left
  · (intro w hSw; (try dsimp only at hSw); go_simp; all_goals with_reducible rfl)
  try simp only [Act.put, sA, sB, sC]
  refine tkH 7 ⟨some 6, _, _, _, _, _⟩ ?_ rfl ?_ (by assumption) ?_
  rotate_left
  · (intro w hSw; (try dsimp only at hSw); go_simp; all_goals with_reducible rfl)
  try simp only [Act.put, sA, sB, sC]
  refine wpAnyH_done (by kernel_rfl) ?_ _
  go_upto_region 3 with (fail)
  refine wp_region_held_drew (S := (fun w' => w'.cell? ⟨w.heap.size, 1, none⟩ = some (.int .i64 p) ∧ w'.cell? ⟨w.heap.size, 2, none⟩ = some (.int .i64 f))) (by kernel_rfl) (by simp [go_sem, World.cell?_alloc_past, *]) (fun hHeld => ?_)
  refine tkH 0 ⟨some 18, _, _, _, _, _⟩ ?_ rfl ?_ (by assumption) ?_
  rotate_left
  · (intro w hSw; (try dsimp only at hSw); go_simp; all_goals with_reducible rfl)
  try simp only [Act.put, sA, sB, sC]
  refine tkH 1 ⟨some 19, _, _, _, _, _⟩ ?_ rfl ?_ (by assumption) ?_
  rotate_left
  · (intro w hSw; (try dsimp only at hSw); go_simp; all_goals with_reducible rfl)
  try simp only [Act.put, sA, sB, sC]
  refine tkH 2 ⟨some 20, _, _, _, _, _⟩ ?_ rfl ?_ (by assumption) ?_
  rotate_left
  · (intro w hSw; (try dsimp only at hSw); go_simp; all_goals with_reducible rfl)
  try simp only [Act.put, sA, sB, sC]
  refine tkH 3 ⟨some 21, _, _, _, _, _⟩ ?_ rfl ?_ (by assumption) ?_
  rotate_left
  · (intro w hSw; (try dsimp only at hSw); go_simp; all_goals with_reducible rfl)
  try simp only [Act.put, sA, sB, sC]
  refine tkH 4 ⟨some 22, _, _, _, _, _⟩ ?_ rfl ?_ (by assumption) ?_
  rotate_left
  · (intro w hSw; (try dsimp only at hSw); go_simp; all_goals with_reducible rfl)
  try simp only [Act.put, sA, sB, sC]
  refine wpAnyH_ready (rs := [5]) (by kernel_rfl) (by simp) ?_
  refine AllReadyH.cons rfl (fun K hK => ?_) AllReadyH.nil
  go_simp
  refine (HF2.out _).mono ?_
  rintro e w' ⟨rfl, rfl⟩
  go_wp2_with fail
  refine hK.out _ _ (by simp [go_sem, World.cell?_alloc_past, *]) (fun hHeld => ?_)
  clear hK K
  try simp only [Act.put, sA, sB, sC]
  refine tkH 6 ⟨some 24, _, _, _, _, _⟩ ?_ rfl ?_ (by assumption) ?_
  rotate_left
  · (intro w hSw; (try dsimp only at hSw); go_simp; all_goals with_reducible rfl)
  try simp only [Act.put, sA, sB, sC]
  refine tkH 7 ⟨some 7, _, _, _, _, _⟩ ?_ rfl ?_ (by assumption) ?_
  rotate_left
  · (intro w hSw; (try dsimp only at hSw); go_simp; all_goals with_reducible rfl)
  try simp only [Act.put, sA, sB, sC]
  refine wpAnyH_done (by kernel_rfl) ?_ _
  go_wp2_with fail
  refine (HF3.out _).mono ?_
  rintro e w' ⟨rfl, rfl⟩
  go_wp2
  refine bodyPost_ret (v := .agg #[.int .i64 lo, .int .i64 hi]) (by simp [results, Tryz.results143, go_sem, *]) rfl ⟨rfl, ?_⟩
  (repeat (first | (with_reducible refine Below.drew ?_) | (with_reducible refine below_drewN ?_ _) | (with_reducible refine Below.alloc ?_ (by first | omega | (simp; done) | (simp; omega) | (simp at *; omega)) _) | (with_reducible refine Below.setCell ?_ (by first | omega | (simp; done) | (simp; omega) | (simp at *; omega)) _) | (with_reducible exact Below.refl _ _) | (with_reducible assumption) | (with_reducible refine Below.trans ?_ (Below.mono (by assumption) (by first | omega | (simp; done) | (simp; omega) | (simp at *; omega))))))
/-- The error of AngleAt. -/
def anE (x : Wv) (t : Int) : Int := firE [wvE x, rngE t 0 1000000]
end Go.Proofs.YtojaompfffpofaaGreat
