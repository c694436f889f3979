import Derived.Test.YtjkhjjmmkdfjmaaGTFShare
import Derived.Outline
namespace Go.Proofs.Ytjkhjjmmkdfjmaa
open Go.ChangeShapes Go.WideShapes Go.ChangeAt Go.RowKit
set_option linter.unusedVariables false
set_option linter.unusedSimpArgs false
attribute [local go_sem ↓] Go.wp_at_zero Go.wp_at_succ
/-- The share of a content of some amount. -/
def shareR (a b c m : Int) : Int × Int × Int :=
  if a + b + c = 0 then (0, 0, 0) else shr (m - a * m / (a + b + c) - b * m / (a + b + c) - c * m / (a + b + c)).toNat (a * m / (a + b + c)) (b * m / (a + b + c)) (c * m / (a + b + c)) (a * m % (a + b + c)) (b * m % (a + b + c)) (c * m % (a + b + c))
/-- How many are missing: none to two; and what is left over of all is as many times the sum. -/
theorem miss_bd {a b c m : Int} (a0 : 0 ≤ a) (b0 : 0 ≤ b) (c0 : 0 ≤ c) (s0 : 0 < a + b + c) (m0 : 0 ≤ m) : 0 ≤ m - a * m / (a + b + c) - b * m / (a + b + c) - c * m / (a + b + c) ∧ m - a * m / (a + b + c) - b * m / (a + b + c) - c * m / (a + b + c) ≤ 2 ∧ a * m % (a + b + c) + b * m % (a + b + c) + c * m % (a + b + c) = (a + b + c) * (m - a * m / (a + b + c) - b * m / (a + b + c) - c * m / (a + b + c)) := by
  generalize hS : a + b + c = S at *
  have h1 := Int.mul_ediv_add_emod (a * m) S
  have h2 := Int.mul_ediv_add_emod (b * m) S
  have h3 := Int.mul_ediv_add_emod (c * m) S
  have r1 := Int.emod_nonneg (a * m) (show S ≠ 0 by omega)
  have r2 := Int.emod_nonneg (b * m) (show S ≠ 0 by omega)
  have r3 := Int.emod_nonneg (c * m) (show S ≠ 0 by omega)
  have l1 := Int.emod_lt_of_pos (a * m) s0
  have l2 := Int.emod_lt_of_pos (b * m) s0
  have l3 := Int.emod_lt_of_pos (c * m) s0
  have hs : a * m + b * m + c * m = S * m := by rw [← hS, Int.add_mul, Int.add_mul]
  generalize a * m / S = x at *
  generalize b * m / S = y at *
  generalize c * m / S = z at *
  generalize a * m % S = r at *
  generalize b * m % S = s at *
  generalize c * m % S = t at *
  have e : r + s + t = S * (m - x - y - z) := by
    rw [Int.mul_sub, Int.mul_sub, Int.mul_sub]; omega
  refine ⟨?_, ?_, e⟩
  · refine Int.not_lt.1 fun h => ?_
    have := Int.mul_le_mul_of_nonneg_left (show m - x - y - z ≤ -1 by omega) (show 0 ≤ S by omega)
    omega
  · refine Int.not_lt.1 fun h => ?_
    have := Int.mul_le_mul_of_nonneg_left (show 3 ≤ m - x - y - z by omega) (show 0 ≤ S by omega)
    omega
theorem cF2x (x y r : Int) (b : Nat) (w : World) (hr : Hid (firE [x, y] = r)) (h0 : w.cell? ⟨b, 0, none⟩ = some (.int .i64 x)) (h1 : w.cell? ⟨b, 1, none⟩ = some (.int .i64 y)) :
    Calls Try.prog 62 #[.slice (some ⟨b, 0, none⟩) 2 2] w fun e w' => e = .returned (.int .i64 r) ∧ w = w' := by
  rw [← hr.out]; exact cFirst2c x y b w h0 h1
theorem shareOf_zero (m : Int) (w : World) : Calls Try.prog 75 #[.agg #[.int .i64 0, .int .i64 0, .int .i64 0], .int .i64 m] w fun e w' => e = .returned (.agg #[.int .i64 0, .int .i64 0, .int .i64 0]) ∧ Below w.heap.size w w' := by
  go_enter Try.func75, Try.ntmps75
  go_wp2
  refine bodyPost_ret (v := .agg #[.int .i64 0, .int .i64 0, .int .i64 0]) (by simp [results, Try.results75, go_sem]) rfl ⟨rfl, ?_⟩
  exact belA
theorem shareOf_any (a b c m X Y Z : Int) (w : World) (hc : Hid (conB a b c = true)) (m0 : 0 ≤ m) (m1 : m ≤ a + b + c) (hX : Hid (shareR a b c m = (X, Y, Z))) :
    Calls Try.prog 75 #[.agg #[.int .i64 a, .int .i64 b, .int .i64 c], .int .i64 m] w fun e w' => e = .returned (.agg #[.int .i64 X, .int .i64 Y, .int .i64 Z]) ∧ Below w.heap.size w w' := by
  obtain ⟨a0, b0, c0, _⟩ := conB_iff.1 hc.out
  have hx := hX.out
  unfold shareR at hx
  by_cases hz : a + b + c = 0
  · rw [if_pos hz] at hx
    obtain rfl : a = 0 := by omega
    obtain rfl : b = 0 := by omega
    obtain rfl : c = 0 := by omega
    obtain ⟨rfl, rfl, rfl⟩ : 0 = X ∧ 0 = Y ∧ 0 = Z := by simpa using hx
    exact shareOf_zero m w
  · rw [if_neg hz] at hx
    obtain ⟨k0, k1, _⟩ := miss_bd a0 b0 c0 (show 0 < a + b + c by omega) m0
    obtain ⟨K, hK⟩ := Int.eq_ofNat_of_zero_le k0
    rw [hK] at hx k1
    exact shareOf_pos a b c m (a + b + c) _ _ _ _ _ _ _ _ _ X Y Z K w hc (Lib.hid rfl) (by omega) m0 m1 (Lib.hid ⟨rfl, rfl, rfl⟩) (Lib.hid ⟨rfl, rfl, rfl⟩) (Lib.hid ⟨rfl, rfl, rfl⟩) (Lib.hid hK) (by omega) (Lib.hid (by simpa using hx))
/-- The error of a share. -/
def shaE (a b c m : Int) : Int := if conB a b c = true then rngE m 0 (a + b + c) else 2
set_option maxHeartbeats 1000000 in
theorem Share_bad1 (a b c m : Int) (w : World) (h : Hid (conB a b c = false)) :
    Calls Try.prog 35 #[.agg #[.int .i64 a, .int .i64 b, .int .i64 c], .int .i64 m] w fun e w' => e = .returned (.tuple #[.agg #[.int .i64 0, .int .i64 0, .int .i64 0], .int .i64 2]) ∧ Below w.heap.size w w' := by
  have hE : Hid (conE a b c = 2) := Lib.hid (conE_f h.out)
  go_enter Try.func35, Try.ntmps35
  go_upto_region 1 with (fail)
  refine wp_region_held_drew (S := (fun w' => w'.cell? ⟨w.heap.size, 0, none⟩ = some (.int .i64 a) ∧ w'.cell? ⟨w.heap.size, 1, none⟩ = some (.int .i64 b) ∧ w'.cell? ⟨w.heap.size, 2, none⟩ = some (.int .i64 c))) (by kernel_rfl) (by simp [go_sem, cP, *]) (fun hHeld => ?_)
  refine tkA 0 7 rfl ?_
  refine tkA 2 9 rfl ?_
  refine tkA 3 10 rfl ?_
  refine rdA 1 rfl (fun K hK => ?_)
  go_simp
  refine (checkContent_any a b c 2 _ hE).mono ?_
  rintro e xw1 ⟨rfl, hbx1⟩
  have zx1 := hbx1.size
  try simp at zx1
  obtain ⟨x1A0, x1A1, x1A2, x1B0, x1B1, x1B2⟩ : xw1.cell? ⟨w.heap.size, 0, none⟩ = some (.int .i64 a) ∧ xw1.cell? ⟨w.heap.size, 1, none⟩ = some (.int .i64 b) ∧ xw1.cell? ⟨w.heap.size, 2, none⟩ = some (.int .i64 c) ∧ xw1.cell? ⟨w.heap.size + 1, 0, none⟩ = some (.int .i64 0) ∧ xw1.cell? ⟨w.heap.size + 1, 1, none⟩ = some (.int .i64 0) ∧ xw1.cell? ⟨w.heap.size + 1, 2, none⟩ = some (.int .i64 0) := by refine ⟨?_, ?_, ?_, ?_, ?_, ?_⟩ <;> (rw [bc1 hbx1]; simp [go_sem, cP, *])
  have x1f1 : (∀ j, xw1.frozen? ⟨w.heap.size + 1, j, none⟩ = false) := by (intro j; rw [bc2 hbx1]; simp [go_sem, *])
  obtain ⟨x1o0, x1n0, x1o1, x1n1⟩ : w.heap.size < xw1.heap.size ∧ xw1.heap.size ≠ w.heap.size ∧ w.heap.size + 1 < xw1.heap.size ∧ xw1.heap.size ≠ w.heap.size + 1 := by refine ⟨?_, ?_, ?_, ?_⟩ <;> omega
  have hBx1 : Below w.heap.size w xw1 := belA
  clear hbx1 
  go_wp2_with fail
  refine hK.out _ _ (by simp [go_sem, cP, *]) (fun hHeld => ?_)
  clear hK K
  try simp only [Act.put, sA, sB, sC]
  refine rdA 4 rfl (fun K hK => ?_)
  go_simp
  refine (sumOf_some a b c _).mono ?_
  rintro e xw2 ⟨x2s, rfl, hbx2⟩
  have zx2 := hbx2.size
  try simp at zx2
  obtain ⟨x2A0, x2A1, x2A2, x2B0, x2B1, x2B2⟩ : xw2.cell? ⟨w.heap.size, 0, none⟩ = some (.int .i64 a) ∧ xw2.cell? ⟨w.heap.size, 1, none⟩ = some (.int .i64 b) ∧ xw2.cell? ⟨w.heap.size, 2, none⟩ = some (.int .i64 c) ∧ xw2.cell? ⟨w.heap.size + 1, 0, none⟩ = some (.int .i64 0) ∧ xw2.cell? ⟨w.heap.size + 1, 1, none⟩ = some (.int .i64 0) ∧ xw2.cell? ⟨w.heap.size + 1, 2, none⟩ = some (.int .i64 0) := by refine ⟨?_, ?_, ?_, ?_, ?_, ?_⟩ <;> (rw [bc1 hbx2]; simp [go_sem, cP, *])
  have x2f1 : (∀ j, xw2.frozen? ⟨w.heap.size + 1, j, none⟩ = false) := by (intro j; rw [bc2 hbx2]; simp [go_sem, *])
  obtain ⟨x2o0, x2n0, x2o1, x2n1⟩ : w.heap.size < xw2.heap.size ∧ xw2.heap.size ≠ w.heap.size ∧ w.heap.size + 1 < xw2.heap.size ∧ xw2.heap.size ≠ w.heap.size + 1 := by refine ⟨?_, ?_, ?_, ?_⟩ <;> omega
  have hBx2 : Below w.heap.size w xw2 := belA
  clear hbx2 x1A0 x1A1 x1A2 x1B0 x1B1 x1B2 x1f1 x1o0 x1n0 x1o1 x1n1 hBx1
  go_wp2_with fail
  refine hK.out _ _ (by simp [go_sem, cP, *]) (fun hHeld => ?_)
  clear hK K
  try simp only [Act.put, sA, sB, sC]
  refine rdA 5 rfl (fun K hK => ?_)
  go_simp
  refine (cRange_any _ _ _ _).mono ?_
  rintro e wq ⟨rfl, rfl⟩
  go_wp2_with fail
  refine hK.out _ _ (by simp [go_sem, cP, *]) (fun hHeld => ?_)
  clear hK K
  try simp only [Act.put, sA, sB, sC]
  refine rdA 6 rfl (fun K hK => ?_)
  go_simp
  go_wp2_with fail
  refine hK.out _ _ (by simp [go_sem, cP, *]) (fun hHeld => ?_)
  clear hK K
  try simp only [Act.put, sA, sB, sC]
  refine rdA 7 rfl (fun K hK => ?_)
  go_simp
  refine (cF2x 2 (rngE m 0 x2s) 2 _ _ (Lib.hid rfl) (by simp [go_sem]) (by simp [go_sem])).mono ?_
  rintro e wq ⟨rfl, rfl⟩
  go_wp2_with fail
  refine hK.out _ _ (by simp [go_sem, cP, *]) (fun hHeld => ?_)
  clear hK K
  try simp only [Act.put, sA, sB, sC]
  refine tkA 8 6 rfl ?_
  refine wpAnyH_done (by kernel_rfl) ?_ _
  go_wp2
  refine bodyPost_ret (v := .tuple #[.agg #[.int .i64 0, .int .i64 0, .int .i64 0], .int .i64 2]) (by simp [results, Try.results35, go_sem, *]) rfl ⟨rfl, ?_⟩
  exact belA
set_option maxHeartbeats 1000000 in
theorem Share_bad2 (a b c m S : Int) (w : World) (hc : Hid (conB a b c = true)) (hS : Hid (a + b + c = S)) (hr : Hid (rngE m 0 S = 2)) :
    Calls Try.prog 35 #[.agg #[.int .i64 a, .int .i64 b, .int .i64 c], .int .i64 m] w fun e w' => e = .returned (.tuple #[.agg #[.int .i64 0, .int .i64 0, .int .i64 0], .int .i64 2]) ∧ Below w.heap.size w w' := by
  have hE : Hid (conE a b c = 0) := Lib.hid (conE_t hc.out)
  go_enter Try.func35, Try.ntmps35
  go_upto_region 1 with (fail)
  refine wp_region_held_drew (S := (fun w' => w'.cell? ⟨w.heap.size, 0, none⟩ = some (.int .i64 a) ∧ w'.cell? ⟨w.heap.size, 1, none⟩ = some (.int .i64 b) ∧ w'.cell? ⟨w.heap.size, 2, none⟩ = some (.int .i64 c))) (by kernel_rfl) (by simp [go_sem, cP, *]) (fun hHeld => ?_)
  refine tkA 0 7 rfl ?_
  refine tkA 2 9 rfl ?_
  refine tkA 3 10 rfl ?_
  refine rdA 1 rfl (fun K hK => ?_)
  go_simp
  refine (checkContent_any a b c 0 _ hE).mono ?_
  rintro e xw1 ⟨rfl, hbx1⟩
  have zx1 := hbx1.size
  try simp at zx1
  obtain ⟨x1A0, x1A1, x1A2, x1B0, x1B1, x1B2⟩ : xw1.cell? ⟨w.heap.size, 0, none⟩ = some (.int .i64 a) ∧ xw1.cell? ⟨w.heap.size, 1, none⟩ = some (.int .i64 b) ∧ xw1.cell? ⟨w.heap.size, 2, none⟩ = some (.int .i64 c) ∧ xw1.cell? ⟨w.heap.size + 1, 0, none⟩ = some (.int .i64 0) ∧ xw1.cell? ⟨w.heap.size + 1, 1, none⟩ = some (.int .i64 0) ∧ xw1.cell? ⟨w.heap.size + 1, 2, none⟩ = some (.int .i64 0) := by refine ⟨?_, ?_, ?_, ?_, ?_, ?_⟩ <;> (rw [bc1 hbx1]; simp [go_sem, cP, *])
  have x1f1 : (∀ j, xw1.frozen? ⟨w.heap.size + 1, j, none⟩ = false) := by (intro j; rw [bc2 hbx1]; simp [go_sem, *])
  obtain ⟨x1o0, x1n0, x1o1, x1n1⟩ : w.heap.size < xw1.heap.size ∧ xw1.heap.size ≠ w.heap.size ∧ w.heap.size + 1 < xw1.heap.size ∧ xw1.heap.size ≠ w.heap.size + 1 := by refine ⟨?_, ?_, ?_, ?_⟩ <;> omega
  have hBx1 : Below w.heap.size w xw1 := belA
  clear hbx1 
  go_wp2_with fail
  refine hK.out _ _ (by simp [go_sem, cP, *]) (fun hHeld => ?_)
  clear hK K
  try simp only [Act.put, sA, sB, sC]
  refine rdA 4 rfl (fun K hK => ?_)
  go_simp
  refine (sumOf_ok a b c S _ hc hS).mono ?_
  rintro e xw2 ⟨rfl, hbx2⟩
  have zx2 := hbx2.size
  try simp at zx2
  obtain ⟨x2A0, x2A1, x2A2, x2B0, x2B1, x2B2⟩ : xw2.cell? ⟨w.heap.size, 0, none⟩ = some (.int .i64 a) ∧ xw2.cell? ⟨w.heap.size, 1, none⟩ = some (.int .i64 b) ∧ xw2.cell? ⟨w.heap.size, 2, none⟩ = some (.int .i64 c) ∧ xw2.cell? ⟨w.heap.size + 1, 0, none⟩ = some (.int .i64 0) ∧ xw2.cell? ⟨w.heap.size + 1, 1, none⟩ = some (.int .i64 0) ∧ xw2.cell? ⟨w.heap.size + 1, 2, none⟩ = some (.int .i64 0) := by refine ⟨?_, ?_, ?_, ?_, ?_, ?_⟩ <;> (rw [bc1 hbx2]; simp [go_sem, cP, *])
  have x2f1 : (∀ j, xw2.frozen? ⟨w.heap.size + 1, j, none⟩ = false) := by (intro j; rw [bc2 hbx2]; simp [go_sem, *])
  obtain ⟨x2o0, x2n0, x2o1, x2n1⟩ : w.heap.size < xw2.heap.size ∧ xw2.heap.size ≠ w.heap.size ∧ w.heap.size + 1 < xw2.heap.size ∧ xw2.heap.size ≠ w.heap.size + 1 := by refine ⟨?_, ?_, ?_, ?_⟩ <;> omega
  have hBx2 : Below w.heap.size w xw2 := belA
  clear hbx2 x1A0 x1A1 x1A2 x1B0 x1B1 x1B2 x1f1 x1o0 x1n0 x1o1 x1n1 hBx1
  go_wp2_with fail
  refine hK.out _ _ (by simp [go_sem, cP, *]) (fun hHeld => ?_)
  clear hK K
  try simp only [Act.put, sA, sB, sC]
  refine rdA 5 rfl (fun K hK => ?_)
  go_simp
  refine (cRange_any _ _ _ _).mono ?_
  rintro e wq ⟨rfl, rfl⟩
  go_wp2_with fail
  refine hK.out _ _ (by simp [go_sem, cP, *]) (fun hHeld => ?_)
  clear hK K
  try simp only [Act.put, sA, sB, sC]
  refine rdA 6 rfl (fun K hK => ?_)
  go_simp
  go_wp2_with fail
  refine hK.out _ _ (by simp [go_sem, cP, *]) (fun hHeld => ?_)
  clear hK K
  try simp only [Act.put, sA, sB, sC]
  refine rdA 7 rfl (fun K hK => ?_)
  go_simp
  refine (cF2x 0 (rngE m 0 S) 2 _ _ (Lib.hid (by rw [hr.out]; rfl)) (by simp [go_sem]) (by simp [go_sem])).mono ?_
  rintro e wq ⟨rfl, rfl⟩
  go_wp2_with fail
  refine hK.out _ _ (by simp [go_sem, cP, *]) (fun hHeld => ?_)
  clear hK K
  try simp only [Act.put, sA, sB, sC]
  refine tkA 8 6 rfl ?_
  refine wpAnyH_done (by kernel_rfl) ?_ _
  go_wp2
  refine bodyPost_ret (v := .tuple #[.agg #[.int .i64 0, .int .i64 0, .int .i64 0], .int .i64 2]) (by simp [results, Try.results35, go_sem, *]) rfl ⟨rfl, ?_⟩
  exact belA
set_option maxHeartbeats 1000000 in
theorem Share_ok (a b c m S X Y Z : Int) (w : World) (hc : Hid (conB a b c = true)) (hS : Hid (a + b + c = S)) (hr : Hid (rngE m 0 S = 0)) (m0 : 0 ≤ m) (m1 : Hid (m ≤ a + b + c)) (hX : Hid (shareR a b c m = (X, Y, Z))) :
    Calls Try.prog 35 #[.agg #[.int .i64 a, .int .i64 b, .int .i64 c], .int .i64 m] w fun e w' => e = .returned (.tuple #[.agg #[.int .i64 X, .int .i64 Y, .int .i64 Z], .int .i64 0]) ∧ Below w.heap.size w w' := by
  have hE : Hid (conE a b c = 0) := Lib.hid (conE_t hc.out)
  go_enter Try.func35, Try.ntmps35
  go_upto_region 1 with (fail)
  refine wp_region_held_drew (S := (fun w' => w'.cell? ⟨w.heap.size, 0, none⟩ = some (.int .i64 a) ∧ w'.cell? ⟨w.heap.size, 1, none⟩ = some (.int .i64 b) ∧ w'.cell? ⟨w.heap.size, 2, none⟩ = some (.int .i64 c))) (by kernel_rfl) (by simp [go_sem, cP, *]) (fun hHeld => ?_)
  refine tkA 0 7 rfl ?_
  refine tkA 2 9 rfl ?_
  refine tkA 3 10 rfl ?_
  refine rdA 1 rfl (fun K hK => ?_)
  go_simp
  refine (checkContent_any a b c 0 _ hE).mono ?_
  rintro e xw1 ⟨rfl, hbx1⟩
  have zx1 := hbx1.size
  try simp at zx1
  obtain ⟨x1A0, x1A1, x1A2, x1B0, x1B1, x1B2⟩ : xw1.cell? ⟨w.heap.size, 0, none⟩ = some (.int .i64 a) ∧ xw1.cell? ⟨w.heap.size, 1, none⟩ = some (.int .i64 b) ∧ xw1.cell? ⟨w.heap.size, 2, none⟩ = some (.int .i64 c) ∧ xw1.cell? ⟨w.heap.size + 1, 0, none⟩ = some (.int .i64 0) ∧ xw1.cell? ⟨w.heap.size + 1, 1, none⟩ = some (.int .i64 0) ∧ xw1.cell? ⟨w.heap.size + 1, 2, none⟩ = some (.int .i64 0) := by refine ⟨?_, ?_, ?_, ?_, ?_, ?_⟩ <;> (rw [bc1 hbx1]; simp [go_sem, cP, *])
  have x1f1 : (∀ j, xw1.frozen? ⟨w.heap.size + 1, j, none⟩ = false) := by (intro j; rw [bc2 hbx1]; simp [go_sem, *])
  obtain ⟨x1o0, x1n0, x1o1, x1n1⟩ : w.heap.size < xw1.heap.size ∧ xw1.heap.size ≠ w.heap.size ∧ w.heap.size + 1 < xw1.heap.size ∧ xw1.heap.size ≠ w.heap.size + 1 := by refine ⟨?_, ?_, ?_, ?_⟩ <;> omega
  have hBx1 : Below w.heap.size w xw1 := belA
  clear hbx1 
  go_wp2_with fail
  refine hK.out _ _ (by simp [go_sem, cP, *]) (fun hHeld => ?_)
  clear hK K
  try simp only [Act.put, sA, sB, sC]
  refine rdA 4 rfl (fun K hK => ?_)
  go_simp
  refine (sumOf_ok a b c S _ hc hS).mono ?_
  rintro e xw2 ⟨rfl, hbx2⟩
  have zx2 := hbx2.size
  try simp at zx2
  obtain ⟨x2A0, x2A1, x2A2, x2B0, x2B1, x2B2⟩ : xw2.cell? ⟨w.heap.size, 0, none⟩ = some (.int .i64 a) ∧ xw2.cell? ⟨w.heap.size, 1, none⟩ = some (.int .i64 b) ∧ xw2.cell? ⟨w.heap.size, 2, none⟩ = some (.int .i64 c) ∧ xw2.cell? ⟨w.heap.size + 1, 0, none⟩ = some (.int .i64 0) ∧ xw2.cell? ⟨w.heap.size + 1, 1, none⟩ = some (.int .i64 0) ∧ xw2.cell? ⟨w.heap.size + 1, 2, none⟩ = some (.int .i64 0) := by refine ⟨?_, ?_, ?_, ?_, ?_, ?_⟩ <;> (rw [bc1 hbx2]; simp [go_sem, cP, *])
  have x2f1 : (∀ j, xw2.frozen? ⟨w.heap.size + 1, j, none⟩ = false) := by (intro j; rw [bc2 hbx2]; simp [go_sem, *])
  obtain ⟨x2o0, x2n0, x2o1, x2n1⟩ : w.heap.size < xw2.heap.size ∧ xw2.heap.size ≠ w.heap.size ∧ w.heap.size + 1 < xw2.heap.size ∧ xw2.heap.size ≠ w.heap.size + 1 := by refine ⟨?_, ?_, ?_, ?_⟩ <;> omega
  have hBx2 : Below w.heap.size w xw2 := belA
  clear hbx2 x1A0 x1A1 x1A2 x1B0 x1B1 x1B2 x1f1 x1o0 x1n0 x1o1 x1n1 hBx1
  go_wp2_with fail
  refine hK.out _ _ (by simp [go_sem, cP, *]) (fun hHeld => ?_)
  clear hK K
  try simp only [Act.put, sA, sB, sC]
  refine rdA 5 rfl (fun K hK => ?_)
  go_simp
  refine (cRange_any _ _ _ _).mono ?_
  rintro e wq ⟨rfl, rfl⟩
  go_wp2_with fail
  refine hK.out _ _ (by simp [go_sem, cP, *]) (fun hHeld => ?_)
  clear hK K
  try simp only [Act.put, sA, sB, sC]
  refine rdA 6 rfl (fun K hK => ?_)
  go_simp
  go_wp2_with fail
  refine hK.out _ _ (by simp [go_sem, cP, *]) (fun hHeld => ?_)
  clear hK K
  try simp only [Act.put, sA, sB, sC]
  refine rdA 7 rfl (fun K hK => ?_)
  go_simp
  refine (cF2x 0 (rngE m 0 S) 0 _ _ (Lib.hid (by rw [hr.out]; rfl)) (by simp [go_sem]) (by simp [go_sem])).mono ?_
  rintro e wq ⟨rfl, rfl⟩
  go_wp2_with fail
  refine hK.out _ _ (by simp [go_sem, cP, *]) (fun hHeld => ?_)
  clear hK K
  try simp only [Act.put, sA, sB, sC]
  refine tkA 8 6 rfl ?_
  refine wpAnyH_done (by kernel_rfl) ?_ _
  go_wp2_with fail
  refine (shareOf_any a b c m X Y Z _ hc m0 m1.out hX).mono ?_
  rintro e yw1 ⟨rfl, hby1⟩
  have zy1 := hby1.size
  try simp at zy1
  obtain ⟨y1A0, y1A1, y1A2, y1B0, y1B1, y1B2⟩ : yw1.cell? ⟨w.heap.size, 0, none⟩ = some (.int .i64 a) ∧ yw1.cell? ⟨w.heap.size, 1, none⟩ = some (.int .i64 b) ∧ yw1.cell? ⟨w.heap.size, 2, none⟩ = some (.int .i64 c) ∧ yw1.cell? ⟨w.heap.size + 1, 0, none⟩ = some (.int .i64 0) ∧ yw1.cell? ⟨w.heap.size + 1, 1, none⟩ = some (.int .i64 0) ∧ yw1.cell? ⟨w.heap.size + 1, 2, none⟩ = some (.int .i64 0) := by refine ⟨?_, ?_, ?_, ?_, ?_, ?_⟩ <;> (rw [bc1 hby1]; simp [go_sem, cP, *])
  have y1f1 : (∀ j, yw1.frozen? ⟨w.heap.size + 1, j, none⟩ = false) := by (intro j; rw [bc2 hby1]; simp [go_sem, *])
  obtain ⟨y1o0, y1n0, y1o1, y1n1⟩ : w.heap.size < yw1.heap.size ∧ yw1.heap.size ≠ w.heap.size ∧ w.heap.size + 1 < yw1.heap.size ∧ yw1.heap.size ≠ w.heap.size + 1 := by refine ⟨?_, ?_, ?_, ?_⟩ <;> omega
  have hBy1 : Below w.heap.size w yw1 := belA
  clear hby1 
  go_wp2
  refine bodyPost_ret (v := .tuple #[.agg #[.int .i64 X, .int .i64 Y, .int .i64 Z], .int .i64 0]) (by simp [results, Try.results35, go_sem, *]) rfl ⟨rfl, ?_⟩
  exact belA
/-- What mix.Share returns. -/
def shaR (a b c m : Int) : Int × Int × Int := if shaE a b c m = 0 then shareR a b c m else (0, 0, 0)
theorem Share_any (a b c m X Y Z E : Int) (w : World) (hE : Hid (shaE a b c m = E)) (hX : Hid (shaR a b c m = (X, Y, Z))) :
    Calls Try.prog 35 #[.agg #[.int .i64 a, .int .i64 b, .int .i64 c], .int .i64 m] w fun e w' => e = .returned (.tuple #[.agg #[.int .i64 X, .int .i64 Y, .int .i64 Z], .int .i64 E]) ∧ Below w.heap.size w w' := by
  have hx := hX.out
  have he := hE.out
  unfold shaR at hx
  rw [he] at hx
  unfold shaE at he
  by_cases hc : conB a b c = true
  · rw [if_pos hc] at he
    rcases inB_cases m 0 (a + b + c) with hi | hi
    · rw [rngE_t hi] at he
      subst he
      rw [if_pos rfl] at hx
      have hi' := inB_iff.1 hi
      exact Share_ok a b c m (a + b + c) X Y Z w (Lib.hid hc) (Lib.hid rfl) (Lib.hid (rngE_t hi)) hi'.1 (Lib.hid hi'.2) (Lib.hid hx)
    · rw [rngE_f hi] at he
      subst he
      rw [if_neg (by omega)] at hx
      obtain ⟨rfl, rfl, rfl⟩ : 0 = X ∧ 0 = Y ∧ 0 = Z := by simpa using hx
      exact Share_bad2 a b c m (a + b + c) w (Lib.hid hc) (Lib.hid rfl) (Lib.hid (rngE_f hi))
  · rw [if_neg hc] at he
    subst he
    rw [if_neg (by omega)] at hx
    obtain ⟨rfl, rfl, rfl⟩ : 0 = X ∧ 0 = Y ∧ 0 = Z := by simpa using hx
    exact Share_bad1 a b c m w (Lib.hid (by simpa using hc))
end Go.Proofs.Ytjkhjjmmkdfjmaa
