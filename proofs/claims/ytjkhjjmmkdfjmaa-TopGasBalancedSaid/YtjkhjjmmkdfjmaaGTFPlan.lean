import Derived.Test.YtjkhjjmmkdfjmaaGTFNamed
import Derived.Test.YtjkhjjmmkdfjmaaGTFShare2
import Derived.Outline
namespace Go.Proofs.Ytjkhjjmmkdfjmaa
open Go.ChangeShapes Go.WideShapes Go.ChangeAt Go.RowKit
set_option linter.unusedVariables false
set_option linter.unusedSimpArgs false
attribute [local go_sem ↓] Go.wp_at_zero Go.wp_at_succ
theorem checkShares_ok (lo hi : Int) (w : World) (h1 : Hid (rngE lo 0 1000 = 0)) (h2 : Hid (rngE hi 0 1000 = 0)) (h3 : lo ≤ hi) : Calls Try.prog 124 #[.agg #[.int .i64 lo, .int .i64 hi]] w fun e w' => e = .returned (.int .i64 0) ∧ Below w.heap.size w w' := by
  go_enter Try.func124, Try.ntmps124
  go_upto_region 1 with (fail)
  refine wp_region_held_drew (S := (fun w' => w'.cell? ⟨w.heap.size, 0, none⟩ = some (.int .i64 lo) ∧ w'.cell? ⟨w.heap.size, 1, none⟩ = some (.int .i64 hi))) (by kernel_rfl) (by simp [go_sem, cP, *]) (fun hHeld => ?_)
  refine tkA 0 4 rfl ?_
  refine tkA 1 5 rfl ?_
  refine tkA 3 7 rfl ?_
  refine tkA 4 8 rfl ?_
  refine rdA 2 rfl (fun K hK => ?_)
  go_simp
  refine (cRange_any _ _ _ _).mono ?_
  rintro e wq ⟨rfl, rfl⟩
  go_wp2_with fail
  refine hK.out _ _ (by simp [go_sem, cP, *]) (fun hHeld => ?_)
  clear hK K
  try simp only [Act.put, sA, sB, sC]
  refine rdA 5 rfl (fun K hK => ?_)
  go_simp
  refine (cRange_any _ _ _ _).mono ?_
  rintro e wq ⟨rfl, rfl⟩
  go_wp2_with fail
  refine hK.out _ _ (by simp [go_sem, cP, *]) (fun hHeld => ?_)
  clear hK K
  try simp only [Act.put, sA, sB, sC]
  refine rdA 6 rfl (fun K hK => ?_)
  go_simp
  go_wp2_with fail
  refine hK.out _ _ (by simp [go_sem, cP, *]) (fun hHeld => ?_)
  clear hK K
  try simp only [Act.put, sA, sB, sC]
  refine rdA 7 rfl (fun K hK => ?_)
  go_simp
  refine (cF2x (rngE lo 0 1000) (rngE hi 0 1000) 0 _ _ (Lib.hid (by rw [h1.out, h2.out]; rfl)) (by simp [go_sem]) (by simp [go_sem])).mono ?_
  rintro e wq ⟨rfl, rfl⟩
  go_wp2_with fail
  refine hK.out _ _ (by simp [go_sem, cP, *]) (fun hHeld => ?_)
  clear hK K
  try simp only [Act.put, sA, sB, sC]
  refine tkA 8 3 rfl ?_
  refine wpAnyH_done (by kernel_rfl) ?_ _
  go_wp2
  go_ret
  exact ⟨rfl, belA⟩
theorem cF5z (k : Nat) (w : World) (h0 : w.cell? ⟨k, 0, none⟩ = some (.int .i64 0)) (h1 : w.cell? ⟨k, 1, none⟩ = some (.int .i64 0)) (h2 : w.cell? ⟨k, 2, none⟩ = some (.int .i64 0)) (h3 : w.cell? ⟨k, 3, none⟩ = some (.int .i64 0)) (h4 : w.cell? ⟨k, 4, none⟩ = some (.int .i64 0)) :
    Calls Try.prog 62 #[.slice (some ⟨k, 0, none⟩) 5 5] w fun e w' => e = .returned (.int .i64 0) ∧ w = w' := by
  refine cFirst_any [0, 0, 0, 0, 0] k 0 _ (by simp) (by simp) ?_
  intro j hj
  have : j = 0 ∨ j = 1 ∨ j = 2 ∨ j = 3 ∨ j = 4 := by simp at hj; omega
  rcases this with rfl | rfl | rfl | rfl | rfl <;> simp [*]
set_option maxHeartbeats 2000000 in
set_option maxRecDepth 100000 in
theorem CheckTask_ex (b : Nat) (w : World) (a0 : w.cell? ⟨b, 0, none⟩ = some (.string ⟨#[97, 105, 114]⟩)) (a1 : w.cell? ⟨b, 1, none⟩ = some (.int .i64 210)) (a2 : w.cell? ⟨b, 2, none⟩ = some (.int .i64 0)) (a3 : w.cell? ⟨b, 3, none⟩ = some (.int .i64 2)) (a4 : w.cell? ⟨b, 4, none⟩ = some (.int .i64 10000)) (a5 : w.cell? ⟨b, 5, none⟩ = some (.string ⟨#[111, 50]⟩)) (a6 : w.cell? ⟨b, 6, none⟩ = some (.int .i64 1000)) (a7 : w.cell? ⟨b, 7, none⟩ = some (.int .i64 0)) (a8 : w.cell? ⟨b, 8, none⟩ = some (.int .i64 50)) (a9 : w.cell? ⟨b, 9, none⟩ = some (.int .i64 5000)) (lb : b < w.heap.size) : Calls Try.prog 111 #[.agg #[.slice (some ⟨b, 0, none⟩) 2 2, .int .i64 0, .int .i64 0, .int .i64 0, .int .i64 790, .int .i64 320, .int .i64 340, .int .i64 0, .int .i64 0]] w fun e w' => e = .returned (.int .i64 0) ∧ Below w.heap.size w w' := by
  have hr : rngE 790 (max 1 0) 10000000 = 0 := by decide
  have hr1 : rngE 790 1 10000000 = 0 := by decide
  go_enter Try.func111, Try.ntmps111
  go_upto_region 6 with (fail)
  refine wp_region_held_drew (S := (fun w' => w'.cell? ⟨w.heap.size, 0, none⟩ = some (.slice (some ⟨b, 0, none⟩) 2 2) ∧ w'.cell? ⟨w.heap.size, 1, none⟩ = some (.int .i64 0) ∧ w'.cell? ⟨w.heap.size, 2, none⟩ = some (.int .i64 0) ∧ w'.cell? ⟨w.heap.size, 3, none⟩ = some (.int .i64 0) ∧ w'.cell? ⟨w.heap.size, 4, none⟩ = some (.int .i64 790) ∧ w'.cell? ⟨w.heap.size, 5, none⟩ = some (.int .i64 320) ∧ w'.cell? ⟨w.heap.size, 6, none⟩ = some (.int .i64 340) ∧ w'.cell? ⟨w.heap.size, 7, none⟩ = some (.int .i64 0) ∧ w'.cell? ⟨w.heap.size, 8, none⟩ = some (.int .i64 0))) (by kernel_rfl) (by simp [go_sem, cP, *]) (fun hHeld => ?_)
  refine tkA 0 14 rfl ?_
  refine tkA 1 15 rfl ?_
  refine tkA 2 16 rfl ?_
  refine tkA 4 18 rfl ?_
  refine tkA 5 19 rfl ?_
  refine tkA 7 21 rfl ?_
  refine tkA 8 22 rfl ?_
  refine tkA 9 23 rfl ?_
  refine tkA 10 24 rfl ?_
  refine tkA 14 28 rfl ?_
  refine tkA 15 29 rfl ?_
  refine tkA 17 31 rfl ?_
  refine tkA 18 32 rfl ?_
  refine rdA 3 rfl (fun K hK => ?_)
  go_simp
  refine (named2_MixSource ⟨#[97, 105, 114]⟩ ⟨#[111, 50]⟩ 210 0 2 10000 1000 0 50 5000 b 2 _ (by simp [go_sem, cP, *]) (by simp [go_sem, cP, *]) (by simp [go_sem, cP, *]) (by simp [go_sem, cP, *]) (by simp [go_sem, cP, *]) (by simp [go_sem, cP, *]) (by simp [go_sem, cP, *]) (by simp [go_sem, cP, *]) (by simp [go_sem, cP, *]) (by simp [go_sem, cP, *]) (by simp; omega) (Lib.hid (by decide)) (Lib.hid (by decide))).mono ?_
  rintro e xw1 ⟨rfl, hbx1⟩
  have zx1 := hbx1.size
  try simp at zx1
  obtain ⟨x1A0, x1A1, x1A2, x1A3, x1A4, x1A5, x1A6, x1A7, x1A8⟩ : xw1.cell? ⟨w.heap.size, 0, none⟩ = some (.slice (some ⟨b, 0, none⟩) 2 2) ∧ xw1.cell? ⟨w.heap.size, 1, none⟩ = some (.int .i64 0) ∧ xw1.cell? ⟨w.heap.size, 2, none⟩ = some (.int .i64 0) ∧ xw1.cell? ⟨w.heap.size, 3, none⟩ = some (.int .i64 0) ∧ xw1.cell? ⟨w.heap.size, 4, none⟩ = some (.int .i64 790) ∧ xw1.cell? ⟨w.heap.size, 5, none⟩ = some (.int .i64 320) ∧ xw1.cell? ⟨w.heap.size, 6, none⟩ = some (.int .i64 340) ∧ xw1.cell? ⟨w.heap.size, 7, none⟩ = some (.int .i64 0) ∧ xw1.cell? ⟨w.heap.size, 8, none⟩ = some (.int .i64 0) := by refine ⟨?_, ?_, ?_, ?_, ?_, ?_, ?_, ?_, ?_⟩ <;> (rw [bc1 hbx1]; simp [go_sem, cP, *])
  obtain ⟨x1o0, x1n0⟩ : w.heap.size < xw1.heap.size ∧ xw1.heap.size ≠ w.heap.size := by refine ⟨?_, ?_⟩ <;> omega
  have hBx1 : Below w.heap.size w xw1 := belA
  clear hbx1 
  go_wp2_with fail
  refine hK.out _ _ (by simp [go_sem, cP, *]) (fun hHeld => ?_)
  clear hK K
  try simp only [Act.put, sA, sB, sC]
  refine rdA 6 rfl (fun K hK => ?_)
  go_simp
  refine (checkContent_any 0 0 0 0 _ (Lib.hid (by rfl))).mono ?_
  rintro e xw2 ⟨rfl, hbx2⟩
  have zx2 := hbx2.size
  try simp at zx2
  obtain ⟨x2A0, x2A1, x2A2, x2A3, x2A4, x2A5, x2A6, x2A7, x2A8⟩ : xw2.cell? ⟨w.heap.size, 0, none⟩ = some (.slice (some ⟨b, 0, none⟩) 2 2) ∧ xw2.cell? ⟨w.heap.size, 1, none⟩ = some (.int .i64 0) ∧ xw2.cell? ⟨w.heap.size, 2, none⟩ = some (.int .i64 0) ∧ xw2.cell? ⟨w.heap.size, 3, none⟩ = some (.int .i64 0) ∧ xw2.cell? ⟨w.heap.size, 4, none⟩ = some (.int .i64 790) ∧ xw2.cell? ⟨w.heap.size, 5, none⟩ = some (.int .i64 320) ∧ xw2.cell? ⟨w.heap.size, 6, none⟩ = some (.int .i64 340) ∧ xw2.cell? ⟨w.heap.size, 7, none⟩ = some (.int .i64 0) ∧ xw2.cell? ⟨w.heap.size, 8, none⟩ = some (.int .i64 0) := by refine ⟨?_, ?_, ?_, ?_, ?_, ?_, ?_, ?_, ?_⟩ <;> (rw [bc1 hbx2]; simp [go_sem, cP, *])
  obtain ⟨x2o0, x2n0⟩ : w.heap.size < xw2.heap.size ∧ xw2.heap.size ≠ w.heap.size := by refine ⟨?_, ?_⟩ <;> omega
  have hBx2 : Below w.heap.size w xw2 := belA
  clear hbx2 x1A0 x1A1 x1A2 x1A3 x1A4 x1A5 x1A6 x1A7 x1A8 x1o0 x1n0 hBx1
  go_wp2_with fail
  refine hK.out _ _ (by simp [go_sem, cP, *]) (fun hHeld => ?_)
  clear hK K
  try simp only [Act.put, sA, sB, sC]
  refine rdA 11 rfl (fun K hK => ?_)
  go_simp
  refine (sumOf_ok 0 0 0 0 _ (Lib.hid (by rfl)) (Lib.hid (by rfl))).mono ?_
  rintro e xw3 ⟨rfl, hbx3⟩
  have zx3 := hbx3.size
  try simp at zx3
  obtain ⟨x3A0, x3A1, x3A2, x3A3, x3A4, x3A5, x3A6, x3A7, x3A8⟩ : xw3.cell? ⟨w.heap.size, 0, none⟩ = some (.slice (some ⟨b, 0, none⟩) 2 2) ∧ xw3.cell? ⟨w.heap.size, 1, none⟩ = some (.int .i64 0) ∧ xw3.cell? ⟨w.heap.size, 2, none⟩ = some (.int .i64 0) ∧ xw3.cell? ⟨w.heap.size, 3, none⟩ = some (.int .i64 0) ∧ xw3.cell? ⟨w.heap.size, 4, none⟩ = some (.int .i64 790) ∧ xw3.cell? ⟨w.heap.size, 5, none⟩ = some (.int .i64 320) ∧ xw3.cell? ⟨w.heap.size, 6, none⟩ = some (.int .i64 340) ∧ xw3.cell? ⟨w.heap.size, 7, none⟩ = some (.int .i64 0) ∧ xw3.cell? ⟨w.heap.size, 8, none⟩ = some (.int .i64 0) := by refine ⟨?_, ?_, ?_, ?_, ?_, ?_, ?_, ?_, ?_⟩ <;> (rw [bc1 hbx3]; simp [go_sem, cP, *])
  obtain ⟨x3o0, x3n0⟩ : w.heap.size < xw3.heap.size ∧ xw3.heap.size ≠ w.heap.size := by refine ⟨?_, ?_⟩ <;> omega
  have hBx3 : Below w.heap.size w xw3 := belA
  clear hbx3 x2A0 x2A1 x2A2 x2A3 x2A4 x2A5 x2A6 x2A7 x2A8 x2o0 x2n0 hBx2
  go_wp2_with fail
  refine hK.out _ _ (by simp [go_sem, cP, *]) (fun hHeld => ?_)
  clear hK K
  try simp only [Act.put, sA, sB, sC]
  refine tkA 12 26 rfl ?_
  refine rdA 13 rfl (fun K hK => ?_)
  go_simp
  refine (cRange_any _ _ _ _).mono ?_
  rintro e wq ⟨rfl, rfl⟩
  (first | rw [hr] | rw [hr1])
  go_wp2_with fail
  refine hK.out _ _ (by simp [go_sem, cP, *]) (fun hHeld => ?_)
  clear hK K
  try simp only [Act.put, sA, sB, sC]
  refine rdA 16 rfl (fun K hK => ?_)
  go_simp
  refine (checkShares_ok 320 340 _ (Lib.hid (by rfl)) (Lib.hid (by rfl)) (by omega)).mono ?_
  rintro e xw4 ⟨rfl, hbx4⟩
  have zx4 := hbx4.size
  try simp at zx4
  obtain ⟨x4A0, x4A1, x4A2, x4A3, x4A4, x4A5, x4A6, x4A7, x4A8⟩ : xw4.cell? ⟨w.heap.size, 0, none⟩ = some (.slice (some ⟨b, 0, none⟩) 2 2) ∧ xw4.cell? ⟨w.heap.size, 1, none⟩ = some (.int .i64 0) ∧ xw4.cell? ⟨w.heap.size, 2, none⟩ = some (.int .i64 0) ∧ xw4.cell? ⟨w.heap.size, 3, none⟩ = some (.int .i64 0) ∧ xw4.cell? ⟨w.heap.size, 4, none⟩ = some (.int .i64 790) ∧ xw4.cell? ⟨w.heap.size, 5, none⟩ = some (.int .i64 320) ∧ xw4.cell? ⟨w.heap.size, 6, none⟩ = some (.int .i64 340) ∧ xw4.cell? ⟨w.heap.size, 7, none⟩ = some (.int .i64 0) ∧ xw4.cell? ⟨w.heap.size, 8, none⟩ = some (.int .i64 0) := by refine ⟨?_, ?_, ?_, ?_, ?_, ?_, ?_, ?_, ?_⟩ <;> (rw [bc1 hbx4]; simp [go_sem, cP, *])
  obtain ⟨x4o0, x4n0⟩ : w.heap.size < xw4.heap.size ∧ xw4.heap.size ≠ w.heap.size := by refine ⟨?_, ?_⟩ <;> omega
  have hBx4 : Below w.heap.size w xw4 := belA
  clear hbx4 x3A0 x3A1 x3A2 x3A3 x3A4 x3A5 x3A6 x3A7 x3A8 x3o0 x3n0 hBx3
  go_wp2_with fail
  refine hK.out _ _ (by simp [go_sem, cP, *]) (fun hHeld => ?_)
  clear hK K
  try simp only [Act.put, sA, sB, sC]
  refine rdA 19 rfl (fun K hK => ?_)
  go_simp
  refine (checkShares_ok 0 0 _ (Lib.hid (by rfl)) (Lib.hid (by rfl)) (by omega)).mono ?_
  rintro e xw5 ⟨rfl, hbx5⟩
  have zx5 := hbx5.size
  try simp at zx5
  obtain ⟨x5A0, x5A1, x5A2, x5A3, x5A4, x5A5, x5A6, x5A7, x5A8⟩ : xw5.cell? ⟨w.heap.size, 0, none⟩ = some (.slice (some ⟨b, 0, none⟩) 2 2) ∧ xw5.cell? ⟨w.heap.size, 1, none⟩ = some (.int .i64 0) ∧ xw5.cell? ⟨w.heap.size, 2, none⟩ = some (.int .i64 0) ∧ xw5.cell? ⟨w.heap.size, 3, none⟩ = some (.int .i64 0) ∧ xw5.cell? ⟨w.heap.size, 4, none⟩ = some (.int .i64 790) ∧ xw5.cell? ⟨w.heap.size, 5, none⟩ = some (.int .i64 320) ∧ xw5.cell? ⟨w.heap.size, 6, none⟩ = some (.int .i64 340) ∧ xw5.cell? ⟨w.heap.size, 7, none⟩ = some (.int .i64 0) ∧ xw5.cell? ⟨w.heap.size, 8, none⟩ = some (.int .i64 0) := by refine ⟨?_, ?_, ?_, ?_, ?_, ?_, ?_, ?_, ?_⟩ <;> (rw [bc1 hbx5]; simp [go_sem, cP, *])
  obtain ⟨x5o0, x5n0⟩ : w.heap.size < xw5.heap.size ∧ xw5.heap.size ≠ w.heap.size := by refine ⟨?_, ?_⟩ <;> omega
  have hBx5 : Below w.heap.size w xw5 := belA
  clear hbx5 x4A0 x4A1 x4A2 x4A3 x4A4 x4A5 x4A6 x4A7 x4A8 x4o0 x4n0 hBx4
  go_wp2_with fail
  refine hK.out _ _ (by simp [go_sem, cP, *]) (fun hHeld => ?_)
  clear hK K
  try simp only [Act.put, sA, sB, sC]
  refine rdA 20 rfl (fun K hK => ?_)
  go_simp
  go_wp2_with fail
  refine hK.out _ _ (by simp [go_sem, cP, *]) (fun hHeld => ?_)
  clear hK K
  try simp only [Act.put, sA, sB, sC]
  refine rdA 21 rfl (fun K hK => ?_)
  go_simp
  refine (cF5z _ _ (by simp [go_sem, *]) (by simp [go_sem, *]) (by simp [go_sem, *]) (by simp [go_sem, *]) (by simp [go_sem, *])).mono ?_
  rintro e wq ⟨rfl, rfl⟩
  go_wp2_with fail
  refine hK.out _ _ (by simp [go_sem, cP, *]) (fun hHeld => ?_)
  clear hK K
  try simp only [Act.put, sA, sB, sC]
  refine tkA 22 2 rfl ?_
  refine wpAnyH_done (by kernel_rfl) ?_ _
  go_wp2
  go_ret
  exact ⟨rfl, belA⟩
theorem need_O (p : Nat) (w : World) (h : w.cell? ⟨p, 4, none⟩ = some (.int .i64 790)) (lp : p < w.heap.size) : Calls Try.prog 112 #[.agg #[.int .i64 320, .int .i64 340], .int .i64 0, .pointer (some ⟨p, 0, none⟩)] w fun e w' => e = .returned (.agg #[.int .i64 252800, .int .i64 268600]) ∧ Below w.heap.size w w' := by
  have n1 : p ≠ w.heap.size := by omega
  have n2 : p ≠ w.heap.size + 1 := by omega
  go_enter Try.func112, Try.ntmps112
  go_wp2
  refine bodyPost_ret (v := .agg #[.int .i64 252800, .int .i64 268600]) (by simp [results, Try.results112, go_sem]) rfl ⟨rfl, ?_⟩
  exact belA
theorem need_H (p : Nat) (w : World) (h : w.cell? ⟨p, 4, none⟩ = some (.int .i64 790)) (lp : p < w.heap.size) : Calls Try.prog 112 #[.agg #[.int .i64 0, .int .i64 0], .int .i64 0, .pointer (some ⟨p, 0, none⟩)] w fun e w' => e = .returned (.agg #[.int .i64 0, .int .i64 0]) ∧ Below w.heap.size w w' := by
  have n1 : p ≠ w.heap.size := by omega
  have n2 : p ≠ w.heap.size + 1 := by omega
  go_enter Try.func112, Try.ntmps112
  go_wp2
  refine bodyPost_ret (v := .agg #[.int .i64 0, .int .i64 0]) (by simp [results, Try.results112, go_sem]) rfl ⟨rfl, ?_⟩
  exact belA
set_option maxHeartbeats 2000000 in
set_option maxRecDepth 100000 in
theorem askFor_ex (b : Nat) (w : World) (a0 : w.cell? ⟨b, 0, none⟩ = some (.string ⟨#[97, 105, 114]⟩)) (a1 : w.cell? ⟨b, 1, none⟩ = some (.int .i64 210)) (a2 : w.cell? ⟨b, 2, none⟩ = some (.int .i64 0)) (a3 : w.cell? ⟨b, 3, none⟩ = some (.int .i64 2)) (a4 : w.cell? ⟨b, 4, none⟩ = some (.int .i64 10000)) (a5 : w.cell? ⟨b, 5, none⟩ = some (.string ⟨#[111, 50]⟩)) (a6 : w.cell? ⟨b, 6, none⟩ = some (.int .i64 1000)) (a7 : w.cell? ⟨b, 7, none⟩ = some (.int .i64 0)) (a8 : w.cell? ⟨b, 8, none⟩ = some (.int .i64 50)) (a9 : w.cell? ⟨b, 9, none⟩ = some (.int .i64 5000)) (lb : b < w.heap.size) : Calls Try.prog 90 #[.agg #[.slice (some ⟨b, 0, none⟩) 2 2, .int .i64 0, .int .i64 0, .int .i64 0, .int .i64 790, .int .i64 320, .int .i64 340, .int .i64 0, .int .i64 0]] w fun e w' => e = .returned (.tuple #[.agg #[.slice (some ⟨b, 0, none⟩) 2 2, .int .i64 0, .int .i64 0, .int .i64 0, .int .i64 790, .int .i64 320, .int .i64 340, .int .i64 0, .int .i64 0, .int .i64 790, .int .i64 252800, .int .i64 268600, .int .i64 0, .int .i64 0], .int .i64 0]) ∧ Below w.heap.size w w' := by
  have hmf : ∀ (fn : Fn) (first cap : Array Value) (w : World), (Instr.makeFunc fn first cap).run Try.prog w = .ok (.func fn first cap) w := fun _ _ _ _ => rfl
  go_enter Try.func90, Try.ntmps90
  go_wp2_with fail
  refine (CheckTask_ex b _ (by simp [go_sem, cP, *]) (by simp [go_sem, cP, *]) (by simp [go_sem, cP, *]) (by simp [go_sem, cP, *]) (by simp [go_sem, cP, *]) (by simp [go_sem, cP, *]) (by simp [go_sem, cP, *]) (by simp [go_sem, cP, *]) (by simp [go_sem, cP, *]) (by simp [go_sem, cP, *]) (by simp; omega)).mono ?_
  rintro e xw1 ⟨rfl, hbx1⟩
  have zx1 := hbx1.size
  try simp at zx1
  obtain ⟨x1A0, x1A1, x1A2, x1A3, x1A4, x1A5, x1A6, x1A7, x1A8, x1B0, x1B1, x1B2, x1B3, x1B4, x1B5, x1B6, x1B7, x1B8, x1B9, x1B10, x1B11, x1B12, x1B13⟩ : xw1.cell? ⟨w.heap.size, 0, none⟩ = some (.slice (some ⟨b, 0, none⟩) 2 2) ∧ xw1.cell? ⟨w.heap.size, 1, none⟩ = some (.int .i64 0) ∧ xw1.cell? ⟨w.heap.size, 2, none⟩ = some (.int .i64 0) ∧ xw1.cell? ⟨w.heap.size, 3, none⟩ = some (.int .i64 0) ∧ xw1.cell? ⟨w.heap.size, 4, none⟩ = some (.int .i64 790) ∧ xw1.cell? ⟨w.heap.size, 5, none⟩ = some (.int .i64 320) ∧ xw1.cell? ⟨w.heap.size, 6, none⟩ = some (.int .i64 340) ∧ xw1.cell? ⟨w.heap.size, 7, none⟩ = some (.int .i64 0) ∧ xw1.cell? ⟨w.heap.size, 8, none⟩ = some (.int .i64 0) ∧ xw1.cell? ⟨w.heap.size + 1, 0, none⟩ = some (.slice none 0 0) ∧ xw1.cell? ⟨w.heap.size + 1, 1, none⟩ = some (.int .i64 0) ∧ xw1.cell? ⟨w.heap.size + 1, 2, none⟩ = some (.int .i64 0) ∧ xw1.cell? ⟨w.heap.size + 1, 3, none⟩ = some (.int .i64 0) ∧ xw1.cell? ⟨w.heap.size + 1, 4, none⟩ = some (.int .i64 0) ∧ xw1.cell? ⟨w.heap.size + 1, 5, none⟩ = some (.int .i64 0) ∧ xw1.cell? ⟨w.heap.size + 1, 6, none⟩ = some (.int .i64 0) ∧ xw1.cell? ⟨w.heap.size + 1, 7, none⟩ = some (.int .i64 0) ∧ xw1.cell? ⟨w.heap.size + 1, 8, none⟩ = some (.int .i64 0) ∧ xw1.cell? ⟨w.heap.size + 1, 9, none⟩ = some (.int .i64 0) ∧ xw1.cell? ⟨w.heap.size + 1, 10, none⟩ = some (.int .i64 0) ∧ xw1.cell? ⟨w.heap.size + 1, 11, none⟩ = some (.int .i64 0) ∧ xw1.cell? ⟨w.heap.size + 1, 12, none⟩ = some (.int .i64 0) ∧ xw1.cell? ⟨w.heap.size + 1, 13, none⟩ = some (.int .i64 0) := by refine ⟨?_, ?_, ?_, ?_, ?_, ?_, ?_, ?_, ?_, ?_, ?_, ?_, ?_, ?_, ?_, ?_, ?_, ?_, ?_, ?_, ?_, ?_, ?_⟩ <;> (rw [bc1 hbx1]; simp [go_sem, cP, *])
  have x1f1 : (∀ j, xw1.frozen? ⟨w.heap.size + 1, j, none⟩ = false) := by (intro j; rw [bc2 hbx1]; simp [go_sem, *])
  obtain ⟨x1o0, x1n0, x1o1, x1n1⟩ : w.heap.size < xw1.heap.size ∧ xw1.heap.size ≠ w.heap.size ∧ w.heap.size + 1 < xw1.heap.size ∧ xw1.heap.size ≠ w.heap.size + 1 := by refine ⟨?_, ?_, ?_, ?_⟩ <;> omega
  have hBx1 : Below w.heap.size w xw1 := belA
  clear hbx1 
  have w790 : IntKind.i64.wrap 790 = 790 := by decide
  go_upto_region 5 with (fail)
  refine wp_region_held_drew (S := (fun w' => w'.cell? ⟨w.heap.size, 0, none⟩ = some (.slice (some ⟨b, 0, none⟩) 2 2) ∧ w'.cell? ⟨w.heap.size, 1, none⟩ = some (.int .i64 0) ∧ w'.cell? ⟨w.heap.size, 2, none⟩ = some (.int .i64 0) ∧ w'.cell? ⟨w.heap.size, 3, none⟩ = some (.int .i64 0) ∧ w'.cell? ⟨w.heap.size, 4, none⟩ = some (.int .i64 790) ∧ w'.cell? ⟨w.heap.size, 5, none⟩ = some (.int .i64 320) ∧ w'.cell? ⟨w.heap.size, 6, none⟩ = some (.int .i64 340) ∧ w'.cell? ⟨w.heap.size, 7, none⟩ = some (.int .i64 0) ∧ w'.cell? ⟨w.heap.size, 8, none⟩ = some (.int .i64 0))) (by kernel_rfl) (by simp [go_sem, cP, *]) (fun hHeld => ?_)
  refine tkA 0 13 rfl ?_
  refine tkA 1 14 rfl ?_
  refine tkA 2 15 rfl ?_
  refine tkA 3 16 rfl ?_
  refine tkA 4 17 rfl ?_
  refine tkA 7 20 rfl ?_
  refine tkA 8 21 rfl ?_
  refine tkA 9 22 rfl ?_
  refine tkA 10 23 rfl ?_
  refine tkA 11 24 rfl ?_
  refine tkA 12 25 rfl ?_
  refine tkA 14 27 rfl ?_
  refine tkA 15 28 rfl ?_
  refine tkA 16 29 rfl ?_
  refine tkA 17 30 rfl ?_
  refine tkA 18 31 rfl ?_
  refine tkA 19 32 rfl ?_
  refine rdA 5 rfl (fun K hK => ?_)
  go_simp
  refine (sumOf_ok 0 0 0 0 _ (Lib.hid (by rfl)) (Lib.hid (by rfl))).mono ?_
  rintro e xw2 ⟨rfl, hbx2⟩
  have zx2 := hbx2.size
  try simp at zx2
  obtain ⟨x2A0, x2A1, x2A2, x2A3, x2A4, x2A5, x2A6, x2A7, x2A8, x2B0, x2B1, x2B2, x2B3, x2B4, x2B5, x2B6, x2B7, x2B8, x2B9, x2B10, x2B11, x2B12, x2B13⟩ : xw2.cell? ⟨w.heap.size, 0, none⟩ = some (.slice (some ⟨b, 0, none⟩) 2 2) ∧ xw2.cell? ⟨w.heap.size, 1, none⟩ = some (.int .i64 0) ∧ xw2.cell? ⟨w.heap.size, 2, none⟩ = some (.int .i64 0) ∧ xw2.cell? ⟨w.heap.size, 3, none⟩ = some (.int .i64 0) ∧ xw2.cell? ⟨w.heap.size, 4, none⟩ = some (.int .i64 790) ∧ xw2.cell? ⟨w.heap.size, 5, none⟩ = some (.int .i64 320) ∧ xw2.cell? ⟨w.heap.size, 6, none⟩ = some (.int .i64 340) ∧ xw2.cell? ⟨w.heap.size, 7, none⟩ = some (.int .i64 0) ∧ xw2.cell? ⟨w.heap.size, 8, none⟩ = some (.int .i64 0) ∧ xw2.cell? ⟨w.heap.size + 1, 0, none⟩ = some (.slice none 0 0) ∧ xw2.cell? ⟨w.heap.size + 1, 1, none⟩ = some (.int .i64 0) ∧ xw2.cell? ⟨w.heap.size + 1, 2, none⟩ = some (.int .i64 0) ∧ xw2.cell? ⟨w.heap.size + 1, 3, none⟩ = some (.int .i64 0) ∧ xw2.cell? ⟨w.heap.size + 1, 4, none⟩ = some (.int .i64 0) ∧ xw2.cell? ⟨w.heap.size + 1, 5, none⟩ = some (.int .i64 0) ∧ xw2.cell? ⟨w.heap.size + 1, 6, none⟩ = some (.int .i64 0) ∧ xw2.cell? ⟨w.heap.size + 1, 7, none⟩ = some (.int .i64 0) ∧ xw2.cell? ⟨w.heap.size + 1, 8, none⟩ = some (.int .i64 0) ∧ xw2.cell? ⟨w.heap.size + 1, 9, none⟩ = some (.int .i64 0) ∧ xw2.cell? ⟨w.heap.size + 1, 10, none⟩ = some (.int .i64 0) ∧ xw2.cell? ⟨w.heap.size + 1, 11, none⟩ = some (.int .i64 0) ∧ xw2.cell? ⟨w.heap.size + 1, 12, none⟩ = some (.int .i64 0) ∧ xw2.cell? ⟨w.heap.size + 1, 13, none⟩ = some (.int .i64 0) := by refine ⟨?_, ?_, ?_, ?_, ?_, ?_, ?_, ?_, ?_, ?_, ?_, ?_, ?_, ?_, ?_, ?_, ?_, ?_, ?_, ?_, ?_, ?_, ?_⟩ <;> (rw [bc1 hbx2]; simp [go_sem, cP, *])
  have x2f1 : (∀ j, xw2.frozen? ⟨w.heap.size + 1, j, none⟩ = false) := by (intro j; rw [bc2 hbx2]; simp [go_sem, *])
  obtain ⟨x2o0, x2n0, x2o1, x2n1⟩ : w.heap.size < xw2.heap.size ∧ xw2.heap.size ≠ w.heap.size ∧ w.heap.size + 1 < xw2.heap.size ∧ xw2.heap.size ≠ w.heap.size + 1 := by refine ⟨?_, ?_, ?_, ?_⟩ <;> omega
  have hBx2 : Below w.heap.size w xw2 := belA
  clear hbx2 x1A0 x1A1 x1A2 x1A3 x1A4 x1A5 x1A6 x1A7 x1A8 x1B0 x1B1 x1B2 x1B3 x1B4 x1B5 x1B6 x1B7 x1B8 x1B9 x1B10 x1B11 x1B12 x1B13 x1f1 x1o0 x1n0 x1o1 x1n1 hBx1
  go_wp2_with fail
  refine hK.out _ _ (by simp [go_sem, cP, *]) (fun hHeld => ?_)
  clear hK K
  try simp only [Act.put, sA, sB, sC]
  refine tkA 6 19 rfl ?_
  refine rdA 13 rfl (fun K hK => ?_)
  go_simp
  refine (need_O w.heap.size _ (by simp [go_sem, cP, *]) (by first | omega | (simp; omega))).mono ?_
  rintro e xw3 ⟨rfl, hbx3⟩
  have zx3 := hbx3.size
  try simp at zx3
  obtain ⟨x3A0, x3A1, x3A2, x3A3, x3A4, x3A5, x3A6, x3A7, x3A8, x3B0, x3B1, x3B2, x3B3, x3B4, x3B5, x3B6, x3B7, x3B8, x3B9, x3B10, x3B11, x3B12, x3B13⟩ : xw3.cell? ⟨w.heap.size, 0, none⟩ = some (.slice (some ⟨b, 0, none⟩) 2 2) ∧ xw3.cell? ⟨w.heap.size, 1, none⟩ = some (.int .i64 0) ∧ xw3.cell? ⟨w.heap.size, 2, none⟩ = some (.int .i64 0) ∧ xw3.cell? ⟨w.heap.size, 3, none⟩ = some (.int .i64 0) ∧ xw3.cell? ⟨w.heap.size, 4, none⟩ = some (.int .i64 790) ∧ xw3.cell? ⟨w.heap.size, 5, none⟩ = some (.int .i64 320) ∧ xw3.cell? ⟨w.heap.size, 6, none⟩ = some (.int .i64 340) ∧ xw3.cell? ⟨w.heap.size, 7, none⟩ = some (.int .i64 0) ∧ xw3.cell? ⟨w.heap.size, 8, none⟩ = some (.int .i64 0) ∧ xw3.cell? ⟨w.heap.size + 1, 0, none⟩ = some (.slice none 0 0) ∧ xw3.cell? ⟨w.heap.size + 1, 1, none⟩ = some (.int .i64 0) ∧ xw3.cell? ⟨w.heap.size + 1, 2, none⟩ = some (.int .i64 0) ∧ xw3.cell? ⟨w.heap.size + 1, 3, none⟩ = some (.int .i64 0) ∧ xw3.cell? ⟨w.heap.size + 1, 4, none⟩ = some (.int .i64 0) ∧ xw3.cell? ⟨w.heap.size + 1, 5, none⟩ = some (.int .i64 0) ∧ xw3.cell? ⟨w.heap.size + 1, 6, none⟩ = some (.int .i64 0) ∧ xw3.cell? ⟨w.heap.size + 1, 7, none⟩ = some (.int .i64 0) ∧ xw3.cell? ⟨w.heap.size + 1, 8, none⟩ = some (.int .i64 0) ∧ xw3.cell? ⟨w.heap.size + 1, 9, none⟩ = some (.int .i64 0) ∧ xw3.cell? ⟨w.heap.size + 1, 10, none⟩ = some (.int .i64 0) ∧ xw3.cell? ⟨w.heap.size + 1, 11, none⟩ = some (.int .i64 0) ∧ xw3.cell? ⟨w.heap.size + 1, 12, none⟩ = some (.int .i64 0) ∧ xw3.cell? ⟨w.heap.size + 1, 13, none⟩ = some (.int .i64 0) := by refine ⟨?_, ?_, ?_, ?_, ?_, ?_, ?_, ?_, ?_, ?_, ?_, ?_, ?_, ?_, ?_, ?_, ?_, ?_, ?_, ?_, ?_, ?_, ?_⟩ <;> (rw [bc1 hbx3]; simp [go_sem, cP, *])
  have x3f1 : (∀ j, xw3.frozen? ⟨w.heap.size + 1, j, none⟩ = false) := by (intro j; rw [bc2 hbx3]; simp [go_sem, *])
  obtain ⟨x3o0, x3n0, x3o1, x3n1⟩ : w.heap.size < xw3.heap.size ∧ xw3.heap.size ≠ w.heap.size ∧ w.heap.size + 1 < xw3.heap.size ∧ xw3.heap.size ≠ w.heap.size + 1 := by refine ⟨?_, ?_, ?_, ?_⟩ <;> omega
  have hBx3 : Below w.heap.size w xw3 := belA
  clear hbx3 x2A0 x2A1 x2A2 x2A3 x2A4 x2A5 x2A6 x2A7 x2A8 x2B0 x2B1 x2B2 x2B3 x2B4 x2B5 x2B6 x2B7 x2B8 x2B9 x2B10 x2B11 x2B12 x2B13 x2f1 x2o0 x2n0 x2o1 x2n1 hBx2
  go_wp2_with fail
  refine hK.out _ _ (by simp [go_sem, cP, *]) (fun hHeld => ?_)
  clear hK K
  try simp only [Act.put, sA, sB, sC]
  refine rdA 20 rfl (fun K hK => ?_)
  go_simp
  refine (need_H w.heap.size _ (by simp [go_sem, cP, *]) (by first | omega | (simp; omega))).mono ?_
  rintro e xw4 ⟨rfl, hbx4⟩
  have zx4 := hbx4.size
  try simp at zx4
  obtain ⟨x4A0, x4A1, x4A2, x4A3, x4A4, x4A5, x4A6, x4A7, x4A8, x4B0, x4B1, x4B2, x4B3, x4B4, x4B5, x4B6, x4B7, x4B8, x4B9, x4B10, x4B11, x4B12, x4B13⟩ : xw4.cell? ⟨w.heap.size, 0, none⟩ = some (.slice (some ⟨b, 0, none⟩) 2 2) ∧ xw4.cell? ⟨w.heap.size, 1, none⟩ = some (.int .i64 0) ∧ xw4.cell? ⟨w.heap.size, 2, none⟩ = some (.int .i64 0) ∧ xw4.cell? ⟨w.heap.size, 3, none⟩ = some (.int .i64 0) ∧ xw4.cell? ⟨w.heap.size, 4, none⟩ = some (.int .i64 790) ∧ xw4.cell? ⟨w.heap.size, 5, none⟩ = some (.int .i64 320) ∧ xw4.cell? ⟨w.heap.size, 6, none⟩ = some (.int .i64 340) ∧ xw4.cell? ⟨w.heap.size, 7, none⟩ = some (.int .i64 0) ∧ xw4.cell? ⟨w.heap.size, 8, none⟩ = some (.int .i64 0) ∧ xw4.cell? ⟨w.heap.size + 1, 0, none⟩ = some (.slice none 0 0) ∧ xw4.cell? ⟨w.heap.size + 1, 1, none⟩ = some (.int .i64 0) ∧ xw4.cell? ⟨w.heap.size + 1, 2, none⟩ = some (.int .i64 0) ∧ xw4.cell? ⟨w.heap.size + 1, 3, none⟩ = some (.int .i64 0) ∧ xw4.cell? ⟨w.heap.size + 1, 4, none⟩ = some (.int .i64 0) ∧ xw4.cell? ⟨w.heap.size + 1, 5, none⟩ = some (.int .i64 0) ∧ xw4.cell? ⟨w.heap.size + 1, 6, none⟩ = some (.int .i64 0) ∧ xw4.cell? ⟨w.heap.size + 1, 7, none⟩ = some (.int .i64 0) ∧ xw4.cell? ⟨w.heap.size + 1, 8, none⟩ = some (.int .i64 0) ∧ xw4.cell? ⟨w.heap.size + 1, 9, none⟩ = some (.int .i64 0) ∧ xw4.cell? ⟨w.heap.size + 1, 10, none⟩ = some (.int .i64 0) ∧ xw4.cell? ⟨w.heap.size + 1, 11, none⟩ = some (.int .i64 0) ∧ xw4.cell? ⟨w.heap.size + 1, 12, none⟩ = some (.int .i64 0) ∧ xw4.cell? ⟨w.heap.size + 1, 13, none⟩ = some (.int .i64 0) := by refine ⟨?_, ?_, ?_, ?_, ?_, ?_, ?_, ?_, ?_, ?_, ?_, ?_, ?_, ?_, ?_, ?_, ?_, ?_, ?_, ?_, ?_, ?_, ?_⟩ <;> (rw [bc1 hbx4]; simp [go_sem, cP, *])
  have x4f1 : (∀ j, xw4.frozen? ⟨w.heap.size + 1, j, none⟩ = false) := by (intro j; rw [bc2 hbx4]; simp [go_sem, *])
  obtain ⟨x4o0, x4n0, x4o1, x4n1⟩ : w.heap.size < xw4.heap.size ∧ xw4.heap.size ≠ w.heap.size ∧ w.heap.size + 1 < xw4.heap.size ∧ xw4.heap.size ≠ w.heap.size + 1 := by refine ⟨?_, ?_, ?_, ?_⟩ <;> omega
  have hBx4 : Below w.heap.size w xw4 := belA
  clear hbx4 x3A0 x3A1 x3A2 x3A3 x3A4 x3A5 x3A6 x3A7 x3A8 x3B0 x3B1 x3B2 x3B3 x3B4 x3B5 x3B6 x3B7 x3B8 x3B9 x3B10 x3B11 x3B12 x3B13 x3f1 x3o0 x3n0 x3o1 x3n1 hBx3
  go_wp2_with fail
  refine hK.out _ _ (by simp [go_sem, cP, *]) (fun hHeld => ?_)
  clear hK K
  try simp only [Act.put, sA, sB, sC]
  refine tkA 21 34 rfl ?_
  refine rdA 22 rfl (fun K hK => ?_)
  go_simp
  go_wp2_with fail
  refine hK.out _ _ (by simp [go_sem, cP, *]) (fun hHeld => ?_)
  clear hK K
  try simp only [Act.put, sA, sB, sC]
  refine tkA 23 3 rfl ?_
  refine wpAnyH_done (by kernel_rfl) ?_ _
  go_wp2
  refine bodyPost_ret (v := .tuple #[.agg #[.slice (some ⟨b, 0, none⟩) 2 2, .int .i64 0, .int .i64 0, .int .i64 0, .int .i64 790, .int .i64 320, .int .i64 340, .int .i64 0, .int .i64 0, .int .i64 790, .int .i64 252800, .int .i64 268600, .int .i64 0, .int .i64 0], .int .i64 0]) (by simp [results, Try.results90, go_sem, *]) rfl ⟨rfl, ?_⟩
  exact belA
theorem isWithin_O (w : World) : Calls Try.prog 113 #[.int .i64 252800, .int .i64 1, .agg #[.int .i64 252800, .int .i64 268600]] w fun e w' => e = .returned (.bool true) ∧ Below w.heap.size w w' := by
  have h := cWithin_any 252800 252800 268600
  have hi : inB 252800 252800 268600 = true := by decide
  go_enter Try.func113, Try.ntmps113
  go_wp2_with ((go_at_call 81; ((with_reducible refine (cWithin_any _ _ _ _).mono ?_)); rintro e w' ⟨rfl, rfl⟩))
  go_ret
  exact ⟨rfl, belA⟩
theorem isWithin_H (w : World) : Calls Try.prog 113 #[.int .i64 0, .int .i64 1, .agg #[.int .i64 0, .int .i64 0]] w fun e w' => e = .returned (.bool true) ∧ Below w.heap.size w w' := by
  have hi : inB 0 0 0 = true := by decide
  go_enter Try.func113, Try.ntmps113
  go_wp2_with ((go_at_call 81; ((with_reducible refine (cWithin_any _ _ _ _).mono ?_)); rintro e w' ⟨rfl, rfl⟩))
  go_ret
  exact ⟨rfl, belA⟩
set_option maxHeartbeats 4000000 in
set_option maxRecDepth 100000 in
theorem costOf_ex (b p : Nat) (w : World) (a0 : w.cell? ⟨b, 0, none⟩ = some (.string ⟨#[97, 105, 114]⟩)) (a1 : w.cell? ⟨b, 1, none⟩ = some (.int .i64 210)) (a2 : w.cell? ⟨b, 2, none⟩ = some (.int .i64 0)) (a3 : w.cell? ⟨b, 3, none⟩ = some (.int .i64 2)) (a4 : w.cell? ⟨b, 4, none⟩ = some (.int .i64 10000)) (a5 : w.cell? ⟨b, 5, none⟩ = some (.string ⟨#[111, 50]⟩)) (a6 : w.cell? ⟨b, 6, none⟩ = some (.int .i64 1000)) (a7 : w.cell? ⟨b, 7, none⟩ = some (.int .i64 0)) (a8 : w.cell? ⟨b, 8, none⟩ = some (.int .i64 50)) (a9 : w.cell? ⟨b, 9, none⟩ = some (.int .i64 5000)) (q0 : w.cell? ⟨p, 0, none⟩ = some (.int .i64 680)) (q1 : w.cell? ⟨p, 1, none⟩ = some (.int .i64 110)) (lb : b < w.heap.size) (lp : p < w.heap.size) : Calls Try.prog 91 #[.agg #[.slice (some ⟨b, 0, none⟩) 2 2, .int .i64 0, .int .i64 0, .int .i64 0, .int .i64 790, .int .i64 320, .int .i64 340, .int .i64 0, .int .i64 0, .int .i64 790, .int .i64 252800, .int .i64 268600, .int .i64 0, .int .i64 0], .agg #[.slice (some ⟨p, 0, none⟩) 2 2, .int .i64 1]] w fun e w' => e = .returned (.tuple #[.int .i64 6860, .int .i64 0]) ∧ Below w.heap.size w w' := by
  have w680 : IntKind.i64.wrap 680 = 680 := by decide
  have w1360 : IntKind.i64.wrap 1360 = 1360 := by decide
  have w142800 : IntKind.i64.wrap 142800 = 142800 := by decide
  have w0 : IntKind.i64.wrap 0 = 0 := by decide
  have w790 : IntKind.i64.wrap 790 = 790 := by decide
  have w110 : IntKind.i64.wrap 110 = 110 := by decide
  have w5500 : IntKind.i64.wrap 5500 = 5500 := by decide
  have w6860 : IntKind.i64.wrap 6860 = 6860 := by decide
  have w110000 : IntKind.i64.wrap 110000 = 110000 := by decide
  have w252800 : IntKind.i64.wrap 252800 = 252800 := by decide
  have w10000 : IntKind.i64.wrap 10000 = 10000 := by decide
  have w5000 : IntKind.i64.wrap 5000 = 5000 := by decide
  have i1 : inB 680 0 10000 = true := by decide
  have i2 : inB 110 0 5000 = true := by decide
  have r1 : rngE 1 1 1000000 = 0 := by decide
  have n1 : b ≠ w.heap.size := by omega
  have n2 : b ≠ w.heap.size + 1 := by omega
  have n3 : p ≠ w.heap.size := by omega
  have n4 : p ≠ w.heap.size + 1 := by omega
  have n5 : b ≠ w.heap.size + 1 + 1 := by omega
  have n6 : p ≠ w.heap.size + 1 + 1 := by omega
  have n7 : b ≠ w.heap.size + 1 + 1 + 1 := by omega
  have n8 : p ≠ w.heap.size + 1 + 1 + 1 := by omega
  have tb1 : b < w.heap.size + 1 := by omega
  have tb2 : b < w.heap.size + 1 + 1 := by omega
  have tb3 : b < w.heap.size + 1 + 1 + 1 := by omega
  have tb4 : b < w.heap.size + 1 + 1 + 1 + 1 := by omega
  have tp1 : p < w.heap.size + 1 := by omega
  have tp2 : p < w.heap.size + 1 + 1 := by omega
  have tp3 : p < w.heap.size + 1 + 1 + 1 := by omega
  have tp4 : p < w.heap.size + 1 + 1 + 1 + 1 := by omega
  go_enter Try.func91, Try.ntmps91
  go_wp2_with (first | (go_at_call 63; ((with_reducible refine (cRange_any _ _ _ _).mono ?_)); rintro e w' ⟨rfl, rfl⟩))
  refine wp_loop_rounds 3 ?_
  rw [rounds_succ]
  go_upto_region 13 with ((go_at_call 81; ((with_reducible refine (cWithin_any _ _ _ _).mono ?_)); rintro e w' ⟨rfl, rfl⟩))
  refine wp_region_held_drew (S := (fun w' => w'.cell? ⟨w.heap.size + 1 + 1, 3, none⟩ = some (.int .i64 2))) (by kernel_rfl) (by simp [go_sem, cP, *]) (fun hHeld => ?_)
  refine tkA 0 50 rfl ?_
  refine tkA 1 51 rfl ?_
  refine tkA 2 52 rfl ?_
  refine tkA 3 53 rfl ?_
  refine tkA 4 54 rfl ?_
  refine tkA 5 55 rfl ?_
  refine tkA 6 56 rfl ?_
  refine tkA 7 57 rfl ?_
  refine tkA 8 58 rfl ?_
  refine tkA 9 7 rfl ?_
  refine tkA 10 10 rfl ?_
  refine wpAnyH_done (by kernel_rfl) ?_ _
  go_upto_region 14 with (fail)
  refine wp_region_held_drew (S := (fun w' => w'.cell? ⟨w.heap.size + 1 + 1, 1, none⟩ = some (.int .i64 210) ∧ w'.cell? ⟨w.heap.size + 1 + 1, 2, none⟩ = some (.int .i64 0))) (by kernel_rfl) (by simp [go_sem, cP, *]) (fun hHeld => ?_)
  refine tkA 0 59 rfl ?_
  refine tkA 1 60 rfl ?_
  refine tkA 2 61 rfl ?_
  refine tkA 3 62 rfl ?_
  refine tkA 4 63 rfl ?_
  refine tkA 5 64 rfl ?_
  refine tkA 6 65 rfl ?_
  refine tkA 7 66 rfl ?_
  refine tkA 8 67 rfl ?_
  refine tkA 9 68 rfl ?_
  refine tkA 10 69 rfl ?_
  refine tkA 11 70 rfl ?_
  refine tkA 12 71 rfl ?_
  refine tkA 13 72 rfl ?_
  refine tkA 14 8 rfl ?_
  refine tkA 15 9 rfl ?_
  refine wpAnyH_done (by kernel_rfl) ?_ _
  go_wp2_with fail
  rw [rounds_succ]
  go_upto_region 13 with ((go_at_call 81; ((with_reducible refine (cWithin_any _ _ _ _).mono ?_)); rintro e w' ⟨rfl, rfl⟩))
  refine wp_region_held_drew (S := (fun w' => w'.cell? ⟨w.heap.size + 1 + 1 + 1, 3, none⟩ = some (.int .i64 50))) (by kernel_rfl) (by simp [go_sem, cP, *]) (fun hHeld => ?_)
  refine tkA 0 50 rfl ?_
  refine tkA 1 51 rfl ?_
  refine tkA 2 52 rfl ?_
  refine tkA 3 53 rfl ?_
  refine tkA 4 54 rfl ?_
  refine tkA 5 55 rfl ?_
  refine tkA 6 56 rfl ?_
  refine tkA 7 57 rfl ?_
  refine tkA 8 58 rfl ?_
  refine tkA 9 7 rfl ?_
  refine tkA 10 10 rfl ?_
  refine wpAnyH_done (by kernel_rfl) ?_ _
  go_upto_region 14 with (fail)
  refine wp_region_held_drew (S := (fun w' => w'.cell? ⟨w.heap.size + 1 + 1 + 1, 1, none⟩ = some (.int .i64 1000) ∧ w'.cell? ⟨w.heap.size + 1 + 1 + 1, 2, none⟩ = some (.int .i64 0))) (by kernel_rfl) (by simp [go_sem, cP, *]) (fun hHeld => ?_)
  refine tkA 0 59 rfl ?_
  refine tkA 1 60 rfl ?_
  refine tkA 2 61 rfl ?_
  refine tkA 3 62 rfl ?_
  refine tkA 4 63 rfl ?_
  refine tkA 5 64 rfl ?_
  refine tkA 6 65 rfl ?_
  refine tkA 7 66 rfl ?_
  refine tkA 8 67 rfl ?_
  refine tkA 9 68 rfl ?_
  refine tkA 10 69 rfl ?_
  refine tkA 11 70 rfl ?_
  refine tkA 12 71 rfl ?_
  refine tkA 13 72 rfl ?_
  refine tkA 14 8 rfl ?_
  refine tkA 15 9 rfl ?_
  refine wpAnyH_done (by kernel_rfl) ?_ _
  go_wp2_with fail
  rw [rounds_succ]
  go_wp2_with fail
  refine (isWithin_O _).mono ?_
  rintro e xw1 ⟨rfl, hbx1⟩
  have zx1 := hbx1.size
  try simp at zx1
  obtain ⟨x1A0, x1A1, x1A2, x1A3, x1A4, x1A5, x1A6, x1A7, x1A8, x1A9, x1A10, x1A11, x1A12, x1A13, x1B0, x1B1⟩ : xw1.cell? ⟨w.heap.size, 0, none⟩ = some (.slice (some ⟨b, 0, none⟩) 2 2) ∧ xw1.cell? ⟨w.heap.size, 1, none⟩ = some (.int .i64 0) ∧ xw1.cell? ⟨w.heap.size, 2, none⟩ = some (.int .i64 0) ∧ xw1.cell? ⟨w.heap.size, 3, none⟩ = some (.int .i64 0) ∧ xw1.cell? ⟨w.heap.size, 4, none⟩ = some (.int .i64 790) ∧ xw1.cell? ⟨w.heap.size, 5, none⟩ = some (.int .i64 320) ∧ xw1.cell? ⟨w.heap.size, 6, none⟩ = some (.int .i64 340) ∧ xw1.cell? ⟨w.heap.size, 7, none⟩ = some (.int .i64 0) ∧ xw1.cell? ⟨w.heap.size, 8, none⟩ = some (.int .i64 0) ∧ xw1.cell? ⟨w.heap.size, 9, none⟩ = some (.int .i64 790) ∧ xw1.cell? ⟨w.heap.size, 10, none⟩ = some (.int .i64 252800) ∧ xw1.cell? ⟨w.heap.size, 11, none⟩ = some (.int .i64 268600) ∧ xw1.cell? ⟨w.heap.size, 12, none⟩ = some (.int .i64 0) ∧ xw1.cell? ⟨w.heap.size, 13, none⟩ = some (.int .i64 0) ∧ xw1.cell? ⟨w.heap.size + 1, 0, none⟩ = some (.slice (some ⟨p, 0, none⟩) 2 2) ∧ xw1.cell? ⟨w.heap.size + 1, 1, none⟩ = some (.int .i64 1) := by refine ⟨?_, ?_, ?_, ?_, ?_, ?_, ?_, ?_, ?_, ?_, ?_, ?_, ?_, ?_, ?_, ?_⟩ <;> (rw [bc1 hbx1]; simp [go_sem, cP, *])
  obtain ⟨x1o0, x1n0, x1o1, x1n1⟩ : w.heap.size < xw1.heap.size ∧ xw1.heap.size ≠ w.heap.size ∧ w.heap.size + 1 < xw1.heap.size ∧ xw1.heap.size ≠ w.heap.size + 1 := by refine ⟨?_, ?_, ?_, ?_⟩ <;> omega
  have hBx1 : Below w.heap.size w xw1 := belA
  clear hbx1 
  go_wp2_with fail
  refine (isWithin_H _).mono ?_
  rintro e xw2 ⟨rfl, hbx2⟩
  have zx2 := hbx2.size
  try simp at zx2
  obtain ⟨x2A0, x2A1, x2A2, x2A3, x2A4, x2A5, x2A6, x2A7, x2A8, x2A9, x2A10, x2A11, x2A12, x2A13, x2B0, x2B1⟩ : xw2.cell? ⟨w.heap.size, 0, none⟩ = some (.slice (some ⟨b, 0, none⟩) 2 2) ∧ xw2.cell? ⟨w.heap.size, 1, none⟩ = some (.int .i64 0) ∧ xw2.cell? ⟨w.heap.size, 2, none⟩ = some (.int .i64 0) ∧ xw2.cell? ⟨w.heap.size, 3, none⟩ = some (.int .i64 0) ∧ xw2.cell? ⟨w.heap.size, 4, none⟩ = some (.int .i64 790) ∧ xw2.cell? ⟨w.heap.size, 5, none⟩ = some (.int .i64 320) ∧ xw2.cell? ⟨w.heap.size, 6, none⟩ = some (.int .i64 340) ∧ xw2.cell? ⟨w.heap.size, 7, none⟩ = some (.int .i64 0) ∧ xw2.cell? ⟨w.heap.size, 8, none⟩ = some (.int .i64 0) ∧ xw2.cell? ⟨w.heap.size, 9, none⟩ = some (.int .i64 790) ∧ xw2.cell? ⟨w.heap.size, 10, none⟩ = some (.int .i64 252800) ∧ xw2.cell? ⟨w.heap.size, 11, none⟩ = some (.int .i64 268600) ∧ xw2.cell? ⟨w.heap.size, 12, none⟩ = some (.int .i64 0) ∧ xw2.cell? ⟨w.heap.size, 13, none⟩ = some (.int .i64 0) ∧ xw2.cell? ⟨w.heap.size + 1, 0, none⟩ = some (.slice (some ⟨p, 0, none⟩) 2 2) ∧ xw2.cell? ⟨w.heap.size + 1, 1, none⟩ = some (.int .i64 1) := by refine ⟨?_, ?_, ?_, ?_, ?_, ?_, ?_, ?_, ?_, ?_, ?_, ?_, ?_, ?_, ?_, ?_⟩ <;> (rw [bc1 hbx2]; simp [go_sem, cP, *])
  obtain ⟨x2o0, x2n0, x2o1, x2n1⟩ : w.heap.size < xw2.heap.size ∧ xw2.heap.size ≠ w.heap.size ∧ w.heap.size + 1 < xw2.heap.size ∧ xw2.heap.size ≠ w.heap.size + 1 := by refine ⟨?_, ?_, ?_, ?_⟩ <;> omega
  have hBx2 : Below w.heap.size w xw2 := belA
  clear hbx2 x1A0 x1A1 x1A2 x1A3 x1A4 x1A5 x1A6 x1A7 x1A8 x1A9 x1A10 x1A11 x1A12 x1A13 x1B0 x1B1 x1o0 x1n0 x1o1 x1n1 hBx1
  go_wp2
  go_ret2
  exact ⟨rfl, belA⟩
set_option maxHeartbeats 2000000 in
set_option maxRecDepth 100000 in
theorem CheckPlan_ex (b p : Nat) (w : World) (a0 : w.cell? ⟨b, 0, none⟩ = some (.string ⟨#[97, 105, 114]⟩)) (a1 : w.cell? ⟨b, 1, none⟩ = some (.int .i64 210)) (a2 : w.cell? ⟨b, 2, none⟩ = some (.int .i64 0)) (a3 : w.cell? ⟨b, 3, none⟩ = some (.int .i64 2)) (a4 : w.cell? ⟨b, 4, none⟩ = some (.int .i64 10000)) (a5 : w.cell? ⟨b, 5, none⟩ = some (.string ⟨#[111, 50]⟩)) (a6 : w.cell? ⟨b, 6, none⟩ = some (.int .i64 1000)) (a7 : w.cell? ⟨b, 7, none⟩ = some (.int .i64 0)) (a8 : w.cell? ⟨b, 8, none⟩ = some (.int .i64 50)) (a9 : w.cell? ⟨b, 9, none⟩ = some (.int .i64 5000)) (q0 : w.cell? ⟨p, 0, none⟩ = some (.int .i64 680)) (q1 : w.cell? ⟨p, 1, none⟩ = some (.int .i64 110)) (lb : b < w.heap.size) (lp : p < w.heap.size) : Calls Try.prog 56 #[.agg #[.slice (some ⟨b, 0, none⟩) 2 2, .int .i64 0, .int .i64 0, .int .i64 0, .int .i64 790, .int .i64 320, .int .i64 340, .int .i64 0, .int .i64 0], .agg #[.slice (some ⟨p, 0, none⟩) 2 2, .int .i64 1]] w fun e w' => e = .returned (.tuple #[.int .i64 6860, .int .i64 0]) ∧ Below w.heap.size w w' := by
  go_enter Try.func56, Try.ntmps56
  go_wp2_with fail
  refine (askFor_ex b _ (by first | (simp [go_sem, cP, *]; done) | exact a0) (by first | (simp [go_sem, cP, *]; done) | exact a1) (by first | (simp [go_sem, cP, *]; done) | exact a2) (by first | (simp [go_sem, cP, *]; done) | exact a3) (by first | (simp [go_sem, cP, *]; done) | exact a4) (by first | (simp [go_sem, cP, *]; done) | exact a5) (by first | (simp [go_sem, cP, *]; done) | exact a6) (by first | (simp [go_sem, cP, *]; done) | exact a7) (by first | (simp [go_sem, cP, *]; done) | exact a8) (by first | (simp [go_sem, cP, *]; done) | exact a9) (by simp; omega)).mono ?_
  rintro e xw1 ⟨rfl, hbx1⟩
  have zx1 := hbx1.size
  try simp at zx1
  obtain ⟨x1A0, x1A1, x1A2, x1A3, x1A4, x1A5, x1A6, x1A7, x1A8, x1A9, x1B0, x1B1, x1C0, x1C1, x1C2, x1C3, x1C4, x1C5, x1C6, x1C7, x1C8, x1D0, x1D1⟩ : xw1.cell? ⟨b, 0, none⟩ = some (.string ⟨#[97, 105, 114]⟩) ∧ xw1.cell? ⟨b, 1, none⟩ = some (.int .i64 210) ∧ xw1.cell? ⟨b, 2, none⟩ = some (.int .i64 0) ∧ xw1.cell? ⟨b, 3, none⟩ = some (.int .i64 2) ∧ xw1.cell? ⟨b, 4, none⟩ = some (.int .i64 10000) ∧ xw1.cell? ⟨b, 5, none⟩ = some (.string ⟨#[111, 50]⟩) ∧ xw1.cell? ⟨b, 6, none⟩ = some (.int .i64 1000) ∧ xw1.cell? ⟨b, 7, none⟩ = some (.int .i64 0) ∧ xw1.cell? ⟨b, 8, none⟩ = some (.int .i64 50) ∧ xw1.cell? ⟨b, 9, none⟩ = some (.int .i64 5000) ∧ xw1.cell? ⟨p, 0, none⟩ = some (.int .i64 680) ∧ xw1.cell? ⟨p, 1, none⟩ = some (.int .i64 110) ∧ xw1.cell? ⟨w.heap.size, 0, none⟩ = some (.slice (some ⟨b, 0, none⟩) 2 2) ∧ xw1.cell? ⟨w.heap.size, 1, none⟩ = some (.int .i64 0) ∧ xw1.cell? ⟨w.heap.size, 2, none⟩ = some (.int .i64 0) ∧ xw1.cell? ⟨w.heap.size, 3, none⟩ = some (.int .i64 0) ∧ xw1.cell? ⟨w.heap.size, 4, none⟩ = some (.int .i64 790) ∧ xw1.cell? ⟨w.heap.size, 5, none⟩ = some (.int .i64 320) ∧ xw1.cell? ⟨w.heap.size, 6, none⟩ = some (.int .i64 340) ∧ xw1.cell? ⟨w.heap.size, 7, none⟩ = some (.int .i64 0) ∧ xw1.cell? ⟨w.heap.size, 8, none⟩ = some (.int .i64 0) ∧ xw1.cell? ⟨w.heap.size + 1, 0, none⟩ = some (.slice (some ⟨p, 0, none⟩) 2 2) ∧ xw1.cell? ⟨w.heap.size + 1, 1, none⟩ = some (.int .i64 1) := by refine ⟨?_, ?_, ?_, ?_, ?_, ?_, ?_, ?_, ?_, ?_, ?_, ?_, ?_, ?_, ?_, ?_, ?_, ?_, ?_, ?_, ?_, ?_, ?_⟩ <;> (rw [bc1 hbx1]; simp [go_sem, cP, *])
  obtain ⟨x1o0, x1n0, x1o1, x1n1, x1o2, x1n2, x1o3, x1n3⟩ : b < xw1.heap.size ∧ xw1.heap.size ≠ b ∧ p < xw1.heap.size ∧ xw1.heap.size ≠ p ∧ w.heap.size < xw1.heap.size ∧ xw1.heap.size ≠ w.heap.size ∧ w.heap.size + 1 < xw1.heap.size ∧ xw1.heap.size ≠ w.heap.size + 1 := by refine ⟨?_, ?_, ?_, ?_, ?_, ?_, ?_, ?_⟩ <;> omega
  have hBx1 : Below w.heap.size w xw1 := belA
  clear hbx1 
  go_wp2_with fail
  refine (costOf_ex b p _ (by simp [go_sem, cP, *]) (by simp [go_sem, cP, *]) (by simp [go_sem, cP, *]) (by simp [go_sem, cP, *]) (by simp [go_sem, cP, *]) (by simp [go_sem, cP, *]) (by simp [go_sem, cP, *]) (by simp [go_sem, cP, *]) (by simp [go_sem, cP, *]) (by simp [go_sem, cP, *]) (by simp [go_sem, cP, *]) (by simp [go_sem, cP, *]) (by simp; omega) (by simp; omega)).mono ?_
  rintro e w2 ⟨rfl, hb2⟩
  go_wp2
  go_ret2
  exact ⟨rfl, belA⟩
end Go.Proofs.Ytjkhjjmmkdfjmaa
