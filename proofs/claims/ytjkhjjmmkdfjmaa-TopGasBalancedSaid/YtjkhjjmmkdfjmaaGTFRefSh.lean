import Derived.Test.YtjkhjjmmkdfjmaaGTRm
import Derived.Test.YtjkhjjmmkdfjmaaGTFRefM
import Derived.Deep.DrawnRows
import Derived.Outline
namespace Go.Proofs.Ytjkhjjmmkdfjmaa
open Go.ChangeShapes Go.WideShapes Go.ChangeAt Go.RowKit
set_option linter.unusedVariables false
set_option linter.unusedSimpArgs false
attribute [local go_sem ↓] Go.wp_at_zero Go.wp_at_succ
set_option maxHeartbeats 4000000 in
set_option maxRecDepth 100000 in
theorem refShare_pos (a b c m S P0 P1 P2 Q0 Q1 Q2 R0 R1 R2 X Y Z : Int) (K : Nat) (w : World) (hc : Hid (conB a b c = true)) (hS : Hid (a + b + c = S)) (S0 : 0 < S) (m0 : 0 ≤ m) (m1 : m ≤ S) (hP : Hid (a * m = P0 ∧ b * m = P1 ∧ c * m = P2)) (hQ : Hid (P0 / S = Q0 ∧ P1 / S = Q1 ∧ P2 / S = Q2)) (hR : Hid (P0 % S = R0 ∧ P1 % S = R1 ∧ P2 % S = R2)) (hK : Hid (m - Q0 - Q1 - Q2 = K)) (hK3 : K ≤ 2) (hX : Hid (shq K Q0 Q1 Q2 R0 R1 R2 = (X, Y, Z))) :
    Calls Try.prog 36 #[.agg #[.int .i64 a, .int .i64 b, .int .i64 c], .int .i64 m] w fun e w' => e = .returned (.agg #[.int .i64 X, .int .i64 Y, .int .i64 Z]) ∧ Below w.heap.size w w' := by
  obtain ⟨a0, b0, c0, s1⟩ := conB_iff.1 hc.out
  have hSo := hS.out
  have am : ∀ n : Int, 0 ≤ n → n ≤ S → 0 ≤ n * m ∧ n * m ≤ 1000000000000000000 := fun n h1 h2 => ⟨Int.mul_nonneg h1 m0, Int.le_trans (Int.mul_le_mul (show n ≤ 1000000000 by omega) (show m ≤ 1000000000 by omega) m0 (by omega)) (by omega)⟩
  obtain ⟨p0, p0'⟩ := am a a0 (by omega)
  obtain ⟨p1, p1'⟩ := am b b0 (by omega)
  obtain ⟨p2, p2'⟩ := am c c0 (by omega)
  rw [hP.out.1] at p0 p0'
  rw [hP.out.2.1] at p1 p1'
  rw [hP.out.2.2] at p2 p2'
  have w0 : IntKind.i64.wrap (a * m) = P0 := by rw [hP.out.1]; exact IntWalk.i64_in _ (by omega)
  have w1 : IntKind.i64.wrap (b * m) = P1 := by rw [hP.out.2.1]; exact IntWalk.i64_in _ (by omega)
  have w2 : IntKind.i64.wrap (c * m) = P2 := by rw [hP.out.2.2]; exact IntWalk.i64_in _ (by omega)
  have e0 : IntKind.i64.wrap (P0.tdiv S) = Q0 := by rw [quo_in P0 S p0 (by omega) S0]; exact hQ.out.1
  have e1 : IntKind.i64.wrap (P1.tdiv S) = Q1 := by rw [quo_in P1 S p1 (by omega) S0]; exact hQ.out.2.1
  have e2 : IntKind.i64.wrap (P2.tdiv S) = Q2 := by rw [quo_in P2 S p2 (by omega) S0]; exact hQ.out.2.2
  have rb : ∀ P : Int, 0 ≤ P → 0 ≤ P % S ∧ P % S < S := fun P h => ⟨Int.emod_nonneg _ (by omega), Int.emod_lt_of_pos _ S0⟩
  have d0 : P0.tmod S = R0 := by rw [Int.tmod_eq_emod_of_nonneg p0]; exact hR.out.1
  have d1 : P1.tmod S = R1 := by rw [Int.tmod_eq_emod_of_nonneg p1]; exact hR.out.2.1
  have d2 : P2.tmod S = R2 := by rw [Int.tmod_eq_emod_of_nonneg p2]; exact hR.out.2.2
  have qb : ∀ P n : Int, 0 ≤ P → P = n * m → 0 ≤ n → 0 ≤ P / S ∧ P / S ≤ n := fun P n h1 h2 h3 => ⟨Int.ediv_nonneg h1 (by omega), by
    refine Int.le_trans (Int.ediv_le_ediv S0 (show P ≤ n * S by rw [h2]; exact Int.mul_le_mul_of_nonneg_left m1 h3)) ?_
    rw [Int.mul_ediv_cancel _ (by omega)]; exact Int.le_refl _⟩
  have q0 := qb P0 a p0 hP.out.1.symm a0
  have q1 := qb P1 b p1 hP.out.2.1.symm b0
  have q2 := qb P2 c p2 hP.out.2.2.symm c0
  rw [hQ.out.1] at q0
  rw [hQ.out.2.1] at q1
  rw [hQ.out.2.2] at q2
  have hS0 : ¬ S = 0 := by omega
  have hSb : S ≤ 1000000000 := by omega
  obtain ⟨q0, q0'⟩ := q0
  obtain ⟨q1, q1'⟩ := q1
  obtain ⟨q2, q2'⟩ := q2
  have q0b : Q0 ≤ 1000000000 := by omega
  have q1b : Q1 ≤ 1000000000 := by omega
  have q2b : Q2 ≤ 1000000000 := by omega
  have rr0 := rb P0 p0
  have rr1 := rb P1 p1
  have rr2 := rb P2 p2
  rw [hR.out.1] at rr0
  rw [hR.out.2.1] at rr1
  rw [hR.out.2.2] at rr2
  have hS0b : (S == 0) = false := by simpa using hS0
  have hk : m - Q0 - Q1 - Q2 = (K : Int) := hK.out
  have mb : m ≤ 1000000000 := by omega
  clear am rb qb hSo q0' q1' q2' hP hQ hR
  go_enter Try.func36, Try.ntmps36
  go_wp2_with fail
  refine (refSum_ok a b c S _ hc hS).mono ?_
  rintro e xw1 ⟨rfl, hbx1⟩
  have zx1 := hbx1.size
  try simp at zx1
  obtain ⟨x1A0, x1A1, x1A2, x1B0, x1B1, x1B2⟩ : xw1.cell? ⟨w.heap.size, 0, none⟩ = some (.int .i64 a) ∧ xw1.cell? ⟨w.heap.size, 1, none⟩ = some (.int .i64 b) ∧ xw1.cell? ⟨w.heap.size, 2, none⟩ = some (.int .i64 c) ∧ xw1.cell? ⟨w.heap.size + 1, 0, none⟩ = some (.int .i64 0) ∧ xw1.cell? ⟨w.heap.size + 1, 1, none⟩ = some (.int .i64 0) ∧ xw1.cell? ⟨w.heap.size + 1, 2, none⟩ = some (.int .i64 0) := by refine ⟨?_, ?_, ?_, ?_, ?_, ?_⟩ <;> (rw [bc1 hbx1]; simp [go_sem, cP, *])
  have x1f1 : (∀ j, xw1.frozen? ⟨w.heap.size + 1, j, none⟩ = false) := by (intro j; rw [bc2 hbx1]; simp [go_sem, *])
  obtain ⟨x1o0, x1n0, x1t0_0, x1t0_1, x1o1, x1n1, x1t1_0, x1t1_1⟩ : w.heap.size < xw1.heap.size ∧ xw1.heap.size ≠ w.heap.size ∧ w.heap.size < xw1.heap.size + 1 ∧ w.heap.size < xw1.heap.size + 1 + 1 ∧ w.heap.size + 1 < xw1.heap.size ∧ xw1.heap.size ≠ w.heap.size + 1 ∧ w.heap.size + 1 < xw1.heap.size + 1 ∧ w.heap.size + 1 < xw1.heap.size + 1 + 1 := by refine ⟨?_, ?_, ?_, ?_, ?_, ?_, ?_, ?_⟩ <;> omega
  have hBx1 : Below w.heap.size w xw1 := belA
  clear hbx1 
  have ob1 : w.heap.size < xw1.heap.size := by omega
  have ob2 : w.heap.size + 1 < xw1.heap.size := by omega
  go_wp2
  refine wp_loop_rounds 4 ?_
  rw [rounds_succ]
  generalize hq : xw1.heap.size = q at *
  have d1 : w.heap.size ≠ q := by omega
  have d2 : w.heap.size + 1 ≠ q := by omega
  have d4 : q ≠ w.heap.size := by omega
  have d5 : q ≠ w.heap.size + 1 := by omega
  have d6 : w.heap.size ≠ q + 1 := by omega
  have d7 : w.heap.size + 1 ≠ q + 1 := by omega
  have d8 : w.heap.size ≠ q + 1 + 1 := by omega
  have d9 : w.heap.size + 1 ≠ q + 1 + 1 := by omega
  have e1 : q + 1 ≠ w.heap.size := by omega
  have e2' : q + 1 ≠ w.heap.size + 1 := by omega
  have e3 : q + 1 + 1 ≠ w.heap.size := by omega
  have e4 : q + 1 + 1 ≠ w.heap.size + 1 := by omega
  have sA0 : ((((xw1.alloc (.cells #[.int .i64 a, .int .i64 b, .int .i64 c] 143)).alloc (.cells #[.int .i64 0, .int .i64 0, .int .i64 0] 143)).alloc (.cells #[.int .i64 0, .int .i64 0, .int .i64 0] 143))).cell? ⟨w.heap.size, 0, none⟩ = some (.int .i64 a) := by simp [go_sem, cP, *]
  have sA1 : ((((xw1.alloc (.cells #[.int .i64 a, .int .i64 b, .int .i64 c] 143)).alloc (.cells #[.int .i64 0, .int .i64 0, .int .i64 0] 143)).alloc (.cells #[.int .i64 0, .int .i64 0, .int .i64 0] 143))).cell? ⟨w.heap.size, 1, none⟩ = some (.int .i64 b) := by simp [go_sem, cP, *]
  have sA2 : ((((xw1.alloc (.cells #[.int .i64 a, .int .i64 b, .int .i64 c] 143)).alloc (.cells #[.int .i64 0, .int .i64 0, .int .i64 0] 143)).alloc (.cells #[.int .i64 0, .int .i64 0, .int .i64 0] 143))).cell? ⟨w.heap.size, 2, none⟩ = some (.int .i64 c) := by simp [go_sem, cP, *]
  have sB0 : ((((xw1.alloc (.cells #[.int .i64 a, .int .i64 b, .int .i64 c] 143)).alloc (.cells #[.int .i64 0, .int .i64 0, .int .i64 0] 143)).alloc (.cells #[.int .i64 0, .int .i64 0, .int .i64 0] 143))).cell? ⟨w.heap.size + 1, 0, none⟩ = some (.int .i64 0) := by simp [go_sem, cP, *]
  have sB1 : ((((xw1.alloc (.cells #[.int .i64 a, .int .i64 b, .int .i64 c] 143)).alloc (.cells #[.int .i64 0, .int .i64 0, .int .i64 0] 143)).alloc (.cells #[.int .i64 0, .int .i64 0, .int .i64 0] 143))).cell? ⟨w.heap.size + 1, 1, none⟩ = some (.int .i64 0) := by simp [go_sem, cP, *]
  have sB2 : ((((xw1.alloc (.cells #[.int .i64 a, .int .i64 b, .int .i64 c] 143)).alloc (.cells #[.int .i64 0, .int .i64 0, .int .i64 0] 143)).alloc (.cells #[.int .i64 0, .int .i64 0, .int .i64 0] 143))).cell? ⟨w.heap.size + 1, 2, none⟩ = some (.int .i64 0) := by simp [go_sem, cP, *]
  have sf1 : ∀ j, ((((xw1.alloc (.cells #[.int .i64 a, .int .i64 b, .int .i64 c] 143)).alloc (.cells #[.int .i64 0, .int .i64 0, .int .i64 0] 143)).alloc (.cells #[.int .i64 0, .int .i64 0, .int .i64 0] 143))).frozen? ⟨w.heap.size + 1, j, none⟩ = false := fun j => by simp [go_sem, *]
  have sC0 : ((((xw1.alloc (.cells #[.int .i64 a, .int .i64 b, .int .i64 c] 143)).alloc (.cells #[.int .i64 0, .int .i64 0, .int .i64 0] 143)).alloc (.cells #[.int .i64 0, .int .i64 0, .int .i64 0] 143))).cell? ⟨q, 0, none⟩ = some (.int .i64 a) := by simp [go_sem, cP, *]
  have sC1 : ((((xw1.alloc (.cells #[.int .i64 a, .int .i64 b, .int .i64 c] 143)).alloc (.cells #[.int .i64 0, .int .i64 0, .int .i64 0] 143)).alloc (.cells #[.int .i64 0, .int .i64 0, .int .i64 0] 143))).cell? ⟨q, 1, none⟩ = some (.int .i64 b) := by simp [go_sem, cP, *]
  have sC2 : ((((xw1.alloc (.cells #[.int .i64 a, .int .i64 b, .int .i64 c] 143)).alloc (.cells #[.int .i64 0, .int .i64 0, .int .i64 0] 143)).alloc (.cells #[.int .i64 0, .int .i64 0, .int .i64 0] 143))).cell? ⟨q, 2, none⟩ = some (.int .i64 c) := by simp [go_sem, cP, *]
  have sD0 : ((((xw1.alloc (.cells #[.int .i64 a, .int .i64 b, .int .i64 c] 143)).alloc (.cells #[.int .i64 0, .int .i64 0, .int .i64 0] 143)).alloc (.cells #[.int .i64 0, .int .i64 0, .int .i64 0] 143))).cell? ⟨q + 1, 0, none⟩ = some (.int .i64 0) := by simp [go_sem, cP, *]
  have sD1 : ((((xw1.alloc (.cells #[.int .i64 a, .int .i64 b, .int .i64 c] 143)).alloc (.cells #[.int .i64 0, .int .i64 0, .int .i64 0] 143)).alloc (.cells #[.int .i64 0, .int .i64 0, .int .i64 0] 143))).cell? ⟨q + 1, 1, none⟩ = some (.int .i64 0) := by simp [go_sem, cP, *]
  have sD2 : ((((xw1.alloc (.cells #[.int .i64 a, .int .i64 b, .int .i64 c] 143)).alloc (.cells #[.int .i64 0, .int .i64 0, .int .i64 0] 143)).alloc (.cells #[.int .i64 0, .int .i64 0, .int .i64 0] 143))).cell? ⟨q + 1, 2, none⟩ = some (.int .i64 0) := by simp [go_sem, cP, *]
  have sf3 : ∀ j, ((((xw1.alloc (.cells #[.int .i64 a, .int .i64 b, .int .i64 c] 143)).alloc (.cells #[.int .i64 0, .int .i64 0, .int .i64 0] 143)).alloc (.cells #[.int .i64 0, .int .i64 0, .int .i64 0] 143))).frozen? ⟨q + 1, j, none⟩ = false := fun j => by simp [go_sem, *]
  have sE0 : ((((xw1.alloc (.cells #[.int .i64 a, .int .i64 b, .int .i64 c] 143)).alloc (.cells #[.int .i64 0, .int .i64 0, .int .i64 0] 143)).alloc (.cells #[.int .i64 0, .int .i64 0, .int .i64 0] 143))).cell? ⟨q + 1 + 1, 0, none⟩ = some (.int .i64 0) := by simp [go_sem, cP, *]
  have sE1 : ((((xw1.alloc (.cells #[.int .i64 a, .int .i64 b, .int .i64 c] 143)).alloc (.cells #[.int .i64 0, .int .i64 0, .int .i64 0] 143)).alloc (.cells #[.int .i64 0, .int .i64 0, .int .i64 0] 143))).cell? ⟨q + 1 + 1, 1, none⟩ = some (.int .i64 0) := by simp [go_sem, cP, *]
  have sE2 : ((((xw1.alloc (.cells #[.int .i64 a, .int .i64 b, .int .i64 c] 143)).alloc (.cells #[.int .i64 0, .int .i64 0, .int .i64 0] 143)).alloc (.cells #[.int .i64 0, .int .i64 0, .int .i64 0] 143))).cell? ⟨q + 1 + 1, 2, none⟩ = some (.int .i64 0) := by simp [go_sem, cP, *]
  have sf4 : ∀ j, ((((xw1.alloc (.cells #[.int .i64 a, .int .i64 b, .int .i64 c] 143)).alloc (.cells #[.int .i64 0, .int .i64 0, .int .i64 0] 143)).alloc (.cells #[.int .i64 0, .int .i64 0, .int .i64 0] 143))).frozen? ⟨q + 1 + 1, j, none⟩ = false := fun j => by simp [go_sem, *]
  have sB : Below w.heap.size w ((((xw1.alloc (.cells #[.int .i64 a, .int .i64 b, .int .i64 c] 143)).alloc (.cells #[.int .i64 0, .int .i64 0, .int .i64 0] 143)).alloc (.cells #[.int .i64 0, .int .i64 0, .int .i64 0] 143))) := (((hBx1.alloc (by omega) _).alloc (by simp; omega) _).alloc (by simp; omega) _)
  have sz : q + 1 + 1 < ((((xw1.alloc (.cells #[.int .i64 a, .int .i64 b, .int .i64 c] 143)).alloc (.cells #[.int .i64 0, .int .i64 0, .int .i64 0] 143)).alloc (.cells #[.int .i64 0, .int .i64 0, .int .i64 0] 143))).heap.size := by simp; omega
  generalize hW : (((xw1.alloc (.cells #[.int .i64 a, .int .i64 b, .int .i64 c] 143)).alloc (.cells #[.int .i64 0, .int .i64 0, .int .i64 0] 143)).alloc (.cells #[.int .i64 0, .int .i64 0, .int .i64 0] 143)) = gw at *
  clear hW hq x1A0 x1A1 x1A2 x1B0 x1B1 x1B2 x1f1 x1o0 x1n0 x1t0_0 x1t0_1 x1o1 x1n1 x1t1_0 x1t1_1 hBx1
  go_upto_region 10 with (fail)
  refine wp_region_held_drew (S := (fun w' => w'.cell? ⟨q, 0, none⟩ = some (.int .i64 a) ∧ w'.cell? ⟨q, 1, none⟩ = some (.int .i64 b) ∧ w'.cell? ⟨q, 2, none⟩ = some (.int .i64 c))) (by kernel_rfl) (by simp [go_sem, cP, *]) (fun hHeld => ?_)
  refine tkA 0 30 rfl ?_
  refine tkA 1 31 rfl ?_
  refine tkA 2 32 rfl ?_
  refine tkA 3 33 rfl ?_
  refine tkA 4 34 rfl ?_
  refine tkA 5 35 rfl ?_
  refine tkA 6 36 rfl ?_
  refine tkA 7 37 rfl ?_
  refine tkA 8 38 rfl ?_
  refine tkA 9 39 rfl ?_
  refine tkA 10 40 rfl ?_
  refine tkA 11 41 rfl ?_
  refine tkA 12 42 rfl ?_
  refine tkA 13 43 rfl ?_
  refine tkA 14 44 rfl ?_
  refine tkA 15 45 rfl ?_
  refine tkA 16 46 rfl ?_
  refine rdA 17 rfl (fun K hK => ?_)
  go_simp
  go_wp2_with fail
  refine hK.out _ _ (by simp [go_sem, cP, *]) (fun hHeld => ?_)
  clear hK K
  try simp only [Act.put, sA, sB, sC]
  refine tkA 18 47 rfl ?_
  refine rdA 19 rfl (fun K hK => ?_)
  go_simp
  go_wp2_with fail
  refine hK.out _ _ (by simp [go_sem, cP, *]) (fun hHeld => ?_)
  clear hK K
  try simp only [Act.put, sA, sB, sC]
  refine wpAnyH_done (by kernel_rfl) ?_ _
  have g0A0 : (((gw.setCell ⟨q + 1, 0, none⟩ (.int .i64 Q0)).setCell ⟨q + 1 + 1, 0, none⟩ (.int .i64 R0)).drew).cell? ⟨w.heap.size, 0, none⟩ = some (.int .i64 a) := by simp [go_sem, cP, *]
  have g0A1 : (((gw.setCell ⟨q + 1, 0, none⟩ (.int .i64 Q0)).setCell ⟨q + 1 + 1, 0, none⟩ (.int .i64 R0)).drew).cell? ⟨w.heap.size, 1, none⟩ = some (.int .i64 b) := by simp [go_sem, cP, *]
  have g0A2 : (((gw.setCell ⟨q + 1, 0, none⟩ (.int .i64 Q0)).setCell ⟨q + 1 + 1, 0, none⟩ (.int .i64 R0)).drew).cell? ⟨w.heap.size, 2, none⟩ = some (.int .i64 c) := by simp [go_sem, cP, *]
  have g0B0 : (((gw.setCell ⟨q + 1, 0, none⟩ (.int .i64 Q0)).setCell ⟨q + 1 + 1, 0, none⟩ (.int .i64 R0)).drew).cell? ⟨w.heap.size + 1, 0, none⟩ = some (.int .i64 0) := by simp [go_sem, cP, *]
  have g0B1 : (((gw.setCell ⟨q + 1, 0, none⟩ (.int .i64 Q0)).setCell ⟨q + 1 + 1, 0, none⟩ (.int .i64 R0)).drew).cell? ⟨w.heap.size + 1, 1, none⟩ = some (.int .i64 0) := by simp [go_sem, cP, *]
  have g0B2 : (((gw.setCell ⟨q + 1, 0, none⟩ (.int .i64 Q0)).setCell ⟨q + 1 + 1, 0, none⟩ (.int .i64 R0)).drew).cell? ⟨w.heap.size + 1, 2, none⟩ = some (.int .i64 0) := by simp [go_sem, cP, *]
  have g0f1 : ∀ j, (((gw.setCell ⟨q + 1, 0, none⟩ (.int .i64 Q0)).setCell ⟨q + 1 + 1, 0, none⟩ (.int .i64 R0)).drew).frozen? ⟨w.heap.size + 1, j, none⟩ = false := fun j => by simp [go_sem, *]
  have g0C0 : (((gw.setCell ⟨q + 1, 0, none⟩ (.int .i64 Q0)).setCell ⟨q + 1 + 1, 0, none⟩ (.int .i64 R0)).drew).cell? ⟨q, 0, none⟩ = some (.int .i64 a) := by simp [go_sem, cP, *]
  have g0C1 : (((gw.setCell ⟨q + 1, 0, none⟩ (.int .i64 Q0)).setCell ⟨q + 1 + 1, 0, none⟩ (.int .i64 R0)).drew).cell? ⟨q, 1, none⟩ = some (.int .i64 b) := by simp [go_sem, cP, *]
  have g0C2 : (((gw.setCell ⟨q + 1, 0, none⟩ (.int .i64 Q0)).setCell ⟨q + 1 + 1, 0, none⟩ (.int .i64 R0)).drew).cell? ⟨q, 2, none⟩ = some (.int .i64 c) := by simp [go_sem, cP, *]
  have g0D0 : (((gw.setCell ⟨q + 1, 0, none⟩ (.int .i64 Q0)).setCell ⟨q + 1 + 1, 0, none⟩ (.int .i64 R0)).drew).cell? ⟨q + 1, 0, none⟩ = some (.int .i64 Q0) := by simp [go_sem, cP, *]
  have g0D1 : (((gw.setCell ⟨q + 1, 0, none⟩ (.int .i64 Q0)).setCell ⟨q + 1 + 1, 0, none⟩ (.int .i64 R0)).drew).cell? ⟨q + 1, 1, none⟩ = some (.int .i64 0) := by simp [go_sem, cP, *]
  have g0D2 : (((gw.setCell ⟨q + 1, 0, none⟩ (.int .i64 Q0)).setCell ⟨q + 1 + 1, 0, none⟩ (.int .i64 R0)).drew).cell? ⟨q + 1, 2, none⟩ = some (.int .i64 0) := by simp [go_sem, cP, *]
  have g0f3 : ∀ j, (((gw.setCell ⟨q + 1, 0, none⟩ (.int .i64 Q0)).setCell ⟨q + 1 + 1, 0, none⟩ (.int .i64 R0)).drew).frozen? ⟨q + 1, j, none⟩ = false := fun j => by simp [go_sem, *]
  have g0E0 : (((gw.setCell ⟨q + 1, 0, none⟩ (.int .i64 Q0)).setCell ⟨q + 1 + 1, 0, none⟩ (.int .i64 R0)).drew).cell? ⟨q + 1 + 1, 0, none⟩ = some (.int .i64 R0) := by simp [go_sem, cP, *]
  have g0E1 : (((gw.setCell ⟨q + 1, 0, none⟩ (.int .i64 Q0)).setCell ⟨q + 1 + 1, 0, none⟩ (.int .i64 R0)).drew).cell? ⟨q + 1 + 1, 1, none⟩ = some (.int .i64 0) := by simp [go_sem, cP, *]
  have g0E2 : (((gw.setCell ⟨q + 1, 0, none⟩ (.int .i64 Q0)).setCell ⟨q + 1 + 1, 0, none⟩ (.int .i64 R0)).drew).cell? ⟨q + 1 + 1, 2, none⟩ = some (.int .i64 0) := by simp [go_sem, cP, *]
  have g0f4 : ∀ j, (((gw.setCell ⟨q + 1, 0, none⟩ (.int .i64 Q0)).setCell ⟨q + 1 + 1, 0, none⟩ (.int .i64 R0)).drew).frozen? ⟨q + 1 + 1, j, none⟩ = false := fun j => by simp [go_sem, *]
  have g0B : Below w.heap.size w (((gw.setCell ⟨q + 1, 0, none⟩ (.int .i64 Q0)).setCell ⟨q + 1 + 1, 0, none⟩ (.int .i64 R0)).drew) := ((sB.setCell (by show w.heap.size ≤ q + 1; omega) _).setCell (by show w.heap.size ≤ q + 1 + 1; omega) _).drew
  have g0z : q + 1 + 1 < (((gw.setCell ⟨q + 1, 0, none⟩ (.int .i64 Q0)).setCell ⟨q + 1 + 1, 0, none⟩ (.int .i64 R0)).drew).heap.size := by simp; omega
  clear sA0 sA1 sA2 sB0 sB1 sB2 sf1 sC0 sC1 sC2 sD0 sD1 sD2 sf3 sE0 sE1 sE2 sf4 sB sz
  generalize hW : ((gw.setCell ⟨q + 1, 0, none⟩ (.int .i64 Q0)).setCell ⟨q + 1 + 1, 0, none⟩ (.int .i64 R0)).drew = gw0 at *
  clear hW
  go_wp2_with fail
  rw [rounds_succ]
  go_upto_region 10 with (fail)
  refine wp_region_held_drew (S := (fun w' => w'.cell? ⟨q, 0, none⟩ = some (.int .i64 a) ∧ w'.cell? ⟨q, 1, none⟩ = some (.int .i64 b) ∧ w'.cell? ⟨q, 2, none⟩ = some (.int .i64 c))) (by kernel_rfl) (by simp [go_sem, cP, *]) (fun hHeld => ?_)
  refine tkA 0 30 rfl ?_
  refine tkA 1 31 rfl ?_
  refine tkA 2 32 rfl ?_
  refine tkA 3 33 rfl ?_
  refine tkA 4 34 rfl ?_
  refine tkA 5 35 rfl ?_
  refine tkA 6 36 rfl ?_
  refine tkA 7 37 rfl ?_
  refine tkA 8 38 rfl ?_
  refine tkA 9 39 rfl ?_
  refine tkA 10 40 rfl ?_
  refine tkA 11 41 rfl ?_
  refine tkA 12 42 rfl ?_
  refine tkA 13 43 rfl ?_
  refine tkA 14 44 rfl ?_
  refine tkA 15 45 rfl ?_
  refine tkA 16 46 rfl ?_
  refine rdA 17 rfl (fun K hK => ?_)
  go_simp
  go_wp2_with fail
  refine hK.out _ _ (by simp [go_sem, cP, *]) (fun hHeld => ?_)
  clear hK K
  try simp only [Act.put, sA, sB, sC]
  refine tkA 18 47 rfl ?_
  refine rdA 19 rfl (fun K hK => ?_)
  go_simp
  go_wp2_with fail
  refine hK.out _ _ (by simp [go_sem, cP, *]) (fun hHeld => ?_)
  clear hK K
  try simp only [Act.put, sA, sB, sC]
  refine wpAnyH_done (by kernel_rfl) ?_ _
  have g1A0 : (((gw0.setCell ⟨q + 1, 1, none⟩ (.int .i64 Q1)).setCell ⟨q + 1 + 1, 1, none⟩ (.int .i64 R1)).drew).cell? ⟨w.heap.size, 0, none⟩ = some (.int .i64 a) := by simp [go_sem, cP, *]
  have g1A1 : (((gw0.setCell ⟨q + 1, 1, none⟩ (.int .i64 Q1)).setCell ⟨q + 1 + 1, 1, none⟩ (.int .i64 R1)).drew).cell? ⟨w.heap.size, 1, none⟩ = some (.int .i64 b) := by simp [go_sem, cP, *]
  have g1A2 : (((gw0.setCell ⟨q + 1, 1, none⟩ (.int .i64 Q1)).setCell ⟨q + 1 + 1, 1, none⟩ (.int .i64 R1)).drew).cell? ⟨w.heap.size, 2, none⟩ = some (.int .i64 c) := by simp [go_sem, cP, *]
  have g1B0 : (((gw0.setCell ⟨q + 1, 1, none⟩ (.int .i64 Q1)).setCell ⟨q + 1 + 1, 1, none⟩ (.int .i64 R1)).drew).cell? ⟨w.heap.size + 1, 0, none⟩ = some (.int .i64 0) := by simp [go_sem, cP, *]
  have g1B1 : (((gw0.setCell ⟨q + 1, 1, none⟩ (.int .i64 Q1)).setCell ⟨q + 1 + 1, 1, none⟩ (.int .i64 R1)).drew).cell? ⟨w.heap.size + 1, 1, none⟩ = some (.int .i64 0) := by simp [go_sem, cP, *]
  have g1B2 : (((gw0.setCell ⟨q + 1, 1, none⟩ (.int .i64 Q1)).setCell ⟨q + 1 + 1, 1, none⟩ (.int .i64 R1)).drew).cell? ⟨w.heap.size + 1, 2, none⟩ = some (.int .i64 0) := by simp [go_sem, cP, *]
  have g1f1 : ∀ j, (((gw0.setCell ⟨q + 1, 1, none⟩ (.int .i64 Q1)).setCell ⟨q + 1 + 1, 1, none⟩ (.int .i64 R1)).drew).frozen? ⟨w.heap.size + 1, j, none⟩ = false := fun j => by simp [go_sem, *]
  have g1C0 : (((gw0.setCell ⟨q + 1, 1, none⟩ (.int .i64 Q1)).setCell ⟨q + 1 + 1, 1, none⟩ (.int .i64 R1)).drew).cell? ⟨q, 0, none⟩ = some (.int .i64 a) := by simp [go_sem, cP, *]
  have g1C1 : (((gw0.setCell ⟨q + 1, 1, none⟩ (.int .i64 Q1)).setCell ⟨q + 1 + 1, 1, none⟩ (.int .i64 R1)).drew).cell? ⟨q, 1, none⟩ = some (.int .i64 b) := by simp [go_sem, cP, *]
  have g1C2 : (((gw0.setCell ⟨q + 1, 1, none⟩ (.int .i64 Q1)).setCell ⟨q + 1 + 1, 1, none⟩ (.int .i64 R1)).drew).cell? ⟨q, 2, none⟩ = some (.int .i64 c) := by simp [go_sem, cP, *]
  have g1D0 : (((gw0.setCell ⟨q + 1, 1, none⟩ (.int .i64 Q1)).setCell ⟨q + 1 + 1, 1, none⟩ (.int .i64 R1)).drew).cell? ⟨q + 1, 0, none⟩ = some (.int .i64 Q0) := by simp [go_sem, cP, *]
  have g1D1 : (((gw0.setCell ⟨q + 1, 1, none⟩ (.int .i64 Q1)).setCell ⟨q + 1 + 1, 1, none⟩ (.int .i64 R1)).drew).cell? ⟨q + 1, 1, none⟩ = some (.int .i64 Q1) := by simp [go_sem, cP, *]
  have g1D2 : (((gw0.setCell ⟨q + 1, 1, none⟩ (.int .i64 Q1)).setCell ⟨q + 1 + 1, 1, none⟩ (.int .i64 R1)).drew).cell? ⟨q + 1, 2, none⟩ = some (.int .i64 0) := by simp [go_sem, cP, *]
  have g1f3 : ∀ j, (((gw0.setCell ⟨q + 1, 1, none⟩ (.int .i64 Q1)).setCell ⟨q + 1 + 1, 1, none⟩ (.int .i64 R1)).drew).frozen? ⟨q + 1, j, none⟩ = false := fun j => by simp [go_sem, *]
  have g1E0 : (((gw0.setCell ⟨q + 1, 1, none⟩ (.int .i64 Q1)).setCell ⟨q + 1 + 1, 1, none⟩ (.int .i64 R1)).drew).cell? ⟨q + 1 + 1, 0, none⟩ = some (.int .i64 R0) := by simp [go_sem, cP, *]
  have g1E1 : (((gw0.setCell ⟨q + 1, 1, none⟩ (.int .i64 Q1)).setCell ⟨q + 1 + 1, 1, none⟩ (.int .i64 R1)).drew).cell? ⟨q + 1 + 1, 1, none⟩ = some (.int .i64 R1) := by simp [go_sem, cP, *]
  have g1E2 : (((gw0.setCell ⟨q + 1, 1, none⟩ (.int .i64 Q1)).setCell ⟨q + 1 + 1, 1, none⟩ (.int .i64 R1)).drew).cell? ⟨q + 1 + 1, 2, none⟩ = some (.int .i64 0) := by simp [go_sem, cP, *]
  have g1f4 : ∀ j, (((gw0.setCell ⟨q + 1, 1, none⟩ (.int .i64 Q1)).setCell ⟨q + 1 + 1, 1, none⟩ (.int .i64 R1)).drew).frozen? ⟨q + 1 + 1, j, none⟩ = false := fun j => by simp [go_sem, *]
  have g1B : Below w.heap.size w (((gw0.setCell ⟨q + 1, 1, none⟩ (.int .i64 Q1)).setCell ⟨q + 1 + 1, 1, none⟩ (.int .i64 R1)).drew) := ((g0B.setCell (by show w.heap.size ≤ q + 1; omega) _).setCell (by show w.heap.size ≤ q + 1 + 1; omega) _).drew
  have g1z : q + 1 + 1 < (((gw0.setCell ⟨q + 1, 1, none⟩ (.int .i64 Q1)).setCell ⟨q + 1 + 1, 1, none⟩ (.int .i64 R1)).drew).heap.size := by simp; omega
  clear g0A0 g0A1 g0A2 g0B0 g0B1 g0B2 g0f1 g0C0 g0C1 g0C2 g0D0 g0D1 g0D2 g0f3 g0E0 g0E1 g0E2 g0f4 g0B g0z
  generalize hW : ((gw0.setCell ⟨q + 1, 1, none⟩ (.int .i64 Q1)).setCell ⟨q + 1 + 1, 1, none⟩ (.int .i64 R1)).drew = gw1 at *
  clear hW
  go_wp2_with fail
  rw [rounds_succ]
  go_upto_region 10 with (fail)
  refine wp_region_held_drew (S := (fun w' => w'.cell? ⟨q, 0, none⟩ = some (.int .i64 a) ∧ w'.cell? ⟨q, 1, none⟩ = some (.int .i64 b) ∧ w'.cell? ⟨q, 2, none⟩ = some (.int .i64 c))) (by kernel_rfl) (by simp [go_sem, cP, *]) (fun hHeld => ?_)
  refine tkA 0 30 rfl ?_
  refine tkA 1 31 rfl ?_
  refine tkA 2 32 rfl ?_
  refine tkA 3 33 rfl ?_
  refine tkA 4 34 rfl ?_
  refine tkA 5 35 rfl ?_
  refine tkA 6 36 rfl ?_
  refine tkA 7 37 rfl ?_
  refine tkA 8 38 rfl ?_
  refine tkA 9 39 rfl ?_
  refine tkA 10 40 rfl ?_
  refine tkA 11 41 rfl ?_
  refine tkA 12 42 rfl ?_
  refine tkA 13 43 rfl ?_
  refine tkA 14 44 rfl ?_
  refine tkA 15 45 rfl ?_
  refine tkA 16 46 rfl ?_
  refine rdA 17 rfl (fun K hK => ?_)
  go_simp
  go_wp2_with fail
  refine hK.out _ _ (by simp [go_sem, cP, *]) (fun hHeld => ?_)
  clear hK K
  try simp only [Act.put, sA, sB, sC]
  refine tkA 18 47 rfl ?_
  refine rdA 19 rfl (fun K hK => ?_)
  go_simp
  go_wp2_with fail
  refine hK.out _ _ (by simp [go_sem, cP, *]) (fun hHeld => ?_)
  clear hK K
  try simp only [Act.put, sA, sB, sC]
  refine wpAnyH_done (by kernel_rfl) ?_ _
  have g2A0 : (((gw1.setCell ⟨q + 1, 2, none⟩ (.int .i64 Q2)).setCell ⟨q + 1 + 1, 2, none⟩ (.int .i64 R2)).drew).cell? ⟨w.heap.size, 0, none⟩ = some (.int .i64 a) := by simp [go_sem, cP, *]
  have g2A1 : (((gw1.setCell ⟨q + 1, 2, none⟩ (.int .i64 Q2)).setCell ⟨q + 1 + 1, 2, none⟩ (.int .i64 R2)).drew).cell? ⟨w.heap.size, 1, none⟩ = some (.int .i64 b) := by simp [go_sem, cP, *]
  have g2A2 : (((gw1.setCell ⟨q + 1, 2, none⟩ (.int .i64 Q2)).setCell ⟨q + 1 + 1, 2, none⟩ (.int .i64 R2)).drew).cell? ⟨w.heap.size, 2, none⟩ = some (.int .i64 c) := by simp [go_sem, cP, *]
  have g2B0 : (((gw1.setCell ⟨q + 1, 2, none⟩ (.int .i64 Q2)).setCell ⟨q + 1 + 1, 2, none⟩ (.int .i64 R2)).drew).cell? ⟨w.heap.size + 1, 0, none⟩ = some (.int .i64 0) := by simp [go_sem, cP, *]
  have g2B1 : (((gw1.setCell ⟨q + 1, 2, none⟩ (.int .i64 Q2)).setCell ⟨q + 1 + 1, 2, none⟩ (.int .i64 R2)).drew).cell? ⟨w.heap.size + 1, 1, none⟩ = some (.int .i64 0) := by simp [go_sem, cP, *]
  have g2B2 : (((gw1.setCell ⟨q + 1, 2, none⟩ (.int .i64 Q2)).setCell ⟨q + 1 + 1, 2, none⟩ (.int .i64 R2)).drew).cell? ⟨w.heap.size + 1, 2, none⟩ = some (.int .i64 0) := by simp [go_sem, cP, *]
  have g2f1 : ∀ j, (((gw1.setCell ⟨q + 1, 2, none⟩ (.int .i64 Q2)).setCell ⟨q + 1 + 1, 2, none⟩ (.int .i64 R2)).drew).frozen? ⟨w.heap.size + 1, j, none⟩ = false := fun j => by simp [go_sem, *]
  have g2C0 : (((gw1.setCell ⟨q + 1, 2, none⟩ (.int .i64 Q2)).setCell ⟨q + 1 + 1, 2, none⟩ (.int .i64 R2)).drew).cell? ⟨q, 0, none⟩ = some (.int .i64 a) := by simp [go_sem, cP, *]
  have g2C1 : (((gw1.setCell ⟨q + 1, 2, none⟩ (.int .i64 Q2)).setCell ⟨q + 1 + 1, 2, none⟩ (.int .i64 R2)).drew).cell? ⟨q, 1, none⟩ = some (.int .i64 b) := by simp [go_sem, cP, *]
  have g2C2 : (((gw1.setCell ⟨q + 1, 2, none⟩ (.int .i64 Q2)).setCell ⟨q + 1 + 1, 2, none⟩ (.int .i64 R2)).drew).cell? ⟨q, 2, none⟩ = some (.int .i64 c) := by simp [go_sem, cP, *]
  have g2D0 : (((gw1.setCell ⟨q + 1, 2, none⟩ (.int .i64 Q2)).setCell ⟨q + 1 + 1, 2, none⟩ (.int .i64 R2)).drew).cell? ⟨q + 1, 0, none⟩ = some (.int .i64 Q0) := by simp [go_sem, cP, *]
  have g2D1 : (((gw1.setCell ⟨q + 1, 2, none⟩ (.int .i64 Q2)).setCell ⟨q + 1 + 1, 2, none⟩ (.int .i64 R2)).drew).cell? ⟨q + 1, 1, none⟩ = some (.int .i64 Q1) := by simp [go_sem, cP, *]
  have g2D2 : (((gw1.setCell ⟨q + 1, 2, none⟩ (.int .i64 Q2)).setCell ⟨q + 1 + 1, 2, none⟩ (.int .i64 R2)).drew).cell? ⟨q + 1, 2, none⟩ = some (.int .i64 Q2) := by simp [go_sem, cP, *]
  have g2f3 : ∀ j, (((gw1.setCell ⟨q + 1, 2, none⟩ (.int .i64 Q2)).setCell ⟨q + 1 + 1, 2, none⟩ (.int .i64 R2)).drew).frozen? ⟨q + 1, j, none⟩ = false := fun j => by simp [go_sem, *]
  have g2E0 : (((gw1.setCell ⟨q + 1, 2, none⟩ (.int .i64 Q2)).setCell ⟨q + 1 + 1, 2, none⟩ (.int .i64 R2)).drew).cell? ⟨q + 1 + 1, 0, none⟩ = some (.int .i64 R0) := by simp [go_sem, cP, *]
  have g2E1 : (((gw1.setCell ⟨q + 1, 2, none⟩ (.int .i64 Q2)).setCell ⟨q + 1 + 1, 2, none⟩ (.int .i64 R2)).drew).cell? ⟨q + 1 + 1, 1, none⟩ = some (.int .i64 R1) := by simp [go_sem, cP, *]
  have g2E2 : (((gw1.setCell ⟨q + 1, 2, none⟩ (.int .i64 Q2)).setCell ⟨q + 1 + 1, 2, none⟩ (.int .i64 R2)).drew).cell? ⟨q + 1 + 1, 2, none⟩ = some (.int .i64 R2) := by simp [go_sem, cP, *]
  have g2f4 : ∀ j, (((gw1.setCell ⟨q + 1, 2, none⟩ (.int .i64 Q2)).setCell ⟨q + 1 + 1, 2, none⟩ (.int .i64 R2)).drew).frozen? ⟨q + 1 + 1, j, none⟩ = false := fun j => by simp [go_sem, *]
  have g2B : Below w.heap.size w (((gw1.setCell ⟨q + 1, 2, none⟩ (.int .i64 Q2)).setCell ⟨q + 1 + 1, 2, none⟩ (.int .i64 R2)).drew) := ((g1B.setCell (by show w.heap.size ≤ q + 1; omega) _).setCell (by show w.heap.size ≤ q + 1 + 1; omega) _).drew
  have g2z : q + 1 + 1 < (((gw1.setCell ⟨q + 1, 2, none⟩ (.int .i64 Q2)).setCell ⟨q + 1 + 1, 2, none⟩ (.int .i64 R2)).drew).heap.size := by simp; omega
  clear g1A0 g1A1 g1A2 g1B0 g1B1 g1B2 g1f1 g1C0 g1C1 g1C2 g1D0 g1D1 g1D2 g1f3 g1E0 g1E1 g1E2 g1f4 g1B g1z
  generalize hW : ((gw1.setCell ⟨q + 1, 2, none⟩ (.int .i64 Q2)).setCell ⟨q + 1 + 1, 2, none⟩ (.int .i64 R2)).drew = gw2 at *
  clear hW
  go_wp2_with fail
  rw [rounds_succ]
  go_wp2
  go_loopw [9] (fun i wr => ∃ (k : Nat) (x y z r s t : Int), k ≤ 2 ∧ i = .int .i64 k ∧ Hid (shq k x y z r s t = (X, Y, Z)) ∧ (0 ≤ x ∧ x + k ≤ 1000000002) ∧ (0 ≤ y ∧ y + k ≤ 1000000002) ∧ (0 ≤ z ∧ z + k ≤ 1000000002) ∧ wr.cell? ⟨q + 1, 0, none⟩ = some (.int .i64 x) ∧ wr.cell? ⟨q + 1, 1, none⟩ = some (.int .i64 y) ∧ wr.cell? ⟨q + 1, 2, none⟩ = some (.int .i64 z) ∧ wr.cell? ⟨q + 1 + 1, 0, none⟩ = some (.int .i64 r) ∧ wr.cell? ⟨q + 1 + 1, 1, none⟩ = some (.int .i64 s) ∧ wr.cell? ⟨q + 1 + 1, 2, none⟩ = some (.int .i64 t) ∧ wr.cell? ⟨w.heap.size + 1, 0, none⟩ = some (.int .i64 0) ∧ wr.cell? ⟨w.heap.size + 1, 1, none⟩ = some (.int .i64 0) ∧ wr.cell? ⟨w.heap.size + 1, 2, none⟩ = some (.int .i64 0) ∧ (∀ j, wr.frozen? ⟨w.heap.size + 1, j, none⟩ = false) ∧ (∀ j, wr.frozen? ⟨q + 1, j, none⟩ = false) ∧ (∀ j, wr.frozen? ⟨q + 1 + 1, j, none⟩ = false) ∧ q + 1 + 1 < wr.heap.size ∧ Below w.heap.size w wr) (fun i _ => (intOf i).toNat)
  case atStart => exact ⟨K, Q0, Q1, Q2, R0, R1, R2, by omega, rfl, hX, ⟨q0, by omega⟩, ⟨q1, by omega⟩, ⟨q2, by omega⟩, g2D0, g2D1, g2D2, g2E0, g2E1, g2E2, g2B0, g2B1, g2B2, g2f1, g2f3, g2f4, g2z, g2B⟩
  case round =>
    clear g2A0 g2A1 g2A2 g2B0 g2B1 g2B2 g2f1 g2C0 g2C1 g2C2 g2D0 g2D1 g2D2 g2f3 g2E0 g2E1 g2E2 g2f4 g2B g2z w0 w1 w2 hX rr0 rr1 rr2
    obtain ⟨k, x, y, z, r, s, t, hk3, rfl, hsh, ⟨bx0, bx1⟩, ⟨by0, by1⟩, ⟨bz0, bz1⟩, s0, s1', s2, t0, t1, t2, r0, r1, r2, fr, fs, ft, o6, hB⟩ := hrel
    rcases k with _ | k
    · have hx := hsh.out
      rw [shq] at hx
      obtain ⟨rfl, rfl, rfl⟩ : x = X ∧ y = Y ∧ z = Z := by simpa using hx
      clear hx hsh
      go_wp2
      refine bodyPost_ret (v := .agg #[.int .i64 x, .int .i64 y, .int .i64 z]) (by simp [results, Try.results36, go_sem, *]) rfl ⟨rfl, ?_⟩
      exact belA
    · have hx := hsh.out
      rw [shq] at hx
      have kp : (0 : Int) < ((k + 1 : Nat) : Int) := by omega
      have ke : ((k + 1 : Nat) : Int) = (k : Int) + 1 := by omega
      have kw : IntKind.i64.wrap (((k + 1 : Nat) : Int) - 1) = (k : Int) := by rw [ke]; exact (IntWalk.i64_in _ (by omega)).trans (by omega)
      have o4 : w.heap.size + 1 < wr.heap.size := by omega
      have o5 : q < wr.heap.size := by omega
      have o7 : q + 1 < wr.heap.size := by omega
      have gc : (s ≤ r ∧ t ≤ r ∧ Hid (shq k (x + 1) y z (-1) s t = (X, Y, Z))) ∨ (r < s ∧ t ≤ s ∧ Hid (shq k x (y + 1) z r (-1) t = (X, Y, Z))) ∨ (s ≤ r ∧ r < t ∧ Hid (shq k x y (z + 1) r s (-1) = (X, Y, Z))) ∨ (r < s ∧ s < t ∧ Hid (shq k x y (z + 1) r s (-1) = (X, Y, Z))) := by
        by_cases c1 : s ≤ r ∧ t ≤ r
        · rw [if_pos c1] at hx; exact Or.inl ⟨c1.1, c1.2, Lib.hid hx⟩
        · rw [if_neg c1] at hx
          by_cases c2 : t ≤ s
          · rw [if_pos c2] at hx; exact Or.inr (Or.inl ⟨by omega, c2, Lib.hid hx⟩)
          · rw [if_neg c2] at hx
            by_cases c3 : s ≤ r
            · exact Or.inr (Or.inr (Or.inl ⟨c3, by omega, Lib.hid hx⟩))
            · exact Or.inr (Or.inr (Or.inr ⟨by omega, by omega, Lib.hid hx⟩))
      clear hx hsh
      rcases gc with ⟨c1, c2, hx⟩ | ⟨c1, c2, hx⟩ | ⟨c1, c2, hx⟩ | ⟨c1, c2, hx⟩
      · go_wp2_with fail
        refine wp_loop_rounds 3 ?_
        rw [rounds_succ]
        go_upto_region 17 with (fail)
        refine wp_region_held_drew (S := (fun w' => w'.cell? ⟨q + 1 + 1, 0, none⟩ = some (.int .i64 r) ∧ w'.cell? ⟨q + 1 + 1, 1, none⟩ = some (.int .i64 s) ∧ w'.cell? ⟨q + 1 + 1, 2, none⟩ = some (.int .i64 t))) (by kernel_rfl) (by simp [go_sem, cP, *]) (fun hHeld => ?_)
        refine tkA 0 59 rfl ?_
        refine tkA 1 60 rfl ?_
        refine tkA 2 61 rfl ?_
        refine tkA 3 62 rfl ?_
        refine tkA 4 63 rfl ?_
        refine tkA 5 64 rfl ?_
        refine tkA 6 65 rfl ?_
        refine wpAnyH_done (by kernel_rfl) ?_ _
        go_wp2_with fail
        rw [rounds_succ]
        go_upto_region 17 with (fail)
        refine wp_region_held_drew (S := (fun w' => w'.cell? ⟨q + 1 + 1, 0, none⟩ = some (.int .i64 r) ∧ w'.cell? ⟨q + 1 + 1, 1, none⟩ = some (.int .i64 s) ∧ w'.cell? ⟨q + 1 + 1, 2, none⟩ = some (.int .i64 t))) (by kernel_rfl) (by simp [go_sem, cP, *]) (fun hHeld => ?_)
        refine tkA 0 59 rfl ?_
        refine tkA 1 60 rfl ?_
        refine tkA 2 61 rfl ?_
        refine tkA 3 62 rfl ?_
        refine tkA 4 63 rfl ?_
        refine tkA 5 64 rfl ?_
        refine tkA 6 65 rfl ?_
        refine wpAnyH_done (by kernel_rfl) ?_ _
        go_wp2_with fail
        rw [rounds_succ]
        go_wp2
        go_roundw
        case rel => exact ⟨k, x + 1, y, z, -1, s, t, by omega, by go_num, hx, ⟨by omega, by omega⟩, ⟨by omega, by omega⟩, ⟨by omega, by omega⟩, (by simp [go_sem, cP, *]), (by simp [go_sem, cP, *]), (by simp [go_sem, cP, *]), (by simp [go_sem, cP, *]), (by simp [go_sem, cP, *]), (by simp [go_sem, cP, *]), (by simp [go_sem, cP, *]), (by simp [go_sem, cP, *]), (by simp [go_sem, cP, *]), (by intro j; simp [go_sem, *]), (by intro j; simp [go_sem, *]), (by intro j; simp [go_sem, *]), (by first | omega | (simp; omega)), belA⟩
        case measure => (simp [intOf]; try omega)
      · go_wp2_with fail
        refine wp_loop_rounds 3 ?_
        rw [rounds_succ]
        go_upto_region 17 with (fail)
        refine wp_region_held_drew (S := (fun w' => w'.cell? ⟨q + 1 + 1, 0, none⟩ = some (.int .i64 r) ∧ w'.cell? ⟨q + 1 + 1, 1, none⟩ = some (.int .i64 s) ∧ w'.cell? ⟨q + 1 + 1, 2, none⟩ = some (.int .i64 t))) (by kernel_rfl) (by simp [go_sem, cP, *]) (fun hHeld => ?_)
        refine tkA 0 59 rfl ?_
        refine tkA 1 60 rfl ?_
        refine tkA 2 61 rfl ?_
        refine tkA 3 62 rfl ?_
        refine tkA 4 63 rfl ?_
        refine tkA 5 64 rfl ?_
        refine tkA 6 65 rfl ?_
        refine wpAnyH_done (by kernel_rfl) ?_ _
        go_wp2_with fail
        rw [rounds_succ]
        go_upto_region 17 with (fail)
        refine wp_region_held_drew (S := (fun w' => w'.cell? ⟨q + 1 + 1, 0, none⟩ = some (.int .i64 r) ∧ w'.cell? ⟨q + 1 + 1, 1, none⟩ = some (.int .i64 s) ∧ w'.cell? ⟨q + 1 + 1, 2, none⟩ = some (.int .i64 t))) (by kernel_rfl) (by simp [go_sem, cP, *]) (fun hHeld => ?_)
        refine tkA 0 59 rfl ?_
        refine tkA 1 60 rfl ?_
        refine tkA 2 61 rfl ?_
        refine tkA 3 62 rfl ?_
        refine tkA 4 63 rfl ?_
        refine tkA 5 64 rfl ?_
        refine tkA 6 65 rfl ?_
        refine wpAnyH_done (by kernel_rfl) ?_ _
        go_wp2_with fail
        rw [rounds_succ]
        go_wp2
        go_roundw
        case rel => exact ⟨k, x, y + 1, z, r, -1, t, by omega, by go_num, hx, ⟨by omega, by omega⟩, ⟨by omega, by omega⟩, ⟨by omega, by omega⟩, (by simp [go_sem, cP, *]), (by simp [go_sem, cP, *]), (by simp [go_sem, cP, *]), (by simp [go_sem, cP, *]), (by simp [go_sem, cP, *]), (by simp [go_sem, cP, *]), (by simp [go_sem, cP, *]), (by simp [go_sem, cP, *]), (by simp [go_sem, cP, *]), (by intro j; simp [go_sem, *]), (by intro j; simp [go_sem, *]), (by intro j; simp [go_sem, *]), (by first | omega | (simp; omega)), belA⟩
        case measure => (simp [intOf]; try omega)
      · go_wp2_with fail
        refine wp_loop_rounds 3 ?_
        rw [rounds_succ]
        go_upto_region 17 with (fail)
        refine wp_region_held_drew (S := (fun w' => w'.cell? ⟨q + 1 + 1, 0, none⟩ = some (.int .i64 r) ∧ w'.cell? ⟨q + 1 + 1, 1, none⟩ = some (.int .i64 s) ∧ w'.cell? ⟨q + 1 + 1, 2, none⟩ = some (.int .i64 t))) (by kernel_rfl) (by simp [go_sem, cP, *]) (fun hHeld => ?_)
        refine tkA 0 59 rfl ?_
        refine tkA 1 60 rfl ?_
        refine tkA 2 61 rfl ?_
        refine tkA 3 62 rfl ?_
        refine tkA 4 63 rfl ?_
        refine tkA 5 64 rfl ?_
        refine tkA 6 65 rfl ?_
        refine wpAnyH_done (by kernel_rfl) ?_ _
        go_wp2_with fail
        rw [rounds_succ]
        go_upto_region 17 with (fail)
        refine wp_region_held_drew (S := (fun w' => w'.cell? ⟨q + 1 + 1, 0, none⟩ = some (.int .i64 r) ∧ w'.cell? ⟨q + 1 + 1, 1, none⟩ = some (.int .i64 s) ∧ w'.cell? ⟨q + 1 + 1, 2, none⟩ = some (.int .i64 t))) (by kernel_rfl) (by simp [go_sem, cP, *]) (fun hHeld => ?_)
        refine tkA 0 59 rfl ?_
        refine tkA 1 60 rfl ?_
        refine tkA 2 61 rfl ?_
        refine tkA 3 62 rfl ?_
        refine tkA 4 63 rfl ?_
        refine tkA 5 64 rfl ?_
        refine tkA 6 65 rfl ?_
        refine wpAnyH_done (by kernel_rfl) ?_ _
        go_wp2_with fail
        rw [rounds_succ]
        go_wp2
        go_roundw
        case rel => exact ⟨k, x, y, z + 1, r, s, -1, by omega, by go_num, hx, ⟨by omega, by omega⟩, ⟨by omega, by omega⟩, ⟨by omega, by omega⟩, (by simp [go_sem, cP, *]), (by simp [go_sem, cP, *]), (by simp [go_sem, cP, *]), (by simp [go_sem, cP, *]), (by simp [go_sem, cP, *]), (by simp [go_sem, cP, *]), (by simp [go_sem, cP, *]), (by simp [go_sem, cP, *]), (by simp [go_sem, cP, *]), (by intro j; simp [go_sem, *]), (by intro j; simp [go_sem, *]), (by intro j; simp [go_sem, *]), (by first | omega | (simp; omega)), belA⟩
        case measure => (simp [intOf]; try omega)
      · go_wp2_with fail
        refine wp_loop_rounds 3 ?_
        rw [rounds_succ]
        go_upto_region 17 with (fail)
        refine wp_region_held_drew (S := (fun w' => w'.cell? ⟨q + 1 + 1, 0, none⟩ = some (.int .i64 r) ∧ w'.cell? ⟨q + 1 + 1, 1, none⟩ = some (.int .i64 s) ∧ w'.cell? ⟨q + 1 + 1, 2, none⟩ = some (.int .i64 t))) (by kernel_rfl) (by simp [go_sem, cP, *]) (fun hHeld => ?_)
        refine tkA 0 59 rfl ?_
        refine tkA 1 60 rfl ?_
        refine tkA 2 61 rfl ?_
        refine tkA 3 62 rfl ?_
        refine tkA 4 63 rfl ?_
        refine tkA 5 64 rfl ?_
        refine tkA 6 65 rfl ?_
        refine wpAnyH_done (by kernel_rfl) ?_ _
        go_wp2_with fail
        rw [rounds_succ]
        go_upto_region 17 with (fail)
        refine wp_region_held_drew (S := (fun w' => w'.cell? ⟨q + 1 + 1, 0, none⟩ = some (.int .i64 r) ∧ w'.cell? ⟨q + 1 + 1, 1, none⟩ = some (.int .i64 s) ∧ w'.cell? ⟨q + 1 + 1, 2, none⟩ = some (.int .i64 t))) (by kernel_rfl) (by simp [go_sem, cP, *]) (fun hHeld => ?_)
        refine tkA 0 59 rfl ?_
        refine tkA 1 60 rfl ?_
        refine tkA 2 61 rfl ?_
        refine tkA 3 62 rfl ?_
        refine tkA 4 63 rfl ?_
        refine tkA 5 64 rfl ?_
        refine tkA 6 65 rfl ?_
        refine wpAnyH_done (by kernel_rfl) ?_ _
        go_wp2_with fail
        rw [rounds_succ]
        go_wp2
        go_roundw
        case rel => exact ⟨k, x, y, z + 1, r, s, -1, by omega, by go_num, hx, ⟨by omega, by omega⟩, ⟨by omega, by omega⟩, ⟨by omega, by omega⟩, (by simp [go_sem, cP, *]), (by simp [go_sem, cP, *]), (by simp [go_sem, cP, *]), (by simp [go_sem, cP, *]), (by simp [go_sem, cP, *]), (by simp [go_sem, cP, *]), (by simp [go_sem, cP, *]), (by simp [go_sem, cP, *]), (by simp [go_sem, cP, *]), (by intro j; simp [go_sem, *]), (by intro j; simp [go_sem, *]), (by intro j; simp [go_sem, *]), (by first | omega | (simp; omega)), belA⟩
        case measure => (simp [intOf]; try omega)
end Go.Proofs.Ytjkhjjmmkdfjmaa
