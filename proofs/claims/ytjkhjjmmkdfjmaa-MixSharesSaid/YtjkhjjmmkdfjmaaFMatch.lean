/- What is missing of a wanted gas; whether a content matches a gas. -/
import Derived.Test.YtjkhjjmmkdfjmaaFShare2
import Derived.Test.YtjkhjjmmkdfjmaaFNamed
import Derived.Test.YtjkhjjmmkdfjmaaLastReg
import Derived.Outline
namespace Go.Proofs.Ytjkhjjmmkdfjmaa
open Go.ChangeShapes Go.WideShapes Go.ChangeAt Go.RowKit
set_option linter.unusedVariables false
set_option linter.unusedSimpArgs false
attribute [local go_sem ↓] Go.wp_at_zero Go.wp_at_succ
theorem gasE_zF {o h : Int} (hg : gasE o h = 0) : 0 ≤ o ∧ o ≤ 1000 ∧ 0 ≤ h ∧ h ≤ 1000 ∧ o + h ≤ 1000 := by
  unfold gasE at hg
  by_cases h1 : inB o 0 1000 = true ∧ inB h 0 1000 = true
  · rw [if_pos h1] at hg
    obtain ⟨⟨a, b⟩, c, d⟩ := And.intro (inB_iff.1 h1.1) (inB_iff.1 h1.2)
    by_cases h2 : o + h ≤ 1000
    · exact ⟨a, b, c, d, h2⟩
    · rw [if_neg h2] at hg; exact absurd hg (by omega)
  · rw [if_neg h1] at hg; exact absurd hg (by omega)
theorem sharesOf_any (o h n : Int) (w : World) (hg : Hid (gasE o h = 0)) (hn : Hid (1000 - o - h = n)) : Calls Try.prog 78 #[.agg #[.int .i64 o, .int .i64 h]] w fun e w' => e = .returned (.agg #[.int .i64 o, .int .i64 h, .int .i64 n]) ∧ Below w.heap.size w w' := by
  obtain ⟨o0, o1, h0, h1, oh⟩ := gasE_zF hg.out
  have e1 : 1000 - o - h = n := hn.out
  go_enter Try.func78, Try.ntmps78
  go_wp2
  refine bodyPost_ret (v := .agg #[.int .i64 o, .int .i64 h, .int .i64 n]) (by simp [results, Try.results78, go_sem]) rfl ⟨rfl, ?_⟩
  (repeat (first | (with_reducible refine Below.drew ?_) | (with_reducible refine below_drewN ?_ _) | (with_reducible refine Below.alloc ?_ (by first | omega | (simp; done) | (simp; omega) | (simp at *; omega)) _) | (with_reducible refine Below.setCell ?_ (by first | omega | (simp; done) | (simp; omega) | (simp at *; omega)) _) | (with_reducible exact Below.refl _ _) | (with_reducible assumption) | (with_reducible refine Below.trans ?_ (Below.mono (by assumption) (by first | omega | (simp; done) | (simp; omega) | (simp at *; omega))))))
set_option maxHeartbeats 4000000 in
set_option maxRecDepth 100000 in
theorem missingOf_any (a b c o h u v t n P Q U X Y Z : Int) (w : World) (hc : Hid (conB a b c = true)) (hg : Hid (gasE o h = 0)) (hn : Hid (1000 - o - h = n)) (t0 : 0 ≤ t) (t1 : t ≤ 1000000000) (hP : Hid (t * o = P ∧ t * h = Q ∧ t * n = U)) (hX : Hid (P - 1000 * a = X ∧ Q - 1000 * b = Y ∧ U - 1000 * c = Z)) :
    Calls Try.prog 77 #[.agg #[.int .i64 a, .int .i64 b, .int .i64 c], .agg #[.int .i64 o, .int .i64 h, .int .i64 u, .int .i64 v, .int .i64 t]] w fun e w' => e = .returned (.agg #[.int .i64 X, .int .i64 Y, .int .i64 Z]) ∧ Below w.heap.size w w' := by
  obtain ⟨a0, b0, c0, s1⟩ := conB_iff.1 hc.out
  obtain ⟨o0, o1, h0, h1, oh⟩ := gasE_zF hg.out
  have n0 : 0 ≤ n ∧ n ≤ 1000 := by rw [← hn.out]; omega
  have tb : ∀ k : Int, 0 ≤ k → k ≤ 1000 → 0 ≤ t * k ∧ t * k ≤ 1000000000000 := fun k h1 h2 => ⟨Int.mul_nonneg t0 h1, Int.le_trans (Int.mul_le_mul t1 h2 h1 (by omega)) (by omega)⟩
  have p0 := tb o o0 o1
  have p1 := tb h h0 h1
  have p2 := tb n n0.1 n0.2
  rw [hP.out.1] at p0
  rw [hP.out.2.1] at p1
  rw [hP.out.2.2] at p2
  have w1 : IntKind.i64.wrap (t * o) = P := by rw [hP.out.1]; exact IntWalk.i64_in _ (by omega)
  have w2 : IntKind.i64.wrap (t * h) = Q := by rw [hP.out.2.1]; exact IntWalk.i64_in _ (by omega)
  have w3 : IntKind.i64.wrap (t * n) = U := by rw [hP.out.2.2]; exact IntWalk.i64_in _ (by omega)
  have w4 : IntKind.i64.wrap (1000 * a) = 1000 * a := IntWalk.i64_in _ (by omega)
  have w5 : IntKind.i64.wrap (1000 * b) = 1000 * b := IntWalk.i64_in _ (by omega)
  have w6 : IntKind.i64.wrap (1000 * c) = 1000 * c := IntWalk.i64_in _ (by omega)
  have w7 : IntKind.i64.wrap (P - 1000 * a) = X := by rw [hX.out.1]; exact IntWalk.i64_in _ (by have := hX.out.1; omega)
  have w8 : IntKind.i64.wrap (Q - 1000 * b) = Y := by rw [hX.out.2.1]; exact IntWalk.i64_in _ (by have := hX.out.2.1; omega)
  have w9 : IntKind.i64.wrap (U - 1000 * c) = Z := by rw [hX.out.2.2]; exact IntWalk.i64_in _ (by have := hX.out.2.2; omega)
  clear tb hP hX
  have ix0 : ∀ w : World, (Instr.index 145 (.agg #[.int .i64 a, .int .i64 b, .int .i64 c]) (.int .i64 0)).run Try.prog w = .ok (.int .i64 a) w := fun _ => by kernel_rfl
  have ix1 : ∀ w : World, (Instr.index 145 (.agg #[.int .i64 a, .int .i64 b, .int .i64 c]) (.int .i64 1)).run Try.prog w = .ok (.int .i64 b) w := fun _ => by kernel_rfl
  have ix2 : ∀ w : World, (Instr.index 145 (.agg #[.int .i64 a, .int .i64 b, .int .i64 c]) (.int .i64 2)).run Try.prog w = .ok (.int .i64 c) w := fun _ => by kernel_rfl
  go_enter Try.func77, Try.ntmps77
  go_wp2_with fail
  refine (sharesOf_any o h n _ hg hn).mono ?_
  rintro e xw1 ⟨rfl, hbx1⟩
  have zx1 := hbx1.size
  try simp at zx1
  obtain ⟨x1_0_0, x1_0_1, x1_0_2, x1_1_0, x1_1_1, x1_1_2, x1_1_3, x1_1_4, x1_2_0, x1_2_1, x1_2_2⟩ : xw1.cell? ⟨w.heap.size, 0, none⟩ = some (.int .i64 a) ∧ xw1.cell? ⟨w.heap.size, 1, none⟩ = some (.int .i64 b) ∧ xw1.cell? ⟨w.heap.size, 2, none⟩ = some (.int .i64 c) ∧ xw1.cell? ⟨w.heap.size + 1, 0, none⟩ = some (.int .i64 o) ∧ xw1.cell? ⟨w.heap.size + 1, 1, none⟩ = some (.int .i64 h) ∧ xw1.cell? ⟨w.heap.size + 1, 2, none⟩ = some (.int .i64 u) ∧ xw1.cell? ⟨w.heap.size + 1, 3, none⟩ = some (.int .i64 v) ∧ xw1.cell? ⟨w.heap.size + 1, 4, none⟩ = some (.int .i64 t) ∧ xw1.cell? ⟨w.heap.size + 1 + 1, 0, none⟩ = some (.int .i64 0) ∧ xw1.cell? ⟨w.heap.size + 1 + 1, 1, none⟩ = some (.int .i64 0) ∧ xw1.cell? ⟨w.heap.size + 1 + 1, 2, none⟩ = some (.int .i64 0) := by refine ⟨?_, ?_, ?_, ?_, ?_, ?_, ?_, ?_, ?_, ?_, ?_⟩ <;> (rw [(bcell hbx1).1 _ _ (by first | (simp; done) | (simp; omega) | omega)]; simp [go_sem, World.cell?_alloc_past, *])
  have x1f2 : (∀ j, xw1.frozen? ⟨w.heap.size + 1 + 1, j, none⟩ = false) := by (intro j; rw [(bcell hbx1).2 _ _ (by first | (simp; done) | (simp; omega) | omega)]; simp [go_sem, *])
  obtain ⟨x1o0, x1n0, x1t0_0, x1t0_1, x1o1, x1n1, x1t1_0, x1t1_1, x1o2, x1n2, x1t2_0, x1t2_1⟩ : w.heap.size < xw1.heap.size ∧ xw1.heap.size ≠ w.heap.size ∧ w.heap.size < xw1.heap.size + 1 ∧ w.heap.size < xw1.heap.size + 1 + 1 ∧ w.heap.size + 1 < xw1.heap.size ∧ xw1.heap.size ≠ w.heap.size + 1 ∧ w.heap.size + 1 < xw1.heap.size + 1 ∧ w.heap.size + 1 < xw1.heap.size + 1 + 1 ∧ w.heap.size + 1 + 1 < xw1.heap.size ∧ xw1.heap.size ≠ w.heap.size + 1 + 1 ∧ w.heap.size + 1 + 1 < xw1.heap.size + 1 ∧ w.heap.size + 1 + 1 < xw1.heap.size + 1 + 1 := by refine ⟨?_, ?_, ?_, ?_, ?_, ?_, ?_, ?_, ?_, ?_, ?_, ?_⟩ <;> omega
  have hBx1 : Below w.heap.size w xw1 := (by (repeat (first | (with_reducible refine Below.drew ?_) | (with_reducible refine below_drewN ?_ _) | (with_reducible refine Below.alloc ?_ (by first | omega | (simp; done) | (simp; omega) | (simp at *; omega)) _) | (with_reducible refine Below.setCell ?_ (by first | omega | (simp; done) | (simp; omega) | (simp at *; omega)) _) | (with_reducible exact Below.refl _ _) | (with_reducible assumption) | (with_reducible refine Below.trans ?_ (Below.mono (by assumption) (by first | omega | (simp; done) | (simp; omega) | (simp at *; omega)))))))
  clear hbx1 
  go_wp2_with fail
  have ob1 : w.heap.size ≤ xw1.heap.size := by omega
  have ob2 : w.heap.size < xw1.heap.size := by omega
  have ob3 : w.heap.size + 1 < xw1.heap.size := by omega
  have ob4 : w.heap.size + 1 + 1 < xw1.heap.size := by omega
  refine (mPartsOf_any a b c _).mono ?_
  rintro e xw2 ⟨rfl, hbx2⟩
  have zx2 := hbx2.size
  try simp at zx2
  obtain ⟨x2_0_0, x2_0_1, x2_0_2, x2_1_0, x2_1_1, x2_1_2, x2_1_3, x2_1_4, x2_2_0, x2_2_1, x2_2_2, x2_3_0, x2_3_1, x2_3_2⟩ : xw2.cell? ⟨w.heap.size, 0, none⟩ = some (.int .i64 a) ∧ xw2.cell? ⟨w.heap.size, 1, none⟩ = some (.int .i64 b) ∧ xw2.cell? ⟨w.heap.size, 2, none⟩ = some (.int .i64 c) ∧ xw2.cell? ⟨w.heap.size + 1, 0, none⟩ = some (.int .i64 o) ∧ xw2.cell? ⟨w.heap.size + 1, 1, none⟩ = some (.int .i64 h) ∧ xw2.cell? ⟨w.heap.size + 1, 2, none⟩ = some (.int .i64 u) ∧ xw2.cell? ⟨w.heap.size + 1, 3, none⟩ = some (.int .i64 v) ∧ xw2.cell? ⟨w.heap.size + 1, 4, none⟩ = some (.int .i64 t) ∧ xw2.cell? ⟨w.heap.size + 1 + 1, 0, none⟩ = some (.int .i64 0) ∧ xw2.cell? ⟨w.heap.size + 1 + 1, 1, none⟩ = some (.int .i64 0) ∧ xw2.cell? ⟨w.heap.size + 1 + 1, 2, none⟩ = some (.int .i64 0) ∧ xw2.cell? ⟨xw1.heap.size, 0, none⟩ = some (.int .i64 o) ∧ xw2.cell? ⟨xw1.heap.size, 1, none⟩ = some (.int .i64 h) ∧ xw2.cell? ⟨xw1.heap.size, 2, none⟩ = some (.int .i64 n) := by refine ⟨?_, ?_, ?_, ?_, ?_, ?_, ?_, ?_, ?_, ?_, ?_, ?_, ?_, ?_⟩ <;> (rw [(bcell hbx2).1 _ _ (by first | (simp; done) | (simp; omega) | omega)]; simp [go_sem, World.cell?_alloc_past, *])
  obtain ⟨x2f2, x2f3⟩ : (∀ j, xw2.frozen? ⟨w.heap.size + 1 + 1, j, none⟩ = false) ∧ (∀ j, xw2.frozen? ⟨xw1.heap.size, j, none⟩ = false) := by refine ⟨?_, ?_⟩ <;> (intro j; rw [(bcell hbx2).2 _ _ (by first | (simp; done) | (simp; omega) | omega)]; simp [go_sem, *])
  obtain ⟨x2o0, x2n0, x2t0_0, x2t0_1, x2o1, x2n1, x2t1_0, x2t1_1, x2o2, x2n2, x2t2_0, x2t2_1, x2o3, x2n3, x2t3_0, x2t3_1⟩ : w.heap.size < xw2.heap.size ∧ xw2.heap.size ≠ w.heap.size ∧ w.heap.size < xw2.heap.size + 1 ∧ w.heap.size < xw2.heap.size + 1 + 1 ∧ w.heap.size + 1 < xw2.heap.size ∧ xw2.heap.size ≠ w.heap.size + 1 ∧ w.heap.size + 1 < xw2.heap.size + 1 ∧ w.heap.size + 1 < xw2.heap.size + 1 + 1 ∧ w.heap.size + 1 + 1 < xw2.heap.size ∧ xw2.heap.size ≠ w.heap.size + 1 + 1 ∧ w.heap.size + 1 + 1 < xw2.heap.size + 1 ∧ w.heap.size + 1 + 1 < xw2.heap.size + 1 + 1 ∧ xw1.heap.size < xw2.heap.size ∧ xw2.heap.size ≠ xw1.heap.size ∧ xw1.heap.size < xw2.heap.size + 1 ∧ xw1.heap.size < xw2.heap.size + 1 + 1 := by refine ⟨?_, ?_, ?_, ?_, ?_, ?_, ?_, ?_, ?_, ?_, ?_, ?_, ?_, ?_, ?_, ?_⟩ <;> omega
  have hBx2 : Below w.heap.size w xw2 := (by (repeat (first | (with_reducible refine Below.drew ?_) | (with_reducible refine below_drewN ?_ _) | (with_reducible refine Below.alloc ?_ (by first | omega | (simp; done) | (simp; omega) | (simp at *; omega)) _) | (with_reducible refine Below.setCell ?_ (by first | omega | (simp; done) | (simp; omega) | (simp at *; omega)) _) | (with_reducible exact Below.refl _ _) | (with_reducible assumption) | (with_reducible refine Below.trans ?_ (Below.mono (by assumption) (by first | omega | (simp; done) | (simp; omega) | (simp at *; omega)))))))
  clear hbx2 x1_0_0 x1_0_1 x1_0_2 x1_1_0 x1_1_1 x1_1_2 x1_1_3 x1_1_4 x1_2_0 x1_2_1 x1_2_2 x1f2 x1o0 x1n0 x1t0_0 x1t0_1 x1o1 x1n1 x1t1_0 x1t1_1 x1o2 x1n2 x1t2_0 x1t2_1 hBx1
  generalize xw1.heap.size = q at *
  have d1 : w.heap.size ≠ q := by omega
  have d2 : w.heap.size + 1 ≠ q := by omega
  have d3 : w.heap.size + 1 + 1 ≠ q := by omega
  have d4 : q ≠ w.heap.size := by omega
  have d5 : q ≠ w.heap.size + 1 := by omega
  have d6 : q ≠ w.heap.size + 1 + 1 := by omega
  go_wp2_with fail
  refine wp_loop_rounds 4 ?_
  rw [rounds_succ]
  go_upto_region 5 with (fail)
  refine wp_region_Z (S := (fun w' => w'.cell? ⟨w.heap.size + 1, 0, none⟩ = some (.int .i64 o) ∧ w'.cell? ⟨w.heap.size + 1, 1, none⟩ = some (.int .i64 h) ∧ w'.cell? ⟨w.heap.size + 1, 2, none⟩ = some (.int .i64 u) ∧ w'.cell? ⟨w.heap.size + 1, 3, none⟩ = some (.int .i64 v) ∧ w'.cell? ⟨w.heap.size + 1, 4, none⟩ = some (.int .i64 t) ∧ w'.cell? ⟨q, 0, none⟩ = some (.int .i64 o) ∧ w'.cell? ⟨q, 1, none⟩ = some (.int .i64 h) ∧ w'.cell? ⟨q, 2, none⟩ = some (.int .i64 n))) 11 (by kernel_rfl) (by kernel_rfl) (by kernel_rfl) (by simp [go_sem, World.cell?_alloc_past, *]) (fun hHeld => ?_)
  refine wpAnyZ_take (i := 0) (oi := ⟨some 17, _, _, _, _, _⟩) (v := ?_) (by kernel_rfl) (by kernel_rfl) rfl rfl (by kernel_rfl) (by kernel_rfl) (by kernel_rfl) (fun _ _ _ h => h) (Or.inl ⟨by kernel_rfl, ?_⟩) (by assumption) ?_
  rotate_left
  · (intro w hSw; (try dsimp only at hSw); go_simp; all_goals with_reducible rfl)
  try simp only [Act.put, List.setIfInBounds_toArray, List.set_cons_zero, List.set_cons_succ]
  refine wpAnyZ_take (i := 1) (oi := ⟨some 18, _, _, _, _, _⟩) (v := ?_) (by kernel_rfl) (by kernel_rfl) rfl rfl (by kernel_rfl) (by kernel_rfl) (by kernel_rfl) (fun _ _ _ h => h) (Or.inl ⟨by kernel_rfl, ?_⟩) (by assumption) ?_
  rotate_left
  · (intro w hSw; (try dsimp only at hSw); go_simp; all_goals with_reducible rfl)
  try simp only [Act.put, List.setIfInBounds_toArray, List.set_cons_zero, List.set_cons_succ]
  refine wpAnyZ_take (i := 2) (oi := ⟨some 19, _, _, _, _, _⟩) (v := ?_) (by kernel_rfl) (by kernel_rfl) rfl rfl (by kernel_rfl) (by kernel_rfl) (by kernel_rfl) (fun _ _ _ h => h) (Or.inl ⟨by kernel_rfl, ?_⟩) (by assumption) ?_
  rotate_left
  · (intro w hSw; (try dsimp only at hSw); go_simp; all_goals with_reducible rfl)
  try simp only [Act.put, List.setIfInBounds_toArray, List.set_cons_zero, List.set_cons_succ]
  refine wpAnyZ_take (i := 3) (oi := ⟨some 20, _, _, _, _, _⟩) (v := ?_) (by kernel_rfl) (by kernel_rfl) rfl rfl (by kernel_rfl) (by kernel_rfl) (by kernel_rfl) (fun _ _ _ h => h) (Or.inl ⟨by kernel_rfl, ?_⟩) (by assumption) ?_
  rotate_left
  · (intro w hSw; (try dsimp only at hSw); go_simp; all_goals with_reducible rfl)
  try simp only [Act.put, List.setIfInBounds_toArray, List.set_cons_zero, List.set_cons_succ]
  refine wpAnyZ_take (i := 4) (oi := ⟨some 21, _, _, _, _, _⟩) (v := ?_) (by kernel_rfl) (by kernel_rfl) rfl rfl (by kernel_rfl) (by kernel_rfl) (by kernel_rfl) (fun _ _ _ h => h) (Or.inl ⟨by kernel_rfl, ?_⟩) (by assumption) ?_
  rotate_left
  · (intro w hSw; (try dsimp only at hSw); go_simp; all_goals with_reducible rfl)
  try simp only [Act.put, List.setIfInBounds_toArray, List.set_cons_zero, List.set_cons_succ]
  refine wpAnyZ_take (i := 5) (oi := ⟨some 22, _, _, _, _, _⟩) (v := ?_) (by kernel_rfl) (by kernel_rfl) rfl rfl (by kernel_rfl) (by kernel_rfl) (by kernel_rfl) (fun _ _ _ h => h) (Or.inl ⟨by kernel_rfl, ?_⟩) (by assumption) ?_
  rotate_left
  · (intro w hSw; (try dsimp only at hSw); go_simp; all_goals with_reducible rfl)
  try simp only [Act.put, List.setIfInBounds_toArray, List.set_cons_zero, List.set_cons_succ]
  refine wpAnyZ_take (i := 6) (oi := ⟨some 23, _, _, _, _, _⟩) (v := ?_) (by kernel_rfl) (by kernel_rfl) rfl rfl (by kernel_rfl) (by kernel_rfl) (by kernel_rfl) (fun _ _ _ h => h) (Or.inl ⟨by kernel_rfl, ?_⟩) (by assumption) ?_
  rotate_left
  · (intro w hSw; (try dsimp only at hSw); go_simp; all_goals with_reducible rfl)
  try simp only [Act.put, List.setIfInBounds_toArray, List.set_cons_zero, List.set_cons_succ]
  refine wpAnyZ_take (i := 7) (oi := ⟨some 24, _, _, _, _, _⟩) (v := ?_) (by kernel_rfl) (by kernel_rfl) rfl rfl (by kernel_rfl) (by kernel_rfl) (by kernel_rfl) (fun _ _ _ h => h) (Or.inl ⟨by kernel_rfl, ?_⟩) (by assumption) ?_
  rotate_left
  · (intro w hSw; (try dsimp only at hSw); go_simp; all_goals with_reducible rfl)
  try simp only [Act.put, List.setIfInBounds_toArray, List.set_cons_zero, List.set_cons_succ]
  refine wpAnyZ_take (i := 8) (oi := ⟨some 25, _, _, _, _, _⟩) (v := ?_) (by kernel_rfl) (by kernel_rfl) rfl rfl (by kernel_rfl) (by kernel_rfl) (by kernel_rfl) (fun _ _ _ h => h) (Or.inl ⟨by kernel_rfl, ?_⟩) (by assumption) ?_
  rotate_left
  · (intro w hSw; (try dsimp only at hSw); go_simp; all_goals with_reducible rfl)
  try simp only [Act.put, List.setIfInBounds_toArray, List.set_cons_zero, List.set_cons_succ]
  refine wpAnyZ_take (i := 9) (oi := ⟨some 26, _, _, _, _, _⟩) (v := ?_) (by kernel_rfl) (by kernel_rfl) rfl rfl (by kernel_rfl) (by kernel_rfl) (by kernel_rfl) (fun _ _ _ h => h) (Or.inl ⟨by kernel_rfl, ?_⟩) (by assumption) ?_
  rotate_left
  · (intro w hSw; (try dsimp only at hSw); go_simp; all_goals with_reducible rfl)
  try simp only [Act.put, List.setIfInBounds_toArray, List.set_cons_zero, List.set_cons_succ]
  refine wpAnyZ_take (i := 10) (oi := ⟨some 27, _, _, _, _, _⟩) (v := ?_) (by kernel_rfl) (by kernel_rfl) rfl rfl (by kernel_rfl) (by kernel_rfl) (by kernel_rfl) (fun _ _ _ h => h) (Or.inl ⟨by kernel_rfl, ?_⟩) (by assumption) ?_
  rotate_left
  · (intro w hSw; (try dsimp only at hSw); go_simp; all_goals with_reducible rfl)
  try simp only [Act.put, List.setIfInBounds_toArray, List.set_cons_zero, List.set_cons_succ]
  refine wpAnyZ_last (by kernel_rfl) rfl (fun K hK => ?_)
  go_simp
  go_wp2_with fail
  refine hK.out _ _ ?_
  clear hK K
  try simp only [Act.put, List.setIfInBounds_toArray, List.set_cons_zero, List.set_cons_succ]
  have g0_0_0 : ((xw2.setCell ⟨q, 0, none⟩ (.int .i64 X)).drew).cell? ⟨w.heap.size, 0, none⟩ = some (.int .i64 a) := by simp [go_sem, World.cell?_alloc_past, *]
  have g0_0_1 : ((xw2.setCell ⟨q, 0, none⟩ (.int .i64 X)).drew).cell? ⟨w.heap.size, 1, none⟩ = some (.int .i64 b) := by simp [go_sem, World.cell?_alloc_past, *]
  have g0_0_2 : ((xw2.setCell ⟨q, 0, none⟩ (.int .i64 X)).drew).cell? ⟨w.heap.size, 2, none⟩ = some (.int .i64 c) := by simp [go_sem, World.cell?_alloc_past, *]
  have g0_1_0 : ((xw2.setCell ⟨q, 0, none⟩ (.int .i64 X)).drew).cell? ⟨w.heap.size + 1, 0, none⟩ = some (.int .i64 o) := by simp [go_sem, World.cell?_alloc_past, *]
  have g0_1_1 : ((xw2.setCell ⟨q, 0, none⟩ (.int .i64 X)).drew).cell? ⟨w.heap.size + 1, 1, none⟩ = some (.int .i64 h) := by simp [go_sem, World.cell?_alloc_past, *]
  have g0_1_2 : ((xw2.setCell ⟨q, 0, none⟩ (.int .i64 X)).drew).cell? ⟨w.heap.size + 1, 2, none⟩ = some (.int .i64 u) := by simp [go_sem, World.cell?_alloc_past, *]
  have g0_1_3 : ((xw2.setCell ⟨q, 0, none⟩ (.int .i64 X)).drew).cell? ⟨w.heap.size + 1, 3, none⟩ = some (.int .i64 v) := by simp [go_sem, World.cell?_alloc_past, *]
  have g0_1_4 : ((xw2.setCell ⟨q, 0, none⟩ (.int .i64 X)).drew).cell? ⟨w.heap.size + 1, 4, none⟩ = some (.int .i64 t) := by simp [go_sem, World.cell?_alloc_past, *]
  have g0_2_0 : ((xw2.setCell ⟨q, 0, none⟩ (.int .i64 X)).drew).cell? ⟨w.heap.size + 1 + 1, 0, none⟩ = some (.int .i64 0) := by simp [go_sem, World.cell?_alloc_past, *]
  have g0_2_1 : ((xw2.setCell ⟨q, 0, none⟩ (.int .i64 X)).drew).cell? ⟨w.heap.size + 1 + 1, 1, none⟩ = some (.int .i64 0) := by simp [go_sem, World.cell?_alloc_past, *]
  have g0_2_2 : ((xw2.setCell ⟨q, 0, none⟩ (.int .i64 X)).drew).cell? ⟨w.heap.size + 1 + 1, 2, none⟩ = some (.int .i64 0) := by simp [go_sem, World.cell?_alloc_past, *]
  have g0f2 : ∀ j, ((xw2.setCell ⟨q, 0, none⟩ (.int .i64 X)).drew).frozen? ⟨w.heap.size + 1 + 1, j, none⟩ = false := fun j => by simp [go_sem, *]
  have g0_3_0 : ((xw2.setCell ⟨q, 0, none⟩ (.int .i64 X)).drew).cell? ⟨q, 0, none⟩ = some (.int .i64 X) := by simp [go_sem, World.cell?_alloc_past, *]
  have g0_3_1 : ((xw2.setCell ⟨q, 0, none⟩ (.int .i64 X)).drew).cell? ⟨q, 1, none⟩ = some (.int .i64 h) := by simp [go_sem, World.cell?_alloc_past, *]
  have g0_3_2 : ((xw2.setCell ⟨q, 0, none⟩ (.int .i64 X)).drew).cell? ⟨q, 2, none⟩ = some (.int .i64 n) := by simp [go_sem, World.cell?_alloc_past, *]
  have g0f3 : ∀ j, ((xw2.setCell ⟨q, 0, none⟩ (.int .i64 X)).drew).frozen? ⟨q, j, none⟩ = false := fun j => by simp [go_sem, *]
  have hg0B : Below w.heap.size w ((xw2.setCell ⟨q, 0, none⟩ (.int .i64 X)).drew) := (hBx2.setCell (by show w.heap.size ≤ q; omega) _).drew
  have hg0z : q < ((xw2.setCell ⟨q, 0, none⟩ (.int .i64 X)).drew).heap.size := by simp; omega
  have hg0y : w.heap.size + 1 + 1 < ((xw2.setCell ⟨q, 0, none⟩ (.int .i64 X)).drew).heap.size := by omega
  clear x2_0_0 x2_0_1 x2_0_2 x2_1_0 x2_1_1 x2_1_2 x2_1_3 x2_1_4 x2_2_0 x2_2_1 x2_2_2 x2_3_0 x2_3_1 x2_3_2 x2f2 x2f3 x2o0 x2n0 x2t0_0 x2t0_1 x2o1 x2n1 x2t1_0 x2t1_1 x2o2 x2n2 x2t2_0 x2t2_1 x2o3 x2n3 x2t3_0 x2t3_1 hBx2
  generalize hW : (xw2.setCell ⟨q, 0, none⟩ (.int .i64 X)).drew = gw0 at *
  clear hW
  go_wp2_with fail
  rw [rounds_succ]
  go_upto_region 5 with (fail)
  refine wp_region_Z (S := (fun w' => w'.cell? ⟨w.heap.size + 1, 0, none⟩ = some (.int .i64 o) ∧ w'.cell? ⟨w.heap.size + 1, 1, none⟩ = some (.int .i64 h) ∧ w'.cell? ⟨w.heap.size + 1, 2, none⟩ = some (.int .i64 u) ∧ w'.cell? ⟨w.heap.size + 1, 3, none⟩ = some (.int .i64 v) ∧ w'.cell? ⟨w.heap.size + 1, 4, none⟩ = some (.int .i64 t) ∧ w'.cell? ⟨q, 0, none⟩ = some (.int .i64 X) ∧ w'.cell? ⟨q, 1, none⟩ = some (.int .i64 h) ∧ w'.cell? ⟨q, 2, none⟩ = some (.int .i64 n))) 11 (by kernel_rfl) (by kernel_rfl) (by kernel_rfl) (by simp [go_sem, World.cell?_alloc_past, *]) (fun hHeld => ?_)
  refine wpAnyZ_take (i := 0) (oi := ⟨some 17, _, _, _, _, _⟩) (v := ?_) (by kernel_rfl) (by kernel_rfl) rfl rfl (by kernel_rfl) (by kernel_rfl) (by kernel_rfl) (fun _ _ _ h => h) (Or.inl ⟨by kernel_rfl, ?_⟩) (by assumption) ?_
  rotate_left
  · (intro w hSw; (try dsimp only at hSw); go_simp; all_goals with_reducible rfl)
  try simp only [Act.put, List.setIfInBounds_toArray, List.set_cons_zero, List.set_cons_succ]
  refine wpAnyZ_take (i := 1) (oi := ⟨some 18, _, _, _, _, _⟩) (v := ?_) (by kernel_rfl) (by kernel_rfl) rfl rfl (by kernel_rfl) (by kernel_rfl) (by kernel_rfl) (fun _ _ _ h => h) (Or.inl ⟨by kernel_rfl, ?_⟩) (by assumption) ?_
  rotate_left
  · (intro w hSw; (try dsimp only at hSw); go_simp; all_goals with_reducible rfl)
  try simp only [Act.put, List.setIfInBounds_toArray, List.set_cons_zero, List.set_cons_succ]
  refine wpAnyZ_take (i := 2) (oi := ⟨some 19, _, _, _, _, _⟩) (v := ?_) (by kernel_rfl) (by kernel_rfl) rfl rfl (by kernel_rfl) (by kernel_rfl) (by kernel_rfl) (fun _ _ _ h => h) (Or.inl ⟨by kernel_rfl, ?_⟩) (by assumption) ?_
  rotate_left
  · (intro w hSw; (try dsimp only at hSw); go_simp; all_goals with_reducible rfl)
  try simp only [Act.put, List.setIfInBounds_toArray, List.set_cons_zero, List.set_cons_succ]
  refine wpAnyZ_take (i := 3) (oi := ⟨some 20, _, _, _, _, _⟩) (v := ?_) (by kernel_rfl) (by kernel_rfl) rfl rfl (by kernel_rfl) (by kernel_rfl) (by kernel_rfl) (fun _ _ _ h => h) (Or.inl ⟨by kernel_rfl, ?_⟩) (by assumption) ?_
  rotate_left
  · (intro w hSw; (try dsimp only at hSw); go_simp; all_goals with_reducible rfl)
  try simp only [Act.put, List.setIfInBounds_toArray, List.set_cons_zero, List.set_cons_succ]
  refine wpAnyZ_take (i := 4) (oi := ⟨some 21, _, _, _, _, _⟩) (v := ?_) (by kernel_rfl) (by kernel_rfl) rfl rfl (by kernel_rfl) (by kernel_rfl) (by kernel_rfl) (fun _ _ _ h => h) (Or.inl ⟨by kernel_rfl, ?_⟩) (by assumption) ?_
  rotate_left
  · (intro w hSw; (try dsimp only at hSw); go_simp; all_goals with_reducible rfl)
  try simp only [Act.put, List.setIfInBounds_toArray, List.set_cons_zero, List.set_cons_succ]
  refine wpAnyZ_take (i := 5) (oi := ⟨some 22, _, _, _, _, _⟩) (v := ?_) (by kernel_rfl) (by kernel_rfl) rfl rfl (by kernel_rfl) (by kernel_rfl) (by kernel_rfl) (fun _ _ _ h => h) (Or.inl ⟨by kernel_rfl, ?_⟩) (by assumption) ?_
  rotate_left
  · (intro w hSw; (try dsimp only at hSw); go_simp; all_goals with_reducible rfl)
  try simp only [Act.put, List.setIfInBounds_toArray, List.set_cons_zero, List.set_cons_succ]
  refine wpAnyZ_take (i := 6) (oi := ⟨some 23, _, _, _, _, _⟩) (v := ?_) (by kernel_rfl) (by kernel_rfl) rfl rfl (by kernel_rfl) (by kernel_rfl) (by kernel_rfl) (fun _ _ _ h => h) (Or.inl ⟨by kernel_rfl, ?_⟩) (by assumption) ?_
  rotate_left
  · (intro w hSw; (try dsimp only at hSw); go_simp; all_goals with_reducible rfl)
  try simp only [Act.put, List.setIfInBounds_toArray, List.set_cons_zero, List.set_cons_succ]
  refine wpAnyZ_take (i := 7) (oi := ⟨some 24, _, _, _, _, _⟩) (v := ?_) (by kernel_rfl) (by kernel_rfl) rfl rfl (by kernel_rfl) (by kernel_rfl) (by kernel_rfl) (fun _ _ _ h => h) (Or.inl ⟨by kernel_rfl, ?_⟩) (by assumption) ?_
  rotate_left
  · (intro w hSw; (try dsimp only at hSw); go_simp; all_goals with_reducible rfl)
  try simp only [Act.put, List.setIfInBounds_toArray, List.set_cons_zero, List.set_cons_succ]
  refine wpAnyZ_take (i := 8) (oi := ⟨some 25, _, _, _, _, _⟩) (v := ?_) (by kernel_rfl) (by kernel_rfl) rfl rfl (by kernel_rfl) (by kernel_rfl) (by kernel_rfl) (fun _ _ _ h => h) (Or.inl ⟨by kernel_rfl, ?_⟩) (by assumption) ?_
  rotate_left
  · (intro w hSw; (try dsimp only at hSw); go_simp; all_goals with_reducible rfl)
  try simp only [Act.put, List.setIfInBounds_toArray, List.set_cons_zero, List.set_cons_succ]
  refine wpAnyZ_take (i := 9) (oi := ⟨some 26, _, _, _, _, _⟩) (v := ?_) (by kernel_rfl) (by kernel_rfl) rfl rfl (by kernel_rfl) (by kernel_rfl) (by kernel_rfl) (fun _ _ _ h => h) (Or.inl ⟨by kernel_rfl, ?_⟩) (by assumption) ?_
  rotate_left
  · (intro w hSw; (try dsimp only at hSw); go_simp; all_goals with_reducible rfl)
  try simp only [Act.put, List.setIfInBounds_toArray, List.set_cons_zero, List.set_cons_succ]
  refine wpAnyZ_take (i := 10) (oi := ⟨some 27, _, _, _, _, _⟩) (v := ?_) (by kernel_rfl) (by kernel_rfl) rfl rfl (by kernel_rfl) (by kernel_rfl) (by kernel_rfl) (fun _ _ _ h => h) (Or.inl ⟨by kernel_rfl, ?_⟩) (by assumption) ?_
  rotate_left
  · (intro w hSw; (try dsimp only at hSw); go_simp; all_goals with_reducible rfl)
  try simp only [Act.put, List.setIfInBounds_toArray, List.set_cons_zero, List.set_cons_succ]
  refine wpAnyZ_last (by kernel_rfl) rfl (fun K hK => ?_)
  go_simp
  go_wp2_with fail
  refine hK.out _ _ ?_
  clear hK K
  try simp only [Act.put, List.setIfInBounds_toArray, List.set_cons_zero, List.set_cons_succ]
  have g1_0_0 : ((gw0.setCell ⟨q, 1, none⟩ (.int .i64 Y)).drew).cell? ⟨w.heap.size, 0, none⟩ = some (.int .i64 a) := by simp [go_sem, World.cell?_alloc_past, *]
  have g1_0_1 : ((gw0.setCell ⟨q, 1, none⟩ (.int .i64 Y)).drew).cell? ⟨w.heap.size, 1, none⟩ = some (.int .i64 b) := by simp [go_sem, World.cell?_alloc_past, *]
  have g1_0_2 : ((gw0.setCell ⟨q, 1, none⟩ (.int .i64 Y)).drew).cell? ⟨w.heap.size, 2, none⟩ = some (.int .i64 c) := by simp [go_sem, World.cell?_alloc_past, *]
  have g1_1_0 : ((gw0.setCell ⟨q, 1, none⟩ (.int .i64 Y)).drew).cell? ⟨w.heap.size + 1, 0, none⟩ = some (.int .i64 o) := by simp [go_sem, World.cell?_alloc_past, *]
  have g1_1_1 : ((gw0.setCell ⟨q, 1, none⟩ (.int .i64 Y)).drew).cell? ⟨w.heap.size + 1, 1, none⟩ = some (.int .i64 h) := by simp [go_sem, World.cell?_alloc_past, *]
  have g1_1_2 : ((gw0.setCell ⟨q, 1, none⟩ (.int .i64 Y)).drew).cell? ⟨w.heap.size + 1, 2, none⟩ = some (.int .i64 u) := by simp [go_sem, World.cell?_alloc_past, *]
  have g1_1_3 : ((gw0.setCell ⟨q, 1, none⟩ (.int .i64 Y)).drew).cell? ⟨w.heap.size + 1, 3, none⟩ = some (.int .i64 v) := by simp [go_sem, World.cell?_alloc_past, *]
  have g1_1_4 : ((gw0.setCell ⟨q, 1, none⟩ (.int .i64 Y)).drew).cell? ⟨w.heap.size + 1, 4, none⟩ = some (.int .i64 t) := by simp [go_sem, World.cell?_alloc_past, *]
  have g1_2_0 : ((gw0.setCell ⟨q, 1, none⟩ (.int .i64 Y)).drew).cell? ⟨w.heap.size + 1 + 1, 0, none⟩ = some (.int .i64 0) := by simp [go_sem, World.cell?_alloc_past, *]
  have g1_2_1 : ((gw0.setCell ⟨q, 1, none⟩ (.int .i64 Y)).drew).cell? ⟨w.heap.size + 1 + 1, 1, none⟩ = some (.int .i64 0) := by simp [go_sem, World.cell?_alloc_past, *]
  have g1_2_2 : ((gw0.setCell ⟨q, 1, none⟩ (.int .i64 Y)).drew).cell? ⟨w.heap.size + 1 + 1, 2, none⟩ = some (.int .i64 0) := by simp [go_sem, World.cell?_alloc_past, *]
  have g1f2 : ∀ j, ((gw0.setCell ⟨q, 1, none⟩ (.int .i64 Y)).drew).frozen? ⟨w.heap.size + 1 + 1, j, none⟩ = false := fun j => by simp [go_sem, *]
  have g1_3_0 : ((gw0.setCell ⟨q, 1, none⟩ (.int .i64 Y)).drew).cell? ⟨q, 0, none⟩ = some (.int .i64 X) := by simp [go_sem, World.cell?_alloc_past, *]
  have g1_3_1 : ((gw0.setCell ⟨q, 1, none⟩ (.int .i64 Y)).drew).cell? ⟨q, 1, none⟩ = some (.int .i64 Y) := by simp [go_sem, World.cell?_alloc_past, *]
  have g1_3_2 : ((gw0.setCell ⟨q, 1, none⟩ (.int .i64 Y)).drew).cell? ⟨q, 2, none⟩ = some (.int .i64 n) := by simp [go_sem, World.cell?_alloc_past, *]
  have g1f3 : ∀ j, ((gw0.setCell ⟨q, 1, none⟩ (.int .i64 Y)).drew).frozen? ⟨q, j, none⟩ = false := fun j => by simp [go_sem, *]
  have hg1B : Below w.heap.size w ((gw0.setCell ⟨q, 1, none⟩ (.int .i64 Y)).drew) := (hg0B.setCell (by show w.heap.size ≤ q; omega) _).drew
  have hg1z : q < ((gw0.setCell ⟨q, 1, none⟩ (.int .i64 Y)).drew).heap.size := by simp; omega
  have hg1y : w.heap.size + 1 + 1 < ((gw0.setCell ⟨q, 1, none⟩ (.int .i64 Y)).drew).heap.size := by omega
  clear g0_0_0 g0_0_1 g0_0_2 g0_1_0 g0_1_1 g0_1_2 g0_1_3 g0_1_4 g0_2_0 g0_2_1 g0_2_2 g0f2 g0_3_0 g0_3_1 g0_3_2 g0f3 hg0z hg0y hg0B
  generalize hW : (gw0.setCell ⟨q, 1, none⟩ (.int .i64 Y)).drew = gw1 at *
  clear hW
  go_wp2_with fail
  rw [rounds_succ]
  go_upto_region 5 with (fail)
  refine wp_region_Z (S := (fun w' => w'.cell? ⟨w.heap.size + 1, 0, none⟩ = some (.int .i64 o) ∧ w'.cell? ⟨w.heap.size + 1, 1, none⟩ = some (.int .i64 h) ∧ w'.cell? ⟨w.heap.size + 1, 2, none⟩ = some (.int .i64 u) ∧ w'.cell? ⟨w.heap.size + 1, 3, none⟩ = some (.int .i64 v) ∧ w'.cell? ⟨w.heap.size + 1, 4, none⟩ = some (.int .i64 t) ∧ w'.cell? ⟨q, 0, none⟩ = some (.int .i64 X) ∧ w'.cell? ⟨q, 1, none⟩ = some (.int .i64 Y) ∧ w'.cell? ⟨q, 2, none⟩ = some (.int .i64 n))) 11 (by kernel_rfl) (by kernel_rfl) (by kernel_rfl) (by simp [go_sem, World.cell?_alloc_past, *]) (fun hHeld => ?_)
  refine wpAnyZ_take (i := 0) (oi := ⟨some 17, _, _, _, _, _⟩) (v := ?_) (by kernel_rfl) (by kernel_rfl) rfl rfl (by kernel_rfl) (by kernel_rfl) (by kernel_rfl) (fun _ _ _ h => h) (Or.inl ⟨by kernel_rfl, ?_⟩) (by assumption) ?_
  rotate_left
  · (intro w hSw; (try dsimp only at hSw); go_simp; all_goals with_reducible rfl)
  try simp only [Act.put, List.setIfInBounds_toArray, List.set_cons_zero, List.set_cons_succ]
  refine wpAnyZ_take (i := 1) (oi := ⟨some 18, _, _, _, _, _⟩) (v := ?_) (by kernel_rfl) (by kernel_rfl) rfl rfl (by kernel_rfl) (by kernel_rfl) (by kernel_rfl) (fun _ _ _ h => h) (Or.inl ⟨by kernel_rfl, ?_⟩) (by assumption) ?_
  rotate_left
  · (intro w hSw; (try dsimp only at hSw); go_simp; all_goals with_reducible rfl)
  try simp only [Act.put, List.setIfInBounds_toArray, List.set_cons_zero, List.set_cons_succ]
  refine wpAnyZ_take (i := 2) (oi := ⟨some 19, _, _, _, _, _⟩) (v := ?_) (by kernel_rfl) (by kernel_rfl) rfl rfl (by kernel_rfl) (by kernel_rfl) (by kernel_rfl) (fun _ _ _ h => h) (Or.inl ⟨by kernel_rfl, ?_⟩) (by assumption) ?_
  rotate_left
  · (intro w hSw; (try dsimp only at hSw); go_simp; all_goals with_reducible rfl)
  try simp only [Act.put, List.setIfInBounds_toArray, List.set_cons_zero, List.set_cons_succ]
  refine wpAnyZ_take (i := 3) (oi := ⟨some 20, _, _, _, _, _⟩) (v := ?_) (by kernel_rfl) (by kernel_rfl) rfl rfl (by kernel_rfl) (by kernel_rfl) (by kernel_rfl) (fun _ _ _ h => h) (Or.inl ⟨by kernel_rfl, ?_⟩) (by assumption) ?_
  rotate_left
  · (intro w hSw; (try dsimp only at hSw); go_simp; all_goals with_reducible rfl)
  try simp only [Act.put, List.setIfInBounds_toArray, List.set_cons_zero, List.set_cons_succ]
  refine wpAnyZ_take (i := 4) (oi := ⟨some 21, _, _, _, _, _⟩) (v := ?_) (by kernel_rfl) (by kernel_rfl) rfl rfl (by kernel_rfl) (by kernel_rfl) (by kernel_rfl) (fun _ _ _ h => h) (Or.inl ⟨by kernel_rfl, ?_⟩) (by assumption) ?_
  rotate_left
  · (intro w hSw; (try dsimp only at hSw); go_simp; all_goals with_reducible rfl)
  try simp only [Act.put, List.setIfInBounds_toArray, List.set_cons_zero, List.set_cons_succ]
  refine wpAnyZ_take (i := 5) (oi := ⟨some 22, _, _, _, _, _⟩) (v := ?_) (by kernel_rfl) (by kernel_rfl) rfl rfl (by kernel_rfl) (by kernel_rfl) (by kernel_rfl) (fun _ _ _ h => h) (Or.inl ⟨by kernel_rfl, ?_⟩) (by assumption) ?_
  rotate_left
  · (intro w hSw; (try dsimp only at hSw); go_simp; all_goals with_reducible rfl)
  try simp only [Act.put, List.setIfInBounds_toArray, List.set_cons_zero, List.set_cons_succ]
  refine wpAnyZ_take (i := 6) (oi := ⟨some 23, _, _, _, _, _⟩) (v := ?_) (by kernel_rfl) (by kernel_rfl) rfl rfl (by kernel_rfl) (by kernel_rfl) (by kernel_rfl) (fun _ _ _ h => h) (Or.inl ⟨by kernel_rfl, ?_⟩) (by assumption) ?_
  rotate_left
  · (intro w hSw; (try dsimp only at hSw); go_simp; all_goals with_reducible rfl)
  try simp only [Act.put, List.setIfInBounds_toArray, List.set_cons_zero, List.set_cons_succ]
  refine wpAnyZ_take (i := 7) (oi := ⟨some 24, _, _, _, _, _⟩) (v := ?_) (by kernel_rfl) (by kernel_rfl) rfl rfl (by kernel_rfl) (by kernel_rfl) (by kernel_rfl) (fun _ _ _ h => h) (Or.inl ⟨by kernel_rfl, ?_⟩) (by assumption) ?_
  rotate_left
  · (intro w hSw; (try dsimp only at hSw); go_simp; all_goals with_reducible rfl)
  try simp only [Act.put, List.setIfInBounds_toArray, List.set_cons_zero, List.set_cons_succ]
  refine wpAnyZ_take (i := 8) (oi := ⟨some 25, _, _, _, _, _⟩) (v := ?_) (by kernel_rfl) (by kernel_rfl) rfl rfl (by kernel_rfl) (by kernel_rfl) (by kernel_rfl) (fun _ _ _ h => h) (Or.inl ⟨by kernel_rfl, ?_⟩) (by assumption) ?_
  rotate_left
  · (intro w hSw; (try dsimp only at hSw); go_simp; all_goals with_reducible rfl)
  try simp only [Act.put, List.setIfInBounds_toArray, List.set_cons_zero, List.set_cons_succ]
  refine wpAnyZ_take (i := 9) (oi := ⟨some 26, _, _, _, _, _⟩) (v := ?_) (by kernel_rfl) (by kernel_rfl) rfl rfl (by kernel_rfl) (by kernel_rfl) (by kernel_rfl) (fun _ _ _ h => h) (Or.inl ⟨by kernel_rfl, ?_⟩) (by assumption) ?_
  rotate_left
  · (intro w hSw; (try dsimp only at hSw); go_simp; all_goals with_reducible rfl)
  try simp only [Act.put, List.setIfInBounds_toArray, List.set_cons_zero, List.set_cons_succ]
  refine wpAnyZ_take (i := 10) (oi := ⟨some 27, _, _, _, _, _⟩) (v := ?_) (by kernel_rfl) (by kernel_rfl) rfl rfl (by kernel_rfl) (by kernel_rfl) (by kernel_rfl) (fun _ _ _ h => h) (Or.inl ⟨by kernel_rfl, ?_⟩) (by assumption) ?_
  rotate_left
  · (intro w hSw; (try dsimp only at hSw); go_simp; all_goals with_reducible rfl)
  try simp only [Act.put, List.setIfInBounds_toArray, List.set_cons_zero, List.set_cons_succ]
  refine wpAnyZ_last (by kernel_rfl) rfl (fun K hK => ?_)
  go_simp
  go_wp2_with fail
  refine hK.out _ _ ?_
  clear hK K
  try simp only [Act.put, List.setIfInBounds_toArray, List.set_cons_zero, List.set_cons_succ]
  have g2_0_0 : ((gw1.setCell ⟨q, 2, none⟩ (.int .i64 Z)).drew).cell? ⟨w.heap.size, 0, none⟩ = some (.int .i64 a) := by simp [go_sem, World.cell?_alloc_past, *]
  have g2_0_1 : ((gw1.setCell ⟨q, 2, none⟩ (.int .i64 Z)).drew).cell? ⟨w.heap.size, 1, none⟩ = some (.int .i64 b) := by simp [go_sem, World.cell?_alloc_past, *]
  have g2_0_2 : ((gw1.setCell ⟨q, 2, none⟩ (.int .i64 Z)).drew).cell? ⟨w.heap.size, 2, none⟩ = some (.int .i64 c) := by simp [go_sem, World.cell?_alloc_past, *]
  have g2_1_0 : ((gw1.setCell ⟨q, 2, none⟩ (.int .i64 Z)).drew).cell? ⟨w.heap.size + 1, 0, none⟩ = some (.int .i64 o) := by simp [go_sem, World.cell?_alloc_past, *]
  have g2_1_1 : ((gw1.setCell ⟨q, 2, none⟩ (.int .i64 Z)).drew).cell? ⟨w.heap.size + 1, 1, none⟩ = some (.int .i64 h) := by simp [go_sem, World.cell?_alloc_past, *]
  have g2_1_2 : ((gw1.setCell ⟨q, 2, none⟩ (.int .i64 Z)).drew).cell? ⟨w.heap.size + 1, 2, none⟩ = some (.int .i64 u) := by simp [go_sem, World.cell?_alloc_past, *]
  have g2_1_3 : ((gw1.setCell ⟨q, 2, none⟩ (.int .i64 Z)).drew).cell? ⟨w.heap.size + 1, 3, none⟩ = some (.int .i64 v) := by simp [go_sem, World.cell?_alloc_past, *]
  have g2_1_4 : ((gw1.setCell ⟨q, 2, none⟩ (.int .i64 Z)).drew).cell? ⟨w.heap.size + 1, 4, none⟩ = some (.int .i64 t) := by simp [go_sem, World.cell?_alloc_past, *]
  have g2_2_0 : ((gw1.setCell ⟨q, 2, none⟩ (.int .i64 Z)).drew).cell? ⟨w.heap.size + 1 + 1, 0, none⟩ = some (.int .i64 0) := by simp [go_sem, World.cell?_alloc_past, *]
  have g2_2_1 : ((gw1.setCell ⟨q, 2, none⟩ (.int .i64 Z)).drew).cell? ⟨w.heap.size + 1 + 1, 1, none⟩ = some (.int .i64 0) := by simp [go_sem, World.cell?_alloc_past, *]
  have g2_2_2 : ((gw1.setCell ⟨q, 2, none⟩ (.int .i64 Z)).drew).cell? ⟨w.heap.size + 1 + 1, 2, none⟩ = some (.int .i64 0) := by simp [go_sem, World.cell?_alloc_past, *]
  have g2f2 : ∀ j, ((gw1.setCell ⟨q, 2, none⟩ (.int .i64 Z)).drew).frozen? ⟨w.heap.size + 1 + 1, j, none⟩ = false := fun j => by simp [go_sem, *]
  have g2_3_0 : ((gw1.setCell ⟨q, 2, none⟩ (.int .i64 Z)).drew).cell? ⟨q, 0, none⟩ = some (.int .i64 X) := by simp [go_sem, World.cell?_alloc_past, *]
  have g2_3_1 : ((gw1.setCell ⟨q, 2, none⟩ (.int .i64 Z)).drew).cell? ⟨q, 1, none⟩ = some (.int .i64 Y) := by simp [go_sem, World.cell?_alloc_past, *]
  have g2_3_2 : ((gw1.setCell ⟨q, 2, none⟩ (.int .i64 Z)).drew).cell? ⟨q, 2, none⟩ = some (.int .i64 Z) := by simp [go_sem, World.cell?_alloc_past, *]
  have g2f3 : ∀ j, ((gw1.setCell ⟨q, 2, none⟩ (.int .i64 Z)).drew).frozen? ⟨q, j, none⟩ = false := fun j => by simp [go_sem, *]
  have hg2B : Below w.heap.size w ((gw1.setCell ⟨q, 2, none⟩ (.int .i64 Z)).drew) := (hg1B.setCell (by show w.heap.size ≤ q; omega) _).drew
  have hg2z : q < ((gw1.setCell ⟨q, 2, none⟩ (.int .i64 Z)).drew).heap.size := by simp; omega
  have hg2y : w.heap.size + 1 + 1 < ((gw1.setCell ⟨q, 2, none⟩ (.int .i64 Z)).drew).heap.size := by omega
  clear g1_0_0 g1_0_1 g1_0_2 g1_1_0 g1_1_1 g1_1_2 g1_1_3 g1_1_4 g1_2_0 g1_2_1 g1_2_2 g1f2 g1_3_0 g1_3_1 g1_3_2 g1f3 hg1z hg1y hg1B
  generalize hW : (gw1.setCell ⟨q, 2, none⟩ (.int .i64 Z)).drew = gw2 at *
  clear hW
  go_wp2_with fail
  rw [rounds_succ]
  go_wp2
  refine bodyPost_ret (v := .agg #[.int .i64 X, .int .i64 Y, .int .i64 Z]) (by simp [results, Try.results77, go_sem, *]) rfl ⟨rfl, ?_⟩
  (repeat (first | (with_reducible refine Below.drew ?_) | (with_reducible refine below_drewN ?_ _) | (with_reducible refine Below.alloc ?_ (by first | omega | (simp; done) | (simp; omega) | (simp at *; omega)) _) | (with_reducible refine Below.setCell ?_ (by first | omega | (simp; done) | (simp; omega) | (simp at *; omega)) _) | (with_reducible exact Below.refl _ _) | (with_reducible assumption) | (with_reducible refine Below.trans ?_ (Below.mono (by assumption) (by first | omega | (simp; done) | (simp; omega) | (simp at *; omega))))))
set_option maxHeartbeats 2000000 in
set_option maxRecDepth 100000 in
theorem Matches_bad (a b c o h t e1 e2 E : Int) (w : World) (hE : Hid (conE a b c = e1)) (hG : Hid (gasE o h = e2)) (hF : Hid (firE [e1, e2] = E)) (hz : (E != 0) = true) : Calls Try.prog 41 #[.agg #[.int .i64 a, .int .i64 b, .int .i64 c], .agg #[.int .i64 o, .int .i64 h], .int .i64 t] w fun e w' => e = .returned (.tuple #[.bool false, .int .i64 E]) ∧ Below w.heap.size w w' := by
  go_enter Try.func41, Try.ntmps41
  go_upto_region 1 with (fail)
  refine wp_region_held_drew (S := (fun w' => w'.cell? ⟨w.heap.size, 0, none⟩ = some (.int .i64 a) ∧ w'.cell? ⟨w.heap.size, 1, none⟩ = some (.int .i64 b) ∧ w'.cell? ⟨w.heap.size, 2, none⟩ = some (.int .i64 c) ∧ w'.cell? ⟨w.heap.size + 1, 0, none⟩ = some (.int .i64 o) ∧ w'.cell? ⟨w.heap.size + 1, 1, none⟩ = some (.int .i64 h))) (by kernel_rfl) (by simp [go_sem, World.cell?_alloc_past, *]) (fun hHeld => ?_)
  refine tkH 0 ⟨some 12, _, _, _, _, _⟩ ?_ rfl ?_ (by assumption) ?_
  rotate_left
  · (intro w hSw; (try dsimp only at hSw); go_simp; all_goals with_reducible rfl)
  try simp only [Act.put, sA, sB, sC]
  refine tkH 2 ⟨some 14, _, _, _, _, _⟩ ?_ rfl ?_ (by assumption) ?_
  rotate_left
  · (intro w hSw; (try dsimp only at hSw); go_simp; all_goals with_reducible rfl)
  try simp only [Act.put, sA, sB, sC]
  refine wpAnyH_ready (rs := [1]) (by kernel_rfl) (by simp) ?_
  refine AllReadyH.cons rfl (fun K hK => ?_) AllReadyH.nil
  go_simp
  refine (checkContent_any a b c e1 _ hE).mono ?_
  rintro e xw1 ⟨rfl, hbx1⟩
  have zx1 := hbx1.size
  try simp at zx1
  obtain ⟨x1_0_0, x1_0_1, x1_0_2, x1_1_0, x1_1_1⟩ : xw1.cell? ⟨w.heap.size, 0, none⟩ = some (.int .i64 a) ∧ xw1.cell? ⟨w.heap.size, 1, none⟩ = some (.int .i64 b) ∧ xw1.cell? ⟨w.heap.size, 2, none⟩ = some (.int .i64 c) ∧ xw1.cell? ⟨w.heap.size + 1, 0, none⟩ = some (.int .i64 o) ∧ xw1.cell? ⟨w.heap.size + 1, 1, none⟩ = some (.int .i64 h) := by refine ⟨?_, ?_, ?_, ?_, ?_⟩ <;> (rw [(bcell hbx1).1 _ _ (by first | (simp; done) | (simp; omega) | omega)]; simp [go_sem, World.cell?_alloc_past, *])
  obtain ⟨x1o0, x1n0, x1t0_0, x1t0_1, x1o1, x1n1, x1t1_0, x1t1_1⟩ : w.heap.size < xw1.heap.size ∧ xw1.heap.size ≠ w.heap.size ∧ w.heap.size < xw1.heap.size + 1 ∧ w.heap.size < xw1.heap.size + 1 + 1 ∧ w.heap.size + 1 < xw1.heap.size ∧ xw1.heap.size ≠ w.heap.size + 1 ∧ w.heap.size + 1 < xw1.heap.size + 1 ∧ w.heap.size + 1 < xw1.heap.size + 1 + 1 := by refine ⟨?_, ?_, ?_, ?_, ?_, ?_, ?_, ?_⟩ <;> omega
  have hBx1 : Below w.heap.size w xw1 := (by (repeat (first | (with_reducible refine Below.drew ?_) | (with_reducible refine below_drewN ?_ _) | (with_reducible refine Below.alloc ?_ (by first | omega | (simp; done) | (simp; omega) | (simp at *; omega)) _) | (with_reducible refine Below.setCell ?_ (by first | omega | (simp; done) | (simp; omega) | (simp at *; omega)) _) | (with_reducible exact Below.refl _ _) | (with_reducible assumption) | (with_reducible refine Below.trans ?_ (Below.mono (by assumption) (by first | omega | (simp; done) | (simp; omega) | (simp at *; omega)))))))
  clear hbx1 
  go_wp2_with fail
  refine hK.out _ _ (by simp [go_sem, World.cell?_alloc_past, *]) (fun hHeld => ?_)
  clear hK K
  try simp only [Act.put, sA, sB, sC]
  refine wpAnyH_ready (rs := [3]) (by kernel_rfl) (by simp) ?_
  refine AllReadyH.cons rfl (fun K hK => ?_) AllReadyH.nil
  go_simp
  refine (CheckGas_x o h e2 _ hG).mono ?_
  rintro e xw2 ⟨rfl, hbx2⟩
  have zx2 := hbx2.size
  try simp at zx2
  obtain ⟨x2_0_0, x2_0_1, x2_0_2, x2_1_0, x2_1_1⟩ : xw2.cell? ⟨w.heap.size, 0, none⟩ = some (.int .i64 a) ∧ xw2.cell? ⟨w.heap.size, 1, none⟩ = some (.int .i64 b) ∧ xw2.cell? ⟨w.heap.size, 2, none⟩ = some (.int .i64 c) ∧ xw2.cell? ⟨w.heap.size + 1, 0, none⟩ = some (.int .i64 o) ∧ xw2.cell? ⟨w.heap.size + 1, 1, none⟩ = some (.int .i64 h) := by refine ⟨?_, ?_, ?_, ?_, ?_⟩ <;> (rw [(bcell hbx2).1 _ _ (by first | (simp; done) | (simp; omega) | omega)]; simp [go_sem, World.cell?_alloc_past, *])
  obtain ⟨x2o0, x2n0, x2t0_0, x2t0_1, x2o1, x2n1, x2t1_0, x2t1_1⟩ : w.heap.size < xw2.heap.size ∧ xw2.heap.size ≠ w.heap.size ∧ w.heap.size < xw2.heap.size + 1 ∧ w.heap.size < xw2.heap.size + 1 + 1 ∧ w.heap.size + 1 < xw2.heap.size ∧ xw2.heap.size ≠ w.heap.size + 1 ∧ w.heap.size + 1 < xw2.heap.size + 1 ∧ w.heap.size + 1 < xw2.heap.size + 1 + 1 := by refine ⟨?_, ?_, ?_, ?_, ?_, ?_, ?_, ?_⟩ <;> omega
  have hBx2 : Below w.heap.size w xw2 := (by (repeat (first | (with_reducible refine Below.drew ?_) | (with_reducible refine below_drewN ?_ _) | (with_reducible refine Below.alloc ?_ (by first | omega | (simp; done) | (simp; omega) | (simp at *; omega)) _) | (with_reducible refine Below.setCell ?_ (by first | omega | (simp; done) | (simp; omega) | (simp at *; omega)) _) | (with_reducible exact Below.refl _ _) | (with_reducible assumption) | (with_reducible refine Below.trans ?_ (Below.mono (by assumption) (by first | omega | (simp; done) | (simp; omega) | (simp at *; omega)))))))
  clear hbx2 x1_0_0 x1_0_1 x1_0_2 x1_1_0 x1_1_1 x1o0 x1n0 x1t0_0 x1t0_1 x1o1 x1n1 x1t1_0 x1t1_1 hBx1
  go_wp2_with fail
  refine hK.out _ _ (by simp [go_sem, World.cell?_alloc_past, *]) (fun hHeld => ?_)
  clear hK K
  try simp only [Act.put, sA, sB, sC]
  refine wpAnyH_ready (rs := [4]) (by kernel_rfl) (by simp) ?_
  refine AllReadyH.cons rfl (fun K hK => ?_) AllReadyH.nil
  go_simp
  go_wp2_with fail
  refine hK.out _ _ (by simp [go_sem, World.cell?_alloc_past, *]) (fun hHeld => ?_)
  clear hK K
  try simp only [Act.put, sA, sB, sC]
  refine wpAnyH_ready (rs := [5]) (by kernel_rfl) (by simp) ?_
  refine AllReadyH.cons rfl (fun K hK => ?_) AllReadyH.nil
  go_simp
  refine (cF2x e1 e2 E _ _ hF (by simp [go_sem]) (by simp [go_sem])).mono ?_
  rintro e wq ⟨rfl, rfl⟩
  go_wp2_with fail
  refine hK.out _ _ (by simp [go_sem, World.cell?_alloc_past, *]) (fun hHeld => ?_)
  clear hK K
  try simp only [Act.put, sA, sB, sC]
  refine tkH 6 ⟨some 8, _, _, _, _, _⟩ ?_ rfl ?_ (by assumption) ?_
  rotate_left
  · (intro w hSw; (try dsimp only at hSw); go_simp; all_goals with_reducible rfl)
  try simp only [Act.put, sA, sB, sC]
  refine wpAnyH_done (by kernel_rfl) ?_ _
  go_wp2
  go_ret2
  exact ⟨rfl, (by (repeat (first | (with_reducible refine Below.drew ?_) | (with_reducible refine below_drewN ?_ _) | (with_reducible refine Below.alloc ?_ (by first | omega | (simp; done) | (simp; omega) | (simp at *; omega)) _) | (with_reducible refine Below.setCell ?_ (by first | omega | (simp; done) | (simp; omega) | (simp at *; omega)) _) | (with_reducible exact Below.refl _ _) | (with_reducible assumption) | (with_reducible refine Below.trans ?_ (Below.mono (by assumption) (by first | omega | (simp; done) | (simp; omega) | (simp at *; omega)))))))⟩
set_option maxHeartbeats 2000000 in
set_option maxRecDepth 100000 in
theorem Matches_zero (a b c o h t : Int) (w : World) (hE : Hid (conE a b c = 0)) (hc : Hid (conB a b c = true)) (hG : Hid (gasE o h = 0)) (hS : Hid (a + b + c = 0)) : Calls Try.prog 41 #[.agg #[.int .i64 a, .int .i64 b, .int .i64 c], .agg #[.int .i64 o, .int .i64 h], .int .i64 t] w fun e w' => e = .returned (.tuple #[.bool false, .int .i64 11]) ∧ Below w.heap.size w w' := by
  go_enter Try.func41, Try.ntmps41
  go_upto_region 1 with (fail)
  refine wp_region_held_drew (S := (fun w' => w'.cell? ⟨w.heap.size, 0, none⟩ = some (.int .i64 a) ∧ w'.cell? ⟨w.heap.size, 1, none⟩ = some (.int .i64 b) ∧ w'.cell? ⟨w.heap.size, 2, none⟩ = some (.int .i64 c) ∧ w'.cell? ⟨w.heap.size + 1, 0, none⟩ = some (.int .i64 o) ∧ w'.cell? ⟨w.heap.size + 1, 1, none⟩ = some (.int .i64 h))) (by kernel_rfl) (by simp [go_sem, World.cell?_alloc_past, *]) (fun hHeld => ?_)
  refine tkH 0 ⟨some 12, _, _, _, _, _⟩ ?_ rfl ?_ (by assumption) ?_
  rotate_left
  · (intro w hSw; (try dsimp only at hSw); go_simp; all_goals with_reducible rfl)
  try simp only [Act.put, sA, sB, sC]
  refine tkH 2 ⟨some 14, _, _, _, _, _⟩ ?_ rfl ?_ (by assumption) ?_
  rotate_left
  · (intro w hSw; (try dsimp only at hSw); go_simp; all_goals with_reducible rfl)
  try simp only [Act.put, sA, sB, sC]
  refine wpAnyH_ready (rs := [1]) (by kernel_rfl) (by simp) ?_
  refine AllReadyH.cons rfl (fun K hK => ?_) AllReadyH.nil
  go_simp
  refine (checkContent_any a b c 0 _ hE).mono ?_
  rintro e xw1 ⟨rfl, hbx1⟩
  have zx1 := hbx1.size
  try simp at zx1
  obtain ⟨x1_0_0, x1_0_1, x1_0_2, x1_1_0, x1_1_1⟩ : xw1.cell? ⟨w.heap.size, 0, none⟩ = some (.int .i64 a) ∧ xw1.cell? ⟨w.heap.size, 1, none⟩ = some (.int .i64 b) ∧ xw1.cell? ⟨w.heap.size, 2, none⟩ = some (.int .i64 c) ∧ xw1.cell? ⟨w.heap.size + 1, 0, none⟩ = some (.int .i64 o) ∧ xw1.cell? ⟨w.heap.size + 1, 1, none⟩ = some (.int .i64 h) := by refine ⟨?_, ?_, ?_, ?_, ?_⟩ <;> (rw [(bcell hbx1).1 _ _ (by first | (simp; done) | (simp; omega) | omega)]; simp [go_sem, World.cell?_alloc_past, *])
  obtain ⟨x1o0, x1n0, x1t0_0, x1t0_1, x1o1, x1n1, x1t1_0, x1t1_1⟩ : w.heap.size < xw1.heap.size ∧ xw1.heap.size ≠ w.heap.size ∧ w.heap.size < xw1.heap.size + 1 ∧ w.heap.size < xw1.heap.size + 1 + 1 ∧ w.heap.size + 1 < xw1.heap.size ∧ xw1.heap.size ≠ w.heap.size + 1 ∧ w.heap.size + 1 < xw1.heap.size + 1 ∧ w.heap.size + 1 < xw1.heap.size + 1 + 1 := by refine ⟨?_, ?_, ?_, ?_, ?_, ?_, ?_, ?_⟩ <;> omega
  have hBx1 : Below w.heap.size w xw1 := (by (repeat (first | (with_reducible refine Below.drew ?_) | (with_reducible refine below_drewN ?_ _) | (with_reducible refine Below.alloc ?_ (by first | omega | (simp; done) | (simp; omega) | (simp at *; omega)) _) | (with_reducible refine Below.setCell ?_ (by first | omega | (simp; done) | (simp; omega) | (simp at *; omega)) _) | (with_reducible exact Below.refl _ _) | (with_reducible assumption) | (with_reducible refine Below.trans ?_ (Below.mono (by assumption) (by first | omega | (simp; done) | (simp; omega) | (simp at *; omega)))))))
  clear hbx1 
  go_wp2_with fail
  refine hK.out _ _ (by simp [go_sem, World.cell?_alloc_past, *]) (fun hHeld => ?_)
  clear hK K
  try simp only [Act.put, sA, sB, sC]
  refine wpAnyH_ready (rs := [3]) (by kernel_rfl) (by simp) ?_
  refine AllReadyH.cons rfl (fun K hK => ?_) AllReadyH.nil
  go_simp
  refine (CheckGas_x o h 0 _ hG).mono ?_
  rintro e xw2 ⟨rfl, hbx2⟩
  have zx2 := hbx2.size
  try simp at zx2
  obtain ⟨x2_0_0, x2_0_1, x2_0_2, x2_1_0, x2_1_1⟩ : xw2.cell? ⟨w.heap.size, 0, none⟩ = some (.int .i64 a) ∧ xw2.cell? ⟨w.heap.size, 1, none⟩ = some (.int .i64 b) ∧ xw2.cell? ⟨w.heap.size, 2, none⟩ = some (.int .i64 c) ∧ xw2.cell? ⟨w.heap.size + 1, 0, none⟩ = some (.int .i64 o) ∧ xw2.cell? ⟨w.heap.size + 1, 1, none⟩ = some (.int .i64 h) := by refine ⟨?_, ?_, ?_, ?_, ?_⟩ <;> (rw [(bcell hbx2).1 _ _ (by first | (simp; done) | (simp; omega) | omega)]; simp [go_sem, World.cell?_alloc_past, *])
  obtain ⟨x2o0, x2n0, x2t0_0, x2t0_1, x2o1, x2n1, x2t1_0, x2t1_1⟩ : w.heap.size < xw2.heap.size ∧ xw2.heap.size ≠ w.heap.size ∧ w.heap.size < xw2.heap.size + 1 ∧ w.heap.size < xw2.heap.size + 1 + 1 ∧ w.heap.size + 1 < xw2.heap.size ∧ xw2.heap.size ≠ w.heap.size + 1 ∧ w.heap.size + 1 < xw2.heap.size + 1 ∧ w.heap.size + 1 < xw2.heap.size + 1 + 1 := by refine ⟨?_, ?_, ?_, ?_, ?_, ?_, ?_, ?_⟩ <;> omega
  have hBx2 : Below w.heap.size w xw2 := (by (repeat (first | (with_reducible refine Below.drew ?_) | (with_reducible refine below_drewN ?_ _) | (with_reducible refine Below.alloc ?_ (by first | omega | (simp; done) | (simp; omega) | (simp at *; omega)) _) | (with_reducible refine Below.setCell ?_ (by first | omega | (simp; done) | (simp; omega) | (simp at *; omega)) _) | (with_reducible exact Below.refl _ _) | (with_reducible assumption) | (with_reducible refine Below.trans ?_ (Below.mono (by assumption) (by first | omega | (simp; done) | (simp; omega) | (simp at *; omega)))))))
  clear hbx2 x1_0_0 x1_0_1 x1_0_2 x1_1_0 x1_1_1 x1o0 x1n0 x1t0_0 x1t0_1 x1o1 x1n1 x1t1_0 x1t1_1 hBx1
  go_wp2_with fail
  refine hK.out _ _ (by simp [go_sem, World.cell?_alloc_past, *]) (fun hHeld => ?_)
  clear hK K
  try simp only [Act.put, sA, sB, sC]
  refine wpAnyH_ready (rs := [4]) (by kernel_rfl) (by simp) ?_
  refine AllReadyH.cons rfl (fun K hK => ?_) AllReadyH.nil
  go_simp
  go_wp2_with fail
  refine hK.out _ _ (by simp [go_sem, World.cell?_alloc_past, *]) (fun hHeld => ?_)
  clear hK K
  try simp only [Act.put, sA, sB, sC]
  refine wpAnyH_ready (rs := [5]) (by kernel_rfl) (by simp) ?_
  refine AllReadyH.cons rfl (fun K hK => ?_) AllReadyH.nil
  go_simp
  refine (cF2x 0 0 0 _ _ (Lib.hid (by rfl)) (by simp [go_sem]) (by simp [go_sem])).mono ?_
  rintro e wq ⟨rfl, rfl⟩
  go_wp2_with fail
  refine hK.out _ _ (by simp [go_sem, World.cell?_alloc_past, *]) (fun hHeld => ?_)
  clear hK K
  try simp only [Act.put, sA, sB, sC]
  refine tkH 6 ⟨some 8, _, _, _, _, _⟩ ?_ rfl ?_ (by assumption) ?_
  rotate_left
  · (intro w hSw; (try dsimp only at hSw); go_simp; all_goals with_reducible rfl)
  try simp only [Act.put, sA, sB, sC]
  refine wpAnyH_done (by kernel_rfl) ?_ _
  go_wp2_with fail
  refine (sumOf_ok a b c 0 _ hc hS).mono ?_
  rintro e xw3 ⟨rfl, hbx3⟩
  have zx3 := hbx3.size
  try simp at zx3
  obtain ⟨x3_0_0, x3_0_1, x3_0_2, x3_1_0, x3_1_1⟩ : xw3.cell? ⟨w.heap.size, 0, none⟩ = some (.int .i64 a) ∧ xw3.cell? ⟨w.heap.size, 1, none⟩ = some (.int .i64 b) ∧ xw3.cell? ⟨w.heap.size, 2, none⟩ = some (.int .i64 c) ∧ xw3.cell? ⟨w.heap.size + 1, 0, none⟩ = some (.int .i64 o) ∧ xw3.cell? ⟨w.heap.size + 1, 1, none⟩ = some (.int .i64 h) := by refine ⟨?_, ?_, ?_, ?_, ?_⟩ <;> (rw [(bcell hbx3).1 _ _ (by first | (simp; done) | (simp; omega) | omega)]; simp [go_sem, World.cell?_alloc_past, *])
  obtain ⟨x3o0, x3n0, x3t0_0, x3t0_1, x3o1, x3n1, x3t1_0, x3t1_1⟩ : w.heap.size < xw3.heap.size ∧ xw3.heap.size ≠ w.heap.size ∧ w.heap.size < xw3.heap.size + 1 ∧ w.heap.size < xw3.heap.size + 1 + 1 ∧ w.heap.size + 1 < xw3.heap.size ∧ xw3.heap.size ≠ w.heap.size + 1 ∧ w.heap.size + 1 < xw3.heap.size + 1 ∧ w.heap.size + 1 < xw3.heap.size + 1 + 1 := by refine ⟨?_, ?_, ?_, ?_, ?_, ?_, ?_, ?_⟩ <;> omega
  have hBx3 : Below w.heap.size w xw3 := (by (repeat (first | (with_reducible refine Below.drew ?_) | (with_reducible refine below_drewN ?_ _) | (with_reducible refine Below.alloc ?_ (by first | omega | (simp; done) | (simp; omega) | (simp at *; omega)) _) | (with_reducible refine Below.setCell ?_ (by first | omega | (simp; done) | (simp; omega) | (simp at *; omega)) _) | (with_reducible exact Below.refl _ _) | (with_reducible assumption) | (with_reducible refine Below.trans ?_ (Below.mono (by assumption) (by first | omega | (simp; done) | (simp; omega) | (simp at *; omega)))))))
  clear hbx3 x2_0_0 x2_0_1 x2_0_2 x2_1_0 x2_1_1 x2o0 x2n0 x2t0_0 x2t0_1 x2o1 x2n1 x2t1_0 x2t1_1 hBx2
  go_wp2
  go_ret2
  exact ⟨rfl, (by (repeat (first | (with_reducible refine Below.drew ?_) | (with_reducible refine below_drewN ?_ _) | (with_reducible refine Below.alloc ?_ (by first | omega | (simp; done) | (simp; omega) | (simp at *; omega)) _) | (with_reducible refine Below.setCell ?_ (by first | omega | (simp; done) | (simp; omega) | (simp at *; omega)) _) | (with_reducible exact Below.refl _ _) | (with_reducible assumption) | (with_reducible refine Below.trans ?_ (Below.mono (by assumption) (by first | omega | (simp; done) | (simp; omega) | (simp at *; omega)))))))⟩
set_option maxHeartbeats 2000000 in
set_option maxRecDepth 100000 in
theorem Matches_far (a b c o h t S : Int) (w : World) (hE : Hid (conE a b c = 0)) (hc : Hid (conB a b c = true)) (hG : Hid (gasE o h = 0)) (hS : Hid (a + b + c = S)) (hSn : (S == 0) = false) (ht : Hid (rngE t 0 1000 = 2)) : Calls Try.prog 41 #[.agg #[.int .i64 a, .int .i64 b, .int .i64 c], .agg #[.int .i64 o, .int .i64 h], .int .i64 t] w fun e w' => e = .returned (.tuple #[.bool false, .int .i64 2]) ∧ Below w.heap.size w w' := by
  have hr : rngE t 0 1000 = 2 := ht.out
  go_enter Try.func41, Try.ntmps41
  go_upto_region 1 with (fail)
  refine wp_region_held_drew (S := (fun w' => w'.cell? ⟨w.heap.size, 0, none⟩ = some (.int .i64 a) ∧ w'.cell? ⟨w.heap.size, 1, none⟩ = some (.int .i64 b) ∧ w'.cell? ⟨w.heap.size, 2, none⟩ = some (.int .i64 c) ∧ w'.cell? ⟨w.heap.size + 1, 0, none⟩ = some (.int .i64 o) ∧ w'.cell? ⟨w.heap.size + 1, 1, none⟩ = some (.int .i64 h))) (by kernel_rfl) (by simp [go_sem, World.cell?_alloc_past, *]) (fun hHeld => ?_)
  refine tkH 0 ⟨some 12, _, _, _, _, _⟩ ?_ rfl ?_ (by assumption) ?_
  rotate_left
  · (intro w hSw; (try dsimp only at hSw); go_simp; all_goals with_reducible rfl)
  try simp only [Act.put, sA, sB, sC]
  refine tkH 2 ⟨some 14, _, _, _, _, _⟩ ?_ rfl ?_ (by assumption) ?_
  rotate_left
  · (intro w hSw; (try dsimp only at hSw); go_simp; all_goals with_reducible rfl)
  try simp only [Act.put, sA, sB, sC]
  refine wpAnyH_ready (rs := [1]) (by kernel_rfl) (by simp) ?_
  refine AllReadyH.cons rfl (fun K hK => ?_) AllReadyH.nil
  go_simp
  refine (checkContent_any a b c 0 _ hE).mono ?_
  rintro e xw1 ⟨rfl, hbx1⟩
  have zx1 := hbx1.size
  try simp at zx1
  obtain ⟨x1_0_0, x1_0_1, x1_0_2, x1_1_0, x1_1_1⟩ : xw1.cell? ⟨w.heap.size, 0, none⟩ = some (.int .i64 a) ∧ xw1.cell? ⟨w.heap.size, 1, none⟩ = some (.int .i64 b) ∧ xw1.cell? ⟨w.heap.size, 2, none⟩ = some (.int .i64 c) ∧ xw1.cell? ⟨w.heap.size + 1, 0, none⟩ = some (.int .i64 o) ∧ xw1.cell? ⟨w.heap.size + 1, 1, none⟩ = some (.int .i64 h) := by refine ⟨?_, ?_, ?_, ?_, ?_⟩ <;> (rw [(bcell hbx1).1 _ _ (by first | (simp; done) | (simp; omega) | omega)]; simp [go_sem, World.cell?_alloc_past, *])
  obtain ⟨x1o0, x1n0, x1t0_0, x1t0_1, x1o1, x1n1, x1t1_0, x1t1_1⟩ : w.heap.size < xw1.heap.size ∧ xw1.heap.size ≠ w.heap.size ∧ w.heap.size < xw1.heap.size + 1 ∧ w.heap.size < xw1.heap.size + 1 + 1 ∧ w.heap.size + 1 < xw1.heap.size ∧ xw1.heap.size ≠ w.heap.size + 1 ∧ w.heap.size + 1 < xw1.heap.size + 1 ∧ w.heap.size + 1 < xw1.heap.size + 1 + 1 := by refine ⟨?_, ?_, ?_, ?_, ?_, ?_, ?_, ?_⟩ <;> omega
  have hBx1 : Below w.heap.size w xw1 := (by (repeat (first | (with_reducible refine Below.drew ?_) | (with_reducible refine below_drewN ?_ _) | (with_reducible refine Below.alloc ?_ (by first | omega | (simp; done) | (simp; omega) | (simp at *; omega)) _) | (with_reducible refine Below.setCell ?_ (by first | omega | (simp; done) | (simp; omega) | (simp at *; omega)) _) | (with_reducible exact Below.refl _ _) | (with_reducible assumption) | (with_reducible refine Below.trans ?_ (Below.mono (by assumption) (by first | omega | (simp; done) | (simp; omega) | (simp at *; omega)))))))
  clear hbx1 
  go_wp2_with fail
  refine hK.out _ _ (by simp [go_sem, World.cell?_alloc_past, *]) (fun hHeld => ?_)
  clear hK K
  try simp only [Act.put, sA, sB, sC]
  refine wpAnyH_ready (rs := [3]) (by kernel_rfl) (by simp) ?_
  refine AllReadyH.cons rfl (fun K hK => ?_) AllReadyH.nil
  go_simp
  refine (CheckGas_x o h 0 _ hG).mono ?_
  rintro e xw2 ⟨rfl, hbx2⟩
  have zx2 := hbx2.size
  try simp at zx2
  obtain ⟨x2_0_0, x2_0_1, x2_0_2, x2_1_0, x2_1_1⟩ : xw2.cell? ⟨w.heap.size, 0, none⟩ = some (.int .i64 a) ∧ xw2.cell? ⟨w.heap.size, 1, none⟩ = some (.int .i64 b) ∧ xw2.cell? ⟨w.heap.size, 2, none⟩ = some (.int .i64 c) ∧ xw2.cell? ⟨w.heap.size + 1, 0, none⟩ = some (.int .i64 o) ∧ xw2.cell? ⟨w.heap.size + 1, 1, none⟩ = some (.int .i64 h) := by refine ⟨?_, ?_, ?_, ?_, ?_⟩ <;> (rw [(bcell hbx2).1 _ _ (by first | (simp; done) | (simp; omega) | omega)]; simp [go_sem, World.cell?_alloc_past, *])
  obtain ⟨x2o0, x2n0, x2t0_0, x2t0_1, x2o1, x2n1, x2t1_0, x2t1_1⟩ : w.heap.size < xw2.heap.size ∧ xw2.heap.size ≠ w.heap.size ∧ w.heap.size < xw2.heap.size + 1 ∧ w.heap.size < xw2.heap.size + 1 + 1 ∧ w.heap.size + 1 < xw2.heap.size ∧ xw2.heap.size ≠ w.heap.size + 1 ∧ w.heap.size + 1 < xw2.heap.size + 1 ∧ w.heap.size + 1 < xw2.heap.size + 1 + 1 := by refine ⟨?_, ?_, ?_, ?_, ?_, ?_, ?_, ?_⟩ <;> omega
  have hBx2 : Below w.heap.size w xw2 := (by (repeat (first | (with_reducible refine Below.drew ?_) | (with_reducible refine below_drewN ?_ _) | (with_reducible refine Below.alloc ?_ (by first | omega | (simp; done) | (simp; omega) | (simp at *; omega)) _) | (with_reducible refine Below.setCell ?_ (by first | omega | (simp; done) | (simp; omega) | (simp at *; omega)) _) | (with_reducible exact Below.refl _ _) | (with_reducible assumption) | (with_reducible refine Below.trans ?_ (Below.mono (by assumption) (by first | omega | (simp; done) | (simp; omega) | (simp at *; omega)))))))
  clear hbx2 x1_0_0 x1_0_1 x1_0_2 x1_1_0 x1_1_1 x1o0 x1n0 x1t0_0 x1t0_1 x1o1 x1n1 x1t1_0 x1t1_1 hBx1
  go_wp2_with fail
  refine hK.out _ _ (by simp [go_sem, World.cell?_alloc_past, *]) (fun hHeld => ?_)
  clear hK K
  try simp only [Act.put, sA, sB, sC]
  refine wpAnyH_ready (rs := [4]) (by kernel_rfl) (by simp) ?_
  refine AllReadyH.cons rfl (fun K hK => ?_) AllReadyH.nil
  go_simp
  go_wp2_with fail
  refine hK.out _ _ (by simp [go_sem, World.cell?_alloc_past, *]) (fun hHeld => ?_)
  clear hK K
  try simp only [Act.put, sA, sB, sC]
  refine wpAnyH_ready (rs := [5]) (by kernel_rfl) (by simp) ?_
  refine AllReadyH.cons rfl (fun K hK => ?_) AllReadyH.nil
  go_simp
  refine (cF2x 0 0 0 _ _ (Lib.hid (by rfl)) (by simp [go_sem]) (by simp [go_sem])).mono ?_
  rintro e wq ⟨rfl, rfl⟩
  go_wp2_with fail
  refine hK.out _ _ (by simp [go_sem, World.cell?_alloc_past, *]) (fun hHeld => ?_)
  clear hK K
  try simp only [Act.put, sA, sB, sC]
  refine tkH 6 ⟨some 8, _, _, _, _, _⟩ ?_ rfl ?_ (by assumption) ?_
  rotate_left
  · (intro w hSw; (try dsimp only at hSw); go_simp; all_goals with_reducible rfl)
  try simp only [Act.put, sA, sB, sC]
  refine wpAnyH_done (by kernel_rfl) ?_ _
  go_wp2_with fail
  refine (sumOf_ok a b c S _ hc hS).mono ?_
  rintro e xw3 ⟨rfl, hbx3⟩
  have zx3 := hbx3.size
  try simp at zx3
  obtain ⟨x3_0_0, x3_0_1, x3_0_2, x3_1_0, x3_1_1⟩ : xw3.cell? ⟨w.heap.size, 0, none⟩ = some (.int .i64 a) ∧ xw3.cell? ⟨w.heap.size, 1, none⟩ = some (.int .i64 b) ∧ xw3.cell? ⟨w.heap.size, 2, none⟩ = some (.int .i64 c) ∧ xw3.cell? ⟨w.heap.size + 1, 0, none⟩ = some (.int .i64 o) ∧ xw3.cell? ⟨w.heap.size + 1, 1, none⟩ = some (.int .i64 h) := by refine ⟨?_, ?_, ?_, ?_, ?_⟩ <;> (rw [(bcell hbx3).1 _ _ (by first | (simp; done) | (simp; omega) | omega)]; simp [go_sem, World.cell?_alloc_past, *])
  obtain ⟨x3o0, x3n0, x3t0_0, x3t0_1, x3o1, x3n1, x3t1_0, x3t1_1⟩ : w.heap.size < xw3.heap.size ∧ xw3.heap.size ≠ w.heap.size ∧ w.heap.size < xw3.heap.size + 1 ∧ w.heap.size < xw3.heap.size + 1 + 1 ∧ w.heap.size + 1 < xw3.heap.size ∧ xw3.heap.size ≠ w.heap.size + 1 ∧ w.heap.size + 1 < xw3.heap.size + 1 ∧ w.heap.size + 1 < xw3.heap.size + 1 + 1 := by refine ⟨?_, ?_, ?_, ?_, ?_, ?_, ?_, ?_⟩ <;> omega
  have hBx3 : Below w.heap.size w xw3 := (by (repeat (first | (with_reducible refine Below.drew ?_) | (with_reducible refine below_drewN ?_ _) | (with_reducible refine Below.alloc ?_ (by first | omega | (simp; done) | (simp; omega) | (simp at *; omega)) _) | (with_reducible refine Below.setCell ?_ (by first | omega | (simp; done) | (simp; omega) | (simp at *; omega)) _) | (with_reducible exact Below.refl _ _) | (with_reducible assumption) | (with_reducible refine Below.trans ?_ (Below.mono (by assumption) (by first | omega | (simp; done) | (simp; omega) | (simp at *; omega)))))))
  clear hbx3 x2_0_0 x2_0_1 x2_0_2 x2_1_0 x2_1_1 x2o0 x2n0 x2t0_0 x2t0_1 x2o1 x2n1 x2t1_0 x2t1_1 hBx2
  go_wp2_with ((go_at_call 63; ((with_reducible refine (cRange_any _ _ _ _).mono ?_)); rintro e w' ⟨rfl, rfl⟩))
  go_ret2
  exact ⟨rfl, (by (repeat (first | (with_reducible refine Below.drew ?_) | (with_reducible refine below_drewN ?_ _) | (with_reducible refine Below.alloc ?_ (by first | omega | (simp; done) | (simp; omega) | (simp at *; omega)) _) | (with_reducible refine Below.setCell ?_ (by first | omega | (simp; done) | (simp; omega) | (simp at *; omega)) _) | (with_reducible exact Below.refl _ _) | (with_reducible assumption) | (with_reducible refine Below.trans ?_ (Below.mono (by assumption) (by first | omega | (simp; done) | (simp; omega) | (simp at *; omega)))))))⟩
set_option maxHeartbeats 2000000 in
set_option maxRecDepth 100000 in
theorem Matches_ok (a b c o h t S n P Q U X Y Z M : Int) (w : World) (p1 p2 : Bool) (hE : Hid (conE a b c = 0)) (hc : Hid (conB a b c = true)) (hG : Hid (gasE o h = 0)) (hn : Hid (1000 - o - h = n)) (hS : Hid (a + b + c = S)) (hSn : (S == 0) = false) (s0 : 0 ≤ S) (s1 : S ≤ 1000000000) (ht : Hid (rngE t 0 1000 = 0)) (t0 : 0 ≤ t) (t1 : t ≤ 1000) (hP : Hid (S * o = P ∧ S * h = Q ∧ S * n = U)) (hX : Hid (P - 1000 * a = X ∧ Q - 1000 * b = Y ∧ U - 1000 * c = Z)) (hM : Hid (t * S = M)) (hp1 : Hid (inB X (-M) M = p1)) (hp2 : Hid (inB Y (-M) M = p2)) : Calls Try.prog 41 #[.agg #[.int .i64 a, .int .i64 b, .int .i64 c], .agg #[.int .i64 o, .int .i64 h], .int .i64 t] w fun e w' => e = .returned (.tuple #[.bool (p1 && p2), .int .i64 0]) ∧ Below w.heap.size w w' := by
  have hr : rngE t 0 1000 = 0 := ht.out
  have m0 : 0 ≤ t * S ∧ t * S ≤ 1000000000000 := ⟨Int.mul_nonneg t0 s0, Int.le_trans (Int.mul_le_mul t1 s1 s0 (by omega)) (by omega)⟩
  rw [hM.out] at m0
  obtain ⟨m0, m1⟩ := m0
  have wM : IntKind.i64.wrap (t * S) = M := by rw [hM.out]; exact IntWalk.i64_in _ (by omega)
  have wM2 : wrap64 (t * S) = M := (IntWalk.i64_left _).symm.trans wM
  have wN : IntKind.i64.wrap (-M) = -M := IntWalk.i64_in _ (by omega)
  have q1 := hp1.out
  have q2 := hp2.out
  go_enter Try.func41, Try.ntmps41
  go_upto_region 1 with (fail)
  refine wp_region_held_drew (S := (fun w' => w'.cell? ⟨w.heap.size, 0, none⟩ = some (.int .i64 a) ∧ w'.cell? ⟨w.heap.size, 1, none⟩ = some (.int .i64 b) ∧ w'.cell? ⟨w.heap.size, 2, none⟩ = some (.int .i64 c) ∧ w'.cell? ⟨w.heap.size + 1, 0, none⟩ = some (.int .i64 o) ∧ w'.cell? ⟨w.heap.size + 1, 1, none⟩ = some (.int .i64 h))) (by kernel_rfl) (by simp [go_sem, World.cell?_alloc_past, *]) (fun hHeld => ?_)
  refine tkH 0 ⟨some 12, _, _, _, _, _⟩ ?_ rfl ?_ (by assumption) ?_
  rotate_left
  · (intro w hSw; (try dsimp only at hSw); go_simp; all_goals with_reducible rfl)
  try simp only [Act.put, sA, sB, sC]
  refine tkH 2 ⟨some 14, _, _, _, _, _⟩ ?_ rfl ?_ (by assumption) ?_
  rotate_left
  · (intro w hSw; (try dsimp only at hSw); go_simp; all_goals with_reducible rfl)
  try simp only [Act.put, sA, sB, sC]
  refine wpAnyH_ready (rs := [1]) (by kernel_rfl) (by simp) ?_
  refine AllReadyH.cons rfl (fun K hK => ?_) AllReadyH.nil
  go_simp
  refine (checkContent_any a b c 0 _ hE).mono ?_
  rintro e xw1 ⟨rfl, hbx1⟩
  have zx1 := hbx1.size
  try simp at zx1
  obtain ⟨x1_0_0, x1_0_1, x1_0_2, x1_1_0, x1_1_1⟩ : xw1.cell? ⟨w.heap.size, 0, none⟩ = some (.int .i64 a) ∧ xw1.cell? ⟨w.heap.size, 1, none⟩ = some (.int .i64 b) ∧ xw1.cell? ⟨w.heap.size, 2, none⟩ = some (.int .i64 c) ∧ xw1.cell? ⟨w.heap.size + 1, 0, none⟩ = some (.int .i64 o) ∧ xw1.cell? ⟨w.heap.size + 1, 1, none⟩ = some (.int .i64 h) := by refine ⟨?_, ?_, ?_, ?_, ?_⟩ <;> (rw [(bcell hbx1).1 _ _ (by first | (simp; done) | (simp; omega) | omega)]; simp [go_sem, World.cell?_alloc_past, *])
  obtain ⟨x1o0, x1n0, x1t0_0, x1t0_1, x1o1, x1n1, x1t1_0, x1t1_1⟩ : w.heap.size < xw1.heap.size ∧ xw1.heap.size ≠ w.heap.size ∧ w.heap.size < xw1.heap.size + 1 ∧ w.heap.size < xw1.heap.size + 1 + 1 ∧ w.heap.size + 1 < xw1.heap.size ∧ xw1.heap.size ≠ w.heap.size + 1 ∧ w.heap.size + 1 < xw1.heap.size + 1 ∧ w.heap.size + 1 < xw1.heap.size + 1 + 1 := by refine ⟨?_, ?_, ?_, ?_, ?_, ?_, ?_, ?_⟩ <;> omega
  have hBx1 : Below w.heap.size w xw1 := (by (repeat (first | (with_reducible refine Below.drew ?_) | (with_reducible refine below_drewN ?_ _) | (with_reducible refine Below.alloc ?_ (by first | omega | (simp; done) | (simp; omega) | (simp at *; omega)) _) | (with_reducible refine Below.setCell ?_ (by first | omega | (simp; done) | (simp; omega) | (simp at *; omega)) _) | (with_reducible exact Below.refl _ _) | (with_reducible assumption) | (with_reducible refine Below.trans ?_ (Below.mono (by assumption) (by first | omega | (simp; done) | (simp; omega) | (simp at *; omega)))))))
  clear hbx1 
  go_wp2_with fail
  refine hK.out _ _ (by simp [go_sem, World.cell?_alloc_past, *]) (fun hHeld => ?_)
  clear hK K
  try simp only [Act.put, sA, sB, sC]
  refine wpAnyH_ready (rs := [3]) (by kernel_rfl) (by simp) ?_
  refine AllReadyH.cons rfl (fun K hK => ?_) AllReadyH.nil
  go_simp
  refine (CheckGas_x o h 0 _ hG).mono ?_
  rintro e xw2 ⟨rfl, hbx2⟩
  have zx2 := hbx2.size
  try simp at zx2
  obtain ⟨x2_0_0, x2_0_1, x2_0_2, x2_1_0, x2_1_1⟩ : xw2.cell? ⟨w.heap.size, 0, none⟩ = some (.int .i64 a) ∧ xw2.cell? ⟨w.heap.size, 1, none⟩ = some (.int .i64 b) ∧ xw2.cell? ⟨w.heap.size, 2, none⟩ = some (.int .i64 c) ∧ xw2.cell? ⟨w.heap.size + 1, 0, none⟩ = some (.int .i64 o) ∧ xw2.cell? ⟨w.heap.size + 1, 1, none⟩ = some (.int .i64 h) := by refine ⟨?_, ?_, ?_, ?_, ?_⟩ <;> (rw [(bcell hbx2).1 _ _ (by first | (simp; done) | (simp; omega) | omega)]; simp [go_sem, World.cell?_alloc_past, *])
  obtain ⟨x2o0, x2n0, x2t0_0, x2t0_1, x2o1, x2n1, x2t1_0, x2t1_1⟩ : w.heap.size < xw2.heap.size ∧ xw2.heap.size ≠ w.heap.size ∧ w.heap.size < xw2.heap.size + 1 ∧ w.heap.size < xw2.heap.size + 1 + 1 ∧ w.heap.size + 1 < xw2.heap.size ∧ xw2.heap.size ≠ w.heap.size + 1 ∧ w.heap.size + 1 < xw2.heap.size + 1 ∧ w.heap.size + 1 < xw2.heap.size + 1 + 1 := by refine ⟨?_, ?_, ?_, ?_, ?_, ?_, ?_, ?_⟩ <;> omega
  have hBx2 : Below w.heap.size w xw2 := (by (repeat (first | (with_reducible refine Below.drew ?_) | (with_reducible refine below_drewN ?_ _) | (with_reducible refine Below.alloc ?_ (by first | omega | (simp; done) | (simp; omega) | (simp at *; omega)) _) | (with_reducible refine Below.setCell ?_ (by first | omega | (simp; done) | (simp; omega) | (simp at *; omega)) _) | (with_reducible exact Below.refl _ _) | (with_reducible assumption) | (with_reducible refine Below.trans ?_ (Below.mono (by assumption) (by first | omega | (simp; done) | (simp; omega) | (simp at *; omega)))))))
  clear hbx2 x1_0_0 x1_0_1 x1_0_2 x1_1_0 x1_1_1 x1o0 x1n0 x1t0_0 x1t0_1 x1o1 x1n1 x1t1_0 x1t1_1 hBx1
  go_wp2_with fail
  refine hK.out _ _ (by simp [go_sem, World.cell?_alloc_past, *]) (fun hHeld => ?_)
  clear hK K
  try simp only [Act.put, sA, sB, sC]
  refine wpAnyH_ready (rs := [4]) (by kernel_rfl) (by simp) ?_
  refine AllReadyH.cons rfl (fun K hK => ?_) AllReadyH.nil
  go_simp
  go_wp2_with fail
  refine hK.out _ _ (by simp [go_sem, World.cell?_alloc_past, *]) (fun hHeld => ?_)
  clear hK K
  try simp only [Act.put, sA, sB, sC]
  refine wpAnyH_ready (rs := [5]) (by kernel_rfl) (by simp) ?_
  refine AllReadyH.cons rfl (fun K hK => ?_) AllReadyH.nil
  go_simp
  refine (cF2x 0 0 0 _ _ (Lib.hid (by rfl)) (by simp [go_sem]) (by simp [go_sem])).mono ?_
  rintro e wq ⟨rfl, rfl⟩
  go_wp2_with fail
  refine hK.out _ _ (by simp [go_sem, World.cell?_alloc_past, *]) (fun hHeld => ?_)
  clear hK K
  try simp only [Act.put, sA, sB, sC]
  refine tkH 6 ⟨some 8, _, _, _, _, _⟩ ?_ rfl ?_ (by assumption) ?_
  rotate_left
  · (intro w hSw; (try dsimp only at hSw); go_simp; all_goals with_reducible rfl)
  try simp only [Act.put, sA, sB, sC]
  refine wpAnyH_done (by kernel_rfl) ?_ _
  go_wp2_with fail
  refine (sumOf_ok a b c S _ hc hS).mono ?_
  rintro e xw3 ⟨rfl, hbx3⟩
  have zx3 := hbx3.size
  try simp at zx3
  obtain ⟨x3_0_0, x3_0_1, x3_0_2, x3_1_0, x3_1_1⟩ : xw3.cell? ⟨w.heap.size, 0, none⟩ = some (.int .i64 a) ∧ xw3.cell? ⟨w.heap.size, 1, none⟩ = some (.int .i64 b) ∧ xw3.cell? ⟨w.heap.size, 2, none⟩ = some (.int .i64 c) ∧ xw3.cell? ⟨w.heap.size + 1, 0, none⟩ = some (.int .i64 o) ∧ xw3.cell? ⟨w.heap.size + 1, 1, none⟩ = some (.int .i64 h) := by refine ⟨?_, ?_, ?_, ?_, ?_⟩ <;> (rw [(bcell hbx3).1 _ _ (by first | (simp; done) | (simp; omega) | omega)]; simp [go_sem, World.cell?_alloc_past, *])
  obtain ⟨x3o0, x3n0, x3t0_0, x3t0_1, x3o1, x3n1, x3t1_0, x3t1_1⟩ : w.heap.size < xw3.heap.size ∧ xw3.heap.size ≠ w.heap.size ∧ w.heap.size < xw3.heap.size + 1 ∧ w.heap.size < xw3.heap.size + 1 + 1 ∧ w.heap.size + 1 < xw3.heap.size ∧ xw3.heap.size ≠ w.heap.size + 1 ∧ w.heap.size + 1 < xw3.heap.size + 1 ∧ w.heap.size + 1 < xw3.heap.size + 1 + 1 := by refine ⟨?_, ?_, ?_, ?_, ?_, ?_, ?_, ?_⟩ <;> omega
  have hBx3 : Below w.heap.size w xw3 := (by (repeat (first | (with_reducible refine Below.drew ?_) | (with_reducible refine below_drewN ?_ _) | (with_reducible refine Below.alloc ?_ (by first | omega | (simp; done) | (simp; omega) | (simp at *; omega)) _) | (with_reducible refine Below.setCell ?_ (by first | omega | (simp; done) | (simp; omega) | (simp at *; omega)) _) | (with_reducible exact Below.refl _ _) | (with_reducible assumption) | (with_reducible refine Below.trans ?_ (Below.mono (by assumption) (by first | omega | (simp; done) | (simp; omega) | (simp at *; omega)))))))
  clear hbx3 x2_0_0 x2_0_1 x2_0_2 x2_1_0 x2_1_1 x2o0 x2n0 x2t0_0 x2t0_1 x2o1 x2n1 x2t1_0 x2t1_1 hBx2
  go_upto_region 9 with ((go_at_call 63; ((with_reducible refine (cRange_any _ _ _ _).mono ?_)); rintro e w' ⟨rfl, rfl⟩))
  refine wp_region_held_drew (S := (fun w' => w'.cell? ⟨w.heap.size, 0, none⟩ = some (.int .i64 a) ∧ w'.cell? ⟨w.heap.size, 1, none⟩ = some (.int .i64 b) ∧ w'.cell? ⟨w.heap.size, 2, none⟩ = some (.int .i64 c) ∧ w'.cell? ⟨w.heap.size + 1, 0, none⟩ = some (.int .i64 o) ∧ w'.cell? ⟨w.heap.size + 1, 1, none⟩ = some (.int .i64 h))) (by kernel_rfl) (by simp [go_sem, World.cell?_alloc_past, *]) (fun hHeld => ?_)
  refine tkH 0 ⟨some 29, _, _, _, _, _⟩ ?_ rfl ?_ (by assumption) ?_
  rotate_left
  · (intro w hSw; (try dsimp only at hSw); go_simp; all_goals with_reducible rfl)
  try simp only [Act.put, sA, sB, sC]
  refine tkH 1 ⟨some 30, _, _, _, _, _⟩ ?_ rfl ?_ (by assumption) ?_
  rotate_left
  · (intro w hSw; (try dsimp only at hSw); go_simp; all_goals with_reducible rfl)
  try simp only [Act.put, sA, sB, sC]
  refine tkH 2 ⟨some 31, _, _, _, _, _⟩ ?_ rfl ?_ (by assumption) ?_
  rotate_left
  · (intro w hSw; (try dsimp only at hSw); go_simp; all_goals with_reducible rfl)
  try simp only [Act.put, sA, sB, sC]
  refine wpAnyH_ready (rs := [3, 6]) (by kernel_rfl) (by simp) ?_
  refine AllReadyH.cons rfl (fun K hK => ?_) (AllReadyH.cons rfl (fun K hK => ?_) (AllReadyH.nil))
  · skip
    go_simp
    refine (sumOf_ok a b c S _ hc hS).mono ?_
    rintro e xw4 ⟨rfl, hbx4⟩
    have zx4 := hbx4.size
    try simp at zx4
    obtain ⟨x4_0_0, x4_0_1, x4_0_2, x4_1_0, x4_1_1⟩ : xw4.cell? ⟨w.heap.size, 0, none⟩ = some (.int .i64 a) ∧ xw4.cell? ⟨w.heap.size, 1, none⟩ = some (.int .i64 b) ∧ xw4.cell? ⟨w.heap.size, 2, none⟩ = some (.int .i64 c) ∧ xw4.cell? ⟨w.heap.size + 1, 0, none⟩ = some (.int .i64 o) ∧ xw4.cell? ⟨w.heap.size + 1, 1, none⟩ = some (.int .i64 h) := by refine ⟨?_, ?_, ?_, ?_, ?_⟩ <;> (rw [(bcell hbx4).1 _ _ (by first | (simp; done) | (simp; omega) | omega)]; simp [go_sem, World.cell?_alloc_past, *])
    obtain ⟨x4o0, x4n0, x4t0_0, x4t0_1, x4o1, x4n1, x4t1_0, x4t1_1⟩ : w.heap.size < xw4.heap.size ∧ xw4.heap.size ≠ w.heap.size ∧ w.heap.size < xw4.heap.size + 1 ∧ w.heap.size < xw4.heap.size + 1 + 1 ∧ w.heap.size + 1 < xw4.heap.size ∧ xw4.heap.size ≠ w.heap.size + 1 ∧ w.heap.size + 1 < xw4.heap.size + 1 ∧ w.heap.size + 1 < xw4.heap.size + 1 + 1 := by refine ⟨?_, ?_, ?_, ?_, ?_, ?_, ?_, ?_⟩ <;> omega
    have hBx4 : Below w.heap.size w xw4 := (by (repeat (first | (with_reducible refine Below.drew ?_) | (with_reducible refine below_drewN ?_ _) | (with_reducible refine Below.alloc ?_ (by first | omega | (simp; done) | (simp; omega) | (simp at *; omega)) _) | (with_reducible refine Below.setCell ?_ (by first | omega | (simp; done) | (simp; omega) | (simp at *; omega)) _) | (with_reducible exact Below.refl _ _) | (with_reducible assumption) | (with_reducible refine Below.trans ?_ (Below.mono (by assumption) (by first | omega | (simp; done) | (simp; omega) | (simp at *; omega)))))))
    clear hbx4 x3_0_0 x3_0_1 x3_0_2 x3_1_0 x3_1_1 x3o0 x3n0 x3t0_0 x3t0_1 x3o1 x3n1 x3t1_0 x3t1_1 hBx3
    go_wp2_with fail
    refine hK.out _ _ (by simp [go_sem, World.cell?_alloc_past, *]) (fun hHeld => ?_)
    clear hK K
    try simp only [Act.put, sA, sB, sC]
    refine tkH 4 ⟨some 33, _, _, _, _, _⟩ ?_ rfl ?_ (by assumption) ?_
    rotate_left
    · (intro w hSw; (try dsimp only at hSw); go_simp; all_goals with_reducible rfl)
    try simp only [Act.put, sA, sB, sC]
    refine wpAnyH_ready (rs := [5, 6]) (by kernel_rfl) (by simp) ?_
    refine AllReadyH.cons rfl (fun K hK => ?_) (AllReadyH.cons rfl (fun K hK => ?_) (AllReadyH.nil))
    · skip
      go_simp
      refine (missingOf_any a b c o h 0 0 S n P Q U X Y Z _ hc hG hn s0 s1 hP hX).mono ?_
      rintro e xw5 ⟨rfl, hbx5⟩
      have zx5 := hbx5.size
      try simp at zx5
      obtain ⟨x5_0_0, x5_0_1, x5_0_2, x5_1_0, x5_1_1⟩ : xw5.cell? ⟨w.heap.size, 0, none⟩ = some (.int .i64 a) ∧ xw5.cell? ⟨w.heap.size, 1, none⟩ = some (.int .i64 b) ∧ xw5.cell? ⟨w.heap.size, 2, none⟩ = some (.int .i64 c) ∧ xw5.cell? ⟨w.heap.size + 1, 0, none⟩ = some (.int .i64 o) ∧ xw5.cell? ⟨w.heap.size + 1, 1, none⟩ = some (.int .i64 h) := by refine ⟨?_, ?_, ?_, ?_, ?_⟩ <;> (rw [(bcell hbx5).1 _ _ (by first | (simp; done) | (simp; omega) | omega)]; simp [go_sem, World.cell?_alloc_past, *])
      obtain ⟨x5o0, x5n0, x5t0_0, x5t0_1, x5o1, x5n1, x5t1_0, x5t1_1⟩ : w.heap.size < xw5.heap.size ∧ xw5.heap.size ≠ w.heap.size ∧ w.heap.size < xw5.heap.size + 1 ∧ w.heap.size < xw5.heap.size + 1 + 1 ∧ w.heap.size + 1 < xw5.heap.size ∧ xw5.heap.size ≠ w.heap.size + 1 ∧ w.heap.size + 1 < xw5.heap.size + 1 ∧ w.heap.size + 1 < xw5.heap.size + 1 + 1 := by refine ⟨?_, ?_, ?_, ?_, ?_, ?_, ?_, ?_⟩ <;> omega
      have hBx5 : Below w.heap.size w xw5 := (by (repeat (first | (with_reducible refine Below.drew ?_) | (with_reducible refine below_drewN ?_ _) | (with_reducible refine Below.alloc ?_ (by first | omega | (simp; done) | (simp; omega) | (simp at *; omega)) _) | (with_reducible refine Below.setCell ?_ (by first | omega | (simp; done) | (simp; omega) | (simp at *; omega)) _) | (with_reducible exact Below.refl _ _) | (with_reducible assumption) | (with_reducible refine Below.trans ?_ (Below.mono (by assumption) (by first | omega | (simp; done) | (simp; omega) | (simp at *; omega)))))))
      clear hbx5 x4_0_0 x4_0_1 x4_0_2 x4_1_0 x4_1_1 x4o0 x4n0 x4t0_0 x4t0_1 x4o1 x4n1 x4t1_0 x4t1_1 hBx4
      go_wp2_with fail
      refine hK.out _ _ (by simp [go_sem, World.cell?_alloc_past, *]) (fun hHeld => ?_)
      clear hK K
      try simp only [Act.put, sA, sB, sC]
      refine wpAnyH_ready (rs := [6]) (by kernel_rfl) (by simp) ?_
      refine AllReadyH.cons rfl (fun K hK => ?_) (AllReadyH.nil)
      go_simp
      go_wp2_with fail
      refine hK.out _ _ (by simp [go_sem, World.cell?_alloc_past, *]) (fun hHeld => ?_)
      clear hK K
      try simp only [Act.put, sA, sB, sC]
      refine wpAnyH_ready (rs := [7]) (by kernel_rfl) (by simp) ?_
      refine AllReadyH.cons rfl (fun K hK => ?_) (AllReadyH.nil)
      go_simp
      go_wp2_with fail
      refine hK.out _ _ (by simp [go_sem, World.cell?_alloc_past, *]) (fun hHeld => ?_)
      clear hK K
      try simp only [Act.put, sA, sB, sC]
      refine wpAnyH_done (by kernel_rfl) ?_ _
      go_wp2_with fail
      refine (sumOf_ok a b c S _ hc hS).mono ?_
      rintro e xw6 ⟨rfl, hbx6⟩
      have zx6 := hbx6.size
      try simp at zx6
      obtain ⟨x6_0_0, x6_0_1, x6_0_2, x6_1_0, x6_1_1, x6_2_0, x6_2_1, x6_2_2⟩ : xw6.cell? ⟨w.heap.size, 0, none⟩ = some (.int .i64 a) ∧ xw6.cell? ⟨w.heap.size, 1, none⟩ = some (.int .i64 b) ∧ xw6.cell? ⟨w.heap.size, 2, none⟩ = some (.int .i64 c) ∧ xw6.cell? ⟨w.heap.size + 1, 0, none⟩ = some (.int .i64 o) ∧ xw6.cell? ⟨w.heap.size + 1, 1, none⟩ = some (.int .i64 h) ∧ xw6.cell? ⟨xw5.heap.size, 0, none⟩ = some (.int .i64 X) ∧ xw6.cell? ⟨xw5.heap.size, 1, none⟩ = some (.int .i64 Y) ∧ xw6.cell? ⟨xw5.heap.size, 2, none⟩ = some (.int .i64 Z) := by refine ⟨?_, ?_, ?_, ?_, ?_, ?_, ?_, ?_⟩ <;> (rw [(bcell hbx6).1 _ _ (by first | (simp; done) | (simp; omega) | omega)]; simp [go_sem, World.cell?_alloc_past, *])
      have x6f2 : (∀ j, xw6.frozen? ⟨xw5.heap.size, j, none⟩ = false) := by (intro j; rw [(bcell hbx6).2 _ _ (by first | (simp; done) | (simp; omega) | omega)]; simp [go_sem, *])
      obtain ⟨x6o0, x6n0, x6t0_0, x6t0_1, x6o1, x6n1, x6t1_0, x6t1_1, x6o2, x6n2, x6t2_0, x6t2_1⟩ : w.heap.size < xw6.heap.size ∧ xw6.heap.size ≠ w.heap.size ∧ w.heap.size < xw6.heap.size + 1 ∧ w.heap.size < xw6.heap.size + 1 + 1 ∧ w.heap.size + 1 < xw6.heap.size ∧ xw6.heap.size ≠ w.heap.size + 1 ∧ w.heap.size + 1 < xw6.heap.size + 1 ∧ w.heap.size + 1 < xw6.heap.size + 1 + 1 ∧ xw5.heap.size < xw6.heap.size ∧ xw6.heap.size ≠ xw5.heap.size ∧ xw5.heap.size < xw6.heap.size + 1 ∧ xw5.heap.size < xw6.heap.size + 1 + 1 := by refine ⟨?_, ?_, ?_, ?_, ?_, ?_, ?_, ?_, ?_, ?_, ?_, ?_⟩ <;> omega
      have hBx6 : Below w.heap.size w xw6 := (by (repeat (first | (with_reducible refine Below.drew ?_) | (with_reducible refine below_drewN ?_ _) | (with_reducible refine Below.alloc ?_ (by first | omega | (simp; done) | (simp; omega) | (simp at *; omega)) _) | (with_reducible refine Below.setCell ?_ (by first | omega | (simp; done) | (simp; omega) | (simp at *; omega)) _) | (with_reducible exact Below.refl _ _) | (with_reducible assumption) | (with_reducible refine Below.trans ?_ (Below.mono (by assumption) (by first | omega | (simp; done) | (simp; omega) | (simp at *; omega)))))))
      clear hbx6 x5_0_0 x5_0_1 x5_0_2 x5_1_0 x5_1_1 x5o0 x5n0 x5t0_0 x5t0_1 x5o1 x5n1 x5t1_0 x5t1_1 hBx5
      rcases p1 with _ | _
      · go_wp2_with ((go_at_call 81; ((with_reducible refine (cWithin_any _ _ _ _).mono ?_)); rintro e w' ⟨rfl, rfl⟩))
        go_ret2
        exact ⟨rfl, (by (repeat (first | (with_reducible refine Below.drew ?_) | (with_reducible refine below_drewN ?_ _) | (with_reducible refine Below.alloc ?_ (by first | omega | (simp; done) | (simp; omega) | (simp at *; omega)) _) | (with_reducible refine Below.setCell ?_ (by first | omega | (simp; done) | (simp; omega) | (simp at *; omega)) _) | (with_reducible exact Below.refl _ _) | (with_reducible assumption) | (with_reducible refine Below.trans ?_ (Below.mono (by assumption) (by first | omega | (simp; done) | (simp; omega) | (simp at *; omega)))))))⟩
      · go_wp2_with ((go_at_call 81; ((with_reducible refine (cWithin_any _ _ _ _).mono ?_)); rintro e w' ⟨rfl, rfl⟩))
        go_ret2
        exact ⟨rfl, (by (repeat (first | (with_reducible refine Below.drew ?_) | (with_reducible refine below_drewN ?_ _) | (with_reducible refine Below.alloc ?_ (by first | omega | (simp; done) | (simp; omega) | (simp at *; omega)) _) | (with_reducible refine Below.setCell ?_ (by first | omega | (simp; done) | (simp; omega) | (simp at *; omega)) _) | (with_reducible exact Below.refl _ _) | (with_reducible assumption) | (with_reducible refine Below.trans ?_ (Below.mono (by assumption) (by first | omega | (simp; done) | (simp; omega) | (simp at *; omega)))))))⟩
    · skip
      go_simp
      go_wp2_with fail
      refine hK.out _ _ (by simp [go_sem, World.cell?_alloc_past, *]) (fun hHeld => ?_)
      clear hK K
      try simp only [Act.put, sA, sB, sC]
      refine wpAnyH_ready (rs := [5]) (by kernel_rfl) (by simp) ?_
      refine AllReadyH.cons rfl (fun K hK => ?_) (AllReadyH.nil)
      go_simp
      refine (missingOf_any a b c o h 0 0 S n P Q U X Y Z _ hc hG hn s0 s1 hP hX).mono ?_
      rintro e xw5 ⟨rfl, hbx5⟩
      have zx5 := hbx5.size
      try simp at zx5
      obtain ⟨x5_0_0, x5_0_1, x5_0_2, x5_1_0, x5_1_1, x5_2_0, x5_2_1, x5_2_2⟩ : xw5.cell? ⟨w.heap.size, 0, none⟩ = some (.int .i64 a) ∧ xw5.cell? ⟨w.heap.size, 1, none⟩ = some (.int .i64 b) ∧ xw5.cell? ⟨w.heap.size, 2, none⟩ = some (.int .i64 c) ∧ xw5.cell? ⟨w.heap.size + 1, 0, none⟩ = some (.int .i64 o) ∧ xw5.cell? ⟨w.heap.size + 1, 1, none⟩ = some (.int .i64 h) ∧ xw5.cell? ⟨xw4.heap.size, 0, none⟩ = some (.int .i64 0) ∧ xw5.cell? ⟨xw4.heap.size, 1, none⟩ = some (.int .i64 0) ∧ xw5.cell? ⟨xw4.heap.size, 2, none⟩ = some (.int .i64 0) := by refine ⟨?_, ?_, ?_, ?_, ?_, ?_, ?_, ?_⟩ <;> (rw [(bcell hbx5).1 _ _ (by first | (simp; done) | (simp; omega) | omega)]; simp [go_sem, World.cell?_alloc_past, *])
      have x5f2 : (∀ j, xw5.frozen? ⟨xw4.heap.size, j, none⟩ = false) := by (intro j; rw [(bcell hbx5).2 _ _ (by first | (simp; done) | (simp; omega) | omega)]; simp [go_sem, *])
      obtain ⟨x5o0, x5n0, x5t0_0, x5t0_1, x5o1, x5n1, x5t1_0, x5t1_1, x5o2, x5n2, x5t2_0, x5t2_1⟩ : w.heap.size < xw5.heap.size ∧ xw5.heap.size ≠ w.heap.size ∧ w.heap.size < xw5.heap.size + 1 ∧ w.heap.size < xw5.heap.size + 1 + 1 ∧ w.heap.size + 1 < xw5.heap.size ∧ xw5.heap.size ≠ w.heap.size + 1 ∧ w.heap.size + 1 < xw5.heap.size + 1 ∧ w.heap.size + 1 < xw5.heap.size + 1 + 1 ∧ xw4.heap.size < xw5.heap.size ∧ xw5.heap.size ≠ xw4.heap.size ∧ xw4.heap.size < xw5.heap.size + 1 ∧ xw4.heap.size < xw5.heap.size + 1 + 1 := by refine ⟨?_, ?_, ?_, ?_, ?_, ?_, ?_, ?_, ?_, ?_, ?_, ?_⟩ <;> omega
      have hBx5 : Below w.heap.size w xw5 := (by (repeat (first | (with_reducible refine Below.drew ?_) | (with_reducible refine below_drewN ?_ _) | (with_reducible refine Below.alloc ?_ (by first | omega | (simp; done) | (simp; omega) | (simp at *; omega)) _) | (with_reducible refine Below.setCell ?_ (by first | omega | (simp; done) | (simp; omega) | (simp at *; omega)) _) | (with_reducible exact Below.refl _ _) | (with_reducible assumption) | (with_reducible refine Below.trans ?_ (Below.mono (by assumption) (by first | omega | (simp; done) | (simp; omega) | (simp at *; omega)))))))
      clear hbx5 x4_0_0 x4_0_1 x4_0_2 x4_1_0 x4_1_1 x4o0 x4n0 x4t0_0 x4t0_1 x4o1 x4n1 x4t1_0 x4t1_1 hBx4
      go_wp2_with fail
      refine hK.out _ _ (by simp [go_sem, World.cell?_alloc_past, *]) (fun hHeld => ?_)
      clear hK K
      try simp only [Act.put, sA, sB, sC]
      refine wpAnyH_ready (rs := [7]) (by kernel_rfl) (by simp) ?_
      refine AllReadyH.cons rfl (fun K hK => ?_) (AllReadyH.nil)
      go_simp
      go_wp2_with fail
      refine hK.out _ _ (by simp [go_sem, World.cell?_alloc_past, *]) (fun hHeld => ?_)
      clear hK K
      try simp only [Act.put, sA, sB, sC]
      refine wpAnyH_done (by kernel_rfl) ?_ _
      go_wp2_with fail
      refine (sumOf_ok a b c S _ hc hS).mono ?_
      rintro e xw6 ⟨rfl, hbx6⟩
      have zx6 := hbx6.size
      try simp at zx6
      obtain ⟨x6_0_0, x6_0_1, x6_0_2, x6_1_0, x6_1_1, x6_2_0, x6_2_1, x6_2_2⟩ : xw6.cell? ⟨w.heap.size, 0, none⟩ = some (.int .i64 a) ∧ xw6.cell? ⟨w.heap.size, 1, none⟩ = some (.int .i64 b) ∧ xw6.cell? ⟨w.heap.size, 2, none⟩ = some (.int .i64 c) ∧ xw6.cell? ⟨w.heap.size + 1, 0, none⟩ = some (.int .i64 o) ∧ xw6.cell? ⟨w.heap.size + 1, 1, none⟩ = some (.int .i64 h) ∧ xw6.cell? ⟨xw4.heap.size, 0, none⟩ = some (.int .i64 X) ∧ xw6.cell? ⟨xw4.heap.size, 1, none⟩ = some (.int .i64 Y) ∧ xw6.cell? ⟨xw4.heap.size, 2, none⟩ = some (.int .i64 Z) := by refine ⟨?_, ?_, ?_, ?_, ?_, ?_, ?_, ?_⟩ <;> (rw [(bcell hbx6).1 _ _ (by first | (simp; done) | (simp; omega) | omega)]; simp [go_sem, World.cell?_alloc_past, *])
      have x6f2 : (∀ j, xw6.frozen? ⟨xw4.heap.size, j, none⟩ = false) := by (intro j; rw [(bcell hbx6).2 _ _ (by first | (simp; done) | (simp; omega) | omega)]; simp [go_sem, *])
      obtain ⟨x6o0, x6n0, x6t0_0, x6t0_1, x6o1, x6n1, x6t1_0, x6t1_1, x6o2, x6n2, x6t2_0, x6t2_1⟩ : w.heap.size < xw6.heap.size ∧ xw6.heap.size ≠ w.heap.size ∧ w.heap.size < xw6.heap.size + 1 ∧ w.heap.size < xw6.heap.size + 1 + 1 ∧ w.heap.size + 1 < xw6.heap.size ∧ xw6.heap.size ≠ w.heap.size + 1 ∧ w.heap.size + 1 < xw6.heap.size + 1 ∧ w.heap.size + 1 < xw6.heap.size + 1 + 1 ∧ xw4.heap.size < xw6.heap.size ∧ xw6.heap.size ≠ xw4.heap.size ∧ xw4.heap.size < xw6.heap.size + 1 ∧ xw4.heap.size < xw6.heap.size + 1 + 1 := by refine ⟨?_, ?_, ?_, ?_, ?_, ?_, ?_, ?_, ?_, ?_, ?_, ?_⟩ <;> omega
      have hBx6 : Below w.heap.size w xw6 := (by (repeat (first | (with_reducible refine Below.drew ?_) | (with_reducible refine below_drewN ?_ _) | (with_reducible refine Below.alloc ?_ (by first | omega | (simp; done) | (simp; omega) | (simp at *; omega)) _) | (with_reducible refine Below.setCell ?_ (by first | omega | (simp; done) | (simp; omega) | (simp at *; omega)) _) | (with_reducible exact Below.refl _ _) | (with_reducible assumption) | (with_reducible refine Below.trans ?_ (Below.mono (by assumption) (by first | omega | (simp; done) | (simp; omega) | (simp at *; omega)))))))
      clear hbx6 x5_0_0 x5_0_1 x5_0_2 x5_1_0 x5_1_1 x5_2_0 x5_2_1 x5_2_2 x5f2 x5o0 x5n0 x5t0_0 x5t0_1 x5o1 x5n1 x5t1_0 x5t1_1 x5o2 x5n2 x5t2_0 x5t2_1 hBx5
      rcases p1 with _ | _
      · go_wp2_with ((go_at_call 81; ((with_reducible refine (cWithin_any _ _ _ _).mono ?_)); rintro e w' ⟨rfl, rfl⟩))
        go_ret2
        exact ⟨rfl, (by (repeat (first | (with_reducible refine Below.drew ?_) | (with_reducible refine below_drewN ?_ _) | (with_reducible refine Below.alloc ?_ (by first | omega | (simp; done) | (simp; omega) | (simp at *; omega)) _) | (with_reducible refine Below.setCell ?_ (by first | omega | (simp; done) | (simp; omega) | (simp at *; omega)) _) | (with_reducible exact Below.refl _ _) | (with_reducible assumption) | (with_reducible refine Below.trans ?_ (Below.mono (by assumption) (by first | omega | (simp; done) | (simp; omega) | (simp at *; omega)))))))⟩
      · go_wp2_with ((go_at_call 81; ((with_reducible refine (cWithin_any _ _ _ _).mono ?_)); rintro e w' ⟨rfl, rfl⟩))
        go_ret2
        exact ⟨rfl, (by (repeat (first | (with_reducible refine Below.drew ?_) | (with_reducible refine below_drewN ?_ _) | (with_reducible refine Below.alloc ?_ (by first | omega | (simp; done) | (simp; omega) | (simp at *; omega)) _) | (with_reducible refine Below.setCell ?_ (by first | omega | (simp; done) | (simp; omega) | (simp at *; omega)) _) | (with_reducible exact Below.refl _ _) | (with_reducible assumption) | (with_reducible refine Below.trans ?_ (Below.mono (by assumption) (by first | omega | (simp; done) | (simp; omega) | (simp at *; omega)))))))⟩
  · skip
    go_simp
    go_wp2_with fail
    refine hK.out _ _ (by simp [go_sem, World.cell?_alloc_past, *]) (fun hHeld => ?_)
    clear hK K
    try simp only [Act.put, sA, sB, sC]
    refine wpAnyH_ready (rs := [3]) (by kernel_rfl) (by simp) ?_
    refine AllReadyH.cons rfl (fun K hK => ?_) (AllReadyH.nil)
    go_simp
    refine (sumOf_ok a b c S _ hc hS).mono ?_
    rintro e xw4 ⟨rfl, hbx4⟩
    have zx4 := hbx4.size
    try simp at zx4
    obtain ⟨x4_0_0, x4_0_1, x4_0_2, x4_1_0, x4_1_1, x4_2_0, x4_2_1, x4_2_2⟩ : xw4.cell? ⟨w.heap.size, 0, none⟩ = some (.int .i64 a) ∧ xw4.cell? ⟨w.heap.size, 1, none⟩ = some (.int .i64 b) ∧ xw4.cell? ⟨w.heap.size, 2, none⟩ = some (.int .i64 c) ∧ xw4.cell? ⟨w.heap.size + 1, 0, none⟩ = some (.int .i64 o) ∧ xw4.cell? ⟨w.heap.size + 1, 1, none⟩ = some (.int .i64 h) ∧ xw4.cell? ⟨xw3.heap.size, 0, none⟩ = some (.int .i64 0) ∧ xw4.cell? ⟨xw3.heap.size, 1, none⟩ = some (.int .i64 0) ∧ xw4.cell? ⟨xw3.heap.size, 2, none⟩ = some (.int .i64 0) := by refine ⟨?_, ?_, ?_, ?_, ?_, ?_, ?_, ?_⟩ <;> (rw [(bcell hbx4).1 _ _ (by first | (simp; done) | (simp; omega) | omega)]; simp [go_sem, World.cell?_alloc_past, *])
    have x4f2 : (∀ j, xw4.frozen? ⟨xw3.heap.size, j, none⟩ = false) := by (intro j; rw [(bcell hbx4).2 _ _ (by first | (simp; done) | (simp; omega) | omega)]; simp [go_sem, *])
    obtain ⟨x4o0, x4n0, x4t0_0, x4t0_1, x4o1, x4n1, x4t1_0, x4t1_1, x4o2, x4n2, x4t2_0, x4t2_1⟩ : w.heap.size < xw4.heap.size ∧ xw4.heap.size ≠ w.heap.size ∧ w.heap.size < xw4.heap.size + 1 ∧ w.heap.size < xw4.heap.size + 1 + 1 ∧ w.heap.size + 1 < xw4.heap.size ∧ xw4.heap.size ≠ w.heap.size + 1 ∧ w.heap.size + 1 < xw4.heap.size + 1 ∧ w.heap.size + 1 < xw4.heap.size + 1 + 1 ∧ xw3.heap.size < xw4.heap.size ∧ xw4.heap.size ≠ xw3.heap.size ∧ xw3.heap.size < xw4.heap.size + 1 ∧ xw3.heap.size < xw4.heap.size + 1 + 1 := by refine ⟨?_, ?_, ?_, ?_, ?_, ?_, ?_, ?_, ?_, ?_, ?_, ?_⟩ <;> omega
    have hBx4 : Below w.heap.size w xw4 := (by (repeat (first | (with_reducible refine Below.drew ?_) | (with_reducible refine below_drewN ?_ _) | (with_reducible refine Below.alloc ?_ (by first | omega | (simp; done) | (simp; omega) | (simp at *; omega)) _) | (with_reducible refine Below.setCell ?_ (by first | omega | (simp; done) | (simp; omega) | (simp at *; omega)) _) | (with_reducible exact Below.refl _ _) | (with_reducible assumption) | (with_reducible refine Below.trans ?_ (Below.mono (by assumption) (by first | omega | (simp; done) | (simp; omega) | (simp at *; omega)))))))
    clear hbx4 x3_0_0 x3_0_1 x3_0_2 x3_1_0 x3_1_1 x3o0 x3n0 x3t0_0 x3t0_1 x3o1 x3n1 x3t1_0 x3t1_1 hBx3
    go_wp2_with fail
    refine hK.out _ _ (by simp [go_sem, World.cell?_alloc_past, *]) (fun hHeld => ?_)
    clear hK K
    try simp only [Act.put, sA, sB, sC]
    refine tkH 4 ⟨some 33, _, _, _, _, _⟩ ?_ rfl ?_ (by assumption) ?_
    rotate_left
    · (intro w hSw; (try dsimp only at hSw); go_simp; all_goals with_reducible rfl)
    try simp only [Act.put, sA, sB, sC]
    refine wpAnyH_ready (rs := [5]) (by kernel_rfl) (by simp) ?_
    refine AllReadyH.cons rfl (fun K hK => ?_) (AllReadyH.nil)
    go_simp
    refine (missingOf_any a b c o h 0 0 S n P Q U X Y Z _ hc hG hn s0 s1 hP hX).mono ?_
    rintro e xw5 ⟨rfl, hbx5⟩
    have zx5 := hbx5.size
    try simp at zx5
    obtain ⟨x5_0_0, x5_0_1, x5_0_2, x5_1_0, x5_1_1, x5_2_0, x5_2_1, x5_2_2⟩ : xw5.cell? ⟨w.heap.size, 0, none⟩ = some (.int .i64 a) ∧ xw5.cell? ⟨w.heap.size, 1, none⟩ = some (.int .i64 b) ∧ xw5.cell? ⟨w.heap.size, 2, none⟩ = some (.int .i64 c) ∧ xw5.cell? ⟨w.heap.size + 1, 0, none⟩ = some (.int .i64 o) ∧ xw5.cell? ⟨w.heap.size + 1, 1, none⟩ = some (.int .i64 h) ∧ xw5.cell? ⟨xw3.heap.size, 0, none⟩ = some (.int .i64 0) ∧ xw5.cell? ⟨xw3.heap.size, 1, none⟩ = some (.int .i64 0) ∧ xw5.cell? ⟨xw3.heap.size, 2, none⟩ = some (.int .i64 0) := by refine ⟨?_, ?_, ?_, ?_, ?_, ?_, ?_, ?_⟩ <;> (rw [(bcell hbx5).1 _ _ (by first | (simp; done) | (simp; omega) | omega)]; simp [go_sem, World.cell?_alloc_past, *])
    have x5f2 : (∀ j, xw5.frozen? ⟨xw3.heap.size, j, none⟩ = false) := by (intro j; rw [(bcell hbx5).2 _ _ (by first | (simp; done) | (simp; omega) | omega)]; simp [go_sem, *])
    obtain ⟨x5o0, x5n0, x5t0_0, x5t0_1, x5o1, x5n1, x5t1_0, x5t1_1, x5o2, x5n2, x5t2_0, x5t2_1⟩ : w.heap.size < xw5.heap.size ∧ xw5.heap.size ≠ w.heap.size ∧ w.heap.size < xw5.heap.size + 1 ∧ w.heap.size < xw5.heap.size + 1 + 1 ∧ w.heap.size + 1 < xw5.heap.size ∧ xw5.heap.size ≠ w.heap.size + 1 ∧ w.heap.size + 1 < xw5.heap.size + 1 ∧ w.heap.size + 1 < xw5.heap.size + 1 + 1 ∧ xw3.heap.size < xw5.heap.size ∧ xw5.heap.size ≠ xw3.heap.size ∧ xw3.heap.size < xw5.heap.size + 1 ∧ xw3.heap.size < xw5.heap.size + 1 + 1 := by refine ⟨?_, ?_, ?_, ?_, ?_, ?_, ?_, ?_, ?_, ?_, ?_, ?_⟩ <;> omega
    have hBx5 : Below w.heap.size w xw5 := (by (repeat (first | (with_reducible refine Below.drew ?_) | (with_reducible refine below_drewN ?_ _) | (with_reducible refine Below.alloc ?_ (by first | omega | (simp; done) | (simp; omega) | (simp at *; omega)) _) | (with_reducible refine Below.setCell ?_ (by first | omega | (simp; done) | (simp; omega) | (simp at *; omega)) _) | (with_reducible exact Below.refl _ _) | (with_reducible assumption) | (with_reducible refine Below.trans ?_ (Below.mono (by assumption) (by first | omega | (simp; done) | (simp; omega) | (simp at *; omega)))))))
    clear hbx5 x4_0_0 x4_0_1 x4_0_2 x4_1_0 x4_1_1 x4_2_0 x4_2_1 x4_2_2 x4f2 x4o0 x4n0 x4t0_0 x4t0_1 x4o1 x4n1 x4t1_0 x4t1_1 x4o2 x4n2 x4t2_0 x4t2_1 hBx4
    go_wp2_with fail
    refine hK.out _ _ (by simp [go_sem, World.cell?_alloc_past, *]) (fun hHeld => ?_)
    clear hK K
    try simp only [Act.put, sA, sB, sC]
    refine wpAnyH_ready (rs := [7]) (by kernel_rfl) (by simp) ?_
    refine AllReadyH.cons rfl (fun K hK => ?_) (AllReadyH.nil)
    go_simp
    go_wp2_with fail
    refine hK.out _ _ (by simp [go_sem, World.cell?_alloc_past, *]) (fun hHeld => ?_)
    clear hK K
    try simp only [Act.put, sA, sB, sC]
    refine wpAnyH_done (by kernel_rfl) ?_ _
    go_wp2_with fail
    refine (sumOf_ok a b c S _ hc hS).mono ?_
    rintro e xw6 ⟨rfl, hbx6⟩
    have zx6 := hbx6.size
    try simp at zx6
    obtain ⟨x6_0_0, x6_0_1, x6_0_2, x6_1_0, x6_1_1, x6_2_0, x6_2_1, x6_2_2⟩ : xw6.cell? ⟨w.heap.size, 0, none⟩ = some (.int .i64 a) ∧ xw6.cell? ⟨w.heap.size, 1, none⟩ = some (.int .i64 b) ∧ xw6.cell? ⟨w.heap.size, 2, none⟩ = some (.int .i64 c) ∧ xw6.cell? ⟨w.heap.size + 1, 0, none⟩ = some (.int .i64 o) ∧ xw6.cell? ⟨w.heap.size + 1, 1, none⟩ = some (.int .i64 h) ∧ xw6.cell? ⟨xw3.heap.size, 0, none⟩ = some (.int .i64 X) ∧ xw6.cell? ⟨xw3.heap.size, 1, none⟩ = some (.int .i64 Y) ∧ xw6.cell? ⟨xw3.heap.size, 2, none⟩ = some (.int .i64 Z) := by refine ⟨?_, ?_, ?_, ?_, ?_, ?_, ?_, ?_⟩ <;> (rw [(bcell hbx6).1 _ _ (by first | (simp; done) | (simp; omega) | omega)]; simp [go_sem, World.cell?_alloc_past, *])
    have x6f2 : (∀ j, xw6.frozen? ⟨xw3.heap.size, j, none⟩ = false) := by (intro j; rw [(bcell hbx6).2 _ _ (by first | (simp; done) | (simp; omega) | omega)]; simp [go_sem, *])
    obtain ⟨x6o0, x6n0, x6t0_0, x6t0_1, x6o1, x6n1, x6t1_0, x6t1_1, x6o2, x6n2, x6t2_0, x6t2_1⟩ : w.heap.size < xw6.heap.size ∧ xw6.heap.size ≠ w.heap.size ∧ w.heap.size < xw6.heap.size + 1 ∧ w.heap.size < xw6.heap.size + 1 + 1 ∧ w.heap.size + 1 < xw6.heap.size ∧ xw6.heap.size ≠ w.heap.size + 1 ∧ w.heap.size + 1 < xw6.heap.size + 1 ∧ w.heap.size + 1 < xw6.heap.size + 1 + 1 ∧ xw3.heap.size < xw6.heap.size ∧ xw6.heap.size ≠ xw3.heap.size ∧ xw3.heap.size < xw6.heap.size + 1 ∧ xw3.heap.size < xw6.heap.size + 1 + 1 := by refine ⟨?_, ?_, ?_, ?_, ?_, ?_, ?_, ?_, ?_, ?_, ?_, ?_⟩ <;> omega
    have hBx6 : Below w.heap.size w xw6 := (by (repeat (first | (with_reducible refine Below.drew ?_) | (with_reducible refine below_drewN ?_ _) | (with_reducible refine Below.alloc ?_ (by first | omega | (simp; done) | (simp; omega) | (simp at *; omega)) _) | (with_reducible refine Below.setCell ?_ (by first | omega | (simp; done) | (simp; omega) | (simp at *; omega)) _) | (with_reducible exact Below.refl _ _) | (with_reducible assumption) | (with_reducible refine Below.trans ?_ (Below.mono (by assumption) (by first | omega | (simp; done) | (simp; omega) | (simp at *; omega)))))))
    clear hbx6 x5_0_0 x5_0_1 x5_0_2 x5_1_0 x5_1_1 x5_2_0 x5_2_1 x5_2_2 x5f2 x5o0 x5n0 x5t0_0 x5t0_1 x5o1 x5n1 x5t1_0 x5t1_1 x5o2 x5n2 x5t2_0 x5t2_1 hBx5
    rcases p1 with _ | _
    · go_wp2_with ((go_at_call 81; ((with_reducible refine (cWithin_any _ _ _ _).mono ?_)); rintro e w' ⟨rfl, rfl⟩))
      go_ret2
      exact ⟨rfl, (by (repeat (first | (with_reducible refine Below.drew ?_) | (with_reducible refine below_drewN ?_ _) | (with_reducible refine Below.alloc ?_ (by first | omega | (simp; done) | (simp; omega) | (simp at *; omega)) _) | (with_reducible refine Below.setCell ?_ (by first | omega | (simp; done) | (simp; omega) | (simp at *; omega)) _) | (with_reducible exact Below.refl _ _) | (with_reducible assumption) | (with_reducible refine Below.trans ?_ (Below.mono (by assumption) (by first | omega | (simp; done) | (simp; omega) | (simp at *; omega)))))))⟩
    · go_wp2_with ((go_at_call 81; ((with_reducible refine (cWithin_any _ _ _ _).mono ?_)); rintro e w' ⟨rfl, rfl⟩))
      go_ret2
      exact ⟨rfl, (by (repeat (first | (with_reducible refine Below.drew ?_) | (with_reducible refine below_drewN ?_ _) | (with_reducible refine Below.alloc ?_ (by first | omega | (simp; done) | (simp; omega) | (simp at *; omega)) _) | (with_reducible refine Below.setCell ?_ (by first | omega | (simp; done) | (simp; omega) | (simp at *; omega)) _) | (with_reducible exact Below.refl _ _) | (with_reducible assumption) | (with_reducible refine Below.trans ?_ (Below.mono (by assumption) (by first | omega | (simp; done) | (simp; omega) | (simp at *; omega)))))))⟩
end Go.Proofs.Ytjkhjjmmkdfjmaa
