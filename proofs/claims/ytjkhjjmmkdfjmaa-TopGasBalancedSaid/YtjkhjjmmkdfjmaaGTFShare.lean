import Derived.Test.YtjkhjjmmkdfjmaaGTFCon
import Derived.Deep.DrawnRows
import Derived.Deep.CutRange
import Derived.Deep.CutBlock
import Derived.Outline
namespace Go.Proofs.Ytjkhjjmmkdfjmaa
open Go.ChangeShapes Go.WideShapes Go.ChangeAt Go.RowKit
set_option linter.unusedVariables false
set_option linter.unusedSimpArgs false
attribute [local go_sem ↓] Go.wp_at_zero Go.wp_at_succ
theorem max3_any (x y z m : Int) (b : Nat) (w : World) (c0 : w.cell? ⟨b, 0, none⟩ = some (.int .i64 x)) (c1 : w.cell? ⟨b, 1, none⟩ = some (.int .i64 y)) (c2 : w.cell? ⟨b, 2, none⟩ = some (.int .i64 z)) (hm : Hid (max (max x y) z = m)) :
    Calls Try.prog 105 #[.slice (some ⟨b, 0, none⟩) 3 3] w fun e w' => e = .returned (.int .i64 m) ∧ w = w' := by
  go_enter Try.func105, Try.ntmps105
  go_wp2
  refine wp_loop_rounds 3 ?_
  rw [rounds_succ]
  go_wp2
  all_goals
    rw [rounds_succ]
    go_wp2
  all_goals
    rw [rounds_succ]
    go_wp2
  all_goals
    go_ret
    exact ⟨ret_int (by have := hm.out; omega), rfl⟩
/-- The place of the greatest of three numbers, the first one of several. -/
def gI (x y z : Int) : Int := if y ≤ x ∧ z ≤ x then 0 else if z ≤ y then 1 else 2
theorem idx3_any (x y z m : Int) (b : Nat) (w : World) (c0 : w.cell? ⟨b, 0, none⟩ = some (.int .i64 x)) (c1 : w.cell? ⟨b, 1, none⟩ = some (.int .i64 y)) (c2 : w.cell? ⟨b, 2, none⟩ = some (.int .i64 z)) (hm : Hid (max (max x y) z = m)) (g : Int) (hg : Hid (gI x y z = g)) :
    Calls Try.prog 104 #[.slice (some ⟨b, 0, none⟩) 3 3, .int .i64 m] w fun e w' => e = .returned (.int .i64 g) ∧ w = w' := by
  have hM := hm.out
  have hG := hg.out
  unfold gI at hG
  by_cases h1 : y ≤ x ∧ z ≤ x
  · have e1 : m = x := by omega
    rw [if_pos h1] at hG
    clear hm hg hM h1
    subst e1 hG
    go_enter Try.func104, Try.ntmps104
    go_wp2
    refine wp_loop_rounds 1 ?_
    rw [rounds_succ]
    go_wp2
    go_ret
    exact ⟨rfl, rfl⟩
  · rw [if_neg h1] at hG
    by_cases h2 : z ≤ y
    · have e1 : m = y := by omega
      have n1 : (m == x) = false := by simp; omega
      rw [if_pos h2] at hG
      clear hm hg hM h1 h2
      subst e1 hG
      go_enter Try.func104, Try.ntmps104
      go_wp2
      refine wp_loop_rounds 2 ?_
      rw [rounds_succ]
      go_wp2
      rw [rounds_succ]
      go_wp2
      go_ret
      exact ⟨rfl, rfl⟩
    · have e1 : m = z := by omega
      have n1 : (m == x) = false := by simp; omega
      have n2 : (m == y) = false := by simp; omega
      rw [if_neg h2] at hG
      clear hm hg hM h1 h2
      subst e1 hG
      go_enter Try.func104, Try.ntmps104
      go_wp2
      refine wp_loop_rounds 3 ?_
      rw [rounds_succ]
      go_wp2
      rw [rounds_succ]
      go_wp2
      rw [rounds_succ]
      go_wp2
      go_ret
      exact ⟨rfl, rfl⟩
/-- The share: to each of the gases with the greatest rests one more. -/
def shr : Nat → Int → Int → Int → Int → Int → Int → Int × Int × Int
  | 0, x, y, z, _, _, _ => (x, y, z)
  | k + 1, x, y, z, r, s, t => if s ≤ r ∧ t ≤ r then shr k (x + 1) y z 0 s t else if t ≤ s then shr k x (y + 1) z r 0 t else shr k x y (z + 1) r s 0
set_option maxRecDepth 100000 in
set_option maxHeartbeats 4000000 in
theorem shareOf_pos (a b c m S P0 P1 P2 Q0 Q1 Q2 R0 R1 R2 X Y Z : Int) (K : Nat) (w : World) (hc : Hid (conB a b c = true)) (hS : Hid (a + b + c = S)) (S0 : 0 < S) (m0 : 0 ≤ m) (m1 : m ≤ S) (hP : Hid (a * m = P0 ∧ b * m = P1 ∧ c * m = P2)) (hQ : Hid (P0 / S = Q0 ∧ P1 / S = Q1 ∧ P2 / S = Q2)) (hR : Hid (P0 % S = R0 ∧ P1 % S = R1 ∧ P2 % S = R2)) (hK : Hid (m - Q0 - Q1 - Q2 = K)) (hK3 : K ≤ 3) (hX : Hid (shr K Q0 Q1 Q2 R0 R1 R2 = (X, Y, Z))) :
    Calls Try.prog 75 #[.agg #[.int .i64 a, .int .i64 b, .int .i64 c], .int .i64 m] w fun e w' => e = .returned (.agg #[.int .i64 X, .int .i64 Y, .int .i64 Z]) ∧ Below w.heap.size w w' := by
  obtain ⟨a0, b0, c0, s1⟩ := conB_iff.1 hc.out
  have hSo := hS.out
  have am : ∀ n : Int, 0 ≤ n → n ≤ S → 0 ≤ n * m ∧ n * m ≤ 1000000000000000000 := fun n h1 h2 => ⟨Int.mul_nonneg h1 m0, Int.le_trans (Int.mul_le_mul (show n ≤ 1000000000 by omega) (show m ≤ 1000000000 by omega) m0 (by omega)) (by omega)⟩
  obtain ⟨p0, p0'⟩ := am a a0 (by omega)
  obtain ⟨p1, p1'⟩ := am b b0 (by omega)
  obtain ⟨p2, p2'⟩ := am c c0 (by omega)
  rw [hP.out.1] at p0 p0'
  rw [hP.out.2.1] at p1 p1'
  rw [hP.out.2.2] at p2 p2'
  have w0 : IntKind.i64.wrap (a * m) = P0 := by rw [hP.out.1]; exact IntWalk.i64_in _ (by omega)
  have w1 : IntKind.i64.wrap (b * m) = P1 := by rw [hP.out.2.1]; exact IntWalk.i64_in _ (by omega)
  have w2 : IntKind.i64.wrap (c * m) = P2 := by rw [hP.out.2.2]; exact IntWalk.i64_in _ (by omega)
  have e0 : IntKind.i64.wrap (P0.tdiv S) = Q0 := by rw [quo_in P0 S p0 (by omega) S0]; exact hQ.out.1
  have e1 : IntKind.i64.wrap (P1.tdiv S) = Q1 := by rw [quo_in P1 S p1 (by omega) S0]; exact hQ.out.2.1
  have e2 : IntKind.i64.wrap (P2.tdiv S) = Q2 := by rw [quo_in P2 S p2 (by omega) S0]; exact hQ.out.2.2
  have rb : ∀ P : Int, 0 ≤ P → 0 ≤ P % S ∧ P % S < S := fun P h => ⟨Int.emod_nonneg _ (by omega), Int.emod_lt_of_pos _ S0⟩
  have d0 : P0.tmod S = R0 := by rw [Int.tmod_eq_emod_of_nonneg p0]; exact hR.out.1
  have d1 : P1.tmod S = R1 := by rw [Int.tmod_eq_emod_of_nonneg p1]; exact hR.out.2.1
  have d2 : P2.tmod S = R2 := by rw [Int.tmod_eq_emod_of_nonneg p2]; exact hR.out.2.2
  have qb : ∀ P n : Int, 0 ≤ P → P = n * m → 0 ≤ n → 0 ≤ P / S ∧ P / S ≤ n := fun P n h1 h2 h3 => ⟨Int.ediv_nonneg h1 (by omega), by
    refine Int.le_trans (Int.ediv_le_ediv S0 (show P ≤ n * S by rw [h2]; exact Int.mul_le_mul_of_nonneg_left m1 h3)) ?_
    rw [Int.mul_ediv_cancel _ (by omega)]; exact Int.le_refl _⟩
  have q0 := qb P0 a p0 hP.out.1.symm a0
  have q1 := qb P1 b p1 hP.out.2.1.symm b0
  have q2 := qb P2 c p2 hP.out.2.2.symm c0
  rw [hQ.out.1] at q0
  rw [hQ.out.2.1] at q1
  rw [hQ.out.2.2] at q2
  have hS0 : ¬ S = 0 := by omega
  have hSb : S ≤ 1000000000 := by omega
  obtain ⟨q0, q0'⟩ := q0
  obtain ⟨q1, q1'⟩ := q1
  obtain ⟨q2, q2'⟩ := q2
  have q0b : Q0 ≤ 1000000000 := by omega
  have q1b : Q1 ≤ 1000000000 := by omega
  have q2b : Q2 ≤ 1000000000 := by omega
  have rr0 := rb P0 p0
  have rr1 := rb P1 p1
  have rr2 := rb P2 p2
  rw [hR.out.1] at rr0
  rw [hR.out.2.1] at rr1
  rw [hR.out.2.2] at rr2
  have hne : ¬ (a = 0 ∧ b = 0 ∧ c = 0) := by omega
  clear am rb qb hSo q0' q1' q2' hP hQ hR
  go_enter Try.func75, Try.ntmps75
  go_upto_region 1 with (fail)
  go_cut [13] from 11 to 13 (fun s13 wx => s13 = .bool false ∧ wx.heap.size = w.heap.size + 1 + 1 ∧ wx.cell? ⟨w.heap.size, 0, none⟩ = some (.int .i64 a) ∧ wx.cell? ⟨w.heap.size, 1, none⟩ = some (.int .i64 b) ∧ wx.cell? ⟨w.heap.size, 2, none⟩ = some (.int .i64 c) ∧ wx.cell? ⟨w.heap.size + 1, 0, none⟩ = some (.int .i64 0) ∧ wx.cell? ⟨w.heap.size + 1, 1, none⟩ = some (.int .i64 0) ∧ wx.cell? ⟨w.heap.size + 1, 2, none⟩ = some (.int .i64 0) ∧ (∀ j, wx.frozen? ⟨w.heap.size + 1, j, none⟩ = false) ∧ Below w.heap.size w wx)
  case first =>
    go_wp2
    all_goals first | (exact absurd ⟨by assumption, by assumption, by assumption⟩ hne) | ((try subst_vars); go_meet; exact ⟨rfl, by simp, by simp [go_sem, cP], by simp [go_sem, cP], by simp [go_sem, cP], by simp [go_sem], by simp [go_sem], by simp [go_sem], by intro j; simp [go_sem], belA⟩)
  case rest =>
    obtain ⟨rfl, zz, k0, k1, k2, k3, k4, k5, kf, kB⟩ := hcut
    clear hne
    go_wp2_with fail
    refine (mPartsOf_any a b c _).mono ?_
    rintro e x0 ⟨rfl, hbx⟩
    have zx := hbx.size
    try simp [zz] at zx
    have ic0 : x0.cell? ⟨w.heap.size, 0, none⟩ = some (.int .i64 a) := by rw [(bcell hbx).1 _ _ (by first | (simp [zz]; done) | (simp [zz]; omega))]; simp [go_sem, cP, zz, *]
    have ic1 : x0.cell? ⟨w.heap.size, 1, none⟩ = some (.int .i64 b) := by rw [(bcell hbx).1 _ _ (by first | (simp [zz]; done) | (simp [zz]; omega))]; simp [go_sem, cP, zz, *]
    have ic2 : x0.cell? ⟨w.heap.size, 2, none⟩ = some (.int .i64 c) := by rw [(bcell hbx).1 _ _ (by first | (simp [zz]; done) | (simp [zz]; omega))]; simp [go_sem, cP, zz, *]
    have ir0 : x0.cell? ⟨w.heap.size + 1, 0, none⟩ = some (.int .i64 0) := by rw [(bcell hbx).1 _ _ (by first | (simp [zz]; done) | (simp [zz]; omega))]; simp [go_sem, cP, zz, *]
    have ir1 : x0.cell? ⟨w.heap.size + 1, 1, none⟩ = some (.int .i64 0) := by rw [(bcell hbx).1 _ _ (by first | (simp [zz]; done) | (simp [zz]; omega))]; simp [go_sem, cP, zz, *]
    have ir2 : x0.cell? ⟨w.heap.size + 1, 2, none⟩ = some (.int .i64 0) := by rw [(bcell hbx).1 _ _ (by first | (simp [zz]; done) | (simp [zz]; omega))]; simp [go_sem, cP, zz, *]
    have is0 : x0.cell? ⟨w.heap.size + 1 + 1, 0, none⟩ = some (.int .i64 0) := by rw [(bcell hbx).1 _ _ (by first | (simp [zz]; done) | (simp [zz]; omega))]; simp [go_sem, cP, zz, *]
    have is1 : x0.cell? ⟨w.heap.size + 1 + 1, 1, none⟩ = some (.int .i64 0) := by rw [(bcell hbx).1 _ _ (by first | (simp [zz]; done) | (simp [zz]; omega))]; simp [go_sem, cP, zz, *]
    have is2 : x0.cell? ⟨w.heap.size + 1 + 1, 2, none⟩ = some (.int .i64 0) := by rw [(bcell hbx).1 _ _ (by first | (simp [zz]; done) | (simp [zz]; omega))]; simp [go_sem, cP, zz, *]
    have it0 : x0.cell? ⟨w.heap.size + 1 + 1 + 1, 0, none⟩ = some (.int .i64 0) := by rw [(bcell hbx).1 _ _ (by first | (simp [zz]; done) | (simp [zz]; omega))]; simp [go_sem, cP, zz, *]
    have it1 : x0.cell? ⟨w.heap.size + 1 + 1 + 1, 1, none⟩ = some (.int .i64 0) := by rw [(bcell hbx).1 _ _ (by first | (simp [zz]; done) | (simp [zz]; omega))]; simp [go_sem, cP, zz, *]
    have it2 : x0.cell? ⟨w.heap.size + 1 + 1 + 1, 2, none⟩ = some (.int .i64 0) := by rw [(bcell hbx).1 _ _ (by first | (simp [zz]; done) | (simp [zz]; omega))]; simp [go_sem, cP, zz, *]
    have ifr : ∀ j, x0.frozen? ⟨w.heap.size + 1, j, none⟩ = false := fun j => by rw [(bcell hbx).2 _ _ (by first | (simp [zz]; done) | (simp [zz]; omega))]; simp [go_sem, zz, *]
    have ifs : ∀ j, x0.frozen? ⟨w.heap.size + 1 + 1, j, none⟩ = false := fun j => by rw [(bcell hbx).2 _ _ (by first | (simp [zz]; done) | (simp [zz]; omega))]; simp [go_sem, zz, *]
    have ift : ∀ j, x0.frozen? ⟨w.heap.size + 1 + 1 + 1, j, none⟩ = false := fun j => by rw [(bcell hbx).2 _ _ (by first | (simp [zz]; done) | (simp [zz]; omega))]; simp [go_sem, zz, *]
    have io0 : w.heap.size < x0.heap.size := by omega
    have io0n : x0.heap.size ≠ w.heap.size := by omega
    have io4 : w.heap.size + 1 < x0.heap.size := by omega
    have io4n : x0.heap.size ≠ w.heap.size + 1 := by omega
    have io5 : w.heap.size + 1 + 1 < x0.heap.size := by omega
    have io5n : x0.heap.size ≠ w.heap.size + 1 + 1 := by omega
    have io6 : w.heap.size + 1 + 1 + 1 < x0.heap.size := by omega
    have io6n : x0.heap.size ≠ w.heap.size + 1 + 1 + 1 := by omega
    have hB0 : Below w.heap.size w x0 := kB.trans (((((Below.refl _ _).alloc (Nat.le_refl _) _).alloc (by simp) _).trans (hbx.mono (by first | (simp; done) | (simp; omega)))).mono (by omega))
    clear hbx k0 k1 k2 k3 k4 k5 kf kB
    have ix0 : ∀ w : World, (Instr.index 145 (.agg #[.int .i64 a, .int .i64 b, .int .i64 c]) (.int .i64 0)).run Try.prog w = .ok (.int .i64 a) w := fun _ => by kernel_rfl
    have ix1 : ∀ w : World, (Instr.index 145 (.agg #[.int .i64 a, .int .i64 b, .int .i64 c]) (.int .i64 1)).run Try.prog w = .ok (.int .i64 b) w := fun _ => by kernel_rfl
    have ix2 : ∀ w : World, (Instr.index 145 (.agg #[.int .i64 a, .int .i64 b, .int .i64 c]) (.int .i64 2)).run Try.prog w = .ok (.int .i64 c) w := fun _ => by kernel_rfl
    go_wp2_with fail
    refine wp_loop_rounds 4 ?_
    rw [rounds_succ]
    go_upto_region 8 with (fail)
    refine wp_region_held_drew (S := (fun w' => w'.cell? ⟨w.heap.size, 0, none⟩ = some (.int .i64 a) ∧ w'.cell? ⟨w.heap.size, 1, none⟩ = some (.int .i64 b) ∧ w'.cell? ⟨w.heap.size, 2, none⟩ = some (.int .i64 c))) (by kernel_rfl) (by simp [go_sem, cP, *]) (fun hHeld => ?_)
    refine wpAnyH_take (i := 0) (oi := ⟨some 22, _, _, _, _, _⟩) (v := ?_) rfl (by kernel_rfl) (by kernel_rfl) (by kernel_rfl) (fun _ _ _ h => h) (Or.inl ⟨by kernel_rfl, ?_⟩) (by assumption) ?_
    rotate_left
    · (intro w hSw; (try dsimp only at hSw); go_simp; all_goals with_reducible rfl)
    try simp only [Act.put, List.setIfInBounds_toArray, List.set_cons_zero, List.set_cons_succ]
    refine wpAnyH_take (i := 2) (oi := ⟨some 24, _, _, _, _, _⟩) (v := ?_) rfl (by kernel_rfl) (by kernel_rfl) (by kernel_rfl) (fun _ _ _ h => h) (Or.inl ⟨by kernel_rfl, ?_⟩) (by assumption) ?_
    rotate_left
    · (intro w hSw; (try dsimp only at hSw); go_simp; all_goals with_reducible rfl)
    try simp only [Act.put, List.setIfInBounds_toArray, List.set_cons_zero, List.set_cons_succ]
    refine wpAnyH_take (i := 3) (oi := ⟨some 25, _, _, _, _, _⟩) (v := ?_) rfl (by kernel_rfl) (by kernel_rfl) (by kernel_rfl) (fun _ _ _ h => h) (Or.inl ⟨by kernel_rfl, ?_⟩) (by assumption) ?_
    rotate_left
    · (intro w hSw; (try dsimp only at hSw); go_simp; all_goals with_reducible rfl)
    try simp only [Act.put, List.setIfInBounds_toArray, List.set_cons_zero, List.set_cons_succ]
    refine wpAnyH_take (i := 4) (oi := ⟨some 26, _, _, _, _, _⟩) (v := ?_) rfl (by kernel_rfl) (by kernel_rfl) (by kernel_rfl) (fun _ _ _ h => h) (Or.inl ⟨by kernel_rfl, ?_⟩) (by assumption) ?_
    rotate_left
    · (intro w hSw; (try dsimp only at hSw); go_simp; all_goals with_reducible rfl)
    try simp only [Act.put, List.setIfInBounds_toArray, List.set_cons_zero, List.set_cons_succ]
    refine wpAnyH_take (i := 5) (oi := ⟨some 27, _, _, _, _, _⟩) (v := ?_) rfl (by kernel_rfl) (by kernel_rfl) (by kernel_rfl) (fun _ _ _ h => h) (Or.inl ⟨by kernel_rfl, ?_⟩) (by assumption) ?_
    rotate_left
    · (intro w hSw; (try dsimp only at hSw); go_simp; all_goals with_reducible rfl)
    try simp only [Act.put, List.setIfInBounds_toArray, List.set_cons_zero, List.set_cons_succ]
    refine wpAnyH_take (i := 1) (oi := ⟨some 23, _, _, _, _, _⟩) (v := ?_) rfl (by kernel_rfl) (by kernel_rfl) (by kernel_rfl) (fun _ _ _ h => h) (Or.inl ⟨by kernel_rfl, ?_⟩) (by assumption) ?_
    rotate_left
    · (intro w hSw; (try dsimp only at hSw); go_simp; all_goals with_reducible rfl)
    try simp only [Act.put, List.setIfInBounds_toArray, List.set_cons_zero, List.set_cons_succ]
    refine wpAnyH_take (i := 8) (oi := ⟨some 30, _, _, _, _, _⟩) (v := ?_) rfl (by kernel_rfl) (by kernel_rfl) (by kernel_rfl) (fun _ _ _ h => h) (Or.inl ⟨by kernel_rfl, ?_⟩) (by assumption) ?_
    rotate_left
    · (intro w hSw; (try dsimp only at hSw); go_simp; all_goals with_reducible rfl)
    try simp only [Act.put, List.setIfInBounds_toArray, List.set_cons_zero, List.set_cons_succ]
    refine wpAnyH_take (i := 9) (oi := ⟨some 31, _, _, _, _, _⟩) (v := ?_) rfl (by kernel_rfl) (by kernel_rfl) (by kernel_rfl) (fun _ _ _ h => h) (Or.inl ⟨by kernel_rfl, ?_⟩) (by assumption) ?_
    rotate_left
    · (intro w hSw; (try dsimp only at hSw); go_simp; all_goals with_reducible rfl)
    try simp only [Act.put, List.setIfInBounds_toArray, List.set_cons_zero, List.set_cons_succ]
    refine wpAnyH_take (i := 10) (oi := ⟨some 32, _, _, _, _, _⟩) (v := ?_) rfl (by kernel_rfl) (by kernel_rfl) (by kernel_rfl) (fun _ _ _ h => h) (Or.inl ⟨by kernel_rfl, ?_⟩) (by assumption) ?_
    rotate_left
    · (intro w hSw; (try dsimp only at hSw); go_simp; all_goals with_reducible rfl)
    try simp only [Act.put, List.setIfInBounds_toArray, List.set_cons_zero, List.set_cons_succ]
    refine wpAnyH_take (i := 11) (oi := ⟨some 33, _, _, _, _, _⟩) (v := ?_) rfl (by kernel_rfl) (by kernel_rfl) (by kernel_rfl) (fun _ _ _ h => h) (Or.inl ⟨by kernel_rfl, ?_⟩) (by assumption) ?_
    rotate_left
    · (intro w hSw; (try dsimp only at hSw); go_simp; all_goals with_reducible rfl)
    try simp only [Act.put, List.setIfInBounds_toArray, List.set_cons_zero, List.set_cons_succ]
    refine rdA 6 rfl (fun K hK => ?_)
    go_simp
    refine (sumOf_ok a b c S _ hc hS).mono ?_
    rintro e u0 ⟨rfl, hbu0⟩
    have zu0 := hbu0.size
    try simp at zu0
    have x0c0 : u0.cell? ⟨w.heap.size, 0, none⟩ = some (.int .i64 a) := by rw [bc1 hbu0]; simp [go_sem, cP, *]
    have x0c1 : u0.cell? ⟨w.heap.size, 1, none⟩ = some (.int .i64 b) := by rw [bc1 hbu0]; simp [go_sem, cP, *]
    have x0c2 : u0.cell? ⟨w.heap.size, 2, none⟩ = some (.int .i64 c) := by rw [bc1 hbu0]; simp [go_sem, cP, *]
    have x0r0 : u0.cell? ⟨w.heap.size + 1, 0, none⟩ = some (.int .i64 0) := by rw [bc1 hbu0]; simp [go_sem, cP, *]
    have x0r1 : u0.cell? ⟨w.heap.size + 1, 1, none⟩ = some (.int .i64 0) := by rw [bc1 hbu0]; simp [go_sem, cP, *]
    have x0r2 : u0.cell? ⟨w.heap.size + 1, 2, none⟩ = some (.int .i64 0) := by rw [bc1 hbu0]; simp [go_sem, cP, *]
    have x0s0 : u0.cell? ⟨w.heap.size + 1 + 1, 0, none⟩ = some (.int .i64 0) := by rw [bc1 hbu0]; simp [go_sem, cP, *]
    have x0s1 : u0.cell? ⟨w.heap.size + 1 + 1, 1, none⟩ = some (.int .i64 0) := by rw [bc1 hbu0]; simp [go_sem, cP, *]
    have x0s2 : u0.cell? ⟨w.heap.size + 1 + 1, 2, none⟩ = some (.int .i64 0) := by rw [bc1 hbu0]; simp [go_sem, cP, *]
    have x0t0 : u0.cell? ⟨w.heap.size + 1 + 1 + 1, 0, none⟩ = some (.int .i64 0) := by rw [bc1 hbu0]; simp [go_sem, cP, *]
    have x0t1 : u0.cell? ⟨w.heap.size + 1 + 1 + 1, 1, none⟩ = some (.int .i64 0) := by rw [bc1 hbu0]; simp [go_sem, cP, *]
    have x0t2 : u0.cell? ⟨w.heap.size + 1 + 1 + 1, 2, none⟩ = some (.int .i64 0) := by rw [bc1 hbu0]; simp [go_sem, cP, *]
    have x0fr : ∀ j, u0.frozen? ⟨w.heap.size + 1, j, none⟩ = false := fun j => by rw [bc2 hbu0]; simp [go_sem, *]
    have x0fs : ∀ j, u0.frozen? ⟨w.heap.size + 1 + 1, j, none⟩ = false := fun j => by rw [bc2 hbu0]; simp [go_sem, *]
    have x0ft : ∀ j, u0.frozen? ⟨w.heap.size + 1 + 1 + 1, j, none⟩ = false := fun j => by rw [bc2 hbu0]; simp [go_sem, *]
    have x0o0 : w.heap.size < u0.heap.size := by omega
    have x0o0n : u0.heap.size ≠ w.heap.size := by omega
    have x0o4 : w.heap.size + 1 < u0.heap.size := by omega
    have x0o4n : u0.heap.size ≠ w.heap.size + 1 := by omega
    have x0o5 : w.heap.size + 1 + 1 < u0.heap.size := by omega
    have x0o5n : u0.heap.size ≠ w.heap.size + 1 + 1 := by omega
    have x0o6 : w.heap.size + 1 + 1 + 1 < u0.heap.size := by omega
    have x0o6n : u0.heap.size ≠ w.heap.size + 1 + 1 + 1 := by omega
    have hBu0 : Below w.heap.size w u0 := belA
    clear hbu0 ic0 ic1 ic2 ir0 ir1 ir2 is0 is1 is2 it0 it1 it2 ifr ifs ift io0 io4 io5 io6 io0n io4n io5n io6n
    go_wp2_with fail
    refine hK.out _ _ (by simp [go_sem, cP, *]) (fun hHeld => ?_)
    clear hK K
    try simp only [Act.put, List.setIfInBounds_toArray, List.set_cons_zero, List.set_cons_succ]
    refine wpAnyH_take (i := 7) (oi := ⟨some 29, _, _, _, _, _⟩) (v := ?_) rfl (by kernel_rfl) (by kernel_rfl) (by kernel_rfl) (fun _ _ _ h => h) (Or.inl ⟨by kernel_rfl, ?_⟩) (by assumption) ?_
    rotate_left
    · (intro w hSw; (try dsimp only at hSw); go_simp; all_goals with_reducible rfl)
    try simp only [Act.put, List.setIfInBounds_toArray, List.set_cons_zero, List.set_cons_succ]
    refine wpAnyH_take (i := 14) (oi := ⟨some 36, _, _, _, _, _⟩) (v := ?_) rfl (by kernel_rfl) (by kernel_rfl) (by kernel_rfl) (fun _ _ _ h => h) (Or.inl ⟨by kernel_rfl, ?_⟩) (by assumption) ?_
    rotate_left
    · (intro w hSw; (try dsimp only at hSw); go_simp; all_goals with_reducible rfl)
    try simp only [Act.put, List.setIfInBounds_toArray, List.set_cons_zero, List.set_cons_succ]
    refine rdA 12 rfl (fun K hK => ?_)
    go_simp
    refine (sumOf_ok a b c S _ hc hS).mono ?_
    rintro e v0 ⟨rfl, hbv0⟩
    have zv0 := hbv0.size
    try simp at zv0
    have y0c0 : v0.cell? ⟨w.heap.size, 0, none⟩ = some (.int .i64 a) := by rw [bc1 hbv0]; simp [go_sem, cP, *]
    have y0c1 : v0.cell? ⟨w.heap.size, 1, none⟩ = some (.int .i64 b) := by rw [bc1 hbv0]; simp [go_sem, cP, *]
    have y0c2 : v0.cell? ⟨w.heap.size, 2, none⟩ = some (.int .i64 c) := by rw [bc1 hbv0]; simp [go_sem, cP, *]
    have y0r0 : v0.cell? ⟨w.heap.size + 1, 0, none⟩ = some (.int .i64 0) := by rw [bc1 hbv0]; simp [go_sem, cP, *]
    have y0r1 : v0.cell? ⟨w.heap.size + 1, 1, none⟩ = some (.int .i64 0) := by rw [bc1 hbv0]; simp [go_sem, cP, *]
    have y0r2 : v0.cell? ⟨w.heap.size + 1, 2, none⟩ = some (.int .i64 0) := by rw [bc1 hbv0]; simp [go_sem, cP, *]
    have y0s0 : v0.cell? ⟨w.heap.size + 1 + 1, 0, none⟩ = some (.int .i64 0) := by rw [bc1 hbv0]; simp [go_sem, cP, *]
    have y0s1 : v0.cell? ⟨w.heap.size + 1 + 1, 1, none⟩ = some (.int .i64 0) := by rw [bc1 hbv0]; simp [go_sem, cP, *]
    have y0s2 : v0.cell? ⟨w.heap.size + 1 + 1, 2, none⟩ = some (.int .i64 0) := by rw [bc1 hbv0]; simp [go_sem, cP, *]
    have y0t0 : v0.cell? ⟨w.heap.size + 1 + 1 + 1, 0, none⟩ = some (.int .i64 0) := by rw [bc1 hbv0]; simp [go_sem, cP, *]
    have y0t1 : v0.cell? ⟨w.heap.size + 1 + 1 + 1, 1, none⟩ = some (.int .i64 0) := by rw [bc1 hbv0]; simp [go_sem, cP, *]
    have y0t2 : v0.cell? ⟨w.heap.size + 1 + 1 + 1, 2, none⟩ = some (.int .i64 0) := by rw [bc1 hbv0]; simp [go_sem, cP, *]
    have y0fr : ∀ j, v0.frozen? ⟨w.heap.size + 1, j, none⟩ = false := fun j => by rw [bc2 hbv0]; simp [go_sem, *]
    have y0fs : ∀ j, v0.frozen? ⟨w.heap.size + 1 + 1, j, none⟩ = false := fun j => by rw [bc2 hbv0]; simp [go_sem, *]
    have y0ft : ∀ j, v0.frozen? ⟨w.heap.size + 1 + 1 + 1, j, none⟩ = false := fun j => by rw [bc2 hbv0]; simp [go_sem, *]
    have y0o0 : w.heap.size < v0.heap.size := by omega
    have y0o0n : v0.heap.size ≠ w.heap.size := by omega
    have y0o4 : w.heap.size + 1 < v0.heap.size := by omega
    have y0o4n : v0.heap.size ≠ w.heap.size + 1 := by omega
    have y0o5 : w.heap.size + 1 + 1 < v0.heap.size := by omega
    have y0o5n : v0.heap.size ≠ w.heap.size + 1 + 1 := by omega
    have y0o6 : w.heap.size + 1 + 1 + 1 < v0.heap.size := by omega
    have y0o6n : v0.heap.size ≠ w.heap.size + 1 + 1 + 1 := by omega
    have hBv0 : Below w.heap.size w v0 := belA
    clear hbv0 hBu0 x0c0 x0c1 x0c2 x0r0 x0r1 x0r2 x0s0 x0s1 x0s2 x0t0 x0t1 x0t2 x0fr x0fs x0ft x0o0 x0o4 x0o5 x0o6 x0o0n x0o4n x0o5n x0o6n
    go_wp2_with fail
    refine hK.out _ _ (by simp [go_sem, cP, *]) (fun hHeld => ?_)
    clear hK K
    try simp only [Act.put, List.setIfInBounds_toArray, List.set_cons_zero, List.set_cons_succ]
    refine wpAnyH_take (i := 13) (oi := ⟨some 35, _, _, _, _, _⟩) (v := ?_) rfl (by kernel_rfl) (by kernel_rfl) (by kernel_rfl) (fun _ _ _ h => h) (Or.inl ⟨by kernel_rfl, ?_⟩) (by assumption) ?_
    rotate_left
    · (intro w hSw; (try dsimp only at hSw); go_simp; all_goals with_reducible rfl)
    try simp only [Act.put, List.setIfInBounds_toArray, List.set_cons_zero, List.set_cons_succ]
    refine rdA 15 rfl (fun K hK => ?_)
    go_simp
    go_wp2_with fail
    refine hK.out _ _ (by simp [go_sem, cP, *]) (fun hHeld => ?_)
    clear hK K
    try simp only [Act.put, List.setIfInBounds_toArray, List.set_cons_zero, List.set_cons_succ]
    refine wpAnyH_take (i := 16) (oi := ⟨some 37, _, _, _, _, _⟩) (v := ?_) rfl (by kernel_rfl) (by kernel_rfl) (by kernel_rfl) (fun _ _ _ h => h) (Or.inl ⟨by kernel_rfl, ?_⟩) (by assumption) ?_
    rotate_left
    · (intro w hSw; (try dsimp only at hSw); go_simp; all_goals with_reducible rfl)
    try simp only [Act.put, List.setIfInBounds_toArray, List.set_cons_zero, List.set_cons_succ]
    refine rdA 17 rfl (fun K hK => ?_)
    go_simp
    go_wp2_with fail
    refine hK.out _ _ (by simp [go_sem, cP, *]) (fun hHeld => ?_)
    clear hK K
    try simp only [Act.put, List.setIfInBounds_toArray, List.set_cons_zero, List.set_cons_succ]
    refine wpAnyH_done (by kernel_rfl) ?_ _
    have z0c0 : ((v0.setCell ⟨w.heap.size + 1 + 1, 0, none⟩ (.int .i64 Q0)).setCell ⟨w.heap.size + 1 + 1 + 1, 0, none⟩ (.int .i64 R0)).cell? ⟨w.heap.size, 0, none⟩ = some (.int .i64 a) := by simp [go_sem, cP, *]
    have z0c1 : ((v0.setCell ⟨w.heap.size + 1 + 1, 0, none⟩ (.int .i64 Q0)).setCell ⟨w.heap.size + 1 + 1 + 1, 0, none⟩ (.int .i64 R0)).cell? ⟨w.heap.size, 1, none⟩ = some (.int .i64 b) := by simp [go_sem, cP, *]
    have z0c2 : ((v0.setCell ⟨w.heap.size + 1 + 1, 0, none⟩ (.int .i64 Q0)).setCell ⟨w.heap.size + 1 + 1 + 1, 0, none⟩ (.int .i64 R0)).cell? ⟨w.heap.size, 2, none⟩ = some (.int .i64 c) := by simp [go_sem, cP, *]
    have z0r0 : ((v0.setCell ⟨w.heap.size + 1 + 1, 0, none⟩ (.int .i64 Q0)).setCell ⟨w.heap.size + 1 + 1 + 1, 0, none⟩ (.int .i64 R0)).cell? ⟨w.heap.size + 1, 0, none⟩ = some (.int .i64 0) := by simp [go_sem, cP, *]
    have z0r1 : ((v0.setCell ⟨w.heap.size + 1 + 1, 0, none⟩ (.int .i64 Q0)).setCell ⟨w.heap.size + 1 + 1 + 1, 0, none⟩ (.int .i64 R0)).cell? ⟨w.heap.size + 1, 1, none⟩ = some (.int .i64 0) := by simp [go_sem, cP, *]
    have z0r2 : ((v0.setCell ⟨w.heap.size + 1 + 1, 0, none⟩ (.int .i64 Q0)).setCell ⟨w.heap.size + 1 + 1 + 1, 0, none⟩ (.int .i64 R0)).cell? ⟨w.heap.size + 1, 2, none⟩ = some (.int .i64 0) := by simp [go_sem, cP, *]
    have z0s0 : ((v0.setCell ⟨w.heap.size + 1 + 1, 0, none⟩ (.int .i64 Q0)).setCell ⟨w.heap.size + 1 + 1 + 1, 0, none⟩ (.int .i64 R0)).cell? ⟨w.heap.size + 1 + 1, 0, none⟩ = some (.int .i64 Q0) := by simp [go_sem, cP, *]
    have z0s1 : ((v0.setCell ⟨w.heap.size + 1 + 1, 0, none⟩ (.int .i64 Q0)).setCell ⟨w.heap.size + 1 + 1 + 1, 0, none⟩ (.int .i64 R0)).cell? ⟨w.heap.size + 1 + 1, 1, none⟩ = some (.int .i64 0) := by simp [go_sem, cP, *]
    have z0s2 : ((v0.setCell ⟨w.heap.size + 1 + 1, 0, none⟩ (.int .i64 Q0)).setCell ⟨w.heap.size + 1 + 1 + 1, 0, none⟩ (.int .i64 R0)).cell? ⟨w.heap.size + 1 + 1, 2, none⟩ = some (.int .i64 0) := by simp [go_sem, cP, *]
    have z0t0 : ((v0.setCell ⟨w.heap.size + 1 + 1, 0, none⟩ (.int .i64 Q0)).setCell ⟨w.heap.size + 1 + 1 + 1, 0, none⟩ (.int .i64 R0)).cell? ⟨w.heap.size + 1 + 1 + 1, 0, none⟩ = some (.int .i64 R0) := by simp [go_sem, cP, *]
    have z0t1 : ((v0.setCell ⟨w.heap.size + 1 + 1, 0, none⟩ (.int .i64 Q0)).setCell ⟨w.heap.size + 1 + 1 + 1, 0, none⟩ (.int .i64 R0)).cell? ⟨w.heap.size + 1 + 1 + 1, 1, none⟩ = some (.int .i64 0) := by simp [go_sem, cP, *]
    have z0t2 : ((v0.setCell ⟨w.heap.size + 1 + 1, 0, none⟩ (.int .i64 Q0)).setCell ⟨w.heap.size + 1 + 1 + 1, 0, none⟩ (.int .i64 R0)).cell? ⟨w.heap.size + 1 + 1 + 1, 2, none⟩ = some (.int .i64 0) := by simp [go_sem, cP, *]
    have z0fr : ∀ j, ((v0.setCell ⟨w.heap.size + 1 + 1, 0, none⟩ (.int .i64 Q0)).setCell ⟨w.heap.size + 1 + 1 + 1, 0, none⟩ (.int .i64 R0)).frozen? ⟨w.heap.size + 1, j, none⟩ = false := fun j => by simp [go_sem, *]
    have z0fs : ∀ j, ((v0.setCell ⟨w.heap.size + 1 + 1, 0, none⟩ (.int .i64 Q0)).setCell ⟨w.heap.size + 1 + 1 + 1, 0, none⟩ (.int .i64 R0)).frozen? ⟨w.heap.size + 1 + 1, j, none⟩ = false := fun j => by simp [go_sem, *]
    have z0ft : ∀ j, ((v0.setCell ⟨w.heap.size + 1 + 1, 0, none⟩ (.int .i64 Q0)).setCell ⟨w.heap.size + 1 + 1 + 1, 0, none⟩ (.int .i64 R0)).frozen? ⟨w.heap.size + 1 + 1 + 1, j, none⟩ = false := fun j => by simp [go_sem, *]
    have hzz0 : ((v0.setCell ⟨w.heap.size + 1 + 1, 0, none⟩ (.int .i64 Q0)).setCell ⟨w.heap.size + 1 + 1 + 1, 0, none⟩ (.int .i64 R0)).heap.size = v0.heap.size := by simp
    have hBz0 : Below w.heap.size w ((v0.setCell ⟨w.heap.size + 1 + 1, 0, none⟩ (.int .i64 Q0)).setCell ⟨w.heap.size + 1 + 1 + 1, 0, none⟩ (.int .i64 R0)) := (hBv0.setCell (by show w.heap.size ≤ w.heap.size + 1 + 1; omega) _).setCell (by show w.heap.size ≤ w.heap.size + 1 + 1 + 1; omega) _
    clear hBv0 y0c0 y0c1 y0c2 y0r0 y0r1 y0r2 y0s0 y0s1 y0s2 y0t0 y0t1 y0t2 y0fr y0fs y0ft
    generalize hWz0 : (v0.setCell ⟨w.heap.size + 1 + 1, 0, none⟩ (.int .i64 Q0)).setCell ⟨w.heap.size + 1 + 1 + 1, 0, none⟩ (.int .i64 R0) = mw0 at *
    have z0o0 : w.heap.size < mw0.heap.size := by omega
    have z0o0n : mw0.heap.size ≠ w.heap.size := by omega
    have z0o4 : w.heap.size + 1 < mw0.heap.size := by omega
    have z0o4n : mw0.heap.size ≠ w.heap.size + 1 := by omega
    have z0o5 : w.heap.size + 1 + 1 < mw0.heap.size := by omega
    have z0o5n : mw0.heap.size ≠ w.heap.size + 1 + 1 := by omega
    have z0o6 : w.heap.size + 1 + 1 + 1 < mw0.heap.size := by omega
    have z0o6n : mw0.heap.size ≠ w.heap.size + 1 + 1 + 1 := by omega
    clear hWz0 hzz0 y0o0 y0o4 y0o5 y0o6 y0o0n y0o4n y0o5n y0o6n
    go_wp2_with fail
    rw [rounds_succ]
    go_upto_region 8 with (fail)
    refine wp_region_held_drew (S := (fun w' => w'.cell? ⟨w.heap.size, 0, none⟩ = some (.int .i64 a) ∧ w'.cell? ⟨w.heap.size, 1, none⟩ = some (.int .i64 b) ∧ w'.cell? ⟨w.heap.size, 2, none⟩ = some (.int .i64 c))) (by kernel_rfl) (by simp [go_sem, cP, *]) (fun hHeld => ?_)
    refine wpAnyH_take (i := 0) (oi := ⟨some 22, _, _, _, _, _⟩) (v := ?_) rfl (by kernel_rfl) (by kernel_rfl) (by kernel_rfl) (fun _ _ _ h => h) (Or.inl ⟨by kernel_rfl, ?_⟩) (by assumption) ?_
    rotate_left
    · (intro w hSw; (try dsimp only at hSw); go_simp; all_goals with_reducible rfl)
    try simp only [Act.put, List.setIfInBounds_toArray, List.set_cons_zero, List.set_cons_succ]
    refine wpAnyH_take (i := 2) (oi := ⟨some 24, _, _, _, _, _⟩) (v := ?_) rfl (by kernel_rfl) (by kernel_rfl) (by kernel_rfl) (fun _ _ _ h => h) (Or.inl ⟨by kernel_rfl, ?_⟩) (by assumption) ?_
    rotate_left
    · (intro w hSw; (try dsimp only at hSw); go_simp; all_goals with_reducible rfl)
    try simp only [Act.put, List.setIfInBounds_toArray, List.set_cons_zero, List.set_cons_succ]
    refine wpAnyH_take (i := 3) (oi := ⟨some 25, _, _, _, _, _⟩) (v := ?_) rfl (by kernel_rfl) (by kernel_rfl) (by kernel_rfl) (fun _ _ _ h => h) (Or.inl ⟨by kernel_rfl, ?_⟩) (by assumption) ?_
    rotate_left
    · (intro w hSw; (try dsimp only at hSw); go_simp; all_goals with_reducible rfl)
    try simp only [Act.put, List.setIfInBounds_toArray, List.set_cons_zero, List.set_cons_succ]
    refine wpAnyH_take (i := 4) (oi := ⟨some 26, _, _, _, _, _⟩) (v := ?_) rfl (by kernel_rfl) (by kernel_rfl) (by kernel_rfl) (fun _ _ _ h => h) (Or.inl ⟨by kernel_rfl, ?_⟩) (by assumption) ?_
    rotate_left
    · (intro w hSw; (try dsimp only at hSw); go_simp; all_goals with_reducible rfl)
    try simp only [Act.put, List.setIfInBounds_toArray, List.set_cons_zero, List.set_cons_succ]
    refine wpAnyH_take (i := 5) (oi := ⟨some 27, _, _, _, _, _⟩) (v := ?_) rfl (by kernel_rfl) (by kernel_rfl) (by kernel_rfl) (fun _ _ _ h => h) (Or.inl ⟨by kernel_rfl, ?_⟩) (by assumption) ?_
    rotate_left
    · (intro w hSw; (try dsimp only at hSw); go_simp; all_goals with_reducible rfl)
    try simp only [Act.put, List.setIfInBounds_toArray, List.set_cons_zero, List.set_cons_succ]
    refine wpAnyH_take (i := 1) (oi := ⟨some 23, _, _, _, _, _⟩) (v := ?_) rfl (by kernel_rfl) (by kernel_rfl) (by kernel_rfl) (fun _ _ _ h => h) (Or.inl ⟨by kernel_rfl, ?_⟩) (by assumption) ?_
    rotate_left
    · (intro w hSw; (try dsimp only at hSw); go_simp; all_goals with_reducible rfl)
    try simp only [Act.put, List.setIfInBounds_toArray, List.set_cons_zero, List.set_cons_succ]
    refine wpAnyH_take (i := 8) (oi := ⟨some 30, _, _, _, _, _⟩) (v := ?_) rfl (by kernel_rfl) (by kernel_rfl) (by kernel_rfl) (fun _ _ _ h => h) (Or.inl ⟨by kernel_rfl, ?_⟩) (by assumption) ?_
    rotate_left
    · (intro w hSw; (try dsimp only at hSw); go_simp; all_goals with_reducible rfl)
    try simp only [Act.put, List.setIfInBounds_toArray, List.set_cons_zero, List.set_cons_succ]
    refine wpAnyH_take (i := 9) (oi := ⟨some 31, _, _, _, _, _⟩) (v := ?_) rfl (by kernel_rfl) (by kernel_rfl) (by kernel_rfl) (fun _ _ _ h => h) (Or.inl ⟨by kernel_rfl, ?_⟩) (by assumption) ?_
    rotate_left
    · (intro w hSw; (try dsimp only at hSw); go_simp; all_goals with_reducible rfl)
    try simp only [Act.put, List.setIfInBounds_toArray, List.set_cons_zero, List.set_cons_succ]
    refine wpAnyH_take (i := 10) (oi := ⟨some 32, _, _, _, _, _⟩) (v := ?_) rfl (by kernel_rfl) (by kernel_rfl) (by kernel_rfl) (fun _ _ _ h => h) (Or.inl ⟨by kernel_rfl, ?_⟩) (by assumption) ?_
    rotate_left
    · (intro w hSw; (try dsimp only at hSw); go_simp; all_goals with_reducible rfl)
    try simp only [Act.put, List.setIfInBounds_toArray, List.set_cons_zero, List.set_cons_succ]
    refine wpAnyH_take (i := 11) (oi := ⟨some 33, _, _, _, _, _⟩) (v := ?_) rfl (by kernel_rfl) (by kernel_rfl) (by kernel_rfl) (fun _ _ _ h => h) (Or.inl ⟨by kernel_rfl, ?_⟩) (by assumption) ?_
    rotate_left
    · (intro w hSw; (try dsimp only at hSw); go_simp; all_goals with_reducible rfl)
    try simp only [Act.put, List.setIfInBounds_toArray, List.set_cons_zero, List.set_cons_succ]
    refine rdA 6 rfl (fun K hK => ?_)
    go_simp
    refine (sumOf_ok a b c S _ hc hS).mono ?_
    rintro e u1 ⟨rfl, hbu1⟩
    have zu1 := hbu1.size
    try simp at zu1
    have x1c0 : u1.cell? ⟨w.heap.size, 0, none⟩ = some (.int .i64 a) := by rw [bc1 hbu1]; simp [go_sem, cP, *]
    have x1c1 : u1.cell? ⟨w.heap.size, 1, none⟩ = some (.int .i64 b) := by rw [bc1 hbu1]; simp [go_sem, cP, *]
    have x1c2 : u1.cell? ⟨w.heap.size, 2, none⟩ = some (.int .i64 c) := by rw [bc1 hbu1]; simp [go_sem, cP, *]
    have x1r0 : u1.cell? ⟨w.heap.size + 1, 0, none⟩ = some (.int .i64 0) := by rw [bc1 hbu1]; simp [go_sem, cP, *]
    have x1r1 : u1.cell? ⟨w.heap.size + 1, 1, none⟩ = some (.int .i64 0) := by rw [bc1 hbu1]; simp [go_sem, cP, *]
    have x1r2 : u1.cell? ⟨w.heap.size + 1, 2, none⟩ = some (.int .i64 0) := by rw [bc1 hbu1]; simp [go_sem, cP, *]
    have x1s0 : u1.cell? ⟨w.heap.size + 1 + 1, 0, none⟩ = some (.int .i64 Q0) := by rw [bc1 hbu1]; simp [go_sem, cP, *]
    have x1s1 : u1.cell? ⟨w.heap.size + 1 + 1, 1, none⟩ = some (.int .i64 0) := by rw [bc1 hbu1]; simp [go_sem, cP, *]
    have x1s2 : u1.cell? ⟨w.heap.size + 1 + 1, 2, none⟩ = some (.int .i64 0) := by rw [bc1 hbu1]; simp [go_sem, cP, *]
    have x1t0 : u1.cell? ⟨w.heap.size + 1 + 1 + 1, 0, none⟩ = some (.int .i64 R0) := by rw [bc1 hbu1]; simp [go_sem, cP, *]
    have x1t1 : u1.cell? ⟨w.heap.size + 1 + 1 + 1, 1, none⟩ = some (.int .i64 0) := by rw [bc1 hbu1]; simp [go_sem, cP, *]
    have x1t2 : u1.cell? ⟨w.heap.size + 1 + 1 + 1, 2, none⟩ = some (.int .i64 0) := by rw [bc1 hbu1]; simp [go_sem, cP, *]
    have x1fr : ∀ j, u1.frozen? ⟨w.heap.size + 1, j, none⟩ = false := fun j => by rw [bc2 hbu1]; simp [go_sem, *]
    have x1fs : ∀ j, u1.frozen? ⟨w.heap.size + 1 + 1, j, none⟩ = false := fun j => by rw [bc2 hbu1]; simp [go_sem, *]
    have x1ft : ∀ j, u1.frozen? ⟨w.heap.size + 1 + 1 + 1, j, none⟩ = false := fun j => by rw [bc2 hbu1]; simp [go_sem, *]
    have x1o0 : w.heap.size < u1.heap.size := by omega
    have x1o0n : u1.heap.size ≠ w.heap.size := by omega
    have x1o4 : w.heap.size + 1 < u1.heap.size := by omega
    have x1o4n : u1.heap.size ≠ w.heap.size + 1 := by omega
    have x1o5 : w.heap.size + 1 + 1 < u1.heap.size := by omega
    have x1o5n : u1.heap.size ≠ w.heap.size + 1 + 1 := by omega
    have x1o6 : w.heap.size + 1 + 1 + 1 < u1.heap.size := by omega
    have x1o6n : u1.heap.size ≠ w.heap.size + 1 + 1 + 1 := by omega
    have hBu1 : Below w.heap.size w u1 := belA
    clear hbu1 z0c0 z0c1 z0c2 z0r0 z0r1 z0r2 z0s0 z0s1 z0s2 z0t0 z0t1 z0t2 z0fr z0fs z0ft z0o0 z0o4 z0o5 z0o6 z0o0n z0o4n z0o5n z0o6n
    go_wp2_with fail
    refine hK.out _ _ (by simp [go_sem, cP, *]) (fun hHeld => ?_)
    clear hK K
    try simp only [Act.put, List.setIfInBounds_toArray, List.set_cons_zero, List.set_cons_succ]
    refine wpAnyH_take (i := 7) (oi := ⟨some 29, _, _, _, _, _⟩) (v := ?_) rfl (by kernel_rfl) (by kernel_rfl) (by kernel_rfl) (fun _ _ _ h => h) (Or.inl ⟨by kernel_rfl, ?_⟩) (by assumption) ?_
    rotate_left
    · (intro w hSw; (try dsimp only at hSw); go_simp; all_goals with_reducible rfl)
    try simp only [Act.put, List.setIfInBounds_toArray, List.set_cons_zero, List.set_cons_succ]
    refine wpAnyH_take (i := 14) (oi := ⟨some 36, _, _, _, _, _⟩) (v := ?_) rfl (by kernel_rfl) (by kernel_rfl) (by kernel_rfl) (fun _ _ _ h => h) (Or.inl ⟨by kernel_rfl, ?_⟩) (by assumption) ?_
    rotate_left
    · (intro w hSw; (try dsimp only at hSw); go_simp; all_goals with_reducible rfl)
    try simp only [Act.put, List.setIfInBounds_toArray, List.set_cons_zero, List.set_cons_succ]
    refine rdA 12 rfl (fun K hK => ?_)
    go_simp
    refine (sumOf_ok a b c S _ hc hS).mono ?_
    rintro e v1 ⟨rfl, hbv1⟩
    have zv1 := hbv1.size
    try simp at zv1
    have y1c0 : v1.cell? ⟨w.heap.size, 0, none⟩ = some (.int .i64 a) := by rw [bc1 hbv1]; simp [go_sem, cP, *]
    have y1c1 : v1.cell? ⟨w.heap.size, 1, none⟩ = some (.int .i64 b) := by rw [bc1 hbv1]; simp [go_sem, cP, *]
    have y1c2 : v1.cell? ⟨w.heap.size, 2, none⟩ = some (.int .i64 c) := by rw [bc1 hbv1]; simp [go_sem, cP, *]
    have y1r0 : v1.cell? ⟨w.heap.size + 1, 0, none⟩ = some (.int .i64 0) := by rw [bc1 hbv1]; simp [go_sem, cP, *]
    have y1r1 : v1.cell? ⟨w.heap.size + 1, 1, none⟩ = some (.int .i64 0) := by rw [bc1 hbv1]; simp [go_sem, cP, *]
    have y1r2 : v1.cell? ⟨w.heap.size + 1, 2, none⟩ = some (.int .i64 0) := by rw [bc1 hbv1]; simp [go_sem, cP, *]
    have y1s0 : v1.cell? ⟨w.heap.size + 1 + 1, 0, none⟩ = some (.int .i64 Q0) := by rw [bc1 hbv1]; simp [go_sem, cP, *]
    have y1s1 : v1.cell? ⟨w.heap.size + 1 + 1, 1, none⟩ = some (.int .i64 0) := by rw [bc1 hbv1]; simp [go_sem, cP, *]
    have y1s2 : v1.cell? ⟨w.heap.size + 1 + 1, 2, none⟩ = some (.int .i64 0) := by rw [bc1 hbv1]; simp [go_sem, cP, *]
    have y1t0 : v1.cell? ⟨w.heap.size + 1 + 1 + 1, 0, none⟩ = some (.int .i64 R0) := by rw [bc1 hbv1]; simp [go_sem, cP, *]
    have y1t1 : v1.cell? ⟨w.heap.size + 1 + 1 + 1, 1, none⟩ = some (.int .i64 0) := by rw [bc1 hbv1]; simp [go_sem, cP, *]
    have y1t2 : v1.cell? ⟨w.heap.size + 1 + 1 + 1, 2, none⟩ = some (.int .i64 0) := by rw [bc1 hbv1]; simp [go_sem, cP, *]
    have y1fr : ∀ j, v1.frozen? ⟨w.heap.size + 1, j, none⟩ = false := fun j => by rw [bc2 hbv1]; simp [go_sem, *]
    have y1fs : ∀ j, v1.frozen? ⟨w.heap.size + 1 + 1, j, none⟩ = false := fun j => by rw [bc2 hbv1]; simp [go_sem, *]
    have y1ft : ∀ j, v1.frozen? ⟨w.heap.size + 1 + 1 + 1, j, none⟩ = false := fun j => by rw [bc2 hbv1]; simp [go_sem, *]
    have y1o0 : w.heap.size < v1.heap.size := by omega
    have y1o0n : v1.heap.size ≠ w.heap.size := by omega
    have y1o4 : w.heap.size + 1 < v1.heap.size := by omega
    have y1o4n : v1.heap.size ≠ w.heap.size + 1 := by omega
    have y1o5 : w.heap.size + 1 + 1 < v1.heap.size := by omega
    have y1o5n : v1.heap.size ≠ w.heap.size + 1 + 1 := by omega
    have y1o6 : w.heap.size + 1 + 1 + 1 < v1.heap.size := by omega
    have y1o6n : v1.heap.size ≠ w.heap.size + 1 + 1 + 1 := by omega
    have hBv1 : Below w.heap.size w v1 := belA
    clear hbv1 hBu1 x1c0 x1c1 x1c2 x1r0 x1r1 x1r2 x1s0 x1s1 x1s2 x1t0 x1t1 x1t2 x1fr x1fs x1ft x1o0 x1o4 x1o5 x1o6 x1o0n x1o4n x1o5n x1o6n
    go_wp2_with fail
    refine hK.out _ _ (by simp [go_sem, cP, *]) (fun hHeld => ?_)
    clear hK K
    try simp only [Act.put, List.setIfInBounds_toArray, List.set_cons_zero, List.set_cons_succ]
    refine wpAnyH_take (i := 13) (oi := ⟨some 35, _, _, _, _, _⟩) (v := ?_) rfl (by kernel_rfl) (by kernel_rfl) (by kernel_rfl) (fun _ _ _ h => h) (Or.inl ⟨by kernel_rfl, ?_⟩) (by assumption) ?_
    rotate_left
    · (intro w hSw; (try dsimp only at hSw); go_simp; all_goals with_reducible rfl)
    try simp only [Act.put, List.setIfInBounds_toArray, List.set_cons_zero, List.set_cons_succ]
    refine rdA 15 rfl (fun K hK => ?_)
    go_simp
    go_wp2_with fail
    refine hK.out _ _ (by simp [go_sem, cP, *]) (fun hHeld => ?_)
    clear hK K
    try simp only [Act.put, List.setIfInBounds_toArray, List.set_cons_zero, List.set_cons_succ]
    refine wpAnyH_take (i := 16) (oi := ⟨some 37, _, _, _, _, _⟩) (v := ?_) rfl (by kernel_rfl) (by kernel_rfl) (by kernel_rfl) (fun _ _ _ h => h) (Or.inl ⟨by kernel_rfl, ?_⟩) (by assumption) ?_
    rotate_left
    · (intro w hSw; (try dsimp only at hSw); go_simp; all_goals with_reducible rfl)
    try simp only [Act.put, List.setIfInBounds_toArray, List.set_cons_zero, List.set_cons_succ]
    refine rdA 17 rfl (fun K hK => ?_)
    go_simp
    go_wp2_with fail
    refine hK.out _ _ (by simp [go_sem, cP, *]) (fun hHeld => ?_)
    clear hK K
    try simp only [Act.put, List.setIfInBounds_toArray, List.set_cons_zero, List.set_cons_succ]
    refine wpAnyH_done (by kernel_rfl) ?_ _
    have z1c0 : ((v1.setCell ⟨w.heap.size + 1 + 1, 1, none⟩ (.int .i64 Q1)).setCell ⟨w.heap.size + 1 + 1 + 1, 1, none⟩ (.int .i64 R1)).cell? ⟨w.heap.size, 0, none⟩ = some (.int .i64 a) := by simp [go_sem, cP, *]
    have z1c1 : ((v1.setCell ⟨w.heap.size + 1 + 1, 1, none⟩ (.int .i64 Q1)).setCell ⟨w.heap.size + 1 + 1 + 1, 1, none⟩ (.int .i64 R1)).cell? ⟨w.heap.size, 1, none⟩ = some (.int .i64 b) := by simp [go_sem, cP, *]
    have z1c2 : ((v1.setCell ⟨w.heap.size + 1 + 1, 1, none⟩ (.int .i64 Q1)).setCell ⟨w.heap.size + 1 + 1 + 1, 1, none⟩ (.int .i64 R1)).cell? ⟨w.heap.size, 2, none⟩ = some (.int .i64 c) := by simp [go_sem, cP, *]
    have z1r0 : ((v1.setCell ⟨w.heap.size + 1 + 1, 1, none⟩ (.int .i64 Q1)).setCell ⟨w.heap.size + 1 + 1 + 1, 1, none⟩ (.int .i64 R1)).cell? ⟨w.heap.size + 1, 0, none⟩ = some (.int .i64 0) := by simp [go_sem, cP, *]
    have z1r1 : ((v1.setCell ⟨w.heap.size + 1 + 1, 1, none⟩ (.int .i64 Q1)).setCell ⟨w.heap.size + 1 + 1 + 1, 1, none⟩ (.int .i64 R1)).cell? ⟨w.heap.size + 1, 1, none⟩ = some (.int .i64 0) := by simp [go_sem, cP, *]
    have z1r2 : ((v1.setCell ⟨w.heap.size + 1 + 1, 1, none⟩ (.int .i64 Q1)).setCell ⟨w.heap.size + 1 + 1 + 1, 1, none⟩ (.int .i64 R1)).cell? ⟨w.heap.size + 1, 2, none⟩ = some (.int .i64 0) := by simp [go_sem, cP, *]
    have z1s0 : ((v1.setCell ⟨w.heap.size + 1 + 1, 1, none⟩ (.int .i64 Q1)).setCell ⟨w.heap.size + 1 + 1 + 1, 1, none⟩ (.int .i64 R1)).cell? ⟨w.heap.size + 1 + 1, 0, none⟩ = some (.int .i64 Q0) := by simp [go_sem, cP, *]
    have z1s1 : ((v1.setCell ⟨w.heap.size + 1 + 1, 1, none⟩ (.int .i64 Q1)).setCell ⟨w.heap.size + 1 + 1 + 1, 1, none⟩ (.int .i64 R1)).cell? ⟨w.heap.size + 1 + 1, 1, none⟩ = some (.int .i64 Q1) := by simp [go_sem, cP, *]
    have z1s2 : ((v1.setCell ⟨w.heap.size + 1 + 1, 1, none⟩ (.int .i64 Q1)).setCell ⟨w.heap.size + 1 + 1 + 1, 1, none⟩ (.int .i64 R1)).cell? ⟨w.heap.size + 1 + 1, 2, none⟩ = some (.int .i64 0) := by simp [go_sem, cP, *]
    have z1t0 : ((v1.setCell ⟨w.heap.size + 1 + 1, 1, none⟩ (.int .i64 Q1)).setCell ⟨w.heap.size + 1 + 1 + 1, 1, none⟩ (.int .i64 R1)).cell? ⟨w.heap.size + 1 + 1 + 1, 0, none⟩ = some (.int .i64 R0) := by simp [go_sem, cP, *]
    have z1t1 : ((v1.setCell ⟨w.heap.size + 1 + 1, 1, none⟩ (.int .i64 Q1)).setCell ⟨w.heap.size + 1 + 1 + 1, 1, none⟩ (.int .i64 R1)).cell? ⟨w.heap.size + 1 + 1 + 1, 1, none⟩ = some (.int .i64 R1) := by simp [go_sem, cP, *]
    have z1t2 : ((v1.setCell ⟨w.heap.size + 1 + 1, 1, none⟩ (.int .i64 Q1)).setCell ⟨w.heap.size + 1 + 1 + 1, 1, none⟩ (.int .i64 R1)).cell? ⟨w.heap.size + 1 + 1 + 1, 2, none⟩ = some (.int .i64 0) := by simp [go_sem, cP, *]
    have z1fr : ∀ j, ((v1.setCell ⟨w.heap.size + 1 + 1, 1, none⟩ (.int .i64 Q1)).setCell ⟨w.heap.size + 1 + 1 + 1, 1, none⟩ (.int .i64 R1)).frozen? ⟨w.heap.size + 1, j, none⟩ = false := fun j => by simp [go_sem, *]
    have z1fs : ∀ j, ((v1.setCell ⟨w.heap.size + 1 + 1, 1, none⟩ (.int .i64 Q1)).setCell ⟨w.heap.size + 1 + 1 + 1, 1, none⟩ (.int .i64 R1)).frozen? ⟨w.heap.size + 1 + 1, j, none⟩ = false := fun j => by simp [go_sem, *]
    have z1ft : ∀ j, ((v1.setCell ⟨w.heap.size + 1 + 1, 1, none⟩ (.int .i64 Q1)).setCell ⟨w.heap.size + 1 + 1 + 1, 1, none⟩ (.int .i64 R1)).frozen? ⟨w.heap.size + 1 + 1 + 1, j, none⟩ = false := fun j => by simp [go_sem, *]
    have hzz1 : ((v1.setCell ⟨w.heap.size + 1 + 1, 1, none⟩ (.int .i64 Q1)).setCell ⟨w.heap.size + 1 + 1 + 1, 1, none⟩ (.int .i64 R1)).heap.size = v1.heap.size := by simp
    have hBz1 : Below w.heap.size w ((v1.setCell ⟨w.heap.size + 1 + 1, 1, none⟩ (.int .i64 Q1)).setCell ⟨w.heap.size + 1 + 1 + 1, 1, none⟩ (.int .i64 R1)) := (hBv1.setCell (by show w.heap.size ≤ w.heap.size + 1 + 1; omega) _).setCell (by show w.heap.size ≤ w.heap.size + 1 + 1 + 1; omega) _
    clear hBv1 y1c0 y1c1 y1c2 y1r0 y1r1 y1r2 y1s0 y1s1 y1s2 y1t0 y1t1 y1t2 y1fr y1fs y1ft
    generalize hWz1 : (v1.setCell ⟨w.heap.size + 1 + 1, 1, none⟩ (.int .i64 Q1)).setCell ⟨w.heap.size + 1 + 1 + 1, 1, none⟩ (.int .i64 R1) = mw1 at *
    have z1o0 : w.heap.size < mw1.heap.size := by omega
    have z1o0n : mw1.heap.size ≠ w.heap.size := by omega
    have z1o4 : w.heap.size + 1 < mw1.heap.size := by omega
    have z1o4n : mw1.heap.size ≠ w.heap.size + 1 := by omega
    have z1o5 : w.heap.size + 1 + 1 < mw1.heap.size := by omega
    have z1o5n : mw1.heap.size ≠ w.heap.size + 1 + 1 := by omega
    have z1o6 : w.heap.size + 1 + 1 + 1 < mw1.heap.size := by omega
    have z1o6n : mw1.heap.size ≠ w.heap.size + 1 + 1 + 1 := by omega
    clear hWz1 hzz1 y1o0 y1o4 y1o5 y1o6 y1o0n y1o4n y1o5n y1o6n
    go_wp2_with fail
    rw [rounds_succ]
    go_upto_region 8 with (fail)
    refine wp_region_held_drew (S := (fun w' => w'.cell? ⟨w.heap.size, 0, none⟩ = some (.int .i64 a) ∧ w'.cell? ⟨w.heap.size, 1, none⟩ = some (.int .i64 b) ∧ w'.cell? ⟨w.heap.size, 2, none⟩ = some (.int .i64 c))) (by kernel_rfl) (by simp [go_sem, cP, *]) (fun hHeld => ?_)
    refine wpAnyH_take (i := 0) (oi := ⟨some 22, _, _, _, _, _⟩) (v := ?_) rfl (by kernel_rfl) (by kernel_rfl) (by kernel_rfl) (fun _ _ _ h => h) (Or.inl ⟨by kernel_rfl, ?_⟩) (by assumption) ?_
    rotate_left
    · (intro w hSw; (try dsimp only at hSw); go_simp; all_goals with_reducible rfl)
    try simp only [Act.put, List.setIfInBounds_toArray, List.set_cons_zero, List.set_cons_succ]
    refine wpAnyH_take (i := 2) (oi := ⟨some 24, _, _, _, _, _⟩) (v := ?_) rfl (by kernel_rfl) (by kernel_rfl) (by kernel_rfl) (fun _ _ _ h => h) (Or.inl ⟨by kernel_rfl, ?_⟩) (by assumption) ?_
    rotate_left
    · (intro w hSw; (try dsimp only at hSw); go_simp; all_goals with_reducible rfl)
    try simp only [Act.put, List.setIfInBounds_toArray, List.set_cons_zero, List.set_cons_succ]
    refine wpAnyH_take (i := 3) (oi := ⟨some 25, _, _, _, _, _⟩) (v := ?_) rfl (by kernel_rfl) (by kernel_rfl) (by kernel_rfl) (fun _ _ _ h => h) (Or.inl ⟨by kernel_rfl, ?_⟩) (by assumption) ?_
    rotate_left
    · (intro w hSw; (try dsimp only at hSw); go_simp; all_goals with_reducible rfl)
    try simp only [Act.put, List.setIfInBounds_toArray, List.set_cons_zero, List.set_cons_succ]
    refine wpAnyH_take (i := 4) (oi := ⟨some 26, _, _, _, _, _⟩) (v := ?_) rfl (by kernel_rfl) (by kernel_rfl) (by kernel_rfl) (fun _ _ _ h => h) (Or.inl ⟨by kernel_rfl, ?_⟩) (by assumption) ?_
    rotate_left
    · (intro w hSw; (try dsimp only at hSw); go_simp; all_goals with_reducible rfl)
    try simp only [Act.put, List.setIfInBounds_toArray, List.set_cons_zero, List.set_cons_succ]
    refine wpAnyH_take (i := 5) (oi := ⟨some 27, _, _, _, _, _⟩) (v := ?_) rfl (by kernel_rfl) (by kernel_rfl) (by kernel_rfl) (fun _ _ _ h => h) (Or.inl ⟨by kernel_rfl, ?_⟩) (by assumption) ?_
    rotate_left
    · (intro w hSw; (try dsimp only at hSw); go_simp; all_goals with_reducible rfl)
    try simp only [Act.put, List.setIfInBounds_toArray, List.set_cons_zero, List.set_cons_succ]
    refine wpAnyH_take (i := 1) (oi := ⟨some 23, _, _, _, _, _⟩) (v := ?_) rfl (by kernel_rfl) (by kernel_rfl) (by kernel_rfl) (fun _ _ _ h => h) (Or.inl ⟨by kernel_rfl, ?_⟩) (by assumption) ?_
    rotate_left
    · (intro w hSw; (try dsimp only at hSw); go_simp; all_goals with_reducible rfl)
    try simp only [Act.put, List.setIfInBounds_toArray, List.set_cons_zero, List.set_cons_succ]
    refine wpAnyH_take (i := 8) (oi := ⟨some 30, _, _, _, _, _⟩) (v := ?_) rfl (by kernel_rfl) (by kernel_rfl) (by kernel_rfl) (fun _ _ _ h => h) (Or.inl ⟨by kernel_rfl, ?_⟩) (by assumption) ?_
    rotate_left
    · (intro w hSw; (try dsimp only at hSw); go_simp; all_goals with_reducible rfl)
    try simp only [Act.put, List.setIfInBounds_toArray, List.set_cons_zero, List.set_cons_succ]
    refine wpAnyH_take (i := 9) (oi := ⟨some 31, _, _, _, _, _⟩) (v := ?_) rfl (by kernel_rfl) (by kernel_rfl) (by kernel_rfl) (fun _ _ _ h => h) (Or.inl ⟨by kernel_rfl, ?_⟩) (by assumption) ?_
    rotate_left
    · (intro w hSw; (try dsimp only at hSw); go_simp; all_goals with_reducible rfl)
    try simp only [Act.put, List.setIfInBounds_toArray, List.set_cons_zero, List.set_cons_succ]
    refine wpAnyH_take (i := 10) (oi := ⟨some 32, _, _, _, _, _⟩) (v := ?_) rfl (by kernel_rfl) (by kernel_rfl) (by kernel_rfl) (fun _ _ _ h => h) (Or.inl ⟨by kernel_rfl, ?_⟩) (by assumption) ?_
    rotate_left
    · (intro w hSw; (try dsimp only at hSw); go_simp; all_goals with_reducible rfl)
    try simp only [Act.put, List.setIfInBounds_toArray, List.set_cons_zero, List.set_cons_succ]
    refine wpAnyH_take (i := 11) (oi := ⟨some 33, _, _, _, _, _⟩) (v := ?_) rfl (by kernel_rfl) (by kernel_rfl) (by kernel_rfl) (fun _ _ _ h => h) (Or.inl ⟨by kernel_rfl, ?_⟩) (by assumption) ?_
    rotate_left
    · (intro w hSw; (try dsimp only at hSw); go_simp; all_goals with_reducible rfl)
    try simp only [Act.put, List.setIfInBounds_toArray, List.set_cons_zero, List.set_cons_succ]
    refine rdA 6 rfl (fun K hK => ?_)
    go_simp
    refine (sumOf_ok a b c S _ hc hS).mono ?_
    rintro e u2 ⟨rfl, hbu2⟩
    have zu2 := hbu2.size
    try simp at zu2
    have x2c0 : u2.cell? ⟨w.heap.size, 0, none⟩ = some (.int .i64 a) := by rw [bc1 hbu2]; simp [go_sem, cP, *]
    have x2c1 : u2.cell? ⟨w.heap.size, 1, none⟩ = some (.int .i64 b) := by rw [bc1 hbu2]; simp [go_sem, cP, *]
    have x2c2 : u2.cell? ⟨w.heap.size, 2, none⟩ = some (.int .i64 c) := by rw [bc1 hbu2]; simp [go_sem, cP, *]
    have x2r0 : u2.cell? ⟨w.heap.size + 1, 0, none⟩ = some (.int .i64 0) := by rw [bc1 hbu2]; simp [go_sem, cP, *]
    have x2r1 : u2.cell? ⟨w.heap.size + 1, 1, none⟩ = some (.int .i64 0) := by rw [bc1 hbu2]; simp [go_sem, cP, *]
    have x2r2 : u2.cell? ⟨w.heap.size + 1, 2, none⟩ = some (.int .i64 0) := by rw [bc1 hbu2]; simp [go_sem, cP, *]
    have x2s0 : u2.cell? ⟨w.heap.size + 1 + 1, 0, none⟩ = some (.int .i64 Q0) := by rw [bc1 hbu2]; simp [go_sem, cP, *]
    have x2s1 : u2.cell? ⟨w.heap.size + 1 + 1, 1, none⟩ = some (.int .i64 Q1) := by rw [bc1 hbu2]; simp [go_sem, cP, *]
    have x2s2 : u2.cell? ⟨w.heap.size + 1 + 1, 2, none⟩ = some (.int .i64 0) := by rw [bc1 hbu2]; simp [go_sem, cP, *]
    have x2t0 : u2.cell? ⟨w.heap.size + 1 + 1 + 1, 0, none⟩ = some (.int .i64 R0) := by rw [bc1 hbu2]; simp [go_sem, cP, *]
    have x2t1 : u2.cell? ⟨w.heap.size + 1 + 1 + 1, 1, none⟩ = some (.int .i64 R1) := by rw [bc1 hbu2]; simp [go_sem, cP, *]
    have x2t2 : u2.cell? ⟨w.heap.size + 1 + 1 + 1, 2, none⟩ = some (.int .i64 0) := by rw [bc1 hbu2]; simp [go_sem, cP, *]
    have x2fr : ∀ j, u2.frozen? ⟨w.heap.size + 1, j, none⟩ = false := fun j => by rw [bc2 hbu2]; simp [go_sem, *]
    have x2fs : ∀ j, u2.frozen? ⟨w.heap.size + 1 + 1, j, none⟩ = false := fun j => by rw [bc2 hbu2]; simp [go_sem, *]
    have x2ft : ∀ j, u2.frozen? ⟨w.heap.size + 1 + 1 + 1, j, none⟩ = false := fun j => by rw [bc2 hbu2]; simp [go_sem, *]
    have x2o0 : w.heap.size < u2.heap.size := by omega
    have x2o0n : u2.heap.size ≠ w.heap.size := by omega
    have x2o4 : w.heap.size + 1 < u2.heap.size := by omega
    have x2o4n : u2.heap.size ≠ w.heap.size + 1 := by omega
    have x2o5 : w.heap.size + 1 + 1 < u2.heap.size := by omega
    have x2o5n : u2.heap.size ≠ w.heap.size + 1 + 1 := by omega
    have x2o6 : w.heap.size + 1 + 1 + 1 < u2.heap.size := by omega
    have x2o6n : u2.heap.size ≠ w.heap.size + 1 + 1 + 1 := by omega
    have hBu2 : Below w.heap.size w u2 := belA
    clear hbu2 z1c0 z1c1 z1c2 z1r0 z1r1 z1r2 z1s0 z1s1 z1s2 z1t0 z1t1 z1t2 z1fr z1fs z1ft z1o0 z1o4 z1o5 z1o6 z1o0n z1o4n z1o5n z1o6n
    go_wp2_with fail
    refine hK.out _ _ (by simp [go_sem, cP, *]) (fun hHeld => ?_)
    clear hK K
    try simp only [Act.put, List.setIfInBounds_toArray, List.set_cons_zero, List.set_cons_succ]
    refine wpAnyH_take (i := 7) (oi := ⟨some 29, _, _, _, _, _⟩) (v := ?_) rfl (by kernel_rfl) (by kernel_rfl) (by kernel_rfl) (fun _ _ _ h => h) (Or.inl ⟨by kernel_rfl, ?_⟩) (by assumption) ?_
    rotate_left
    · (intro w hSw; (try dsimp only at hSw); go_simp; all_goals with_reducible rfl)
    try simp only [Act.put, List.setIfInBounds_toArray, List.set_cons_zero, List.set_cons_succ]
    refine wpAnyH_take (i := 14) (oi := ⟨some 36, _, _, _, _, _⟩) (v := ?_) rfl (by kernel_rfl) (by kernel_rfl) (by kernel_rfl) (fun _ _ _ h => h) (Or.inl ⟨by kernel_rfl, ?_⟩) (by assumption) ?_
    rotate_left
    · (intro w hSw; (try dsimp only at hSw); go_simp; all_goals with_reducible rfl)
    try simp only [Act.put, List.setIfInBounds_toArray, List.set_cons_zero, List.set_cons_succ]
    refine rdA 12 rfl (fun K hK => ?_)
    go_simp
    refine (sumOf_ok a b c S _ hc hS).mono ?_
    rintro e v2 ⟨rfl, hbv2⟩
    have zv2 := hbv2.size
    try simp at zv2
    have y2c0 : v2.cell? ⟨w.heap.size, 0, none⟩ = some (.int .i64 a) := by rw [bc1 hbv2]; simp [go_sem, cP, *]
    have y2c1 : v2.cell? ⟨w.heap.size, 1, none⟩ = some (.int .i64 b) := by rw [bc1 hbv2]; simp [go_sem, cP, *]
    have y2c2 : v2.cell? ⟨w.heap.size, 2, none⟩ = some (.int .i64 c) := by rw [bc1 hbv2]; simp [go_sem, cP, *]
    have y2r0 : v2.cell? ⟨w.heap.size + 1, 0, none⟩ = some (.int .i64 0) := by rw [bc1 hbv2]; simp [go_sem, cP, *]
    have y2r1 : v2.cell? ⟨w.heap.size + 1, 1, none⟩ = some (.int .i64 0) := by rw [bc1 hbv2]; simp [go_sem, cP, *]
    have y2r2 : v2.cell? ⟨w.heap.size + 1, 2, none⟩ = some (.int .i64 0) := by rw [bc1 hbv2]; simp [go_sem, cP, *]
    have y2s0 : v2.cell? ⟨w.heap.size + 1 + 1, 0, none⟩ = some (.int .i64 Q0) := by rw [bc1 hbv2]; simp [go_sem, cP, *]
    have y2s1 : v2.cell? ⟨w.heap.size + 1 + 1, 1, none⟩ = some (.int .i64 Q1) := by rw [bc1 hbv2]; simp [go_sem, cP, *]
    have y2s2 : v2.cell? ⟨w.heap.size + 1 + 1, 2, none⟩ = some (.int .i64 0) := by rw [bc1 hbv2]; simp [go_sem, cP, *]
    have y2t0 : v2.cell? ⟨w.heap.size + 1 + 1 + 1, 0, none⟩ = some (.int .i64 R0) := by rw [bc1 hbv2]; simp [go_sem, cP, *]
    have y2t1 : v2.cell? ⟨w.heap.size + 1 + 1 + 1, 1, none⟩ = some (.int .i64 R1) := by rw [bc1 hbv2]; simp [go_sem, cP, *]
    have y2t2 : v2.cell? ⟨w.heap.size + 1 + 1 + 1, 2, none⟩ = some (.int .i64 0) := by rw [bc1 hbv2]; simp [go_sem, cP, *]
    have y2fr : ∀ j, v2.frozen? ⟨w.heap.size + 1, j, none⟩ = false := fun j => by rw [bc2 hbv2]; simp [go_sem, *]
    have y2fs : ∀ j, v2.frozen? ⟨w.heap.size + 1 + 1, j, none⟩ = false := fun j => by rw [bc2 hbv2]; simp [go_sem, *]
    have y2ft : ∀ j, v2.frozen? ⟨w.heap.size + 1 + 1 + 1, j, none⟩ = false := fun j => by rw [bc2 hbv2]; simp [go_sem, *]
    have y2o0 : w.heap.size < v2.heap.size := by omega
    have y2o0n : v2.heap.size ≠ w.heap.size := by omega
    have y2o4 : w.heap.size + 1 < v2.heap.size := by omega
    have y2o4n : v2.heap.size ≠ w.heap.size + 1 := by omega
    have y2o5 : w.heap.size + 1 + 1 < v2.heap.size := by omega
    have y2o5n : v2.heap.size ≠ w.heap.size + 1 + 1 := by omega
    have y2o6 : w.heap.size + 1 + 1 + 1 < v2.heap.size := by omega
    have y2o6n : v2.heap.size ≠ w.heap.size + 1 + 1 + 1 := by omega
    have hBv2 : Below w.heap.size w v2 := belA
    clear hbv2 hBu2 x2c0 x2c1 x2c2 x2r0 x2r1 x2r2 x2s0 x2s1 x2s2 x2t0 x2t1 x2t2 x2fr x2fs x2ft x2o0 x2o4 x2o5 x2o6 x2o0n x2o4n x2o5n x2o6n
    go_wp2_with fail
    refine hK.out _ _ (by simp [go_sem, cP, *]) (fun hHeld => ?_)
    clear hK K
    try simp only [Act.put, List.setIfInBounds_toArray, List.set_cons_zero, List.set_cons_succ]
    refine wpAnyH_take (i := 13) (oi := ⟨some 35, _, _, _, _, _⟩) (v := ?_) rfl (by kernel_rfl) (by kernel_rfl) (by kernel_rfl) (fun _ _ _ h => h) (Or.inl ⟨by kernel_rfl, ?_⟩) (by assumption) ?_
    rotate_left
    · (intro w hSw; (try dsimp only at hSw); go_simp; all_goals with_reducible rfl)
    try simp only [Act.put, List.setIfInBounds_toArray, List.set_cons_zero, List.set_cons_succ]
    refine rdA 15 rfl (fun K hK => ?_)
    go_simp
    go_wp2_with fail
    refine hK.out _ _ (by simp [go_sem, cP, *]) (fun hHeld => ?_)
    clear hK K
    try simp only [Act.put, List.setIfInBounds_toArray, List.set_cons_zero, List.set_cons_succ]
    refine wpAnyH_take (i := 16) (oi := ⟨some 37, _, _, _, _, _⟩) (v := ?_) rfl (by kernel_rfl) (by kernel_rfl) (by kernel_rfl) (fun _ _ _ h => h) (Or.inl ⟨by kernel_rfl, ?_⟩) (by assumption) ?_
    rotate_left
    · (intro w hSw; (try dsimp only at hSw); go_simp; all_goals with_reducible rfl)
    try simp only [Act.put, List.setIfInBounds_toArray, List.set_cons_zero, List.set_cons_succ]
    refine rdA 17 rfl (fun K hK => ?_)
    go_simp
    go_wp2_with fail
    refine hK.out _ _ (by simp [go_sem, cP, *]) (fun hHeld => ?_)
    clear hK K
    try simp only [Act.put, List.setIfInBounds_toArray, List.set_cons_zero, List.set_cons_succ]
    refine wpAnyH_done (by kernel_rfl) ?_ _
    have z2c0 : ((v2.setCell ⟨w.heap.size + 1 + 1, 2, none⟩ (.int .i64 Q2)).setCell ⟨w.heap.size + 1 + 1 + 1, 2, none⟩ (.int .i64 R2)).cell? ⟨w.heap.size, 0, none⟩ = some (.int .i64 a) := by simp [go_sem, cP, *]
    have z2c1 : ((v2.setCell ⟨w.heap.size + 1 + 1, 2, none⟩ (.int .i64 Q2)).setCell ⟨w.heap.size + 1 + 1 + 1, 2, none⟩ (.int .i64 R2)).cell? ⟨w.heap.size, 1, none⟩ = some (.int .i64 b) := by simp [go_sem, cP, *]
    have z2c2 : ((v2.setCell ⟨w.heap.size + 1 + 1, 2, none⟩ (.int .i64 Q2)).setCell ⟨w.heap.size + 1 + 1 + 1, 2, none⟩ (.int .i64 R2)).cell? ⟨w.heap.size, 2, none⟩ = some (.int .i64 c) := by simp [go_sem, cP, *]
    have z2r0 : ((v2.setCell ⟨w.heap.size + 1 + 1, 2, none⟩ (.int .i64 Q2)).setCell ⟨w.heap.size + 1 + 1 + 1, 2, none⟩ (.int .i64 R2)).cell? ⟨w.heap.size + 1, 0, none⟩ = some (.int .i64 0) := by simp [go_sem, cP, *]
    have z2r1 : ((v2.setCell ⟨w.heap.size + 1 + 1, 2, none⟩ (.int .i64 Q2)).setCell ⟨w.heap.size + 1 + 1 + 1, 2, none⟩ (.int .i64 R2)).cell? ⟨w.heap.size + 1, 1, none⟩ = some (.int .i64 0) := by simp [go_sem, cP, *]
    have z2r2 : ((v2.setCell ⟨w.heap.size + 1 + 1, 2, none⟩ (.int .i64 Q2)).setCell ⟨w.heap.size + 1 + 1 + 1, 2, none⟩ (.int .i64 R2)).cell? ⟨w.heap.size + 1, 2, none⟩ = some (.int .i64 0) := by simp [go_sem, cP, *]
    have z2s0 : ((v2.setCell ⟨w.heap.size + 1 + 1, 2, none⟩ (.int .i64 Q2)).setCell ⟨w.heap.size + 1 + 1 + 1, 2, none⟩ (.int .i64 R2)).cell? ⟨w.heap.size + 1 + 1, 0, none⟩ = some (.int .i64 Q0) := by simp [go_sem, cP, *]
    have z2s1 : ((v2.setCell ⟨w.heap.size + 1 + 1, 2, none⟩ (.int .i64 Q2)).setCell ⟨w.heap.size + 1 + 1 + 1, 2, none⟩ (.int .i64 R2)).cell? ⟨w.heap.size + 1 + 1, 1, none⟩ = some (.int .i64 Q1) := by simp [go_sem, cP, *]
    have z2s2 : ((v2.setCell ⟨w.heap.size + 1 + 1, 2, none⟩ (.int .i64 Q2)).setCell ⟨w.heap.size + 1 + 1 + 1, 2, none⟩ (.int .i64 R2)).cell? ⟨w.heap.size + 1 + 1, 2, none⟩ = some (.int .i64 Q2) := by simp [go_sem, cP, *]
    have z2t0 : ((v2.setCell ⟨w.heap.size + 1 + 1, 2, none⟩ (.int .i64 Q2)).setCell ⟨w.heap.size + 1 + 1 + 1, 2, none⟩ (.int .i64 R2)).cell? ⟨w.heap.size + 1 + 1 + 1, 0, none⟩ = some (.int .i64 R0) := by simp [go_sem, cP, *]
    have z2t1 : ((v2.setCell ⟨w.heap.size + 1 + 1, 2, none⟩ (.int .i64 Q2)).setCell ⟨w.heap.size + 1 + 1 + 1, 2, none⟩ (.int .i64 R2)).cell? ⟨w.heap.size + 1 + 1 + 1, 1, none⟩ = some (.int .i64 R1) := by simp [go_sem, cP, *]
    have z2t2 : ((v2.setCell ⟨w.heap.size + 1 + 1, 2, none⟩ (.int .i64 Q2)).setCell ⟨w.heap.size + 1 + 1 + 1, 2, none⟩ (.int .i64 R2)).cell? ⟨w.heap.size + 1 + 1 + 1, 2, none⟩ = some (.int .i64 R2) := by simp [go_sem, cP, *]
    have z2fr : ∀ j, ((v2.setCell ⟨w.heap.size + 1 + 1, 2, none⟩ (.int .i64 Q2)).setCell ⟨w.heap.size + 1 + 1 + 1, 2, none⟩ (.int .i64 R2)).frozen? ⟨w.heap.size + 1, j, none⟩ = false := fun j => by simp [go_sem, *]
    have z2fs : ∀ j, ((v2.setCell ⟨w.heap.size + 1 + 1, 2, none⟩ (.int .i64 Q2)).setCell ⟨w.heap.size + 1 + 1 + 1, 2, none⟩ (.int .i64 R2)).frozen? ⟨w.heap.size + 1 + 1, j, none⟩ = false := fun j => by simp [go_sem, *]
    have z2ft : ∀ j, ((v2.setCell ⟨w.heap.size + 1 + 1, 2, none⟩ (.int .i64 Q2)).setCell ⟨w.heap.size + 1 + 1 + 1, 2, none⟩ (.int .i64 R2)).frozen? ⟨w.heap.size + 1 + 1 + 1, j, none⟩ = false := fun j => by simp [go_sem, *]
    have hzz2 : ((v2.setCell ⟨w.heap.size + 1 + 1, 2, none⟩ (.int .i64 Q2)).setCell ⟨w.heap.size + 1 + 1 + 1, 2, none⟩ (.int .i64 R2)).heap.size = v2.heap.size := by simp
    have hBz2 : Below w.heap.size w ((v2.setCell ⟨w.heap.size + 1 + 1, 2, none⟩ (.int .i64 Q2)).setCell ⟨w.heap.size + 1 + 1 + 1, 2, none⟩ (.int .i64 R2)) := (hBv2.setCell (by show w.heap.size ≤ w.heap.size + 1 + 1; omega) _).setCell (by show w.heap.size ≤ w.heap.size + 1 + 1 + 1; omega) _
    clear hBv2 y2c0 y2c1 y2c2 y2r0 y2r1 y2r2 y2s0 y2s1 y2s2 y2t0 y2t1 y2t2 y2fr y2fs y2ft
    generalize hWz2 : (v2.setCell ⟨w.heap.size + 1 + 1, 2, none⟩ (.int .i64 Q2)).setCell ⟨w.heap.size + 1 + 1 + 1, 2, none⟩ (.int .i64 R2) = mw2 at *
    have z2o0 : w.heap.size < mw2.heap.size := by omega
    have z2o0n : mw2.heap.size ≠ w.heap.size := by omega
    have z2o4 : w.heap.size + 1 < mw2.heap.size := by omega
    have z2o4n : mw2.heap.size ≠ w.heap.size + 1 := by omega
    have z2o5 : w.heap.size + 1 + 1 < mw2.heap.size := by omega
    have z2o5n : mw2.heap.size ≠ w.heap.size + 1 + 1 := by omega
    have z2o6 : w.heap.size + 1 + 1 + 1 < mw2.heap.size := by omega
    have z2o6n : mw2.heap.size ≠ w.heap.size + 1 + 1 + 1 := by omega
    clear hWz2 hzz2 y2o0 y2o4 y2o5 y2o6 y2o0n y2o4n y2o5n y2o6n
    have hk : m - Q0 - Q1 - Q2 = (K : Int) := hK.out
    go_wp2_with fail
    rw [rounds_succ]
    go_wp2
    go_loopw [45] (fun i wr => ∃ (k : Nat) (x y z r s t : Int), k ≤ K ∧ i = .int .i64 k ∧ Hid (shr (K - k) x y z r s t = (X, Y, Z)) ∧ (0 ≤ x ∧ x ≤ 1000000000 + k) ∧ (0 ≤ y ∧ y ≤ 1000000000 + k) ∧ (0 ≤ z ∧ z ≤ 1000000000 + k) ∧ wr.cell? ⟨w.heap.size + 1 + 1, 0, none⟩ = some (.int .i64 x) ∧ wr.cell? ⟨w.heap.size + 1 + 1, 1, none⟩ = some (.int .i64 y) ∧ wr.cell? ⟨w.heap.size + 1 + 1, 2, none⟩ = some (.int .i64 z) ∧ wr.cell? ⟨w.heap.size + 1 + 1 + 1, 0, none⟩ = some (.int .i64 r) ∧ wr.cell? ⟨w.heap.size + 1 + 1 + 1, 1, none⟩ = some (.int .i64 s) ∧ wr.cell? ⟨w.heap.size + 1 + 1 + 1, 2, none⟩ = some (.int .i64 t) ∧ wr.cell? ⟨w.heap.size + 1, 0, none⟩ = some (.int .i64 0) ∧ wr.cell? ⟨w.heap.size + 1, 1, none⟩ = some (.int .i64 0) ∧ wr.cell? ⟨w.heap.size + 1, 2, none⟩ = some (.int .i64 0) ∧ (∀ j, wr.frozen? ⟨w.heap.size + 1, j, none⟩ = false) ∧ (∀ j, wr.frozen? ⟨w.heap.size + 1 + 1, j, none⟩ = false) ∧ (∀ j, wr.frozen? ⟨w.heap.size + 1 + 1 + 1, j, none⟩ = false) ∧ w.heap.size + 1 + 1 + 1 < wr.heap.size ∧ Below w.heap.size w wr) (fun i _ => K - (intOf i).toNat)
    case atStart => exact ⟨0, Q0, Q1, Q2, R0, R1, R2, by omega, rfl, hX, ⟨q0, by omega⟩, ⟨q1, by omega⟩, ⟨q2, by omega⟩, z2s0, z2s1, z2s2, z2t0, z2t1, z2t2, z2r0, z2r1, z2r2, z2fr, z2fs, z2ft, z2o6, hBz2⟩
    case round =>
      clear hk z2c0 z2c1 z2c2 z2r0 z2r1 z2r2 z2s0 z2s1 z2s2 z2t0 z2t1 z2t2 z2fr z2fs z2ft z2o0 z2o4 z2o5 z2o6 z2o0n z2o4n z2o5n z2o6n hBz2 w0 w1 w2 e0 e1 e2 d0 d1 d2 hX rr0 rr1 rr2
      obtain ⟨k, x, y, z, r, s, t, hk, rfl, hsh, ⟨bx0, bx1⟩, ⟨by0, by1⟩, ⟨bz0, bz1⟩, s0, s1, s2, t0, t1, t2, r0, r1, r2, fr, fs, ft, o6, hB⟩ := hrel
      have o4 : w.heap.size + 1 < wr.heap.size := by omega
      have o5 : w.heap.size + 1 + 1 < wr.heap.size := by omega
      have o4n : wr.heap.size ≠ w.heap.size + 1 := by omega
      have o5n : wr.heap.size ≠ w.heap.size + 1 + 1 := by omega
      have o6n : wr.heap.size ≠ w.heap.size + 1 + 1 + 1 := by omega
      by_cases hlt : k < K
      · have hlt2 : (k : Int) < (K : Int) := by omega
        have hst : K - k = (K - (k + 1)) + 1 := by omega
        obtain ⟨M, hM⟩ : ∃ u, Hid (max (max r s) t = u) := ⟨_, Lib.hid rfl⟩
        obtain ⟨g, hg⟩ : ∃ u, Hid (gI r s t = u) := ⟨_, Lib.hid rfl⟩
        have hx := hsh.out
        rw [hst, shr] at hx
        have gc : (g = 0 ∧ Hid (shr (K - (k + 1)) (x + 1) y z 0 s t = (X, Y, Z))) ∨ (g = 1 ∧ Hid (shr (K - (k + 1)) x (y + 1) z r 0 t = (X, Y, Z))) ∨ (g = 2 ∧ Hid (shr (K - (k + 1)) x y (z + 1) r s 0 = (X, Y, Z))) := by
          have hgo := hg.out
          unfold gI at hgo
          by_cases c1 : s ≤ r ∧ t ≤ r
          · rw [if_pos c1] at hgo hx; exact Or.inl ⟨hgo.symm, Lib.hid hx⟩
          · rw [if_neg c1] at hgo hx
            by_cases c2 : t ≤ s
            · rw [if_pos c2] at hgo hx; exact Or.inr (Or.inl ⟨hgo.symm, Lib.hid hx⟩)
            · rw [if_neg c2] at hgo hx; exact Or.inr (Or.inr ⟨hgo.symm, Lib.hid hx⟩)
        clear hx hsh hst
        rcases gc with ⟨rfl, hx⟩ | ⟨rfl, hx⟩ | ⟨rfl, hx⟩
        · go_upto_region 13 with (fail)
          refine wp_region_held_drew (S := (fun _ => True)) (by kernel_rfl) (by trivial) (fun hHeld => ?_)
          refine wpAnyH_take (i := 0) (oi := ⟨some 47, _, _, _, _, _⟩) (v := ?_) rfl (by kernel_rfl) (by kernel_rfl) (by kernel_rfl) (fun _ _ _ h => h) (Or.inl ⟨by kernel_rfl, ?_⟩) (by assumption) ?_
          rotate_left
          · (intro w hSw; (try dsimp only at hSw); go_simp; all_goals with_reducible rfl)
          try simp only [Act.put, List.setIfInBounds_toArray, List.set_cons_zero, List.set_cons_succ]
          refine wpAnyH_take (i := 1) (oi := ⟨some 48, _, _, _, _, _⟩) (v := ?_) rfl (by kernel_rfl) (by kernel_rfl) (by kernel_rfl) (fun _ _ _ h => h) (Or.inl ⟨by kernel_rfl, ?_⟩) (by assumption) ?_
          rotate_left
          · (intro w hSw; (try dsimp only at hSw); go_simp; all_goals with_reducible rfl)
          try simp only [Act.put, List.setIfInBounds_toArray, List.set_cons_zero, List.set_cons_succ]
          refine rdA 2 rfl (fun K hK => ?_)
          go_simp
          refine (max3_any r s t M _ _ (by simp [go_sem, *]) (by simp [go_sem, *]) (by simp [go_sem, *]) hM).mono ?_
          rintro e v1 ⟨rfl, rfl⟩
          go_wp2_with fail
          refine hK.out _ _ (by trivial) (fun hHeld => ?_)
          clear hK K
          try simp only [Act.put, List.setIfInBounds_toArray, List.set_cons_zero, List.set_cons_succ]
          refine rdA 3 rfl (fun K hK => ?_)
          go_simp
          refine (idx3_any r s t M _ _ (by simp [go_sem, *]) (by simp [go_sem, *]) (by simp [go_sem, *]) hM 0 hg).mono ?_
          rintro e v1 ⟨rfl, rfl⟩
          go_wp2_with fail
          refine hK.out _ _ (by trivial) (fun hHeld => ?_)
          clear hK K
          try simp only [Act.put, List.setIfInBounds_toArray, List.set_cons_zero, List.set_cons_succ]
          refine wpAnyH_take (i := 4) (oi := ⟨some 10, _, _, _, _, _⟩) (v := ?_) rfl (by kernel_rfl) (by kernel_rfl) (by kernel_rfl) (fun _ _ _ h => h) (Or.inl ⟨by kernel_rfl, ?_⟩) (by assumption) ?_
          rotate_left
          · (intro w hSw; (try dsimp only at hSw); go_simp; all_goals with_reducible rfl)
          try simp only [Act.put, List.setIfInBounds_toArray, List.set_cons_zero, List.set_cons_succ]
          refine wpAnyH_done (by kernel_rfl) ?_ _
          clear hg hM
          go_wp2
          go_roundw
          case rel => exact ⟨k + 1, x + 1, y, z, 0, s, t, by omega, by go_num, hx, ⟨by omega, by omega⟩, ⟨by omega, by omega⟩, ⟨by omega, by omega⟩, (by simp [go_sem, cP, *]), (by simp [go_sem, cP, *]), (by simp [go_sem, cP, *]), (by simp [go_sem, cP, *]), (by simp [go_sem, cP, *]), (by simp [go_sem, cP, *]), (by simp [go_sem, cP, *]), (by simp [go_sem, cP, *]), (by simp [go_sem, cP, *]), (by intro j; simp [go_sem, *]), (by intro j; simp [go_sem, *]), (by intro j; simp [go_sem, *]), (by first | omega | (simp; omega)), belA⟩
          case measure => simp [intOf]; omega
        · go_upto_region 13 with (fail)
          refine wp_region_held_drew (S := (fun _ => True)) (by kernel_rfl) (by trivial) (fun hHeld => ?_)
          refine wpAnyH_take (i := 0) (oi := ⟨some 47, _, _, _, _, _⟩) (v := ?_) rfl (by kernel_rfl) (by kernel_rfl) (by kernel_rfl) (fun _ _ _ h => h) (Or.inl ⟨by kernel_rfl, ?_⟩) (by assumption) ?_
          rotate_left
          · (intro w hSw; (try dsimp only at hSw); go_simp; all_goals with_reducible rfl)
          try simp only [Act.put, List.setIfInBounds_toArray, List.set_cons_zero, List.set_cons_succ]
          refine wpAnyH_take (i := 1) (oi := ⟨some 48, _, _, _, _, _⟩) (v := ?_) rfl (by kernel_rfl) (by kernel_rfl) (by kernel_rfl) (fun _ _ _ h => h) (Or.inl ⟨by kernel_rfl, ?_⟩) (by assumption) ?_
          rotate_left
          · (intro w hSw; (try dsimp only at hSw); go_simp; all_goals with_reducible rfl)
          try simp only [Act.put, List.setIfInBounds_toArray, List.set_cons_zero, List.set_cons_succ]
          refine rdA 2 rfl (fun K hK => ?_)
          go_simp
          refine (max3_any r s t M _ _ (by simp [go_sem, *]) (by simp [go_sem, *]) (by simp [go_sem, *]) hM).mono ?_
          rintro e v1 ⟨rfl, rfl⟩
          go_wp2_with fail
          refine hK.out _ _ (by trivial) (fun hHeld => ?_)
          clear hK K
          try simp only [Act.put, List.setIfInBounds_toArray, List.set_cons_zero, List.set_cons_succ]
          refine rdA 3 rfl (fun K hK => ?_)
          go_simp
          refine (idx3_any r s t M _ _ (by simp [go_sem, *]) (by simp [go_sem, *]) (by simp [go_sem, *]) hM 1 hg).mono ?_
          rintro e v1 ⟨rfl, rfl⟩
          go_wp2_with fail
          refine hK.out _ _ (by trivial) (fun hHeld => ?_)
          clear hK K
          try simp only [Act.put, List.setIfInBounds_toArray, List.set_cons_zero, List.set_cons_succ]
          refine wpAnyH_take (i := 4) (oi := ⟨some 10, _, _, _, _, _⟩) (v := ?_) rfl (by kernel_rfl) (by kernel_rfl) (by kernel_rfl) (fun _ _ _ h => h) (Or.inl ⟨by kernel_rfl, ?_⟩) (by assumption) ?_
          rotate_left
          · (intro w hSw; (try dsimp only at hSw); go_simp; all_goals with_reducible rfl)
          try simp only [Act.put, List.setIfInBounds_toArray, List.set_cons_zero, List.set_cons_succ]
          refine wpAnyH_done (by kernel_rfl) ?_ _
          clear hg hM
          go_wp2
          go_roundw
          case rel => exact ⟨k + 1, x, y + 1, z, r, 0, t, by omega, by go_num, hx, ⟨by omega, by omega⟩, ⟨by omega, by omega⟩, ⟨by omega, by omega⟩, (by simp [go_sem, cP, *]), (by simp [go_sem, cP, *]), (by simp [go_sem, cP, *]), (by simp [go_sem, cP, *]), (by simp [go_sem, cP, *]), (by simp [go_sem, cP, *]), (by simp [go_sem, cP, *]), (by simp [go_sem, cP, *]), (by simp [go_sem, cP, *]), (by intro j; simp [go_sem, *]), (by intro j; simp [go_sem, *]), (by intro j; simp [go_sem, *]), (by first | omega | (simp; omega)), belA⟩
          case measure => simp [intOf]; omega
        · go_upto_region 13 with (fail)
          refine wp_region_held_drew (S := (fun _ => True)) (by kernel_rfl) (by trivial) (fun hHeld => ?_)
          refine wpAnyH_take (i := 0) (oi := ⟨some 47, _, _, _, _, _⟩) (v := ?_) rfl (by kernel_rfl) (by kernel_rfl) (by kernel_rfl) (fun _ _ _ h => h) (Or.inl ⟨by kernel_rfl, ?_⟩) (by assumption) ?_
          rotate_left
          · (intro w hSw; (try dsimp only at hSw); go_simp; all_goals with_reducible rfl)
          try simp only [Act.put, List.setIfInBounds_toArray, List.set_cons_zero, List.set_cons_succ]
          refine wpAnyH_take (i := 1) (oi := ⟨some 48, _, _, _, _, _⟩) (v := ?_) rfl (by kernel_rfl) (by kernel_rfl) (by kernel_rfl) (fun _ _ _ h => h) (Or.inl ⟨by kernel_rfl, ?_⟩) (by assumption) ?_
          rotate_left
          · (intro w hSw; (try dsimp only at hSw); go_simp; all_goals with_reducible rfl)
          try simp only [Act.put, List.setIfInBounds_toArray, List.set_cons_zero, List.set_cons_succ]
          refine rdA 2 rfl (fun K hK => ?_)
          go_simp
          refine (max3_any r s t M _ _ (by simp [go_sem, *]) (by simp [go_sem, *]) (by simp [go_sem, *]) hM).mono ?_
          rintro e v1 ⟨rfl, rfl⟩
          go_wp2_with fail
          refine hK.out _ _ (by trivial) (fun hHeld => ?_)
          clear hK K
          try simp only [Act.put, List.setIfInBounds_toArray, List.set_cons_zero, List.set_cons_succ]
          refine rdA 3 rfl (fun K hK => ?_)
          go_simp
          refine (idx3_any r s t M _ _ (by simp [go_sem, *]) (by simp [go_sem, *]) (by simp [go_sem, *]) hM 2 hg).mono ?_
          rintro e v1 ⟨rfl, rfl⟩
          go_wp2_with fail
          refine hK.out _ _ (by trivial) (fun hHeld => ?_)
          clear hK K
          try simp only [Act.put, List.setIfInBounds_toArray, List.set_cons_zero, List.set_cons_succ]
          refine wpAnyH_take (i := 4) (oi := ⟨some 10, _, _, _, _, _⟩) (v := ?_) rfl (by kernel_rfl) (by kernel_rfl) (by kernel_rfl) (fun _ _ _ h => h) (Or.inl ⟨by kernel_rfl, ?_⟩) (by assumption) ?_
          rotate_left
          · (intro w hSw; (try dsimp only at hSw); go_simp; all_goals with_reducible rfl)
          try simp only [Act.put, List.setIfInBounds_toArray, List.set_cons_zero, List.set_cons_succ]
          refine wpAnyH_done (by kernel_rfl) ?_ _
          clear hg hM
          go_wp2
          go_roundw
          case rel => exact ⟨k + 1, x, y, z + 1, r, s, 0, by omega, by go_num, hx, ⟨by omega, by omega⟩, ⟨by omega, by omega⟩, ⟨by omega, by omega⟩, (by simp [go_sem, cP, *]), (by simp [go_sem, cP, *]), (by simp [go_sem, cP, *]), (by simp [go_sem, cP, *]), (by simp [go_sem, cP, *]), (by simp [go_sem, cP, *]), (by simp [go_sem, cP, *]), (by simp [go_sem, cP, *]), (by simp [go_sem, cP, *]), (by intro j; simp [go_sem, *]), (by intro j; simp [go_sem, *]), (by intro j; simp [go_sem, *]), (by first | omega | (simp; omega)), belA⟩
          case measure => simp [intOf]; omega
      · have hkK : k = K := by omega
        subst hkK
        have hx := hsh.out
        rw [Nat.sub_self, shr] at hx
        obtain ⟨rfl, rfl, rfl⟩ : x = X ∧ y = Y ∧ z = Z := by simpa using hx
        clear hx  hsh
        go_wp2_with fail
        refine (content_any x y z _).mono ?_
        rintro e v1 ⟨rfl, hbv⟩
        have y0 : v1.cell? ⟨w.heap.size + 1, 0, none⟩ = some (.int .i64 0) := by rw [bc1 hbv]; simp [go_sem, *]
        have y1 : v1.cell? ⟨w.heap.size + 1, 1, none⟩ = some (.int .i64 0) := by rw [bc1 hbv]; simp [go_sem, *]
        have y2 : v1.cell? ⟨w.heap.size + 1, 2, none⟩ = some (.int .i64 0) := by rw [bc1 hbv]; simp [go_sem, *]
        have yf : ∀ j, v1.frozen? ⟨w.heap.size + 1, j, none⟩ = false := fun j => by rw [bc2 hbv]; simp [go_sem, *]
        have zv := hbv.size
        try simp at zv
        have oo : w.heap.size + 1 < v1.heap.size := by omega
        have hB1 : Below w.heap.size w v1 := belA
        clear hbv
        go_wp2
        refine bodyPost_ret (v := .agg #[.int .i64 x, .int .i64 y, .int .i64 z]) (by simp [results, Try.results75, go_sem, *]) rfl ⟨rfl, ?_⟩
        exact belA
end Go.Proofs.Ytjkhjjmmkdfjmaa
