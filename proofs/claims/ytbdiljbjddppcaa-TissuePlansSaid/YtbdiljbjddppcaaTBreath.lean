/- What is breathed of nitrogen and of helium between two pressures. -/
import Derived.Test.YtbdiljbjddppcaaTMark
import Derived.Outline
namespace Go.Proofs.Ytbdiljbjddppcaa
open Go.ChangeShapes Go.WideShapes Go.ChangeAt Go.RowKit
set_option linter.unusedVariables false
set_option linter.unusedSimpArgs false
set_option maxRecDepth 100000 in
set_option maxHeartbeats 1000000 in
theorem breathedOf_any (o h p q : Int) (w : World) (hg : Hid (gasE o h = 0)) (p0 : 400 ≤ p) (p1 : p ≤ 31100) (q0 : 400 ≤ q) (q1 : q ≤ 31100) :
    Calls Try.prog 53 #[.agg #[.int .i64 o, .int .i64 h], .agg #[.int .i64 p, .int .i64 q]] w fun e w' => e = .returned (.agg #[.int .i64 ((1000 - o - h) * (p - 63)), .int .i64 ((1000 - o - h) * (q - 63)), .int .i64 (h * (p - 63)), .int .i64 (h * (q - 63))]) ∧ Below w.heap.size w w' := by
  obtain ⟨a1, a2, a3, a4, a5⟩ := gasE_z hg.out
  obtain ⟨n, hn⟩ : ∃ x, Hid (1000 - o - h = x) := ⟨_, rfl⟩
  have n0 : 0 ≤ n := by have := hn.out; omega
  have n1 : n ≤ 1000 := by have := hn.out; omega
  have hi : ∀ w, Calls Try.prog 93 #[.agg #[.int .i64 o, .int .i64 h]] w fun e w' => e = .returned (.agg #[.int .i64 n, .int .i64 h]) ∧ Below w.heap.size w w' := fun w => by
    rw [← hn.out]; exact inertOf_any o h w hg
  have HIN := Lib.hid hi
  clear hi
  rw [hn.out]
  obtain ⟨B0, hB0⟩ : ∃ x, Hid (n * (p - 63) = x) := ⟨_, rfl⟩
  have uB0 : 0 ≤ B0 := by rw [← hB0.out]; exact Int.mul_nonneg (by omega) (by omega)
  have vB0 : B0 ≤ 100000000 := by rw [← hB0.out]; exact Int.le_trans (Int.mul_le_mul n1 (show p - 63 ≤ 100000 by omega) (by omega) (by omega)) (by omega)
  have xB0 : IntKind.i64.wrap (n * (p - 63)) = B0 := mul_wrap hB0.out uB0 (by omega)
  have yB0 : n * (p - 63) = B0 := hB0.out
  obtain ⟨B1, hB1⟩ : ∃ x, Hid (n * (q - 63) = x) := ⟨_, rfl⟩
  have uB1 : 0 ≤ B1 := by rw [← hB1.out]; exact Int.mul_nonneg (by omega) (by omega)
  have vB1 : B1 ≤ 100000000 := by rw [← hB1.out]; exact Int.le_trans (Int.mul_le_mul n1 (show q - 63 ≤ 100000 by omega) (by omega) (by omega)) (by omega)
  have xB1 : IntKind.i64.wrap (n * (q - 63)) = B1 := mul_wrap hB1.out uB1 (by omega)
  have yB1 : n * (q - 63) = B1 := hB1.out
  obtain ⟨B2, hB2⟩ : ∃ x, Hid (h * (p - 63) = x) := ⟨_, rfl⟩
  have uB2 : 0 ≤ B2 := by rw [← hB2.out]; exact Int.mul_nonneg (by omega) (by omega)
  have vB2 : B2 ≤ 100000000 := by rw [← hB2.out]; exact Int.le_trans (Int.mul_le_mul a4 (show p - 63 ≤ 100000 by omega) (by omega) (by omega)) (by omega)
  have xB2 : IntKind.i64.wrap (h * (p - 63)) = B2 := mul_wrap hB2.out uB2 (by omega)
  have yB2 : h * (p - 63) = B2 := hB2.out
  obtain ⟨B3, hB3⟩ : ∃ x, Hid (h * (q - 63) = x) := ⟨_, rfl⟩
  have uB3 : 0 ≤ B3 := by rw [← hB3.out]; exact Int.mul_nonneg (by omega) (by omega)
  have vB3 : B3 ≤ 100000000 := by rw [← hB3.out]; exact Int.le_trans (Int.mul_le_mul a4 (show q - 63 ≤ 100000 by omega) (by omega) (by omega)) (by omega)
  have xB3 : IntKind.i64.wrap (h * (q - 63)) = B3 := mul_wrap hB3.out uB3 (by omega)
  have yB3 : h * (q - 63) = B3 := hB3.out
  rw [hB0.out, hB1.out, hB2.out, hB3.out]
  clear hn hB0 hB1 hB2 hB3
  have i0 : ∀ w : World, (Instr.index 57 (.agg #[.int .i64 n, .int .i64 h]) (.int .i64 0)).run Try.prog w = .ok (.int .i64 n) w := fun _ => by kernel_rfl
  have i1 : ∀ w : World, (Instr.index 57 (.agg #[.int .i64 n, .int .i64 h]) (.int .i64 1)).run Try.prog w = .ok (.int .i64 h) w := fun _ => by kernel_rfl
  go_enter Try.func53, Try.ntmps53
  go_wp2_with fail
  refine (HIN.out _).mono ?_
  rintro e w1 ⟨rfl, hbw1⟩
  have z1 := hbw1.size
  try simp at z1
  have c1_0_0 : w1.cell? ⟨w.heap.size + 1, 0, none⟩ = some (.int .i64 p) := by rw [(bcell hbw1).1 _ _ (by first | (simp; done) | (simp; omega) | omega)]; simp [go_sem, World.cell?_alloc_past, *]
  have c1_0_1 : w1.cell? ⟨w.heap.size + 1, 1, none⟩ = some (.int .i64 q) := by rw [(bcell hbw1).1 _ _ (by first | (simp; done) | (simp; omega) | omega)]; simp [go_sem, World.cell?_alloc_past, *]
  have c1_1_0 : w1.cell? ⟨w.heap.size + 1 + 1, 0, none⟩ = some (.int .i64 0) := by rw [(bcell hbw1).1 _ _ (by first | (simp; done) | (simp; omega) | omega)]; simp [go_sem, World.cell?_alloc_past, *]
  have c1_1_1 : w1.cell? ⟨w.heap.size + 1 + 1, 1, none⟩ = some (.int .i64 0) := by rw [(bcell hbw1).1 _ _ (by first | (simp; done) | (simp; omega) | omega)]; simp [go_sem, World.cell?_alloc_past, *]
  have c1_1_2 : w1.cell? ⟨w.heap.size + 1 + 1, 2, none⟩ = some (.int .i64 0) := by rw [(bcell hbw1).1 _ _ (by first | (simp; done) | (simp; omega) | omega)]; simp [go_sem, World.cell?_alloc_past, *]
  have c1_1_3 : w1.cell? ⟨w.heap.size + 1 + 1, 3, none⟩ = some (.int .i64 0) := by rw [(bcell hbw1).1 _ _ (by first | (simp; done) | (simp; omega) | omega)]; simp [go_sem, World.cell?_alloc_past, *]
  have f1_1 : ∀ j, w1.frozen? ⟨w.heap.size + 1 + 1, j, none⟩ = false := fun j => by rw [(bcell hbw1).2 _ _ (by first | (simp; done) | (simp; omega) | omega)]; simp [go_sem, *]
  have c1_2_0 : w1.cell? ⟨w.heap.size + 1 + 1 + 1, 0, none⟩ = some (.int .i64 0) := by rw [(bcell hbw1).1 _ _ (by first | (simp; done) | (simp; omega) | omega)]; simp [go_sem, World.cell?_alloc_past, *]
  have c1_2_1 : w1.cell? ⟨w.heap.size + 1 + 1 + 1, 1, none⟩ = some (.int .i64 0) := by rw [(bcell hbw1).1 _ _ (by first | (simp; done) | (simp; omega) | omega)]; simp [go_sem, World.cell?_alloc_past, *]
  have c1_2_2 : w1.cell? ⟨w.heap.size + 1 + 1 + 1, 2, none⟩ = some (.int .i64 0) := by rw [(bcell hbw1).1 _ _ (by first | (simp; done) | (simp; omega) | omega)]; simp [go_sem, World.cell?_alloc_past, *]
  have c1_2_3 : w1.cell? ⟨w.heap.size + 1 + 1 + 1, 3, none⟩ = some (.int .i64 0) := by rw [(bcell hbw1).1 _ _ (by first | (simp; done) | (simp; omega) | omega)]; simp [go_sem, World.cell?_alloc_past, *]
  have f1_2 : ∀ j, w1.frozen? ⟨w.heap.size + 1 + 1 + 1, j, none⟩ = false := fun j => by rw [(bcell hbw1).2 _ _ (by first | (simp; done) | (simp; omega) | omega)]; simp [go_sem, *]
  have hB1 : Below w.heap.size w w1 := (by (repeat (first | (with_reducible refine Below.drew ?_) | (with_reducible refine below_drewN ?_ _) | (with_reducible refine Below.alloc ?_ (by first | omega | (simp; done) | (simp; omega) | (simp at *; omega)) _) | (with_reducible refine Below.setCell ?_ (by first | omega | (simp; done) | (simp; omega) | (simp at *; omega)) _) | (with_reducible exact Below.refl _ _) | (with_reducible assumption) | (with_reducible refine Below.trans ?_ (Below.mono (by assumption) (by first | omega | (simp; done) | (simp; omega) | (simp at *; omega)))))))
  have o1_0 : w.heap.size + 1 < w1.heap.size := by omega
  have n1_0 : w1.heap.size ≠ w.heap.size + 1 := by omega
  have t1_0_1 : w.heap.size + 1 < w1.heap.size + 1 := by omega
  have t1_0_2 : w.heap.size + 1 < w1.heap.size + 1 + 1 := by omega
  have t1_0_3 : w.heap.size + 1 < w1.heap.size + 1 + 1 + 1 := by omega
  have t1_0_4 : w.heap.size + 1 < w1.heap.size + 1 + 1 + 1 + 1 := by omega
  have t1_0_5 : w.heap.size + 1 < w1.heap.size + 1 + 1 + 1 + 1 + 1 := by omega
  have o1_1 : w.heap.size + 1 + 1 < w1.heap.size := by omega
  have n1_1 : w1.heap.size ≠ w.heap.size + 1 + 1 := by omega
  have t1_1_1 : w.heap.size + 1 + 1 < w1.heap.size + 1 := by omega
  have t1_1_2 : w.heap.size + 1 + 1 < w1.heap.size + 1 + 1 := by omega
  have t1_1_3 : w.heap.size + 1 + 1 < w1.heap.size + 1 + 1 + 1 := by omega
  have t1_1_4 : w.heap.size + 1 + 1 < w1.heap.size + 1 + 1 + 1 + 1 := by omega
  have t1_1_5 : w.heap.size + 1 + 1 < w1.heap.size + 1 + 1 + 1 + 1 + 1 := by omega
  have o1_2 : w.heap.size + 1 + 1 + 1 < w1.heap.size := by omega
  have n1_2 : w1.heap.size ≠ w.heap.size + 1 + 1 + 1 := by omega
  have t1_2_1 : w.heap.size + 1 + 1 + 1 < w1.heap.size + 1 := by omega
  have t1_2_2 : w.heap.size + 1 + 1 + 1 < w1.heap.size + 1 + 1 := by omega
  have t1_2_3 : w.heap.size + 1 + 1 + 1 < w1.heap.size + 1 + 1 + 1 := by omega
  have t1_2_4 : w.heap.size + 1 + 1 + 1 < w1.heap.size + 1 + 1 + 1 + 1 := by omega
  have t1_2_5 : w.heap.size + 1 + 1 + 1 < w1.heap.size + 1 + 1 + 1 + 1 + 1 := by omega
  have bb1 : w.heap.size ≤ w1.heap.size := by omega
  clear hbw1
  go_wp2
  refine wp_loop_rounds 3 ?_
  rw [rounds_succ]
  go_wp2
  rw [rounds_succ]
  go_wp2
  rw [rounds_succ]
  go_wp2
  refine bodyPost_ret (v := .agg #[.int .i64 B0, .int .i64 B1, .int .i64 B2, .int .i64 B3]) (by simp [results, Try.results53, go_sem, World.cell?_alloc_past, *]) rfl ⟨rfl, ?_⟩
  (repeat (first | (with_reducible refine Below.drew ?_) | (with_reducible refine below_drewN ?_ _) | (with_reducible refine Below.alloc ?_ (by first | omega | (simp; done) | (simp; omega) | (simp at *; omega)) _) | (with_reducible refine Below.setCell ?_ (by first | omega | (simp; done) | (simp; omega) | (simp at *; omega)) _) | (with_reducible exact Below.refl _ _) | (with_reducible assumption) | (with_reducible refine Below.trans ?_ (Below.mono (by assumption) (by first | omega | (simp; done) | (simp; omega) | (simp at *; omega))))))
end Go.Proofs.Ytbdiljbjddppcaa
