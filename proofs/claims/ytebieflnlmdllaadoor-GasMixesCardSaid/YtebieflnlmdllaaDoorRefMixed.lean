/- What the reference's mixture returns. -/
import Derived.Test.YtebieflnlmdllaaDoorRefMix
import Derived.Outline
namespace Go.Proofs.YtebieflnlmdllaaDoor
open Go.ChangeShapes Go.WideShapes Go.ChangeAt Go.RowKit
set_option linter.unusedVariables false
set_option linter.unusedSimpArgs false
attribute [local go_sem ↓] Go.wp_at_zero Go.wp_at_succ

theorem baseLowest_is (n d x y : Int) (w : World) (h0 : 0 ≤ n) (h1 : n ≤ 1000000000000000) (h2 : 0 < d) (h3 : d ≤ 1000000000000000) (hx : Hid (n / gcdI n d = x)) (hy : Hid (d / gcdI n d = y)) :
    Calls Tryd.prog 98 #[.int .i64 n, .int .i64 d] w fun e w' => e = .returned (.agg #[.int .i64 x, .int .i64 y]) ∧ Below w.heap.size w w' := by
  have := baseLowest_any n d w h0 h1 h2 h3
  rw [hx.out, hy.out] at this
  exact this
theorem baseIsSmall_is (n d : Int) (m : Bool) (w : World) (hm : Hid ((inB n (-1000000000) 1000000000 && inB d 1 1000000000) = m)) :
    Calls Tryd.prog 99 #[.agg #[.int .i64 n, .int .i64 d]] w fun e w' => e = .returned (.bool m) ∧ Below w.heap.size w w' := by
  have := baseIsSmall_any n d w
  rw [hm.out] at this
  exact this
theorem refSums_is (P : List Part) (b off cap : Nat) (A X Y : Int) (w : World) (hl : P.length ≤ 12) (hlt : b < w.heap.size) (hP : PartsAt w b off P) (hR : ∀ p ∈ P, p.Right) (hA : Hid (sumF pA P = A)) (hX : Hid (sumF pO P = X)) (hY : Hid (sumF pH P = Y)) :
    Calls Tryd.prog 97 #[.slice (some ⟨b, off, none⟩) P.length cap] w fun e w' => e = .returned (.tuple #[.int .i64 A, .int .i64 X, .int .i64 Y]) ∧ Below w.heap.size w w' := by
  have := refSums_any P b off cap w hl hlt hP hR
  rw [hA.out, hX.out, hY.out] at this
  exact this
set_option maxRecDepth 100000 in
set_option maxHeartbeats 4000000 in
theorem refMixed_c0 (P : List Part) (b off cap : Nat) (w : World) (hl : P.length ≤ 12) (hlt : b < w.heap.size) (hP : PartsAt w b off P) (hR : ∀ p ∈ P, p.Right) (A X Y V T : Int) (hA : Hid (sumF pA P = A)) (hX : Hid (sumF pO P = X)) (hY : Hid (sumF pH P = Y)) (hT : 1000 * A = T) (hV : T - X - Y = V) (T0 : 0 < T) (T1 : T ≤ 12000000000000) (X0 : 0 ≤ X) (X1 : X ≤ T) (Y0 : 0 ≤ Y) (Y1 : Y ≤ T) (V0 : 0 ≤ V) (V1 : V ≤ T) (n0 d0 : Int) (hn0 : Hid (X / gcdI X T = n0)) (hd0 : Hid (T / gcdI X T = d0)) (hs0 : Hid ((inB n0 (-1000000000) 1000000000 && inB d0 1 1000000000) = false)) :
    Calls Tryd.prog 60 #[.slice (some ⟨b, off, none⟩) P.length cap] w fun e w' => e = .returned (.tuple #[.agg #[.int .i64 0, .int .i64 0, .int .i64 0, .int .i64 0, .int .i64 0, .int .i64 0], .int .i64 8]) ∧ Below w.heap.size w w' := by
  have HP : Hid (PartsAt w b off P) := hP
  have HR : Hid (∀ p ∈ P, p.Right) := hR
  clear hP hR
  have a1 : IntKind.i64.wrap (1000 * A) = T := by rw [hT]; exact IntWalk.i64_in _ (by omega)
  have a2 : IntKind.i64.wrap (T - X) = T - X := IntWalk.i64_in _ (by omega)
  have a3 : IntKind.i64.wrap (T - X - Y) = V := by rw [hV]; exact IntWalk.i64_in _ (by omega)
  go_enter Tryd.func60, Tryd.ntmps60
  go_wp2_with fail
  refine (refSums_is P b off cap A X Y _ hl (by simp; omega) (HP.out.below (by (repeat (first | (with_reducible refine Below.drew ?_) | (with_reducible refine below_drewN ?_ _) | (with_reducible refine Below.alloc ?_ (by first | omega | (simp; done) | (simp; omega) | (simp at *; omega)) _) | (with_reducible refine Below.setCell ?_ (by first | omega | (simp; done) | (simp; omega) | (simp at *; omega)) _) | (with_reducible exact Below.refl _ _) | (with_reducible assumption) | (with_reducible refine Below.trans ?_ (Below.mono (by assumption) (by first | omega | (simp; done) | (simp; omega) | (simp at *; omega))))))) hlt) HR.out hA hX hY).mono ?_
  rintro e w1 ⟨rfl, hbw1⟩
  have z1 := hbw1.size
  try simp at z1
  have c1_0 : w1.cell? ⟨w.heap.size, 0, none⟩ = some (.int .i64 0) := by rw [(bcell hbw1).1 _ _ (by first | (simp; done) | (simp; omega) | omega)]; simp [go_sem, World.cell?_alloc_past, *]
  have c1_1 : w1.cell? ⟨w.heap.size, 1, none⟩ = some (.int .i64 0) := by rw [(bcell hbw1).1 _ _ (by first | (simp; done) | (simp; omega) | omega)]; simp [go_sem, World.cell?_alloc_past, *]
  have c1_2 : w1.cell? ⟨w.heap.size, 2, none⟩ = some (.int .i64 0) := by rw [(bcell hbw1).1 _ _ (by first | (simp; done) | (simp; omega) | omega)]; simp [go_sem, World.cell?_alloc_past, *]
  have c1_3 : w1.cell? ⟨w.heap.size, 3, none⟩ = some (.int .i64 0) := by rw [(bcell hbw1).1 _ _ (by first | (simp; done) | (simp; omega) | omega)]; simp [go_sem, World.cell?_alloc_past, *]
  have c1_4 : w1.cell? ⟨w.heap.size, 4, none⟩ = some (.int .i64 0) := by rw [(bcell hbw1).1 _ _ (by first | (simp; done) | (simp; omega) | omega)]; simp [go_sem, World.cell?_alloc_past, *]
  have c1_5 : w1.cell? ⟨w.heap.size, 5, none⟩ = some (.int .i64 0) := by rw [(bcell hbw1).1 _ _ (by first | (simp; done) | (simp; omega) | omega)]; simp [go_sem, World.cell?_alloc_past, *]
  have hB1 : Below w.heap.size w w1 := (by (repeat (first | (with_reducible refine Below.drew ?_) | (with_reducible refine below_drewN ?_ _) | (with_reducible refine Below.alloc ?_ (by first | omega | (simp; done) | (simp; omega) | (simp at *; omega)) _) | (with_reducible refine Below.setCell ?_ (by first | omega | (simp; done) | (simp; omega) | (simp at *; omega)) _) | (with_reducible exact Below.refl _ _) | (with_reducible assumption) | (with_reducible refine Below.trans ?_ (Below.mono (by assumption) (by first | omega | (simp; done) | (simp; omega) | (simp at *; omega)))))))
  have fz1_0 : ∀ j, w1.frozen? ⟨w.heap.size, j, none⟩ = false := by intro j; rw [(bcell hbw1).2 _ _ (by first | (simp; done) | (simp; omega) | omega)]; first | (simp [go_sem, *]; done) | exact fz0_0 j
  have o1_0 : w.heap.size < w1.heap.size := by omega
  have n1_0 : w1.heap.size ≠ w.heap.size := by omega
  have t1_0_1 : w.heap.size < w1.heap.size + 1 := by omega
  have t1_0_2 : w.heap.size < w1.heap.size + 1 + 1 := by omega
  have t1_0_3 : w.heap.size < w1.heap.size + 1 + 1 + 1 := by omega
  have b1 : w.heap.size ≤ w1.heap.size := by omega
  clear hbw1
  go_wp2
  refine wp_loop_rounds 4 ?_
  rw [rounds_succ]
  go_wp2_with fail
  refine (baseLowest_is X T n0 d0 _ X0 (by omega) T0 (by omega) hn0 hd0).mono ?_
  rintro e w2 ⟨rfl, hbw2⟩
  have z2 := hbw2.size
  try simp at z2
  have c2_0 : w2.cell? ⟨w.heap.size, 0, none⟩ = some (.int .i64 0) := by rw [(bcell hbw2).1 _ _ (by first | (simp; done) | (simp; omega) | omega)]; simp [go_sem, World.cell?_alloc_past, *]
  have c2_1 : w2.cell? ⟨w.heap.size, 1, none⟩ = some (.int .i64 0) := by rw [(bcell hbw2).1 _ _ (by first | (simp; done) | (simp; omega) | omega)]; simp [go_sem, World.cell?_alloc_past, *]
  have c2_2 : w2.cell? ⟨w.heap.size, 2, none⟩ = some (.int .i64 0) := by rw [(bcell hbw2).1 _ _ (by first | (simp; done) | (simp; omega) | omega)]; simp [go_sem, World.cell?_alloc_past, *]
  have c2_3 : w2.cell? ⟨w.heap.size, 3, none⟩ = some (.int .i64 0) := by rw [(bcell hbw2).1 _ _ (by first | (simp; done) | (simp; omega) | omega)]; simp [go_sem, World.cell?_alloc_past, *]
  have c2_4 : w2.cell? ⟨w.heap.size, 4, none⟩ = some (.int .i64 0) := by rw [(bcell hbw2).1 _ _ (by first | (simp; done) | (simp; omega) | omega)]; simp [go_sem, World.cell?_alloc_past, *]
  have c2_5 : w2.cell? ⟨w.heap.size, 5, none⟩ = some (.int .i64 0) := by rw [(bcell hbw2).1 _ _ (by first | (simp; done) | (simp; omega) | omega)]; simp [go_sem, World.cell?_alloc_past, *]
  have c2_6 : w2.cell? ⟨w1.heap.size, 0, none⟩ = some (.int .i64 0) := by rw [(bcell hbw2).1 _ _ (by first | (simp; done) | (simp; omega) | omega)]; simp [go_sem, World.cell?_alloc_past, *]
  have c2_7 : w2.cell? ⟨w1.heap.size, 1, none⟩ = some (.int .i64 0) := by rw [(bcell hbw2).1 _ _ (by first | (simp; done) | (simp; omega) | omega)]; simp [go_sem, World.cell?_alloc_past, *]
  have c2_8 : w2.cell? ⟨w1.heap.size, 2, none⟩ = some (.int .i64 0) := by rw [(bcell hbw2).1 _ _ (by first | (simp; done) | (simp; omega) | omega)]; simp [go_sem, World.cell?_alloc_past, *]
  have c2_9 : w2.cell? ⟨w1.heap.size, 3, none⟩ = some (.int .i64 0) := by rw [(bcell hbw2).1 _ _ (by first | (simp; done) | (simp; omega) | omega)]; simp [go_sem, World.cell?_alloc_past, *]
  have c2_10 : w2.cell? ⟨w1.heap.size, 4, none⟩ = some (.int .i64 0) := by rw [(bcell hbw2).1 _ _ (by first | (simp; done) | (simp; omega) | omega)]; simp [go_sem, World.cell?_alloc_past, *]
  have c2_11 : w2.cell? ⟨w1.heap.size, 5, none⟩ = some (.int .i64 0) := by rw [(bcell hbw2).1 _ _ (by first | (simp; done) | (simp; omega) | omega)]; simp [go_sem, World.cell?_alloc_past, *]
  have c2_12 : w2.cell? ⟨w1.heap.size + 1, 0, none⟩ = some (.int .i64 X) := by rw [(bcell hbw2).1 _ _ (by first | (simp; done) | (simp; omega) | omega)]; simp [go_sem, World.cell?_alloc_past, *]
  have c2_13 : w2.cell? ⟨w1.heap.size + 1, 1, none⟩ = some (.int .i64 Y) := by rw [(bcell hbw2).1 _ _ (by first | (simp; done) | (simp; omega) | omega)]; simp [go_sem, World.cell?_alloc_past, *]
  have c2_14 : w2.cell? ⟨w1.heap.size + 1, 2, none⟩ = some (.int .i64 V) := by rw [(bcell hbw2).1 _ _ (by first | (simp; done) | (simp; omega) | omega)]; simp [go_sem, World.cell?_alloc_past, *]
  have hB2 : Below w.heap.size w w2 := (by (repeat (first | (with_reducible refine Below.drew ?_) | (with_reducible refine below_drewN ?_ _) | (with_reducible refine Below.alloc ?_ (by first | omega | (simp; done) | (simp; omega) | (simp at *; omega)) _) | (with_reducible refine Below.setCell ?_ (by first | omega | (simp; done) | (simp; omega) | (simp at *; omega)) _) | (with_reducible exact Below.refl _ _) | (with_reducible assumption) | (with_reducible refine Below.trans ?_ (Below.mono (by assumption) (by first | omega | (simp; done) | (simp; omega) | (simp at *; omega)))))))
  have fz2_0 : ∀ j, w2.frozen? ⟨w.heap.size, j, none⟩ = false := by intro j; rw [(bcell hbw2).2 _ _ (by first | (simp; done) | (simp; omega) | omega)]; first | (simp [go_sem, *]; done) | exact fz1_0 j
  have fz2_1 : ∀ j, w2.frozen? ⟨w1.heap.size, j, none⟩ = false := by intro j; rw [(bcell hbw2).2 _ _ (by first | (simp; done) | (simp; omega) | omega)]; first | (simp [go_sem, *]; done) | exact fz1_1 j
  clear c1_0 c1_1 c1_2 c1_3 c1_4 c1_5 o1_0 n1_0 t1_0_1 t1_0_2 t1_0_3
  have o2_0 : w.heap.size < w2.heap.size := by omega
  have n2_0 : w2.heap.size ≠ w.heap.size := by omega
  have t2_0_1 : w.heap.size < w2.heap.size + 1 := by omega
  have t2_0_2 : w.heap.size < w2.heap.size + 1 + 1 := by omega
  have t2_0_3 : w.heap.size < w2.heap.size + 1 + 1 + 1 := by omega
  have o2_1 : w1.heap.size < w2.heap.size := by omega
  have n2_1 : w2.heap.size ≠ w1.heap.size := by omega
  have t2_1_1 : w1.heap.size < w2.heap.size + 1 := by omega
  have t2_1_2 : w1.heap.size < w2.heap.size + 1 + 1 := by omega
  have t2_1_3 : w1.heap.size < w2.heap.size + 1 + 1 + 1 := by omega
  have o2_2 : w1.heap.size + 1 < w2.heap.size := by omega
  have n2_2 : w2.heap.size ≠ w1.heap.size + 1 := by omega
  have t2_2_1 : w1.heap.size + 1 < w2.heap.size + 1 := by omega
  have t2_2_2 : w1.heap.size + 1 < w2.heap.size + 1 + 1 := by omega
  have t2_2_3 : w1.heap.size + 1 < w2.heap.size + 1 + 1 + 1 := by omega
  have b2 : w.heap.size ≤ w2.heap.size := by omega
  clear hbw2
  go_wp2_with fail
  refine (baseIsSmall_is n0 d0 false _ hs0).mono ?_
  rintro e w3 ⟨rfl, hbw3⟩
  have z3 := hbw3.size
  try simp at z3
  have c3_0 : w3.cell? ⟨w.heap.size, 0, none⟩ = some (.int .i64 0) := by rw [(bcell hbw3).1 _ _ (by first | (simp; done) | (simp; omega) | omega)]; simp [go_sem, World.cell?_alloc_past, *]
  have c3_1 : w3.cell? ⟨w.heap.size, 1, none⟩ = some (.int .i64 0) := by rw [(bcell hbw3).1 _ _ (by first | (simp; done) | (simp; omega) | omega)]; simp [go_sem, World.cell?_alloc_past, *]
  have c3_2 : w3.cell? ⟨w.heap.size, 2, none⟩ = some (.int .i64 0) := by rw [(bcell hbw3).1 _ _ (by first | (simp; done) | (simp; omega) | omega)]; simp [go_sem, World.cell?_alloc_past, *]
  have c3_3 : w3.cell? ⟨w.heap.size, 3, none⟩ = some (.int .i64 0) := by rw [(bcell hbw3).1 _ _ (by first | (simp; done) | (simp; omega) | omega)]; simp [go_sem, World.cell?_alloc_past, *]
  have c3_4 : w3.cell? ⟨w.heap.size, 4, none⟩ = some (.int .i64 0) := by rw [(bcell hbw3).1 _ _ (by first | (simp; done) | (simp; omega) | omega)]; simp [go_sem, World.cell?_alloc_past, *]
  have c3_5 : w3.cell? ⟨w.heap.size, 5, none⟩ = some (.int .i64 0) := by rw [(bcell hbw3).1 _ _ (by first | (simp; done) | (simp; omega) | omega)]; simp [go_sem, World.cell?_alloc_past, *]
  have c3_6 : w3.cell? ⟨w1.heap.size, 0, none⟩ = some (.int .i64 n0) := by rw [(bcell hbw3).1 _ _ (by first | (simp; done) | (simp; omega) | omega)]; simp [go_sem, World.cell?_alloc_past, *]
  have c3_7 : w3.cell? ⟨w1.heap.size, 1, none⟩ = some (.int .i64 d0) := by rw [(bcell hbw3).1 _ _ (by first | (simp; done) | (simp; omega) | omega)]; simp [go_sem, World.cell?_alloc_past, *]
  have c3_8 : w3.cell? ⟨w1.heap.size, 2, none⟩ = some (.int .i64 0) := by rw [(bcell hbw3).1 _ _ (by first | (simp; done) | (simp; omega) | omega)]; simp [go_sem, World.cell?_alloc_past, *]
  have c3_9 : w3.cell? ⟨w1.heap.size, 3, none⟩ = some (.int .i64 0) := by rw [(bcell hbw3).1 _ _ (by first | (simp; done) | (simp; omega) | omega)]; simp [go_sem, World.cell?_alloc_past, *]
  have c3_10 : w3.cell? ⟨w1.heap.size, 4, none⟩ = some (.int .i64 0) := by rw [(bcell hbw3).1 _ _ (by first | (simp; done) | (simp; omega) | omega)]; simp [go_sem, World.cell?_alloc_past, *]
  have c3_11 : w3.cell? ⟨w1.heap.size, 5, none⟩ = some (.int .i64 0) := by rw [(bcell hbw3).1 _ _ (by first | (simp; done) | (simp; omega) | omega)]; simp [go_sem, World.cell?_alloc_past, *]
  have c3_12 : w3.cell? ⟨w1.heap.size + 1, 0, none⟩ = some (.int .i64 X) := by rw [(bcell hbw3).1 _ _ (by first | (simp; done) | (simp; omega) | omega)]; simp [go_sem, World.cell?_alloc_past, *]
  have c3_13 : w3.cell? ⟨w1.heap.size + 1, 1, none⟩ = some (.int .i64 Y) := by rw [(bcell hbw3).1 _ _ (by first | (simp; done) | (simp; omega) | omega)]; simp [go_sem, World.cell?_alloc_past, *]
  have c3_14 : w3.cell? ⟨w1.heap.size + 1, 2, none⟩ = some (.int .i64 V) := by rw [(bcell hbw3).1 _ _ (by first | (simp; done) | (simp; omega) | omega)]; simp [go_sem, World.cell?_alloc_past, *]
  have hB3 : Below w.heap.size w w3 := (by (repeat (first | (with_reducible refine Below.drew ?_) | (with_reducible refine below_drewN ?_ _) | (with_reducible refine Below.alloc ?_ (by first | omega | (simp; done) | (simp; omega) | (simp at *; omega)) _) | (with_reducible refine Below.setCell ?_ (by first | omega | (simp; done) | (simp; omega) | (simp at *; omega)) _) | (with_reducible exact Below.refl _ _) | (with_reducible assumption) | (with_reducible refine Below.trans ?_ (Below.mono (by assumption) (by first | omega | (simp; done) | (simp; omega) | (simp at *; omega)))))))
  have fz3_0 : ∀ j, w3.frozen? ⟨w.heap.size, j, none⟩ = false := by intro j; rw [(bcell hbw3).2 _ _ (by first | (simp; done) | (simp; omega) | omega)]; first | (simp [go_sem, *]; done) | exact fz2_0 j
  have fz3_1 : ∀ j, w3.frozen? ⟨w1.heap.size, j, none⟩ = false := by intro j; rw [(bcell hbw3).2 _ _ (by first | (simp; done) | (simp; omega) | omega)]; first | (simp [go_sem, *]; done) | exact fz2_1 j
  clear c2_0 c2_1 c2_2 c2_3 c2_4 c2_5 c2_6 c2_7 c2_8 c2_9 c2_10 c2_11 c2_12 c2_13 c2_14 o2_0 n2_0 t2_0_1 t2_0_2 t2_0_3 o2_1 n2_1 t2_1_1 t2_1_2 t2_1_3 o2_2 n2_2 t2_2_1 t2_2_2 t2_2_3
  have o3_0 : w.heap.size < w3.heap.size := by omega
  have n3_0 : w3.heap.size ≠ w.heap.size := by omega
  have t3_0_1 : w.heap.size < w3.heap.size + 1 := by omega
  have t3_0_2 : w.heap.size < w3.heap.size + 1 + 1 := by omega
  have t3_0_3 : w.heap.size < w3.heap.size + 1 + 1 + 1 := by omega
  have o3_1 : w1.heap.size < w3.heap.size := by omega
  have n3_1 : w3.heap.size ≠ w1.heap.size := by omega
  have t3_1_1 : w1.heap.size < w3.heap.size + 1 := by omega
  have t3_1_2 : w1.heap.size < w3.heap.size + 1 + 1 := by omega
  have t3_1_3 : w1.heap.size < w3.heap.size + 1 + 1 + 1 := by omega
  have o3_2 : w1.heap.size + 1 < w3.heap.size := by omega
  have n3_2 : w3.heap.size ≠ w1.heap.size + 1 := by omega
  have t3_2_1 : w1.heap.size + 1 < w3.heap.size + 1 := by omega
  have t3_2_2 : w1.heap.size + 1 < w3.heap.size + 1 + 1 := by omega
  have t3_2_3 : w1.heap.size + 1 < w3.heap.size + 1 + 1 + 1 := by omega
  have b3 : w.heap.size ≤ w3.heap.size := by omega
  clear hbw3
  go_wp2
  refine bodyPost_ret (v := .tuple #[.agg #[.int .i64 0, .int .i64 0, .int .i64 0, .int .i64 0, .int .i64 0, .int .i64 0], .int .i64 8]) (by simp [results, Tryd.results60, go_sem, *]) rfl ⟨rfl, ?_⟩
  (repeat (first | (with_reducible refine Below.drew ?_) | (with_reducible refine below_drewN ?_ _) | (with_reducible refine Below.alloc ?_ (by first | omega | (simp; done) | (simp; omega) | (simp at *; omega)) _) | (with_reducible refine Below.setCell ?_ (by first | omega | (simp; done) | (simp; omega) | (simp at *; omega)) _) | (with_reducible exact Below.refl _ _) | (with_reducible assumption) | (with_reducible refine Below.trans ?_ (Below.mono (by assumption) (by first | omega | (simp; done) | (simp; omega) | (simp at *; omega))))))
set_option maxRecDepth 100000 in
set_option maxHeartbeats 4000000 in
theorem refMixed_c1 (P : List Part) (b off cap : Nat) (w : World) (hl : P.length ≤ 12) (hlt : b < w.heap.size) (hP : PartsAt w b off P) (hR : ∀ p ∈ P, p.Right) (A X Y V T : Int) (hA : Hid (sumF pA P = A)) (hX : Hid (sumF pO P = X)) (hY : Hid (sumF pH P = Y)) (hT : 1000 * A = T) (hV : T - X - Y = V) (T0 : 0 < T) (T1 : T ≤ 12000000000000) (X0 : 0 ≤ X) (X1 : X ≤ T) (Y0 : 0 ≤ Y) (Y1 : Y ≤ T) (V0 : 0 ≤ V) (V1 : V ≤ T) (n0 d0 : Int) (hn0 : Hid (X / gcdI X T = n0)) (hd0 : Hid (T / gcdI X T = d0)) (hs0 : Hid ((inB n0 (-1000000000) 1000000000 && inB d0 1 1000000000) = true)) (n1 d1 : Int) (hn1 : Hid (Y / gcdI Y T = n1)) (hd1 : Hid (T / gcdI Y T = d1)) (hs1 : Hid ((inB n1 (-1000000000) 1000000000 && inB d1 1 1000000000) = false)) :
    Calls Tryd.prog 60 #[.slice (some ⟨b, off, none⟩) P.length cap] w fun e w' => e = .returned (.tuple #[.agg #[.int .i64 0, .int .i64 0, .int .i64 0, .int .i64 0, .int .i64 0, .int .i64 0], .int .i64 8]) ∧ Below w.heap.size w w' := by
  have HP : Hid (PartsAt w b off P) := hP
  have HR : Hid (∀ p ∈ P, p.Right) := hR
  clear hP hR
  have a1 : IntKind.i64.wrap (1000 * A) = T := by rw [hT]; exact IntWalk.i64_in _ (by omega)
  have a2 : IntKind.i64.wrap (T - X) = T - X := IntWalk.i64_in _ (by omega)
  have a3 : IntKind.i64.wrap (T - X - Y) = V := by rw [hV]; exact IntWalk.i64_in _ (by omega)
  go_enter Tryd.func60, Tryd.ntmps60
  go_wp2_with fail
  refine (refSums_is P b off cap A X Y _ hl (by simp; omega) (HP.out.below (by (repeat (first | (with_reducible refine Below.drew ?_) | (with_reducible refine below_drewN ?_ _) | (with_reducible refine Below.alloc ?_ (by first | omega | (simp; done) | (simp; omega) | (simp at *; omega)) _) | (with_reducible refine Below.setCell ?_ (by first | omega | (simp; done) | (simp; omega) | (simp at *; omega)) _) | (with_reducible exact Below.refl _ _) | (with_reducible assumption) | (with_reducible refine Below.trans ?_ (Below.mono (by assumption) (by first | omega | (simp; done) | (simp; omega) | (simp at *; omega))))))) hlt) HR.out hA hX hY).mono ?_
  rintro e w1 ⟨rfl, hbw1⟩
  have z1 := hbw1.size
  try simp at z1
  have c1_0 : w1.cell? ⟨w.heap.size, 0, none⟩ = some (.int .i64 0) := by rw [(bcell hbw1).1 _ _ (by first | (simp; done) | (simp; omega) | omega)]; simp [go_sem, World.cell?_alloc_past, *]
  have c1_1 : w1.cell? ⟨w.heap.size, 1, none⟩ = some (.int .i64 0) := by rw [(bcell hbw1).1 _ _ (by first | (simp; done) | (simp; omega) | omega)]; simp [go_sem, World.cell?_alloc_past, *]
  have c1_2 : w1.cell? ⟨w.heap.size, 2, none⟩ = some (.int .i64 0) := by rw [(bcell hbw1).1 _ _ (by first | (simp; done) | (simp; omega) | omega)]; simp [go_sem, World.cell?_alloc_past, *]
  have c1_3 : w1.cell? ⟨w.heap.size, 3, none⟩ = some (.int .i64 0) := by rw [(bcell hbw1).1 _ _ (by first | (simp; done) | (simp; omega) | omega)]; simp [go_sem, World.cell?_alloc_past, *]
  have c1_4 : w1.cell? ⟨w.heap.size, 4, none⟩ = some (.int .i64 0) := by rw [(bcell hbw1).1 _ _ (by first | (simp; done) | (simp; omega) | omega)]; simp [go_sem, World.cell?_alloc_past, *]
  have c1_5 : w1.cell? ⟨w.heap.size, 5, none⟩ = some (.int .i64 0) := by rw [(bcell hbw1).1 _ _ (by first | (simp; done) | (simp; omega) | omega)]; simp [go_sem, World.cell?_alloc_past, *]
  have hB1 : Below w.heap.size w w1 := (by (repeat (first | (with_reducible refine Below.drew ?_) | (with_reducible refine below_drewN ?_ _) | (with_reducible refine Below.alloc ?_ (by first | omega | (simp; done) | (simp; omega) | (simp at *; omega)) _) | (with_reducible refine Below.setCell ?_ (by first | omega | (simp; done) | (simp; omega) | (simp at *; omega)) _) | (with_reducible exact Below.refl _ _) | (with_reducible assumption) | (with_reducible refine Below.trans ?_ (Below.mono (by assumption) (by first | omega | (simp; done) | (simp; omega) | (simp at *; omega)))))))
  have fz1_0 : ∀ j, w1.frozen? ⟨w.heap.size, j, none⟩ = false := by intro j; rw [(bcell hbw1).2 _ _ (by first | (simp; done) | (simp; omega) | omega)]; first | (simp [go_sem, *]; done) | exact fz0_0 j
  have o1_0 : w.heap.size < w1.heap.size := by omega
  have n1_0 : w1.heap.size ≠ w.heap.size := by omega
  have t1_0_1 : w.heap.size < w1.heap.size + 1 := by omega
  have t1_0_2 : w.heap.size < w1.heap.size + 1 + 1 := by omega
  have t1_0_3 : w.heap.size < w1.heap.size + 1 + 1 + 1 := by omega
  have b1 : w.heap.size ≤ w1.heap.size := by omega
  clear hbw1
  go_wp2
  refine wp_loop_rounds 4 ?_
  rw [rounds_succ]
  go_wp2_with fail
  refine (baseLowest_is X T n0 d0 _ X0 (by omega) T0 (by omega) hn0 hd0).mono ?_
  rintro e w2 ⟨rfl, hbw2⟩
  have z2 := hbw2.size
  try simp at z2
  have c2_0 : w2.cell? ⟨w.heap.size, 0, none⟩ = some (.int .i64 0) := by rw [(bcell hbw2).1 _ _ (by first | (simp; done) | (simp; omega) | omega)]; simp [go_sem, World.cell?_alloc_past, *]
  have c2_1 : w2.cell? ⟨w.heap.size, 1, none⟩ = some (.int .i64 0) := by rw [(bcell hbw2).1 _ _ (by first | (simp; done) | (simp; omega) | omega)]; simp [go_sem, World.cell?_alloc_past, *]
  have c2_2 : w2.cell? ⟨w.heap.size, 2, none⟩ = some (.int .i64 0) := by rw [(bcell hbw2).1 _ _ (by first | (simp; done) | (simp; omega) | omega)]; simp [go_sem, World.cell?_alloc_past, *]
  have c2_3 : w2.cell? ⟨w.heap.size, 3, none⟩ = some (.int .i64 0) := by rw [(bcell hbw2).1 _ _ (by first | (simp; done) | (simp; omega) | omega)]; simp [go_sem, World.cell?_alloc_past, *]
  have c2_4 : w2.cell? ⟨w.heap.size, 4, none⟩ = some (.int .i64 0) := by rw [(bcell hbw2).1 _ _ (by first | (simp; done) | (simp; omega) | omega)]; simp [go_sem, World.cell?_alloc_past, *]
  have c2_5 : w2.cell? ⟨w.heap.size, 5, none⟩ = some (.int .i64 0) := by rw [(bcell hbw2).1 _ _ (by first | (simp; done) | (simp; omega) | omega)]; simp [go_sem, World.cell?_alloc_past, *]
  have c2_6 : w2.cell? ⟨w1.heap.size, 0, none⟩ = some (.int .i64 0) := by rw [(bcell hbw2).1 _ _ (by first | (simp; done) | (simp; omega) | omega)]; simp [go_sem, World.cell?_alloc_past, *]
  have c2_7 : w2.cell? ⟨w1.heap.size, 1, none⟩ = some (.int .i64 0) := by rw [(bcell hbw2).1 _ _ (by first | (simp; done) | (simp; omega) | omega)]; simp [go_sem, World.cell?_alloc_past, *]
  have c2_8 : w2.cell? ⟨w1.heap.size, 2, none⟩ = some (.int .i64 0) := by rw [(bcell hbw2).1 _ _ (by first | (simp; done) | (simp; omega) | omega)]; simp [go_sem, World.cell?_alloc_past, *]
  have c2_9 : w2.cell? ⟨w1.heap.size, 3, none⟩ = some (.int .i64 0) := by rw [(bcell hbw2).1 _ _ (by first | (simp; done) | (simp; omega) | omega)]; simp [go_sem, World.cell?_alloc_past, *]
  have c2_10 : w2.cell? ⟨w1.heap.size, 4, none⟩ = some (.int .i64 0) := by rw [(bcell hbw2).1 _ _ (by first | (simp; done) | (simp; omega) | omega)]; simp [go_sem, World.cell?_alloc_past, *]
  have c2_11 : w2.cell? ⟨w1.heap.size, 5, none⟩ = some (.int .i64 0) := by rw [(bcell hbw2).1 _ _ (by first | (simp; done) | (simp; omega) | omega)]; simp [go_sem, World.cell?_alloc_past, *]
  have c2_12 : w2.cell? ⟨w1.heap.size + 1, 0, none⟩ = some (.int .i64 X) := by rw [(bcell hbw2).1 _ _ (by first | (simp; done) | (simp; omega) | omega)]; simp [go_sem, World.cell?_alloc_past, *]
  have c2_13 : w2.cell? ⟨w1.heap.size + 1, 1, none⟩ = some (.int .i64 Y) := by rw [(bcell hbw2).1 _ _ (by first | (simp; done) | (simp; omega) | omega)]; simp [go_sem, World.cell?_alloc_past, *]
  have c2_14 : w2.cell? ⟨w1.heap.size + 1, 2, none⟩ = some (.int .i64 V) := by rw [(bcell hbw2).1 _ _ (by first | (simp; done) | (simp; omega) | omega)]; simp [go_sem, World.cell?_alloc_past, *]
  have hB2 : Below w.heap.size w w2 := (by (repeat (first | (with_reducible refine Below.drew ?_) | (with_reducible refine below_drewN ?_ _) | (with_reducible refine Below.alloc ?_ (by first | omega | (simp; done) | (simp; omega) | (simp at *; omega)) _) | (with_reducible refine Below.setCell ?_ (by first | omega | (simp; done) | (simp; omega) | (simp at *; omega)) _) | (with_reducible exact Below.refl _ _) | (with_reducible assumption) | (with_reducible refine Below.trans ?_ (Below.mono (by assumption) (by first | omega | (simp; done) | (simp; omega) | (simp at *; omega)))))))
  have fz2_0 : ∀ j, w2.frozen? ⟨w.heap.size, j, none⟩ = false := by intro j; rw [(bcell hbw2).2 _ _ (by first | (simp; done) | (simp; omega) | omega)]; first | (simp [go_sem, *]; done) | exact fz1_0 j
  have fz2_1 : ∀ j, w2.frozen? ⟨w1.heap.size, j, none⟩ = false := by intro j; rw [(bcell hbw2).2 _ _ (by first | (simp; done) | (simp; omega) | omega)]; first | (simp [go_sem, *]; done) | exact fz1_1 j
  clear c1_0 c1_1 c1_2 c1_3 c1_4 c1_5 o1_0 n1_0 t1_0_1 t1_0_2 t1_0_3
  have o2_0 : w.heap.size < w2.heap.size := by omega
  have n2_0 : w2.heap.size ≠ w.heap.size := by omega
  have t2_0_1 : w.heap.size < w2.heap.size + 1 := by omega
  have t2_0_2 : w.heap.size < w2.heap.size + 1 + 1 := by omega
  have t2_0_3 : w.heap.size < w2.heap.size + 1 + 1 + 1 := by omega
  have o2_1 : w1.heap.size < w2.heap.size := by omega
  have n2_1 : w2.heap.size ≠ w1.heap.size := by omega
  have t2_1_1 : w1.heap.size < w2.heap.size + 1 := by omega
  have t2_1_2 : w1.heap.size < w2.heap.size + 1 + 1 := by omega
  have t2_1_3 : w1.heap.size < w2.heap.size + 1 + 1 + 1 := by omega
  have o2_2 : w1.heap.size + 1 < w2.heap.size := by omega
  have n2_2 : w2.heap.size ≠ w1.heap.size + 1 := by omega
  have t2_2_1 : w1.heap.size + 1 < w2.heap.size + 1 := by omega
  have t2_2_2 : w1.heap.size + 1 < w2.heap.size + 1 + 1 := by omega
  have t2_2_3 : w1.heap.size + 1 < w2.heap.size + 1 + 1 + 1 := by omega
  have b2 : w.heap.size ≤ w2.heap.size := by omega
  clear hbw2
  go_wp2_with fail
  refine (baseIsSmall_is n0 d0 true _ hs0).mono ?_
  rintro e w3 ⟨rfl, hbw3⟩
  have z3 := hbw3.size
  try simp at z3
  have c3_0 : w3.cell? ⟨w.heap.size, 0, none⟩ = some (.int .i64 0) := by rw [(bcell hbw3).1 _ _ (by first | (simp; done) | (simp; omega) | omega)]; simp [go_sem, World.cell?_alloc_past, *]
  have c3_1 : w3.cell? ⟨w.heap.size, 1, none⟩ = some (.int .i64 0) := by rw [(bcell hbw3).1 _ _ (by first | (simp; done) | (simp; omega) | omega)]; simp [go_sem, World.cell?_alloc_past, *]
  have c3_2 : w3.cell? ⟨w.heap.size, 2, none⟩ = some (.int .i64 0) := by rw [(bcell hbw3).1 _ _ (by first | (simp; done) | (simp; omega) | omega)]; simp [go_sem, World.cell?_alloc_past, *]
  have c3_3 : w3.cell? ⟨w.heap.size, 3, none⟩ = some (.int .i64 0) := by rw [(bcell hbw3).1 _ _ (by first | (simp; done) | (simp; omega) | omega)]; simp [go_sem, World.cell?_alloc_past, *]
  have c3_4 : w3.cell? ⟨w.heap.size, 4, none⟩ = some (.int .i64 0) := by rw [(bcell hbw3).1 _ _ (by first | (simp; done) | (simp; omega) | omega)]; simp [go_sem, World.cell?_alloc_past, *]
  have c3_5 : w3.cell? ⟨w.heap.size, 5, none⟩ = some (.int .i64 0) := by rw [(bcell hbw3).1 _ _ (by first | (simp; done) | (simp; omega) | omega)]; simp [go_sem, World.cell?_alloc_past, *]
  have c3_6 : w3.cell? ⟨w1.heap.size, 0, none⟩ = some (.int .i64 n0) := by rw [(bcell hbw3).1 _ _ (by first | (simp; done) | (simp; omega) | omega)]; simp [go_sem, World.cell?_alloc_past, *]
  have c3_7 : w3.cell? ⟨w1.heap.size, 1, none⟩ = some (.int .i64 d0) := by rw [(bcell hbw3).1 _ _ (by first | (simp; done) | (simp; omega) | omega)]; simp [go_sem, World.cell?_alloc_past, *]
  have c3_8 : w3.cell? ⟨w1.heap.size, 2, none⟩ = some (.int .i64 0) := by rw [(bcell hbw3).1 _ _ (by first | (simp; done) | (simp; omega) | omega)]; simp [go_sem, World.cell?_alloc_past, *]
  have c3_9 : w3.cell? ⟨w1.heap.size, 3, none⟩ = some (.int .i64 0) := by rw [(bcell hbw3).1 _ _ (by first | (simp; done) | (simp; omega) | omega)]; simp [go_sem, World.cell?_alloc_past, *]
  have c3_10 : w3.cell? ⟨w1.heap.size, 4, none⟩ = some (.int .i64 0) := by rw [(bcell hbw3).1 _ _ (by first | (simp; done) | (simp; omega) | omega)]; simp [go_sem, World.cell?_alloc_past, *]
  have c3_11 : w3.cell? ⟨w1.heap.size, 5, none⟩ = some (.int .i64 0) := by rw [(bcell hbw3).1 _ _ (by first | (simp; done) | (simp; omega) | omega)]; simp [go_sem, World.cell?_alloc_past, *]
  have c3_12 : w3.cell? ⟨w1.heap.size + 1, 0, none⟩ = some (.int .i64 X) := by rw [(bcell hbw3).1 _ _ (by first | (simp; done) | (simp; omega) | omega)]; simp [go_sem, World.cell?_alloc_past, *]
  have c3_13 : w3.cell? ⟨w1.heap.size + 1, 1, none⟩ = some (.int .i64 Y) := by rw [(bcell hbw3).1 _ _ (by first | (simp; done) | (simp; omega) | omega)]; simp [go_sem, World.cell?_alloc_past, *]
  have c3_14 : w3.cell? ⟨w1.heap.size + 1, 2, none⟩ = some (.int .i64 V) := by rw [(bcell hbw3).1 _ _ (by first | (simp; done) | (simp; omega) | omega)]; simp [go_sem, World.cell?_alloc_past, *]
  have hB3 : Below w.heap.size w w3 := (by (repeat (first | (with_reducible refine Below.drew ?_) | (with_reducible refine below_drewN ?_ _) | (with_reducible refine Below.alloc ?_ (by first | omega | (simp; done) | (simp; omega) | (simp at *; omega)) _) | (with_reducible refine Below.setCell ?_ (by first | omega | (simp; done) | (simp; omega) | (simp at *; omega)) _) | (with_reducible exact Below.refl _ _) | (with_reducible assumption) | (with_reducible refine Below.trans ?_ (Below.mono (by assumption) (by first | omega | (simp; done) | (simp; omega) | (simp at *; omega)))))))
  have fz3_0 : ∀ j, w3.frozen? ⟨w.heap.size, j, none⟩ = false := by intro j; rw [(bcell hbw3).2 _ _ (by first | (simp; done) | (simp; omega) | omega)]; first | (simp [go_sem, *]; done) | exact fz2_0 j
  have fz3_1 : ∀ j, w3.frozen? ⟨w1.heap.size, j, none⟩ = false := by intro j; rw [(bcell hbw3).2 _ _ (by first | (simp; done) | (simp; omega) | omega)]; first | (simp [go_sem, *]; done) | exact fz2_1 j
  clear c2_0 c2_1 c2_2 c2_3 c2_4 c2_5 c2_6 c2_7 c2_8 c2_9 c2_10 c2_11 c2_12 c2_13 c2_14 o2_0 n2_0 t2_0_1 t2_0_2 t2_0_3 o2_1 n2_1 t2_1_1 t2_1_2 t2_1_3 o2_2 n2_2 t2_2_1 t2_2_2 t2_2_3
  have o3_0 : w.heap.size < w3.heap.size := by omega
  have n3_0 : w3.heap.size ≠ w.heap.size := by omega
  have t3_0_1 : w.heap.size < w3.heap.size + 1 := by omega
  have t3_0_2 : w.heap.size < w3.heap.size + 1 + 1 := by omega
  have t3_0_3 : w.heap.size < w3.heap.size + 1 + 1 + 1 := by omega
  have o3_1 : w1.heap.size < w3.heap.size := by omega
  have n3_1 : w3.heap.size ≠ w1.heap.size := by omega
  have t3_1_1 : w1.heap.size < w3.heap.size + 1 := by omega
  have t3_1_2 : w1.heap.size < w3.heap.size + 1 + 1 := by omega
  have t3_1_3 : w1.heap.size < w3.heap.size + 1 + 1 + 1 := by omega
  have o3_2 : w1.heap.size + 1 < w3.heap.size := by omega
  have n3_2 : w3.heap.size ≠ w1.heap.size + 1 := by omega
  have t3_2_1 : w1.heap.size + 1 < w3.heap.size + 1 := by omega
  have t3_2_2 : w1.heap.size + 1 < w3.heap.size + 1 + 1 := by omega
  have t3_2_3 : w1.heap.size + 1 < w3.heap.size + 1 + 1 + 1 := by omega
  have b3 : w.heap.size ≤ w3.heap.size := by omega
  clear hbw3
  go_wp2
  rw [rounds_succ]
  go_wp2_with fail
  refine (baseLowest_is Y T n1 d1 _ Y0 (by omega) T0 (by omega) hn1 hd1).mono ?_
  rintro e w4 ⟨rfl, hbw4⟩
  have z4 := hbw4.size
  try simp at z4
  have c4_0 : w4.cell? ⟨w.heap.size, 0, none⟩ = some (.int .i64 0) := by rw [(bcell hbw4).1 _ _ (by first | (simp; done) | (simp; omega) | omega)]; simp [go_sem, World.cell?_alloc_past, *]
  have c4_1 : w4.cell? ⟨w.heap.size, 1, none⟩ = some (.int .i64 0) := by rw [(bcell hbw4).1 _ _ (by first | (simp; done) | (simp; omega) | omega)]; simp [go_sem, World.cell?_alloc_past, *]
  have c4_2 : w4.cell? ⟨w.heap.size, 2, none⟩ = some (.int .i64 0) := by rw [(bcell hbw4).1 _ _ (by first | (simp; done) | (simp; omega) | omega)]; simp [go_sem, World.cell?_alloc_past, *]
  have c4_3 : w4.cell? ⟨w.heap.size, 3, none⟩ = some (.int .i64 0) := by rw [(bcell hbw4).1 _ _ (by first | (simp; done) | (simp; omega) | omega)]; simp [go_sem, World.cell?_alloc_past, *]
  have c4_4 : w4.cell? ⟨w.heap.size, 4, none⟩ = some (.int .i64 0) := by rw [(bcell hbw4).1 _ _ (by first | (simp; done) | (simp; omega) | omega)]; simp [go_sem, World.cell?_alloc_past, *]
  have c4_5 : w4.cell? ⟨w.heap.size, 5, none⟩ = some (.int .i64 0) := by rw [(bcell hbw4).1 _ _ (by first | (simp; done) | (simp; omega) | omega)]; simp [go_sem, World.cell?_alloc_past, *]
  have c4_6 : w4.cell? ⟨w1.heap.size, 0, none⟩ = some (.int .i64 n0) := by rw [(bcell hbw4).1 _ _ (by first | (simp; done) | (simp; omega) | omega)]; simp [go_sem, World.cell?_alloc_past, *]
  have c4_7 : w4.cell? ⟨w1.heap.size, 1, none⟩ = some (.int .i64 d0) := by rw [(bcell hbw4).1 _ _ (by first | (simp; done) | (simp; omega) | omega)]; simp [go_sem, World.cell?_alloc_past, *]
  have c4_8 : w4.cell? ⟨w1.heap.size, 2, none⟩ = some (.int .i64 0) := by rw [(bcell hbw4).1 _ _ (by first | (simp; done) | (simp; omega) | omega)]; simp [go_sem, World.cell?_alloc_past, *]
  have c4_9 : w4.cell? ⟨w1.heap.size, 3, none⟩ = some (.int .i64 0) := by rw [(bcell hbw4).1 _ _ (by first | (simp; done) | (simp; omega) | omega)]; simp [go_sem, World.cell?_alloc_past, *]
  have c4_10 : w4.cell? ⟨w1.heap.size, 4, none⟩ = some (.int .i64 0) := by rw [(bcell hbw4).1 _ _ (by first | (simp; done) | (simp; omega) | omega)]; simp [go_sem, World.cell?_alloc_past, *]
  have c4_11 : w4.cell? ⟨w1.heap.size, 5, none⟩ = some (.int .i64 0) := by rw [(bcell hbw4).1 _ _ (by first | (simp; done) | (simp; omega) | omega)]; simp [go_sem, World.cell?_alloc_past, *]
  have c4_12 : w4.cell? ⟨w1.heap.size + 1, 0, none⟩ = some (.int .i64 X) := by rw [(bcell hbw4).1 _ _ (by first | (simp; done) | (simp; omega) | omega)]; simp [go_sem, World.cell?_alloc_past, *]
  have c4_13 : w4.cell? ⟨w1.heap.size + 1, 1, none⟩ = some (.int .i64 Y) := by rw [(bcell hbw4).1 _ _ (by first | (simp; done) | (simp; omega) | omega)]; simp [go_sem, World.cell?_alloc_past, *]
  have c4_14 : w4.cell? ⟨w1.heap.size + 1, 2, none⟩ = some (.int .i64 V) := by rw [(bcell hbw4).1 _ _ (by first | (simp; done) | (simp; omega) | omega)]; simp [go_sem, World.cell?_alloc_past, *]
  have hB4 : Below w.heap.size w w4 := (by (repeat (first | (with_reducible refine Below.drew ?_) | (with_reducible refine below_drewN ?_ _) | (with_reducible refine Below.alloc ?_ (by first | omega | (simp; done) | (simp; omega) | (simp at *; omega)) _) | (with_reducible refine Below.setCell ?_ (by first | omega | (simp; done) | (simp; omega) | (simp at *; omega)) _) | (with_reducible exact Below.refl _ _) | (with_reducible assumption) | (with_reducible refine Below.trans ?_ (Below.mono (by assumption) (by first | omega | (simp; done) | (simp; omega) | (simp at *; omega)))))))
  have fz4_0 : ∀ j, w4.frozen? ⟨w.heap.size, j, none⟩ = false := by intro j; rw [(bcell hbw4).2 _ _ (by first | (simp; done) | (simp; omega) | omega)]; first | (simp [go_sem, *]; done) | exact fz3_0 j
  have fz4_1 : ∀ j, w4.frozen? ⟨w1.heap.size, j, none⟩ = false := by intro j; rw [(bcell hbw4).2 _ _ (by first | (simp; done) | (simp; omega) | omega)]; first | (simp [go_sem, *]; done) | exact fz3_1 j
  clear c3_0 c3_1 c3_2 c3_3 c3_4 c3_5 c3_6 c3_7 c3_8 c3_9 c3_10 c3_11 c3_12 c3_13 c3_14 o3_0 n3_0 t3_0_1 t3_0_2 t3_0_3 o3_1 n3_1 t3_1_1 t3_1_2 t3_1_3 o3_2 n3_2 t3_2_1 t3_2_2 t3_2_3
  have o4_0 : w.heap.size < w4.heap.size := by omega
  have n4_0 : w4.heap.size ≠ w.heap.size := by omega
  have t4_0_1 : w.heap.size < w4.heap.size + 1 := by omega
  have t4_0_2 : w.heap.size < w4.heap.size + 1 + 1 := by omega
  have t4_0_3 : w.heap.size < w4.heap.size + 1 + 1 + 1 := by omega
  have o4_1 : w1.heap.size < w4.heap.size := by omega
  have n4_1 : w4.heap.size ≠ w1.heap.size := by omega
  have t4_1_1 : w1.heap.size < w4.heap.size + 1 := by omega
  have t4_1_2 : w1.heap.size < w4.heap.size + 1 + 1 := by omega
  have t4_1_3 : w1.heap.size < w4.heap.size + 1 + 1 + 1 := by omega
  have o4_2 : w1.heap.size + 1 < w4.heap.size := by omega
  have n4_2 : w4.heap.size ≠ w1.heap.size + 1 := by omega
  have t4_2_1 : w1.heap.size + 1 < w4.heap.size + 1 := by omega
  have t4_2_2 : w1.heap.size + 1 < w4.heap.size + 1 + 1 := by omega
  have t4_2_3 : w1.heap.size + 1 < w4.heap.size + 1 + 1 + 1 := by omega
  have b4 : w.heap.size ≤ w4.heap.size := by omega
  clear hbw4
  go_wp2_with fail
  refine (baseIsSmall_is n1 d1 false _ hs1).mono ?_
  rintro e w5 ⟨rfl, hbw5⟩
  have z5 := hbw5.size
  try simp at z5
  have c5_0 : w5.cell? ⟨w.heap.size, 0, none⟩ = some (.int .i64 0) := by rw [(bcell hbw5).1 _ _ (by first | (simp; done) | (simp; omega) | omega)]; simp [go_sem, World.cell?_alloc_past, *]
  have c5_1 : w5.cell? ⟨w.heap.size, 1, none⟩ = some (.int .i64 0) := by rw [(bcell hbw5).1 _ _ (by first | (simp; done) | (simp; omega) | omega)]; simp [go_sem, World.cell?_alloc_past, *]
  have c5_2 : w5.cell? ⟨w.heap.size, 2, none⟩ = some (.int .i64 0) := by rw [(bcell hbw5).1 _ _ (by first | (simp; done) | (simp; omega) | omega)]; simp [go_sem, World.cell?_alloc_past, *]
  have c5_3 : w5.cell? ⟨w.heap.size, 3, none⟩ = some (.int .i64 0) := by rw [(bcell hbw5).1 _ _ (by first | (simp; done) | (simp; omega) | omega)]; simp [go_sem, World.cell?_alloc_past, *]
  have c5_4 : w5.cell? ⟨w.heap.size, 4, none⟩ = some (.int .i64 0) := by rw [(bcell hbw5).1 _ _ (by first | (simp; done) | (simp; omega) | omega)]; simp [go_sem, World.cell?_alloc_past, *]
  have c5_5 : w5.cell? ⟨w.heap.size, 5, none⟩ = some (.int .i64 0) := by rw [(bcell hbw5).1 _ _ (by first | (simp; done) | (simp; omega) | omega)]; simp [go_sem, World.cell?_alloc_past, *]
  have c5_6 : w5.cell? ⟨w1.heap.size, 0, none⟩ = some (.int .i64 n0) := by rw [(bcell hbw5).1 _ _ (by first | (simp; done) | (simp; omega) | omega)]; simp [go_sem, World.cell?_alloc_past, *]
  have c5_7 : w5.cell? ⟨w1.heap.size, 1, none⟩ = some (.int .i64 d0) := by rw [(bcell hbw5).1 _ _ (by first | (simp; done) | (simp; omega) | omega)]; simp [go_sem, World.cell?_alloc_past, *]
  have c5_8 : w5.cell? ⟨w1.heap.size, 2, none⟩ = some (.int .i64 n1) := by rw [(bcell hbw5).1 _ _ (by first | (simp; done) | (simp; omega) | omega)]; simp [go_sem, World.cell?_alloc_past, *]
  have c5_9 : w5.cell? ⟨w1.heap.size, 3, none⟩ = some (.int .i64 d1) := by rw [(bcell hbw5).1 _ _ (by first | (simp; done) | (simp; omega) | omega)]; simp [go_sem, World.cell?_alloc_past, *]
  have c5_10 : w5.cell? ⟨w1.heap.size, 4, none⟩ = some (.int .i64 0) := by rw [(bcell hbw5).1 _ _ (by first | (simp; done) | (simp; omega) | omega)]; simp [go_sem, World.cell?_alloc_past, *]
  have c5_11 : w5.cell? ⟨w1.heap.size, 5, none⟩ = some (.int .i64 0) := by rw [(bcell hbw5).1 _ _ (by first | (simp; done) | (simp; omega) | omega)]; simp [go_sem, World.cell?_alloc_past, *]
  have c5_12 : w5.cell? ⟨w1.heap.size + 1, 0, none⟩ = some (.int .i64 X) := by rw [(bcell hbw5).1 _ _ (by first | (simp; done) | (simp; omega) | omega)]; simp [go_sem, World.cell?_alloc_past, *]
  have c5_13 : w5.cell? ⟨w1.heap.size + 1, 1, none⟩ = some (.int .i64 Y) := by rw [(bcell hbw5).1 _ _ (by first | (simp; done) | (simp; omega) | omega)]; simp [go_sem, World.cell?_alloc_past, *]
  have c5_14 : w5.cell? ⟨w1.heap.size + 1, 2, none⟩ = some (.int .i64 V) := by rw [(bcell hbw5).1 _ _ (by first | (simp; done) | (simp; omega) | omega)]; simp [go_sem, World.cell?_alloc_past, *]
  have hB5 : Below w.heap.size w w5 := (by (repeat (first | (with_reducible refine Below.drew ?_) | (with_reducible refine below_drewN ?_ _) | (with_reducible refine Below.alloc ?_ (by first | omega | (simp; done) | (simp; omega) | (simp at *; omega)) _) | (with_reducible refine Below.setCell ?_ (by first | omega | (simp; done) | (simp; omega) | (simp at *; omega)) _) | (with_reducible exact Below.refl _ _) | (with_reducible assumption) | (with_reducible refine Below.trans ?_ (Below.mono (by assumption) (by first | omega | (simp; done) | (simp; omega) | (simp at *; omega)))))))
  have fz5_0 : ∀ j, w5.frozen? ⟨w.heap.size, j, none⟩ = false := by intro j; rw [(bcell hbw5).2 _ _ (by first | (simp; done) | (simp; omega) | omega)]; first | (simp [go_sem, *]; done) | exact fz4_0 j
  have fz5_1 : ∀ j, w5.frozen? ⟨w1.heap.size, j, none⟩ = false := by intro j; rw [(bcell hbw5).2 _ _ (by first | (simp; done) | (simp; omega) | omega)]; first | (simp [go_sem, *]; done) | exact fz4_1 j
  clear c4_0 c4_1 c4_2 c4_3 c4_4 c4_5 c4_6 c4_7 c4_8 c4_9 c4_10 c4_11 c4_12 c4_13 c4_14 o4_0 n4_0 t4_0_1 t4_0_2 t4_0_3 o4_1 n4_1 t4_1_1 t4_1_2 t4_1_3 o4_2 n4_2 t4_2_1 t4_2_2 t4_2_3
  have o5_0 : w.heap.size < w5.heap.size := by omega
  have n5_0 : w5.heap.size ≠ w.heap.size := by omega
  have t5_0_1 : w.heap.size < w5.heap.size + 1 := by omega
  have t5_0_2 : w.heap.size < w5.heap.size + 1 + 1 := by omega
  have t5_0_3 : w.heap.size < w5.heap.size + 1 + 1 + 1 := by omega
  have o5_1 : w1.heap.size < w5.heap.size := by omega
  have n5_1 : w5.heap.size ≠ w1.heap.size := by omega
  have t5_1_1 : w1.heap.size < w5.heap.size + 1 := by omega
  have t5_1_2 : w1.heap.size < w5.heap.size + 1 + 1 := by omega
  have t5_1_3 : w1.heap.size < w5.heap.size + 1 + 1 + 1 := by omega
  have o5_2 : w1.heap.size + 1 < w5.heap.size := by omega
  have n5_2 : w5.heap.size ≠ w1.heap.size + 1 := by omega
  have t5_2_1 : w1.heap.size + 1 < w5.heap.size + 1 := by omega
  have t5_2_2 : w1.heap.size + 1 < w5.heap.size + 1 + 1 := by omega
  have t5_2_3 : w1.heap.size + 1 < w5.heap.size + 1 + 1 + 1 := by omega
  have b5 : w.heap.size ≤ w5.heap.size := by omega
  clear hbw5
  go_wp2
  refine bodyPost_ret (v := .tuple #[.agg #[.int .i64 0, .int .i64 0, .int .i64 0, .int .i64 0, .int .i64 0, .int .i64 0], .int .i64 8]) (by simp [results, Tryd.results60, go_sem, *]) rfl ⟨rfl, ?_⟩
  (repeat (first | (with_reducible refine Below.drew ?_) | (with_reducible refine below_drewN ?_ _) | (with_reducible refine Below.alloc ?_ (by first | omega | (simp; done) | (simp; omega) | (simp at *; omega)) _) | (with_reducible refine Below.setCell ?_ (by first | omega | (simp; done) | (simp; omega) | (simp at *; omega)) _) | (with_reducible exact Below.refl _ _) | (with_reducible assumption) | (with_reducible refine Below.trans ?_ (Below.mono (by assumption) (by first | omega | (simp; done) | (simp; omega) | (simp at *; omega))))))
set_option maxRecDepth 100000 in
set_option maxHeartbeats 4000000 in
theorem refMixed_c2 (P : List Part) (b off cap : Nat) (w : World) (hl : P.length ≤ 12) (hlt : b < w.heap.size) (hP : PartsAt w b off P) (hR : ∀ p ∈ P, p.Right) (A X Y V T : Int) (hA : Hid (sumF pA P = A)) (hX : Hid (sumF pO P = X)) (hY : Hid (sumF pH P = Y)) (hT : 1000 * A = T) (hV : T - X - Y = V) (T0 : 0 < T) (T1 : T ≤ 12000000000000) (X0 : 0 ≤ X) (X1 : X ≤ T) (Y0 : 0 ≤ Y) (Y1 : Y ≤ T) (V0 : 0 ≤ V) (V1 : V ≤ T) (n0 d0 : Int) (hn0 : Hid (X / gcdI X T = n0)) (hd0 : Hid (T / gcdI X T = d0)) (hs0 : Hid ((inB n0 (-1000000000) 1000000000 && inB d0 1 1000000000) = true)) (n1 d1 : Int) (hn1 : Hid (Y / gcdI Y T = n1)) (hd1 : Hid (T / gcdI Y T = d1)) (hs1 : Hid ((inB n1 (-1000000000) 1000000000 && inB d1 1 1000000000) = true)) (n2 d2 : Int) (hn2 : Hid (V / gcdI V T = n2)) (hd2 : Hid (T / gcdI V T = d2)) (hs2 : Hid ((inB n2 (-1000000000) 1000000000 && inB d2 1 1000000000) = false)) :
    Calls Tryd.prog 60 #[.slice (some ⟨b, off, none⟩) P.length cap] w fun e w' => e = .returned (.tuple #[.agg #[.int .i64 0, .int .i64 0, .int .i64 0, .int .i64 0, .int .i64 0, .int .i64 0], .int .i64 8]) ∧ Below w.heap.size w w' := by
  have HP : Hid (PartsAt w b off P) := hP
  have HR : Hid (∀ p ∈ P, p.Right) := hR
  clear hP hR
  have a1 : IntKind.i64.wrap (1000 * A) = T := by rw [hT]; exact IntWalk.i64_in _ (by omega)
  have a2 : IntKind.i64.wrap (T - X) = T - X := IntWalk.i64_in _ (by omega)
  have a3 : IntKind.i64.wrap (T - X - Y) = V := by rw [hV]; exact IntWalk.i64_in _ (by omega)
  go_enter Tryd.func60, Tryd.ntmps60
  go_wp2_with fail
  refine (refSums_is P b off cap A X Y _ hl (by simp; omega) (HP.out.below (by (repeat (first | (with_reducible refine Below.drew ?_) | (with_reducible refine below_drewN ?_ _) | (with_reducible refine Below.alloc ?_ (by first | omega | (simp; done) | (simp; omega) | (simp at *; omega)) _) | (with_reducible refine Below.setCell ?_ (by first | omega | (simp; done) | (simp; omega) | (simp at *; omega)) _) | (with_reducible exact Below.refl _ _) | (with_reducible assumption) | (with_reducible refine Below.trans ?_ (Below.mono (by assumption) (by first | omega | (simp; done) | (simp; omega) | (simp at *; omega))))))) hlt) HR.out hA hX hY).mono ?_
  rintro e w1 ⟨rfl, hbw1⟩
  have z1 := hbw1.size
  try simp at z1
  have c1_0 : w1.cell? ⟨w.heap.size, 0, none⟩ = some (.int .i64 0) := by rw [(bcell hbw1).1 _ _ (by first | (simp; done) | (simp; omega) | omega)]; simp [go_sem, World.cell?_alloc_past, *]
  have c1_1 : w1.cell? ⟨w.heap.size, 1, none⟩ = some (.int .i64 0) := by rw [(bcell hbw1).1 _ _ (by first | (simp; done) | (simp; omega) | omega)]; simp [go_sem, World.cell?_alloc_past, *]
  have c1_2 : w1.cell? ⟨w.heap.size, 2, none⟩ = some (.int .i64 0) := by rw [(bcell hbw1).1 _ _ (by first | (simp; done) | (simp; omega) | omega)]; simp [go_sem, World.cell?_alloc_past, *]
  have c1_3 : w1.cell? ⟨w.heap.size, 3, none⟩ = some (.int .i64 0) := by rw [(bcell hbw1).1 _ _ (by first | (simp; done) | (simp; omega) | omega)]; simp [go_sem, World.cell?_alloc_past, *]
  have c1_4 : w1.cell? ⟨w.heap.size, 4, none⟩ = some (.int .i64 0) := by rw [(bcell hbw1).1 _ _ (by first | (simp; done) | (simp; omega) | omega)]; simp [go_sem, World.cell?_alloc_past, *]
  have c1_5 : w1.cell? ⟨w.heap.size, 5, none⟩ = some (.int .i64 0) := by rw [(bcell hbw1).1 _ _ (by first | (simp; done) | (simp; omega) | omega)]; simp [go_sem, World.cell?_alloc_past, *]
  have hB1 : Below w.heap.size w w1 := (by (repeat (first | (with_reducible refine Below.drew ?_) | (with_reducible refine below_drewN ?_ _) | (with_reducible refine Below.alloc ?_ (by first | omega | (simp; done) | (simp; omega) | (simp at *; omega)) _) | (with_reducible refine Below.setCell ?_ (by first | omega | (simp; done) | (simp; omega) | (simp at *; omega)) _) | (with_reducible exact Below.refl _ _) | (with_reducible assumption) | (with_reducible refine Below.trans ?_ (Below.mono (by assumption) (by first | omega | (simp; done) | (simp; omega) | (simp at *; omega)))))))
  have fz1_0 : ∀ j, w1.frozen? ⟨w.heap.size, j, none⟩ = false := by intro j; rw [(bcell hbw1).2 _ _ (by first | (simp; done) | (simp; omega) | omega)]; first | (simp [go_sem, *]; done) | exact fz0_0 j
  have o1_0 : w.heap.size < w1.heap.size := by omega
  have n1_0 : w1.heap.size ≠ w.heap.size := by omega
  have t1_0_1 : w.heap.size < w1.heap.size + 1 := by omega
  have t1_0_2 : w.heap.size < w1.heap.size + 1 + 1 := by omega
  have t1_0_3 : w.heap.size < w1.heap.size + 1 + 1 + 1 := by omega
  have b1 : w.heap.size ≤ w1.heap.size := by omega
  clear hbw1
  go_wp2
  refine wp_loop_rounds 4 ?_
  rw [rounds_succ]
  go_wp2_with fail
  refine (baseLowest_is X T n0 d0 _ X0 (by omega) T0 (by omega) hn0 hd0).mono ?_
  rintro e w2 ⟨rfl, hbw2⟩
  have z2 := hbw2.size
  try simp at z2
  have c2_0 : w2.cell? ⟨w.heap.size, 0, none⟩ = some (.int .i64 0) := by rw [(bcell hbw2).1 _ _ (by first | (simp; done) | (simp; omega) | omega)]; simp [go_sem, World.cell?_alloc_past, *]
  have c2_1 : w2.cell? ⟨w.heap.size, 1, none⟩ = some (.int .i64 0) := by rw [(bcell hbw2).1 _ _ (by first | (simp; done) | (simp; omega) | omega)]; simp [go_sem, World.cell?_alloc_past, *]
  have c2_2 : w2.cell? ⟨w.heap.size, 2, none⟩ = some (.int .i64 0) := by rw [(bcell hbw2).1 _ _ (by first | (simp; done) | (simp; omega) | omega)]; simp [go_sem, World.cell?_alloc_past, *]
  have c2_3 : w2.cell? ⟨w.heap.size, 3, none⟩ = some (.int .i64 0) := by rw [(bcell hbw2).1 _ _ (by first | (simp; done) | (simp; omega) | omega)]; simp [go_sem, World.cell?_alloc_past, *]
  have c2_4 : w2.cell? ⟨w.heap.size, 4, none⟩ = some (.int .i64 0) := by rw [(bcell hbw2).1 _ _ (by first | (simp; done) | (simp; omega) | omega)]; simp [go_sem, World.cell?_alloc_past, *]
  have c2_5 : w2.cell? ⟨w.heap.size, 5, none⟩ = some (.int .i64 0) := by rw [(bcell hbw2).1 _ _ (by first | (simp; done) | (simp; omega) | omega)]; simp [go_sem, World.cell?_alloc_past, *]
  have c2_6 : w2.cell? ⟨w1.heap.size, 0, none⟩ = some (.int .i64 0) := by rw [(bcell hbw2).1 _ _ (by first | (simp; done) | (simp; omega) | omega)]; simp [go_sem, World.cell?_alloc_past, *]
  have c2_7 : w2.cell? ⟨w1.heap.size, 1, none⟩ = some (.int .i64 0) := by rw [(bcell hbw2).1 _ _ (by first | (simp; done) | (simp; omega) | omega)]; simp [go_sem, World.cell?_alloc_past, *]
  have c2_8 : w2.cell? ⟨w1.heap.size, 2, none⟩ = some (.int .i64 0) := by rw [(bcell hbw2).1 _ _ (by first | (simp; done) | (simp; omega) | omega)]; simp [go_sem, World.cell?_alloc_past, *]
  have c2_9 : w2.cell? ⟨w1.heap.size, 3, none⟩ = some (.int .i64 0) := by rw [(bcell hbw2).1 _ _ (by first | (simp; done) | (simp; omega) | omega)]; simp [go_sem, World.cell?_alloc_past, *]
  have c2_10 : w2.cell? ⟨w1.heap.size, 4, none⟩ = some (.int .i64 0) := by rw [(bcell hbw2).1 _ _ (by first | (simp; done) | (simp; omega) | omega)]; simp [go_sem, World.cell?_alloc_past, *]
  have c2_11 : w2.cell? ⟨w1.heap.size, 5, none⟩ = some (.int .i64 0) := by rw [(bcell hbw2).1 _ _ (by first | (simp; done) | (simp; omega) | omega)]; simp [go_sem, World.cell?_alloc_past, *]
  have c2_12 : w2.cell? ⟨w1.heap.size + 1, 0, none⟩ = some (.int .i64 X) := by rw [(bcell hbw2).1 _ _ (by first | (simp; done) | (simp; omega) | omega)]; simp [go_sem, World.cell?_alloc_past, *]
  have c2_13 : w2.cell? ⟨w1.heap.size + 1, 1, none⟩ = some (.int .i64 Y) := by rw [(bcell hbw2).1 _ _ (by first | (simp; done) | (simp; omega) | omega)]; simp [go_sem, World.cell?_alloc_past, *]
  have c2_14 : w2.cell? ⟨w1.heap.size + 1, 2, none⟩ = some (.int .i64 V) := by rw [(bcell hbw2).1 _ _ (by first | (simp; done) | (simp; omega) | omega)]; simp [go_sem, World.cell?_alloc_past, *]
  have hB2 : Below w.heap.size w w2 := (by (repeat (first | (with_reducible refine Below.drew ?_) | (with_reducible refine below_drewN ?_ _) | (with_reducible refine Below.alloc ?_ (by first | omega | (simp; done) | (simp; omega) | (simp at *; omega)) _) | (with_reducible refine Below.setCell ?_ (by first | omega | (simp; done) | (simp; omega) | (simp at *; omega)) _) | (with_reducible exact Below.refl _ _) | (with_reducible assumption) | (with_reducible refine Below.trans ?_ (Below.mono (by assumption) (by first | omega | (simp; done) | (simp; omega) | (simp at *; omega)))))))
  have fz2_0 : ∀ j, w2.frozen? ⟨w.heap.size, j, none⟩ = false := by intro j; rw [(bcell hbw2).2 _ _ (by first | (simp; done) | (simp; omega) | omega)]; first | (simp [go_sem, *]; done) | exact fz1_0 j
  have fz2_1 : ∀ j, w2.frozen? ⟨w1.heap.size, j, none⟩ = false := by intro j; rw [(bcell hbw2).2 _ _ (by first | (simp; done) | (simp; omega) | omega)]; first | (simp [go_sem, *]; done) | exact fz1_1 j
  clear c1_0 c1_1 c1_2 c1_3 c1_4 c1_5 o1_0 n1_0 t1_0_1 t1_0_2 t1_0_3
  have o2_0 : w.heap.size < w2.heap.size := by omega
  have n2_0 : w2.heap.size ≠ w.heap.size := by omega
  have t2_0_1 : w.heap.size < w2.heap.size + 1 := by omega
  have t2_0_2 : w.heap.size < w2.heap.size + 1 + 1 := by omega
  have t2_0_3 : w.heap.size < w2.heap.size + 1 + 1 + 1 := by omega
  have o2_1 : w1.heap.size < w2.heap.size := by omega
  have n2_1 : w2.heap.size ≠ w1.heap.size := by omega
  have t2_1_1 : w1.heap.size < w2.heap.size + 1 := by omega
  have t2_1_2 : w1.heap.size < w2.heap.size + 1 + 1 := by omega
  have t2_1_3 : w1.heap.size < w2.heap.size + 1 + 1 + 1 := by omega
  have o2_2 : w1.heap.size + 1 < w2.heap.size := by omega
  have n2_2 : w2.heap.size ≠ w1.heap.size + 1 := by omega
  have t2_2_1 : w1.heap.size + 1 < w2.heap.size + 1 := by omega
  have t2_2_2 : w1.heap.size + 1 < w2.heap.size + 1 + 1 := by omega
  have t2_2_3 : w1.heap.size + 1 < w2.heap.size + 1 + 1 + 1 := by omega
  have b2 : w.heap.size ≤ w2.heap.size := by omega
  clear hbw2
  go_wp2_with fail
  refine (baseIsSmall_is n0 d0 true _ hs0).mono ?_
  rintro e w3 ⟨rfl, hbw3⟩
  have z3 := hbw3.size
  try simp at z3
  have c3_0 : w3.cell? ⟨w.heap.size, 0, none⟩ = some (.int .i64 0) := by rw [(bcell hbw3).1 _ _ (by first | (simp; done) | (simp; omega) | omega)]; simp [go_sem, World.cell?_alloc_past, *]
  have c3_1 : w3.cell? ⟨w.heap.size, 1, none⟩ = some (.int .i64 0) := by rw [(bcell hbw3).1 _ _ (by first | (simp; done) | (simp; omega) | omega)]; simp [go_sem, World.cell?_alloc_past, *]
  have c3_2 : w3.cell? ⟨w.heap.size, 2, none⟩ = some (.int .i64 0) := by rw [(bcell hbw3).1 _ _ (by first | (simp; done) | (simp; omega) | omega)]; simp [go_sem, World.cell?_alloc_past, *]
  have c3_3 : w3.cell? ⟨w.heap.size, 3, none⟩ = some (.int .i64 0) := by rw [(bcell hbw3).1 _ _ (by first | (simp; done) | (simp; omega) | omega)]; simp [go_sem, World.cell?_alloc_past, *]
  have c3_4 : w3.cell? ⟨w.heap.size, 4, none⟩ = some (.int .i64 0) := by rw [(bcell hbw3).1 _ _ (by first | (simp; done) | (simp; omega) | omega)]; simp [go_sem, World.cell?_alloc_past, *]
  have c3_5 : w3.cell? ⟨w.heap.size, 5, none⟩ = some (.int .i64 0) := by rw [(bcell hbw3).1 _ _ (by first | (simp; done) | (simp; omega) | omega)]; simp [go_sem, World.cell?_alloc_past, *]
  have c3_6 : w3.cell? ⟨w1.heap.size, 0, none⟩ = some (.int .i64 n0) := by rw [(bcell hbw3).1 _ _ (by first | (simp; done) | (simp; omega) | omega)]; simp [go_sem, World.cell?_alloc_past, *]
  have c3_7 : w3.cell? ⟨w1.heap.size, 1, none⟩ = some (.int .i64 d0) := by rw [(bcell hbw3).1 _ _ (by first | (simp; done) | (simp; omega) | omega)]; simp [go_sem, World.cell?_alloc_past, *]
  have c3_8 : w3.cell? ⟨w1.heap.size, 2, none⟩ = some (.int .i64 0) := by rw [(bcell hbw3).1 _ _ (by first | (simp; done) | (simp; omega) | omega)]; simp [go_sem, World.cell?_alloc_past, *]
  have c3_9 : w3.cell? ⟨w1.heap.size, 3, none⟩ = some (.int .i64 0) := by rw [(bcell hbw3).1 _ _ (by first | (simp; done) | (simp; omega) | omega)]; simp [go_sem, World.cell?_alloc_past, *]
  have c3_10 : w3.cell? ⟨w1.heap.size, 4, none⟩ = some (.int .i64 0) := by rw [(bcell hbw3).1 _ _ (by first | (simp; done) | (simp; omega) | omega)]; simp [go_sem, World.cell?_alloc_past, *]
  have c3_11 : w3.cell? ⟨w1.heap.size, 5, none⟩ = some (.int .i64 0) := by rw [(bcell hbw3).1 _ _ (by first | (simp; done) | (simp; omega) | omega)]; simp [go_sem, World.cell?_alloc_past, *]
  have c3_12 : w3.cell? ⟨w1.heap.size + 1, 0, none⟩ = some (.int .i64 X) := by rw [(bcell hbw3).1 _ _ (by first | (simp; done) | (simp; omega) | omega)]; simp [go_sem, World.cell?_alloc_past, *]
  have c3_13 : w3.cell? ⟨w1.heap.size + 1, 1, none⟩ = some (.int .i64 Y) := by rw [(bcell hbw3).1 _ _ (by first | (simp; done) | (simp; omega) | omega)]; simp [go_sem, World.cell?_alloc_past, *]
  have c3_14 : w3.cell? ⟨w1.heap.size + 1, 2, none⟩ = some (.int .i64 V) := by rw [(bcell hbw3).1 _ _ (by first | (simp; done) | (simp; omega) | omega)]; simp [go_sem, World.cell?_alloc_past, *]
  have hB3 : Below w.heap.size w w3 := (by (repeat (first | (with_reducible refine Below.drew ?_) | (with_reducible refine below_drewN ?_ _) | (with_reducible refine Below.alloc ?_ (by first | omega | (simp; done) | (simp; omega) | (simp at *; omega)) _) | (with_reducible refine Below.setCell ?_ (by first | omega | (simp; done) | (simp; omega) | (simp at *; omega)) _) | (with_reducible exact Below.refl _ _) | (with_reducible assumption) | (with_reducible refine Below.trans ?_ (Below.mono (by assumption) (by first | omega | (simp; done) | (simp; omega) | (simp at *; omega)))))))
  have fz3_0 : ∀ j, w3.frozen? ⟨w.heap.size, j, none⟩ = false := by intro j; rw [(bcell hbw3).2 _ _ (by first | (simp; done) | (simp; omega) | omega)]; first | (simp [go_sem, *]; done) | exact fz2_0 j
  have fz3_1 : ∀ j, w3.frozen? ⟨w1.heap.size, j, none⟩ = false := by intro j; rw [(bcell hbw3).2 _ _ (by first | (simp; done) | (simp; omega) | omega)]; first | (simp [go_sem, *]; done) | exact fz2_1 j
  clear c2_0 c2_1 c2_2 c2_3 c2_4 c2_5 c2_6 c2_7 c2_8 c2_9 c2_10 c2_11 c2_12 c2_13 c2_14 o2_0 n2_0 t2_0_1 t2_0_2 t2_0_3 o2_1 n2_1 t2_1_1 t2_1_2 t2_1_3 o2_2 n2_2 t2_2_1 t2_2_2 t2_2_3
  have o3_0 : w.heap.size < w3.heap.size := by omega
  have n3_0 : w3.heap.size ≠ w.heap.size := by omega
  have t3_0_1 : w.heap.size < w3.heap.size + 1 := by omega
  have t3_0_2 : w.heap.size < w3.heap.size + 1 + 1 := by omega
  have t3_0_3 : w.heap.size < w3.heap.size + 1 + 1 + 1 := by omega
  have o3_1 : w1.heap.size < w3.heap.size := by omega
  have n3_1 : w3.heap.size ≠ w1.heap.size := by omega
  have t3_1_1 : w1.heap.size < w3.heap.size + 1 := by omega
  have t3_1_2 : w1.heap.size < w3.heap.size + 1 + 1 := by omega
  have t3_1_3 : w1.heap.size < w3.heap.size + 1 + 1 + 1 := by omega
  have o3_2 : w1.heap.size + 1 < w3.heap.size := by omega
  have n3_2 : w3.heap.size ≠ w1.heap.size + 1 := by omega
  have t3_2_1 : w1.heap.size + 1 < w3.heap.size + 1 := by omega
  have t3_2_2 : w1.heap.size + 1 < w3.heap.size + 1 + 1 := by omega
  have t3_2_3 : w1.heap.size + 1 < w3.heap.size + 1 + 1 + 1 := by omega
  have b3 : w.heap.size ≤ w3.heap.size := by omega
  clear hbw3
  go_wp2
  rw [rounds_succ]
  go_wp2_with fail
  refine (baseLowest_is Y T n1 d1 _ Y0 (by omega) T0 (by omega) hn1 hd1).mono ?_
  rintro e w4 ⟨rfl, hbw4⟩
  have z4 := hbw4.size
  try simp at z4
  have c4_0 : w4.cell? ⟨w.heap.size, 0, none⟩ = some (.int .i64 0) := by rw [(bcell hbw4).1 _ _ (by first | (simp; done) | (simp; omega) | omega)]; simp [go_sem, World.cell?_alloc_past, *]
  have c4_1 : w4.cell? ⟨w.heap.size, 1, none⟩ = some (.int .i64 0) := by rw [(bcell hbw4).1 _ _ (by first | (simp; done) | (simp; omega) | omega)]; simp [go_sem, World.cell?_alloc_past, *]
  have c4_2 : w4.cell? ⟨w.heap.size, 2, none⟩ = some (.int .i64 0) := by rw [(bcell hbw4).1 _ _ (by first | (simp; done) | (simp; omega) | omega)]; simp [go_sem, World.cell?_alloc_past, *]
  have c4_3 : w4.cell? ⟨w.heap.size, 3, none⟩ = some (.int .i64 0) := by rw [(bcell hbw4).1 _ _ (by first | (simp; done) | (simp; omega) | omega)]; simp [go_sem, World.cell?_alloc_past, *]
  have c4_4 : w4.cell? ⟨w.heap.size, 4, none⟩ = some (.int .i64 0) := by rw [(bcell hbw4).1 _ _ (by first | (simp; done) | (simp; omega) | omega)]; simp [go_sem, World.cell?_alloc_past, *]
  have c4_5 : w4.cell? ⟨w.heap.size, 5, none⟩ = some (.int .i64 0) := by rw [(bcell hbw4).1 _ _ (by first | (simp; done) | (simp; omega) | omega)]; simp [go_sem, World.cell?_alloc_past, *]
  have c4_6 : w4.cell? ⟨w1.heap.size, 0, none⟩ = some (.int .i64 n0) := by rw [(bcell hbw4).1 _ _ (by first | (simp; done) | (simp; omega) | omega)]; simp [go_sem, World.cell?_alloc_past, *]
  have c4_7 : w4.cell? ⟨w1.heap.size, 1, none⟩ = some (.int .i64 d0) := by rw [(bcell hbw4).1 _ _ (by first | (simp; done) | (simp; omega) | omega)]; simp [go_sem, World.cell?_alloc_past, *]
  have c4_8 : w4.cell? ⟨w1.heap.size, 2, none⟩ = some (.int .i64 0) := by rw [(bcell hbw4).1 _ _ (by first | (simp; done) | (simp; omega) | omega)]; simp [go_sem, World.cell?_alloc_past, *]
  have c4_9 : w4.cell? ⟨w1.heap.size, 3, none⟩ = some (.int .i64 0) := by rw [(bcell hbw4).1 _ _ (by first | (simp; done) | (simp; omega) | omega)]; simp [go_sem, World.cell?_alloc_past, *]
  have c4_10 : w4.cell? ⟨w1.heap.size, 4, none⟩ = some (.int .i64 0) := by rw [(bcell hbw4).1 _ _ (by first | (simp; done) | (simp; omega) | omega)]; simp [go_sem, World.cell?_alloc_past, *]
  have c4_11 : w4.cell? ⟨w1.heap.size, 5, none⟩ = some (.int .i64 0) := by rw [(bcell hbw4).1 _ _ (by first | (simp; done) | (simp; omega) | omega)]; simp [go_sem, World.cell?_alloc_past, *]
  have c4_12 : w4.cell? ⟨w1.heap.size + 1, 0, none⟩ = some (.int .i64 X) := by rw [(bcell hbw4).1 _ _ (by first | (simp; done) | (simp; omega) | omega)]; simp [go_sem, World.cell?_alloc_past, *]
  have c4_13 : w4.cell? ⟨w1.heap.size + 1, 1, none⟩ = some (.int .i64 Y) := by rw [(bcell hbw4).1 _ _ (by first | (simp; done) | (simp; omega) | omega)]; simp [go_sem, World.cell?_alloc_past, *]
  have c4_14 : w4.cell? ⟨w1.heap.size + 1, 2, none⟩ = some (.int .i64 V) := by rw [(bcell hbw4).1 _ _ (by first | (simp; done) | (simp; omega) | omega)]; simp [go_sem, World.cell?_alloc_past, *]
  have hB4 : Below w.heap.size w w4 := (by (repeat (first | (with_reducible refine Below.drew ?_) | (with_reducible refine below_drewN ?_ _) | (with_reducible refine Below.alloc ?_ (by first | omega | (simp; done) | (simp; omega) | (simp at *; omega)) _) | (with_reducible refine Below.setCell ?_ (by first | omega | (simp; done) | (simp; omega) | (simp at *; omega)) _) | (with_reducible exact Below.refl _ _) | (with_reducible assumption) | (with_reducible refine Below.trans ?_ (Below.mono (by assumption) (by first | omega | (simp; done) | (simp; omega) | (simp at *; omega)))))))
  have fz4_0 : ∀ j, w4.frozen? ⟨w.heap.size, j, none⟩ = false := by intro j; rw [(bcell hbw4).2 _ _ (by first | (simp; done) | (simp; omega) | omega)]; first | (simp [go_sem, *]; done) | exact fz3_0 j
  have fz4_1 : ∀ j, w4.frozen? ⟨w1.heap.size, j, none⟩ = false := by intro j; rw [(bcell hbw4).2 _ _ (by first | (simp; done) | (simp; omega) | omega)]; first | (simp [go_sem, *]; done) | exact fz3_1 j
  clear c3_0 c3_1 c3_2 c3_3 c3_4 c3_5 c3_6 c3_7 c3_8 c3_9 c3_10 c3_11 c3_12 c3_13 c3_14 o3_0 n3_0 t3_0_1 t3_0_2 t3_0_3 o3_1 n3_1 t3_1_1 t3_1_2 t3_1_3 o3_2 n3_2 t3_2_1 t3_2_2 t3_2_3
  have o4_0 : w.heap.size < w4.heap.size := by omega
  have n4_0 : w4.heap.size ≠ w.heap.size := by omega
  have t4_0_1 : w.heap.size < w4.heap.size + 1 := by omega
  have t4_0_2 : w.heap.size < w4.heap.size + 1 + 1 := by omega
  have t4_0_3 : w.heap.size < w4.heap.size + 1 + 1 + 1 := by omega
  have o4_1 : w1.heap.size < w4.heap.size := by omega
  have n4_1 : w4.heap.size ≠ w1.heap.size := by omega
  have t4_1_1 : w1.heap.size < w4.heap.size + 1 := by omega
  have t4_1_2 : w1.heap.size < w4.heap.size + 1 + 1 := by omega
  have t4_1_3 : w1.heap.size < w4.heap.size + 1 + 1 + 1 := by omega
  have o4_2 : w1.heap.size + 1 < w4.heap.size := by omega
  have n4_2 : w4.heap.size ≠ w1.heap.size + 1 := by omega
  have t4_2_1 : w1.heap.size + 1 < w4.heap.size + 1 := by omega
  have t4_2_2 : w1.heap.size + 1 < w4.heap.size + 1 + 1 := by omega
  have t4_2_3 : w1.heap.size + 1 < w4.heap.size + 1 + 1 + 1 := by omega
  have b4 : w.heap.size ≤ w4.heap.size := by omega
  clear hbw4
  go_wp2_with fail
  refine (baseIsSmall_is n1 d1 true _ hs1).mono ?_
  rintro e w5 ⟨rfl, hbw5⟩
  have z5 := hbw5.size
  try simp at z5
  have c5_0 : w5.cell? ⟨w.heap.size, 0, none⟩ = some (.int .i64 0) := by rw [(bcell hbw5).1 _ _ (by first | (simp; done) | (simp; omega) | omega)]; simp [go_sem, World.cell?_alloc_past, *]
  have c5_1 : w5.cell? ⟨w.heap.size, 1, none⟩ = some (.int .i64 0) := by rw [(bcell hbw5).1 _ _ (by first | (simp; done) | (simp; omega) | omega)]; simp [go_sem, World.cell?_alloc_past, *]
  have c5_2 : w5.cell? ⟨w.heap.size, 2, none⟩ = some (.int .i64 0) := by rw [(bcell hbw5).1 _ _ (by first | (simp; done) | (simp; omega) | omega)]; simp [go_sem, World.cell?_alloc_past, *]
  have c5_3 : w5.cell? ⟨w.heap.size, 3, none⟩ = some (.int .i64 0) := by rw [(bcell hbw5).1 _ _ (by first | (simp; done) | (simp; omega) | omega)]; simp [go_sem, World.cell?_alloc_past, *]
  have c5_4 : w5.cell? ⟨w.heap.size, 4, none⟩ = some (.int .i64 0) := by rw [(bcell hbw5).1 _ _ (by first | (simp; done) | (simp; omega) | omega)]; simp [go_sem, World.cell?_alloc_past, *]
  have c5_5 : w5.cell? ⟨w.heap.size, 5, none⟩ = some (.int .i64 0) := by rw [(bcell hbw5).1 _ _ (by first | (simp; done) | (simp; omega) | omega)]; simp [go_sem, World.cell?_alloc_past, *]
  have c5_6 : w5.cell? ⟨w1.heap.size, 0, none⟩ = some (.int .i64 n0) := by rw [(bcell hbw5).1 _ _ (by first | (simp; done) | (simp; omega) | omega)]; simp [go_sem, World.cell?_alloc_past, *]
  have c5_7 : w5.cell? ⟨w1.heap.size, 1, none⟩ = some (.int .i64 d0) := by rw [(bcell hbw5).1 _ _ (by first | (simp; done) | (simp; omega) | omega)]; simp [go_sem, World.cell?_alloc_past, *]
  have c5_8 : w5.cell? ⟨w1.heap.size, 2, none⟩ = some (.int .i64 n1) := by rw [(bcell hbw5).1 _ _ (by first | (simp; done) | (simp; omega) | omega)]; simp [go_sem, World.cell?_alloc_past, *]
  have c5_9 : w5.cell? ⟨w1.heap.size, 3, none⟩ = some (.int .i64 d1) := by rw [(bcell hbw5).1 _ _ (by first | (simp; done) | (simp; omega) | omega)]; simp [go_sem, World.cell?_alloc_past, *]
  have c5_10 : w5.cell? ⟨w1.heap.size, 4, none⟩ = some (.int .i64 0) := by rw [(bcell hbw5).1 _ _ (by first | (simp; done) | (simp; omega) | omega)]; simp [go_sem, World.cell?_alloc_past, *]
  have c5_11 : w5.cell? ⟨w1.heap.size, 5, none⟩ = some (.int .i64 0) := by rw [(bcell hbw5).1 _ _ (by first | (simp; done) | (simp; omega) | omega)]; simp [go_sem, World.cell?_alloc_past, *]
  have c5_12 : w5.cell? ⟨w1.heap.size + 1, 0, none⟩ = some (.int .i64 X) := by rw [(bcell hbw5).1 _ _ (by first | (simp; done) | (simp; omega) | omega)]; simp [go_sem, World.cell?_alloc_past, *]
  have c5_13 : w5.cell? ⟨w1.heap.size + 1, 1, none⟩ = some (.int .i64 Y) := by rw [(bcell hbw5).1 _ _ (by first | (simp; done) | (simp; omega) | omega)]; simp [go_sem, World.cell?_alloc_past, *]
  have c5_14 : w5.cell? ⟨w1.heap.size + 1, 2, none⟩ = some (.int .i64 V) := by rw [(bcell hbw5).1 _ _ (by first | (simp; done) | (simp; omega) | omega)]; simp [go_sem, World.cell?_alloc_past, *]
  have hB5 : Below w.heap.size w w5 := (by (repeat (first | (with_reducible refine Below.drew ?_) | (with_reducible refine below_drewN ?_ _) | (with_reducible refine Below.alloc ?_ (by first | omega | (simp; done) | (simp; omega) | (simp at *; omega)) _) | (with_reducible refine Below.setCell ?_ (by first | omega | (simp; done) | (simp; omega) | (simp at *; omega)) _) | (with_reducible exact Below.refl _ _) | (with_reducible assumption) | (with_reducible refine Below.trans ?_ (Below.mono (by assumption) (by first | omega | (simp; done) | (simp; omega) | (simp at *; omega)))))))
  have fz5_0 : ∀ j, w5.frozen? ⟨w.heap.size, j, none⟩ = false := by intro j; rw [(bcell hbw5).2 _ _ (by first | (simp; done) | (simp; omega) | omega)]; first | (simp [go_sem, *]; done) | exact fz4_0 j
  have fz5_1 : ∀ j, w5.frozen? ⟨w1.heap.size, j, none⟩ = false := by intro j; rw [(bcell hbw5).2 _ _ (by first | (simp; done) | (simp; omega) | omega)]; first | (simp [go_sem, *]; done) | exact fz4_1 j
  clear c4_0 c4_1 c4_2 c4_3 c4_4 c4_5 c4_6 c4_7 c4_8 c4_9 c4_10 c4_11 c4_12 c4_13 c4_14 o4_0 n4_0 t4_0_1 t4_0_2 t4_0_3 o4_1 n4_1 t4_1_1 t4_1_2 t4_1_3 o4_2 n4_2 t4_2_1 t4_2_2 t4_2_3
  have o5_0 : w.heap.size < w5.heap.size := by omega
  have n5_0 : w5.heap.size ≠ w.heap.size := by omega
  have t5_0_1 : w.heap.size < w5.heap.size + 1 := by omega
  have t5_0_2 : w.heap.size < w5.heap.size + 1 + 1 := by omega
  have t5_0_3 : w.heap.size < w5.heap.size + 1 + 1 + 1 := by omega
  have o5_1 : w1.heap.size < w5.heap.size := by omega
  have n5_1 : w5.heap.size ≠ w1.heap.size := by omega
  have t5_1_1 : w1.heap.size < w5.heap.size + 1 := by omega
  have t5_1_2 : w1.heap.size < w5.heap.size + 1 + 1 := by omega
  have t5_1_3 : w1.heap.size < w5.heap.size + 1 + 1 + 1 := by omega
  have o5_2 : w1.heap.size + 1 < w5.heap.size := by omega
  have n5_2 : w5.heap.size ≠ w1.heap.size + 1 := by omega
  have t5_2_1 : w1.heap.size + 1 < w5.heap.size + 1 := by omega
  have t5_2_2 : w1.heap.size + 1 < w5.heap.size + 1 + 1 := by omega
  have t5_2_3 : w1.heap.size + 1 < w5.heap.size + 1 + 1 + 1 := by omega
  have b5 : w.heap.size ≤ w5.heap.size := by omega
  clear hbw5
  go_wp2
  rw [rounds_succ]
  go_wp2_with fail
  refine (baseLowest_is V T n2 d2 _ V0 (by omega) T0 (by omega) hn2 hd2).mono ?_
  rintro e w6 ⟨rfl, hbw6⟩
  have z6 := hbw6.size
  try simp at z6
  have c6_0 : w6.cell? ⟨w.heap.size, 0, none⟩ = some (.int .i64 0) := by rw [(bcell hbw6).1 _ _ (by first | (simp; done) | (simp; omega) | omega)]; simp [go_sem, World.cell?_alloc_past, *]
  have c6_1 : w6.cell? ⟨w.heap.size, 1, none⟩ = some (.int .i64 0) := by rw [(bcell hbw6).1 _ _ (by first | (simp; done) | (simp; omega) | omega)]; simp [go_sem, World.cell?_alloc_past, *]
  have c6_2 : w6.cell? ⟨w.heap.size, 2, none⟩ = some (.int .i64 0) := by rw [(bcell hbw6).1 _ _ (by first | (simp; done) | (simp; omega) | omega)]; simp [go_sem, World.cell?_alloc_past, *]
  have c6_3 : w6.cell? ⟨w.heap.size, 3, none⟩ = some (.int .i64 0) := by rw [(bcell hbw6).1 _ _ (by first | (simp; done) | (simp; omega) | omega)]; simp [go_sem, World.cell?_alloc_past, *]
  have c6_4 : w6.cell? ⟨w.heap.size, 4, none⟩ = some (.int .i64 0) := by rw [(bcell hbw6).1 _ _ (by first | (simp; done) | (simp; omega) | omega)]; simp [go_sem, World.cell?_alloc_past, *]
  have c6_5 : w6.cell? ⟨w.heap.size, 5, none⟩ = some (.int .i64 0) := by rw [(bcell hbw6).1 _ _ (by first | (simp; done) | (simp; omega) | omega)]; simp [go_sem, World.cell?_alloc_past, *]
  have c6_6 : w6.cell? ⟨w1.heap.size, 0, none⟩ = some (.int .i64 n0) := by rw [(bcell hbw6).1 _ _ (by first | (simp; done) | (simp; omega) | omega)]; simp [go_sem, World.cell?_alloc_past, *]
  have c6_7 : w6.cell? ⟨w1.heap.size, 1, none⟩ = some (.int .i64 d0) := by rw [(bcell hbw6).1 _ _ (by first | (simp; done) | (simp; omega) | omega)]; simp [go_sem, World.cell?_alloc_past, *]
  have c6_8 : w6.cell? ⟨w1.heap.size, 2, none⟩ = some (.int .i64 n1) := by rw [(bcell hbw6).1 _ _ (by first | (simp; done) | (simp; omega) | omega)]; simp [go_sem, World.cell?_alloc_past, *]
  have c6_9 : w6.cell? ⟨w1.heap.size, 3, none⟩ = some (.int .i64 d1) := by rw [(bcell hbw6).1 _ _ (by first | (simp; done) | (simp; omega) | omega)]; simp [go_sem, World.cell?_alloc_past, *]
  have c6_10 : w6.cell? ⟨w1.heap.size, 4, none⟩ = some (.int .i64 0) := by rw [(bcell hbw6).1 _ _ (by first | (simp; done) | (simp; omega) | omega)]; simp [go_sem, World.cell?_alloc_past, *]
  have c6_11 : w6.cell? ⟨w1.heap.size, 5, none⟩ = some (.int .i64 0) := by rw [(bcell hbw6).1 _ _ (by first | (simp; done) | (simp; omega) | omega)]; simp [go_sem, World.cell?_alloc_past, *]
  have c6_12 : w6.cell? ⟨w1.heap.size + 1, 0, none⟩ = some (.int .i64 X) := by rw [(bcell hbw6).1 _ _ (by first | (simp; done) | (simp; omega) | omega)]; simp [go_sem, World.cell?_alloc_past, *]
  have c6_13 : w6.cell? ⟨w1.heap.size + 1, 1, none⟩ = some (.int .i64 Y) := by rw [(bcell hbw6).1 _ _ (by first | (simp; done) | (simp; omega) | omega)]; simp [go_sem, World.cell?_alloc_past, *]
  have c6_14 : w6.cell? ⟨w1.heap.size + 1, 2, none⟩ = some (.int .i64 V) := by rw [(bcell hbw6).1 _ _ (by first | (simp; done) | (simp; omega) | omega)]; simp [go_sem, World.cell?_alloc_past, *]
  have hB6 : Below w.heap.size w w6 := (by (repeat (first | (with_reducible refine Below.drew ?_) | (with_reducible refine below_drewN ?_ _) | (with_reducible refine Below.alloc ?_ (by first | omega | (simp; done) | (simp; omega) | (simp at *; omega)) _) | (with_reducible refine Below.setCell ?_ (by first | omega | (simp; done) | (simp; omega) | (simp at *; omega)) _) | (with_reducible exact Below.refl _ _) | (with_reducible assumption) | (with_reducible refine Below.trans ?_ (Below.mono (by assumption) (by first | omega | (simp; done) | (simp; omega) | (simp at *; omega)))))))
  have fz6_0 : ∀ j, w6.frozen? ⟨w.heap.size, j, none⟩ = false := by intro j; rw [(bcell hbw6).2 _ _ (by first | (simp; done) | (simp; omega) | omega)]; first | (simp [go_sem, *]; done) | exact fz5_0 j
  have fz6_1 : ∀ j, w6.frozen? ⟨w1.heap.size, j, none⟩ = false := by intro j; rw [(bcell hbw6).2 _ _ (by first | (simp; done) | (simp; omega) | omega)]; first | (simp [go_sem, *]; done) | exact fz5_1 j
  clear c5_0 c5_1 c5_2 c5_3 c5_4 c5_5 c5_6 c5_7 c5_8 c5_9 c5_10 c5_11 c5_12 c5_13 c5_14 o5_0 n5_0 t5_0_1 t5_0_2 t5_0_3 o5_1 n5_1 t5_1_1 t5_1_2 t5_1_3 o5_2 n5_2 t5_2_1 t5_2_2 t5_2_3
  have o6_0 : w.heap.size < w6.heap.size := by omega
  have n6_0 : w6.heap.size ≠ w.heap.size := by omega
  have t6_0_1 : w.heap.size < w6.heap.size + 1 := by omega
  have t6_0_2 : w.heap.size < w6.heap.size + 1 + 1 := by omega
  have t6_0_3 : w.heap.size < w6.heap.size + 1 + 1 + 1 := by omega
  have o6_1 : w1.heap.size < w6.heap.size := by omega
  have n6_1 : w6.heap.size ≠ w1.heap.size := by omega
  have t6_1_1 : w1.heap.size < w6.heap.size + 1 := by omega
  have t6_1_2 : w1.heap.size < w6.heap.size + 1 + 1 := by omega
  have t6_1_3 : w1.heap.size < w6.heap.size + 1 + 1 + 1 := by omega
  have o6_2 : w1.heap.size + 1 < w6.heap.size := by omega
  have n6_2 : w6.heap.size ≠ w1.heap.size + 1 := by omega
  have t6_2_1 : w1.heap.size + 1 < w6.heap.size + 1 := by omega
  have t6_2_2 : w1.heap.size + 1 < w6.heap.size + 1 + 1 := by omega
  have t6_2_3 : w1.heap.size + 1 < w6.heap.size + 1 + 1 + 1 := by omega
  have b6 : w.heap.size ≤ w6.heap.size := by omega
  clear hbw6
  go_wp2_with fail
  refine (baseIsSmall_is n2 d2 false _ hs2).mono ?_
  rintro e w7 ⟨rfl, hbw7⟩
  have z7 := hbw7.size
  try simp at z7
  have c7_0 : w7.cell? ⟨w.heap.size, 0, none⟩ = some (.int .i64 0) := by rw [(bcell hbw7).1 _ _ (by first | (simp; done) | (simp; omega) | omega)]; simp [go_sem, World.cell?_alloc_past, *]
  have c7_1 : w7.cell? ⟨w.heap.size, 1, none⟩ = some (.int .i64 0) := by rw [(bcell hbw7).1 _ _ (by first | (simp; done) | (simp; omega) | omega)]; simp [go_sem, World.cell?_alloc_past, *]
  have c7_2 : w7.cell? ⟨w.heap.size, 2, none⟩ = some (.int .i64 0) := by rw [(bcell hbw7).1 _ _ (by first | (simp; done) | (simp; omega) | omega)]; simp [go_sem, World.cell?_alloc_past, *]
  have c7_3 : w7.cell? ⟨w.heap.size, 3, none⟩ = some (.int .i64 0) := by rw [(bcell hbw7).1 _ _ (by first | (simp; done) | (simp; omega) | omega)]; simp [go_sem, World.cell?_alloc_past, *]
  have c7_4 : w7.cell? ⟨w.heap.size, 4, none⟩ = some (.int .i64 0) := by rw [(bcell hbw7).1 _ _ (by first | (simp; done) | (simp; omega) | omega)]; simp [go_sem, World.cell?_alloc_past, *]
  have c7_5 : w7.cell? ⟨w.heap.size, 5, none⟩ = some (.int .i64 0) := by rw [(bcell hbw7).1 _ _ (by first | (simp; done) | (simp; omega) | omega)]; simp [go_sem, World.cell?_alloc_past, *]
  have c7_6 : w7.cell? ⟨w1.heap.size, 0, none⟩ = some (.int .i64 n0) := by rw [(bcell hbw7).1 _ _ (by first | (simp; done) | (simp; omega) | omega)]; simp [go_sem, World.cell?_alloc_past, *]
  have c7_7 : w7.cell? ⟨w1.heap.size, 1, none⟩ = some (.int .i64 d0) := by rw [(bcell hbw7).1 _ _ (by first | (simp; done) | (simp; omega) | omega)]; simp [go_sem, World.cell?_alloc_past, *]
  have c7_8 : w7.cell? ⟨w1.heap.size, 2, none⟩ = some (.int .i64 n1) := by rw [(bcell hbw7).1 _ _ (by first | (simp; done) | (simp; omega) | omega)]; simp [go_sem, World.cell?_alloc_past, *]
  have c7_9 : w7.cell? ⟨w1.heap.size, 3, none⟩ = some (.int .i64 d1) := by rw [(bcell hbw7).1 _ _ (by first | (simp; done) | (simp; omega) | omega)]; simp [go_sem, World.cell?_alloc_past, *]
  have c7_10 : w7.cell? ⟨w1.heap.size, 4, none⟩ = some (.int .i64 n2) := by rw [(bcell hbw7).1 _ _ (by first | (simp; done) | (simp; omega) | omega)]; simp [go_sem, World.cell?_alloc_past, *]
  have c7_11 : w7.cell? ⟨w1.heap.size, 5, none⟩ = some (.int .i64 d2) := by rw [(bcell hbw7).1 _ _ (by first | (simp; done) | (simp; omega) | omega)]; simp [go_sem, World.cell?_alloc_past, *]
  have c7_12 : w7.cell? ⟨w1.heap.size + 1, 0, none⟩ = some (.int .i64 X) := by rw [(bcell hbw7).1 _ _ (by first | (simp; done) | (simp; omega) | omega)]; simp [go_sem, World.cell?_alloc_past, *]
  have c7_13 : w7.cell? ⟨w1.heap.size + 1, 1, none⟩ = some (.int .i64 Y) := by rw [(bcell hbw7).1 _ _ (by first | (simp; done) | (simp; omega) | omega)]; simp [go_sem, World.cell?_alloc_past, *]
  have c7_14 : w7.cell? ⟨w1.heap.size + 1, 2, none⟩ = some (.int .i64 V) := by rw [(bcell hbw7).1 _ _ (by first | (simp; done) | (simp; omega) | omega)]; simp [go_sem, World.cell?_alloc_past, *]
  have hB7 : Below w.heap.size w w7 := (by (repeat (first | (with_reducible refine Below.drew ?_) | (with_reducible refine below_drewN ?_ _) | (with_reducible refine Below.alloc ?_ (by first | omega | (simp; done) | (simp; omega) | (simp at *; omega)) _) | (with_reducible refine Below.setCell ?_ (by first | omega | (simp; done) | (simp; omega) | (simp at *; omega)) _) | (with_reducible exact Below.refl _ _) | (with_reducible assumption) | (with_reducible refine Below.trans ?_ (Below.mono (by assumption) (by first | omega | (simp; done) | (simp; omega) | (simp at *; omega)))))))
  have fz7_0 : ∀ j, w7.frozen? ⟨w.heap.size, j, none⟩ = false := by intro j; rw [(bcell hbw7).2 _ _ (by first | (simp; done) | (simp; omega) | omega)]; first | (simp [go_sem, *]; done) | exact fz6_0 j
  have fz7_1 : ∀ j, w7.frozen? ⟨w1.heap.size, j, none⟩ = false := by intro j; rw [(bcell hbw7).2 _ _ (by first | (simp; done) | (simp; omega) | omega)]; first | (simp [go_sem, *]; done) | exact fz6_1 j
  clear c6_0 c6_1 c6_2 c6_3 c6_4 c6_5 c6_6 c6_7 c6_8 c6_9 c6_10 c6_11 c6_12 c6_13 c6_14 o6_0 n6_0 t6_0_1 t6_0_2 t6_0_3 o6_1 n6_1 t6_1_1 t6_1_2 t6_1_3 o6_2 n6_2 t6_2_1 t6_2_2 t6_2_3
  have o7_0 : w.heap.size < w7.heap.size := by omega
  have n7_0 : w7.heap.size ≠ w.heap.size := by omega
  have t7_0_1 : w.heap.size < w7.heap.size + 1 := by omega
  have t7_0_2 : w.heap.size < w7.heap.size + 1 + 1 := by omega
  have t7_0_3 : w.heap.size < w7.heap.size + 1 + 1 + 1 := by omega
  have o7_1 : w1.heap.size < w7.heap.size := by omega
  have n7_1 : w7.heap.size ≠ w1.heap.size := by omega
  have t7_1_1 : w1.heap.size < w7.heap.size + 1 := by omega
  have t7_1_2 : w1.heap.size < w7.heap.size + 1 + 1 := by omega
  have t7_1_3 : w1.heap.size < w7.heap.size + 1 + 1 + 1 := by omega
  have o7_2 : w1.heap.size + 1 < w7.heap.size := by omega
  have n7_2 : w7.heap.size ≠ w1.heap.size + 1 := by omega
  have t7_2_1 : w1.heap.size + 1 < w7.heap.size + 1 := by omega
  have t7_2_2 : w1.heap.size + 1 < w7.heap.size + 1 + 1 := by omega
  have t7_2_3 : w1.heap.size + 1 < w7.heap.size + 1 + 1 + 1 := by omega
  have b7 : w.heap.size ≤ w7.heap.size := by omega
  clear hbw7
  go_wp2
  refine bodyPost_ret (v := .tuple #[.agg #[.int .i64 0, .int .i64 0, .int .i64 0, .int .i64 0, .int .i64 0, .int .i64 0], .int .i64 8]) (by simp [results, Tryd.results60, go_sem, *]) rfl ⟨rfl, ?_⟩
  (repeat (first | (with_reducible refine Below.drew ?_) | (with_reducible refine below_drewN ?_ _) | (with_reducible refine Below.alloc ?_ (by first | omega | (simp; done) | (simp; omega) | (simp at *; omega)) _) | (with_reducible refine Below.setCell ?_ (by first | omega | (simp; done) | (simp; omega) | (simp at *; omega)) _) | (with_reducible exact Below.refl _ _) | (with_reducible assumption) | (with_reducible refine Below.trans ?_ (Below.mono (by assumption) (by first | omega | (simp; done) | (simp; omega) | (simp at *; omega))))))
set_option maxRecDepth 100000 in
set_option maxHeartbeats 4000000 in
theorem refMixed_c3 (P : List Part) (b off cap : Nat) (w : World) (hl : P.length ≤ 12) (hlt : b < w.heap.size) (hP : PartsAt w b off P) (hR : ∀ p ∈ P, p.Right) (A X Y V T : Int) (hA : Hid (sumF pA P = A)) (hX : Hid (sumF pO P = X)) (hY : Hid (sumF pH P = Y)) (hT : 1000 * A = T) (hV : T - X - Y = V) (T0 : 0 < T) (T1 : T ≤ 12000000000000) (X0 : 0 ≤ X) (X1 : X ≤ T) (Y0 : 0 ≤ Y) (Y1 : Y ≤ T) (V0 : 0 ≤ V) (V1 : V ≤ T) (n0 d0 : Int) (hn0 : Hid (X / gcdI X T = n0)) (hd0 : Hid (T / gcdI X T = d0)) (hs0 : Hid ((inB n0 (-1000000000) 1000000000 && inB d0 1 1000000000) = true)) (n1 d1 : Int) (hn1 : Hid (Y / gcdI Y T = n1)) (hd1 : Hid (T / gcdI Y T = d1)) (hs1 : Hid ((inB n1 (-1000000000) 1000000000 && inB d1 1 1000000000) = true)) (n2 d2 : Int) (hn2 : Hid (V / gcdI V T = n2)) (hd2 : Hid (T / gcdI V T = d2)) (hs2 : Hid ((inB n2 (-1000000000) 1000000000 && inB d2 1 1000000000) = true)) :
    Calls Tryd.prog 60 #[.slice (some ⟨b, off, none⟩) P.length cap] w fun e w' => e = .returned (.tuple #[.agg #[.int .i64 n0, .int .i64 d0, .int .i64 n1, .int .i64 d1, .int .i64 n2, .int .i64 d2], .int .i64 0]) ∧ Below w.heap.size w w' := by
  have HP : Hid (PartsAt w b off P) := hP
  have HR : Hid (∀ p ∈ P, p.Right) := hR
  clear hP hR
  have a1 : IntKind.i64.wrap (1000 * A) = T := by rw [hT]; exact IntWalk.i64_in _ (by omega)
  have a2 : IntKind.i64.wrap (T - X) = T - X := IntWalk.i64_in _ (by omega)
  have a3 : IntKind.i64.wrap (T - X - Y) = V := by rw [hV]; exact IntWalk.i64_in _ (by omega)
  go_enter Tryd.func60, Tryd.ntmps60
  go_wp2_with fail
  refine (refSums_is P b off cap A X Y _ hl (by simp; omega) (HP.out.below (by (repeat (first | (with_reducible refine Below.drew ?_) | (with_reducible refine below_drewN ?_ _) | (with_reducible refine Below.alloc ?_ (by first | omega | (simp; done) | (simp; omega) | (simp at *; omega)) _) | (with_reducible refine Below.setCell ?_ (by first | omega | (simp; done) | (simp; omega) | (simp at *; omega)) _) | (with_reducible exact Below.refl _ _) | (with_reducible assumption) | (with_reducible refine Below.trans ?_ (Below.mono (by assumption) (by first | omega | (simp; done) | (simp; omega) | (simp at *; omega))))))) hlt) HR.out hA hX hY).mono ?_
  rintro e w1 ⟨rfl, hbw1⟩
  have z1 := hbw1.size
  try simp at z1
  have c1_0 : w1.cell? ⟨w.heap.size, 0, none⟩ = some (.int .i64 0) := by rw [(bcell hbw1).1 _ _ (by first | (simp; done) | (simp; omega) | omega)]; simp [go_sem, World.cell?_alloc_past, *]
  have c1_1 : w1.cell? ⟨w.heap.size, 1, none⟩ = some (.int .i64 0) := by rw [(bcell hbw1).1 _ _ (by first | (simp; done) | (simp; omega) | omega)]; simp [go_sem, World.cell?_alloc_past, *]
  have c1_2 : w1.cell? ⟨w.heap.size, 2, none⟩ = some (.int .i64 0) := by rw [(bcell hbw1).1 _ _ (by first | (simp; done) | (simp; omega) | omega)]; simp [go_sem, World.cell?_alloc_past, *]
  have c1_3 : w1.cell? ⟨w.heap.size, 3, none⟩ = some (.int .i64 0) := by rw [(bcell hbw1).1 _ _ (by first | (simp; done) | (simp; omega) | omega)]; simp [go_sem, World.cell?_alloc_past, *]
  have c1_4 : w1.cell? ⟨w.heap.size, 4, none⟩ = some (.int .i64 0) := by rw [(bcell hbw1).1 _ _ (by first | (simp; done) | (simp; omega) | omega)]; simp [go_sem, World.cell?_alloc_past, *]
  have c1_5 : w1.cell? ⟨w.heap.size, 5, none⟩ = some (.int .i64 0) := by rw [(bcell hbw1).1 _ _ (by first | (simp; done) | (simp; omega) | omega)]; simp [go_sem, World.cell?_alloc_past, *]
  have hB1 : Below w.heap.size w w1 := (by (repeat (first | (with_reducible refine Below.drew ?_) | (with_reducible refine below_drewN ?_ _) | (with_reducible refine Below.alloc ?_ (by first | omega | (simp; done) | (simp; omega) | (simp at *; omega)) _) | (with_reducible refine Below.setCell ?_ (by first | omega | (simp; done) | (simp; omega) | (simp at *; omega)) _) | (with_reducible exact Below.refl _ _) | (with_reducible assumption) | (with_reducible refine Below.trans ?_ (Below.mono (by assumption) (by first | omega | (simp; done) | (simp; omega) | (simp at *; omega)))))))
  have fz1_0 : ∀ j, w1.frozen? ⟨w.heap.size, j, none⟩ = false := by intro j; rw [(bcell hbw1).2 _ _ (by first | (simp; done) | (simp; omega) | omega)]; first | (simp [go_sem, *]; done) | exact fz0_0 j
  have o1_0 : w.heap.size < w1.heap.size := by omega
  have n1_0 : w1.heap.size ≠ w.heap.size := by omega
  have t1_0_1 : w.heap.size < w1.heap.size + 1 := by omega
  have t1_0_2 : w.heap.size < w1.heap.size + 1 + 1 := by omega
  have t1_0_3 : w.heap.size < w1.heap.size + 1 + 1 + 1 := by omega
  have b1 : w.heap.size ≤ w1.heap.size := by omega
  clear hbw1
  go_wp2
  refine wp_loop_rounds 4 ?_
  rw [rounds_succ]
  go_wp2_with fail
  refine (baseLowest_is X T n0 d0 _ X0 (by omega) T0 (by omega) hn0 hd0).mono ?_
  rintro e w2 ⟨rfl, hbw2⟩
  have z2 := hbw2.size
  try simp at z2
  have c2_0 : w2.cell? ⟨w.heap.size, 0, none⟩ = some (.int .i64 0) := by rw [(bcell hbw2).1 _ _ (by first | (simp; done) | (simp; omega) | omega)]; simp [go_sem, World.cell?_alloc_past, *]
  have c2_1 : w2.cell? ⟨w.heap.size, 1, none⟩ = some (.int .i64 0) := by rw [(bcell hbw2).1 _ _ (by first | (simp; done) | (simp; omega) | omega)]; simp [go_sem, World.cell?_alloc_past, *]
  have c2_2 : w2.cell? ⟨w.heap.size, 2, none⟩ = some (.int .i64 0) := by rw [(bcell hbw2).1 _ _ (by first | (simp; done) | (simp; omega) | omega)]; simp [go_sem, World.cell?_alloc_past, *]
  have c2_3 : w2.cell? ⟨w.heap.size, 3, none⟩ = some (.int .i64 0) := by rw [(bcell hbw2).1 _ _ (by first | (simp; done) | (simp; omega) | omega)]; simp [go_sem, World.cell?_alloc_past, *]
  have c2_4 : w2.cell? ⟨w.heap.size, 4, none⟩ = some (.int .i64 0) := by rw [(bcell hbw2).1 _ _ (by first | (simp; done) | (simp; omega) | omega)]; simp [go_sem, World.cell?_alloc_past, *]
  have c2_5 : w2.cell? ⟨w.heap.size, 5, none⟩ = some (.int .i64 0) := by rw [(bcell hbw2).1 _ _ (by first | (simp; done) | (simp; omega) | omega)]; simp [go_sem, World.cell?_alloc_past, *]
  have c2_6 : w2.cell? ⟨w1.heap.size, 0, none⟩ = some (.int .i64 0) := by rw [(bcell hbw2).1 _ _ (by first | (simp; done) | (simp; omega) | omega)]; simp [go_sem, World.cell?_alloc_past, *]
  have c2_7 : w2.cell? ⟨w1.heap.size, 1, none⟩ = some (.int .i64 0) := by rw [(bcell hbw2).1 _ _ (by first | (simp; done) | (simp; omega) | omega)]; simp [go_sem, World.cell?_alloc_past, *]
  have c2_8 : w2.cell? ⟨w1.heap.size, 2, none⟩ = some (.int .i64 0) := by rw [(bcell hbw2).1 _ _ (by first | (simp; done) | (simp; omega) | omega)]; simp [go_sem, World.cell?_alloc_past, *]
  have c2_9 : w2.cell? ⟨w1.heap.size, 3, none⟩ = some (.int .i64 0) := by rw [(bcell hbw2).1 _ _ (by first | (simp; done) | (simp; omega) | omega)]; simp [go_sem, World.cell?_alloc_past, *]
  have c2_10 : w2.cell? ⟨w1.heap.size, 4, none⟩ = some (.int .i64 0) := by rw [(bcell hbw2).1 _ _ (by first | (simp; done) | (simp; omega) | omega)]; simp [go_sem, World.cell?_alloc_past, *]
  have c2_11 : w2.cell? ⟨w1.heap.size, 5, none⟩ = some (.int .i64 0) := by rw [(bcell hbw2).1 _ _ (by first | (simp; done) | (simp; omega) | omega)]; simp [go_sem, World.cell?_alloc_past, *]
  have c2_12 : w2.cell? ⟨w1.heap.size + 1, 0, none⟩ = some (.int .i64 X) := by rw [(bcell hbw2).1 _ _ (by first | (simp; done) | (simp; omega) | omega)]; simp [go_sem, World.cell?_alloc_past, *]
  have c2_13 : w2.cell? ⟨w1.heap.size + 1, 1, none⟩ = some (.int .i64 Y) := by rw [(bcell hbw2).1 _ _ (by first | (simp; done) | (simp; omega) | omega)]; simp [go_sem, World.cell?_alloc_past, *]
  have c2_14 : w2.cell? ⟨w1.heap.size + 1, 2, none⟩ = some (.int .i64 V) := by rw [(bcell hbw2).1 _ _ (by first | (simp; done) | (simp; omega) | omega)]; simp [go_sem, World.cell?_alloc_past, *]
  have hB2 : Below w.heap.size w w2 := (by (repeat (first | (with_reducible refine Below.drew ?_) | (with_reducible refine below_drewN ?_ _) | (with_reducible refine Below.alloc ?_ (by first | omega | (simp; done) | (simp; omega) | (simp at *; omega)) _) | (with_reducible refine Below.setCell ?_ (by first | omega | (simp; done) | (simp; omega) | (simp at *; omega)) _) | (with_reducible exact Below.refl _ _) | (with_reducible assumption) | (with_reducible refine Below.trans ?_ (Below.mono (by assumption) (by first | omega | (simp; done) | (simp; omega) | (simp at *; omega)))))))
  have fz2_0 : ∀ j, w2.frozen? ⟨w.heap.size, j, none⟩ = false := by intro j; rw [(bcell hbw2).2 _ _ (by first | (simp; done) | (simp; omega) | omega)]; first | (simp [go_sem, *]; done) | exact fz1_0 j
  have fz2_1 : ∀ j, w2.frozen? ⟨w1.heap.size, j, none⟩ = false := by intro j; rw [(bcell hbw2).2 _ _ (by first | (simp; done) | (simp; omega) | omega)]; first | (simp [go_sem, *]; done) | exact fz1_1 j
  clear c1_0 c1_1 c1_2 c1_3 c1_4 c1_5 o1_0 n1_0 t1_0_1 t1_0_2 t1_0_3
  have o2_0 : w.heap.size < w2.heap.size := by omega
  have n2_0 : w2.heap.size ≠ w.heap.size := by omega
  have t2_0_1 : w.heap.size < w2.heap.size + 1 := by omega
  have t2_0_2 : w.heap.size < w2.heap.size + 1 + 1 := by omega
  have t2_0_3 : w.heap.size < w2.heap.size + 1 + 1 + 1 := by omega
  have o2_1 : w1.heap.size < w2.heap.size := by omega
  have n2_1 : w2.heap.size ≠ w1.heap.size := by omega
  have t2_1_1 : w1.heap.size < w2.heap.size + 1 := by omega
  have t2_1_2 : w1.heap.size < w2.heap.size + 1 + 1 := by omega
  have t2_1_3 : w1.heap.size < w2.heap.size + 1 + 1 + 1 := by omega
  have o2_2 : w1.heap.size + 1 < w2.heap.size := by omega
  have n2_2 : w2.heap.size ≠ w1.heap.size + 1 := by omega
  have t2_2_1 : w1.heap.size + 1 < w2.heap.size + 1 := by omega
  have t2_2_2 : w1.heap.size + 1 < w2.heap.size + 1 + 1 := by omega
  have t2_2_3 : w1.heap.size + 1 < w2.heap.size + 1 + 1 + 1 := by omega
  have b2 : w.heap.size ≤ w2.heap.size := by omega
  clear hbw2
  go_wp2_with fail
  refine (baseIsSmall_is n0 d0 true _ hs0).mono ?_
  rintro e w3 ⟨rfl, hbw3⟩
  have z3 := hbw3.size
  try simp at z3
  have c3_0 : w3.cell? ⟨w.heap.size, 0, none⟩ = some (.int .i64 0) := by rw [(bcell hbw3).1 _ _ (by first | (simp; done) | (simp; omega) | omega)]; simp [go_sem, World.cell?_alloc_past, *]
  have c3_1 : w3.cell? ⟨w.heap.size, 1, none⟩ = some (.int .i64 0) := by rw [(bcell hbw3).1 _ _ (by first | (simp; done) | (simp; omega) | omega)]; simp [go_sem, World.cell?_alloc_past, *]
  have c3_2 : w3.cell? ⟨w.heap.size, 2, none⟩ = some (.int .i64 0) := by rw [(bcell hbw3).1 _ _ (by first | (simp; done) | (simp; omega) | omega)]; simp [go_sem, World.cell?_alloc_past, *]
  have c3_3 : w3.cell? ⟨w.heap.size, 3, none⟩ = some (.int .i64 0) := by rw [(bcell hbw3).1 _ _ (by first | (simp; done) | (simp; omega) | omega)]; simp [go_sem, World.cell?_alloc_past, *]
  have c3_4 : w3.cell? ⟨w.heap.size, 4, none⟩ = some (.int .i64 0) := by rw [(bcell hbw3).1 _ _ (by first | (simp; done) | (simp; omega) | omega)]; simp [go_sem, World.cell?_alloc_past, *]
  have c3_5 : w3.cell? ⟨w.heap.size, 5, none⟩ = some (.int .i64 0) := by rw [(bcell hbw3).1 _ _ (by first | (simp; done) | (simp; omega) | omega)]; simp [go_sem, World.cell?_alloc_past, *]
  have c3_6 : w3.cell? ⟨w1.heap.size, 0, none⟩ = some (.int .i64 n0) := by rw [(bcell hbw3).1 _ _ (by first | (simp; done) | (simp; omega) | omega)]; simp [go_sem, World.cell?_alloc_past, *]
  have c3_7 : w3.cell? ⟨w1.heap.size, 1, none⟩ = some (.int .i64 d0) := by rw [(bcell hbw3).1 _ _ (by first | (simp; done) | (simp; omega) | omega)]; simp [go_sem, World.cell?_alloc_past, *]
  have c3_8 : w3.cell? ⟨w1.heap.size, 2, none⟩ = some (.int .i64 0) := by rw [(bcell hbw3).1 _ _ (by first | (simp; done) | (simp; omega) | omega)]; simp [go_sem, World.cell?_alloc_past, *]
  have c3_9 : w3.cell? ⟨w1.heap.size, 3, none⟩ = some (.int .i64 0) := by rw [(bcell hbw3).1 _ _ (by first | (simp; done) | (simp; omega) | omega)]; simp [go_sem, World.cell?_alloc_past, *]
  have c3_10 : w3.cell? ⟨w1.heap.size, 4, none⟩ = some (.int .i64 0) := by rw [(bcell hbw3).1 _ _ (by first | (simp; done) | (simp; omega) | omega)]; simp [go_sem, World.cell?_alloc_past, *]
  have c3_11 : w3.cell? ⟨w1.heap.size, 5, none⟩ = some (.int .i64 0) := by rw [(bcell hbw3).1 _ _ (by first | (simp; done) | (simp; omega) | omega)]; simp [go_sem, World.cell?_alloc_past, *]
  have c3_12 : w3.cell? ⟨w1.heap.size + 1, 0, none⟩ = some (.int .i64 X) := by rw [(bcell hbw3).1 _ _ (by first | (simp; done) | (simp; omega) | omega)]; simp [go_sem, World.cell?_alloc_past, *]
  have c3_13 : w3.cell? ⟨w1.heap.size + 1, 1, none⟩ = some (.int .i64 Y) := by rw [(bcell hbw3).1 _ _ (by first | (simp; done) | (simp; omega) | omega)]; simp [go_sem, World.cell?_alloc_past, *]
  have c3_14 : w3.cell? ⟨w1.heap.size + 1, 2, none⟩ = some (.int .i64 V) := by rw [(bcell hbw3).1 _ _ (by first | (simp; done) | (simp; omega) | omega)]; simp [go_sem, World.cell?_alloc_past, *]
  have hB3 : Below w.heap.size w w3 := (by (repeat (first | (with_reducible refine Below.drew ?_) | (with_reducible refine below_drewN ?_ _) | (with_reducible refine Below.alloc ?_ (by first | omega | (simp; done) | (simp; omega) | (simp at *; omega)) _) | (with_reducible refine Below.setCell ?_ (by first | omega | (simp; done) | (simp; omega) | (simp at *; omega)) _) | (with_reducible exact Below.refl _ _) | (with_reducible assumption) | (with_reducible refine Below.trans ?_ (Below.mono (by assumption) (by first | omega | (simp; done) | (simp; omega) | (simp at *; omega)))))))
  have fz3_0 : ∀ j, w3.frozen? ⟨w.heap.size, j, none⟩ = false := by intro j; rw [(bcell hbw3).2 _ _ (by first | (simp; done) | (simp; omega) | omega)]; first | (simp [go_sem, *]; done) | exact fz2_0 j
  have fz3_1 : ∀ j, w3.frozen? ⟨w1.heap.size, j, none⟩ = false := by intro j; rw [(bcell hbw3).2 _ _ (by first | (simp; done) | (simp; omega) | omega)]; first | (simp [go_sem, *]; done) | exact fz2_1 j
  clear c2_0 c2_1 c2_2 c2_3 c2_4 c2_5 c2_6 c2_7 c2_8 c2_9 c2_10 c2_11 c2_12 c2_13 c2_14 o2_0 n2_0 t2_0_1 t2_0_2 t2_0_3 o2_1 n2_1 t2_1_1 t2_1_2 t2_1_3 o2_2 n2_2 t2_2_1 t2_2_2 t2_2_3
  have o3_0 : w.heap.size < w3.heap.size := by omega
  have n3_0 : w3.heap.size ≠ w.heap.size := by omega
  have t3_0_1 : w.heap.size < w3.heap.size + 1 := by omega
  have t3_0_2 : w.heap.size < w3.heap.size + 1 + 1 := by omega
  have t3_0_3 : w.heap.size < w3.heap.size + 1 + 1 + 1 := by omega
  have o3_1 : w1.heap.size < w3.heap.size := by omega
  have n3_1 : w3.heap.size ≠ w1.heap.size := by omega
  have t3_1_1 : w1.heap.size < w3.heap.size + 1 := by omega
  have t3_1_2 : w1.heap.size < w3.heap.size + 1 + 1 := by omega
  have t3_1_3 : w1.heap.size < w3.heap.size + 1 + 1 + 1 := by omega
  have o3_2 : w1.heap.size + 1 < w3.heap.size := by omega
  have n3_2 : w3.heap.size ≠ w1.heap.size + 1 := by omega
  have t3_2_1 : w1.heap.size + 1 < w3.heap.size + 1 := by omega
  have t3_2_2 : w1.heap.size + 1 < w3.heap.size + 1 + 1 := by omega
  have t3_2_3 : w1.heap.size + 1 < w3.heap.size + 1 + 1 + 1 := by omega
  have b3 : w.heap.size ≤ w3.heap.size := by omega
  clear hbw3
  go_wp2
  rw [rounds_succ]
  go_wp2_with fail
  refine (baseLowest_is Y T n1 d1 _ Y0 (by omega) T0 (by omega) hn1 hd1).mono ?_
  rintro e w4 ⟨rfl, hbw4⟩
  have z4 := hbw4.size
  try simp at z4
  have c4_0 : w4.cell? ⟨w.heap.size, 0, none⟩ = some (.int .i64 0) := by rw [(bcell hbw4).1 _ _ (by first | (simp; done) | (simp; omega) | omega)]; simp [go_sem, World.cell?_alloc_past, *]
  have c4_1 : w4.cell? ⟨w.heap.size, 1, none⟩ = some (.int .i64 0) := by rw [(bcell hbw4).1 _ _ (by first | (simp; done) | (simp; omega) | omega)]; simp [go_sem, World.cell?_alloc_past, *]
  have c4_2 : w4.cell? ⟨w.heap.size, 2, none⟩ = some (.int .i64 0) := by rw [(bcell hbw4).1 _ _ (by first | (simp; done) | (simp; omega) | omega)]; simp [go_sem, World.cell?_alloc_past, *]
  have c4_3 : w4.cell? ⟨w.heap.size, 3, none⟩ = some (.int .i64 0) := by rw [(bcell hbw4).1 _ _ (by first | (simp; done) | (simp; omega) | omega)]; simp [go_sem, World.cell?_alloc_past, *]
  have c4_4 : w4.cell? ⟨w.heap.size, 4, none⟩ = some (.int .i64 0) := by rw [(bcell hbw4).1 _ _ (by first | (simp; done) | (simp; omega) | omega)]; simp [go_sem, World.cell?_alloc_past, *]
  have c4_5 : w4.cell? ⟨w.heap.size, 5, none⟩ = some (.int .i64 0) := by rw [(bcell hbw4).1 _ _ (by first | (simp; done) | (simp; omega) | omega)]; simp [go_sem, World.cell?_alloc_past, *]
  have c4_6 : w4.cell? ⟨w1.heap.size, 0, none⟩ = some (.int .i64 n0) := by rw [(bcell hbw4).1 _ _ (by first | (simp; done) | (simp; omega) | omega)]; simp [go_sem, World.cell?_alloc_past, *]
  have c4_7 : w4.cell? ⟨w1.heap.size, 1, none⟩ = some (.int .i64 d0) := by rw [(bcell hbw4).1 _ _ (by first | (simp; done) | (simp; omega) | omega)]; simp [go_sem, World.cell?_alloc_past, *]
  have c4_8 : w4.cell? ⟨w1.heap.size, 2, none⟩ = some (.int .i64 0) := by rw [(bcell hbw4).1 _ _ (by first | (simp; done) | (simp; omega) | omega)]; simp [go_sem, World.cell?_alloc_past, *]
  have c4_9 : w4.cell? ⟨w1.heap.size, 3, none⟩ = some (.int .i64 0) := by rw [(bcell hbw4).1 _ _ (by first | (simp; done) | (simp; omega) | omega)]; simp [go_sem, World.cell?_alloc_past, *]
  have c4_10 : w4.cell? ⟨w1.heap.size, 4, none⟩ = some (.int .i64 0) := by rw [(bcell hbw4).1 _ _ (by first | (simp; done) | (simp; omega) | omega)]; simp [go_sem, World.cell?_alloc_past, *]
  have c4_11 : w4.cell? ⟨w1.heap.size, 5, none⟩ = some (.int .i64 0) := by rw [(bcell hbw4).1 _ _ (by first | (simp; done) | (simp; omega) | omega)]; simp [go_sem, World.cell?_alloc_past, *]
  have c4_12 : w4.cell? ⟨w1.heap.size + 1, 0, none⟩ = some (.int .i64 X) := by rw [(bcell hbw4).1 _ _ (by first | (simp; done) | (simp; omega) | omega)]; simp [go_sem, World.cell?_alloc_past, *]
  have c4_13 : w4.cell? ⟨w1.heap.size + 1, 1, none⟩ = some (.int .i64 Y) := by rw [(bcell hbw4).1 _ _ (by first | (simp; done) | (simp; omega) | omega)]; simp [go_sem, World.cell?_alloc_past, *]
  have c4_14 : w4.cell? ⟨w1.heap.size + 1, 2, none⟩ = some (.int .i64 V) := by rw [(bcell hbw4).1 _ _ (by first | (simp; done) | (simp; omega) | omega)]; simp [go_sem, World.cell?_alloc_past, *]
  have hB4 : Below w.heap.size w w4 := (by (repeat (first | (with_reducible refine Below.drew ?_) | (with_reducible refine below_drewN ?_ _) | (with_reducible refine Below.alloc ?_ (by first | omega | (simp; done) | (simp; omega) | (simp at *; omega)) _) | (with_reducible refine Below.setCell ?_ (by first | omega | (simp; done) | (simp; omega) | (simp at *; omega)) _) | (with_reducible exact Below.refl _ _) | (with_reducible assumption) | (with_reducible refine Below.trans ?_ (Below.mono (by assumption) (by first | omega | (simp; done) | (simp; omega) | (simp at *; omega)))))))
  have fz4_0 : ∀ j, w4.frozen? ⟨w.heap.size, j, none⟩ = false := by intro j; rw [(bcell hbw4).2 _ _ (by first | (simp; done) | (simp; omega) | omega)]; first | (simp [go_sem, *]; done) | exact fz3_0 j
  have fz4_1 : ∀ j, w4.frozen? ⟨w1.heap.size, j, none⟩ = false := by intro j; rw [(bcell hbw4).2 _ _ (by first | (simp; done) | (simp; omega) | omega)]; first | (simp [go_sem, *]; done) | exact fz3_1 j
  clear c3_0 c3_1 c3_2 c3_3 c3_4 c3_5 c3_6 c3_7 c3_8 c3_9 c3_10 c3_11 c3_12 c3_13 c3_14 o3_0 n3_0 t3_0_1 t3_0_2 t3_0_3 o3_1 n3_1 t3_1_1 t3_1_2 t3_1_3 o3_2 n3_2 t3_2_1 t3_2_2 t3_2_3
  have o4_0 : w.heap.size < w4.heap.size := by omega
  have n4_0 : w4.heap.size ≠ w.heap.size := by omega
  have t4_0_1 : w.heap.size < w4.heap.size + 1 := by omega
  have t4_0_2 : w.heap.size < w4.heap.size + 1 + 1 := by omega
  have t4_0_3 : w.heap.size < w4.heap.size + 1 + 1 + 1 := by omega
  have o4_1 : w1.heap.size < w4.heap.size := by omega
  have n4_1 : w4.heap.size ≠ w1.heap.size := by omega
  have t4_1_1 : w1.heap.size < w4.heap.size + 1 := by omega
  have t4_1_2 : w1.heap.size < w4.heap.size + 1 + 1 := by omega
  have t4_1_3 : w1.heap.size < w4.heap.size + 1 + 1 + 1 := by omega
  have o4_2 : w1.heap.size + 1 < w4.heap.size := by omega
  have n4_2 : w4.heap.size ≠ w1.heap.size + 1 := by omega
  have t4_2_1 : w1.heap.size + 1 < w4.heap.size + 1 := by omega
  have t4_2_2 : w1.heap.size + 1 < w4.heap.size + 1 + 1 := by omega
  have t4_2_3 : w1.heap.size + 1 < w4.heap.size + 1 + 1 + 1 := by omega
  have b4 : w.heap.size ≤ w4.heap.size := by omega
  clear hbw4
  go_wp2_with fail
  refine (baseIsSmall_is n1 d1 true _ hs1).mono ?_
  rintro e w5 ⟨rfl, hbw5⟩
  have z5 := hbw5.size
  try simp at z5
  have c5_0 : w5.cell? ⟨w.heap.size, 0, none⟩ = some (.int .i64 0) := by rw [(bcell hbw5).1 _ _ (by first | (simp; done) | (simp; omega) | omega)]; simp [go_sem, World.cell?_alloc_past, *]
  have c5_1 : w5.cell? ⟨w.heap.size, 1, none⟩ = some (.int .i64 0) := by rw [(bcell hbw5).1 _ _ (by first | (simp; done) | (simp; omega) | omega)]; simp [go_sem, World.cell?_alloc_past, *]
  have c5_2 : w5.cell? ⟨w.heap.size, 2, none⟩ = some (.int .i64 0) := by rw [(bcell hbw5).1 _ _ (by first | (simp; done) | (simp; omega) | omega)]; simp [go_sem, World.cell?_alloc_past, *]
  have c5_3 : w5.cell? ⟨w.heap.size, 3, none⟩ = some (.int .i64 0) := by rw [(bcell hbw5).1 _ _ (by first | (simp; done) | (simp; omega) | omega)]; simp [go_sem, World.cell?_alloc_past, *]
  have c5_4 : w5.cell? ⟨w.heap.size, 4, none⟩ = some (.int .i64 0) := by rw [(bcell hbw5).1 _ _ (by first | (simp; done) | (simp; omega) | omega)]; simp [go_sem, World.cell?_alloc_past, *]
  have c5_5 : w5.cell? ⟨w.heap.size, 5, none⟩ = some (.int .i64 0) := by rw [(bcell hbw5).1 _ _ (by first | (simp; done) | (simp; omega) | omega)]; simp [go_sem, World.cell?_alloc_past, *]
  have c5_6 : w5.cell? ⟨w1.heap.size, 0, none⟩ = some (.int .i64 n0) := by rw [(bcell hbw5).1 _ _ (by first | (simp; done) | (simp; omega) | omega)]; simp [go_sem, World.cell?_alloc_past, *]
  have c5_7 : w5.cell? ⟨w1.heap.size, 1, none⟩ = some (.int .i64 d0) := by rw [(bcell hbw5).1 _ _ (by first | (simp; done) | (simp; omega) | omega)]; simp [go_sem, World.cell?_alloc_past, *]
  have c5_8 : w5.cell? ⟨w1.heap.size, 2, none⟩ = some (.int .i64 n1) := by rw [(bcell hbw5).1 _ _ (by first | (simp; done) | (simp; omega) | omega)]; simp [go_sem, World.cell?_alloc_past, *]
  have c5_9 : w5.cell? ⟨w1.heap.size, 3, none⟩ = some (.int .i64 d1) := by rw [(bcell hbw5).1 _ _ (by first | (simp; done) | (simp; omega) | omega)]; simp [go_sem, World.cell?_alloc_past, *]
  have c5_10 : w5.cell? ⟨w1.heap.size, 4, none⟩ = some (.int .i64 0) := by rw [(bcell hbw5).1 _ _ (by first | (simp; done) | (simp; omega) | omega)]; simp [go_sem, World.cell?_alloc_past, *]
  have c5_11 : w5.cell? ⟨w1.heap.size, 5, none⟩ = some (.int .i64 0) := by rw [(bcell hbw5).1 _ _ (by first | (simp; done) | (simp; omega) | omega)]; simp [go_sem, World.cell?_alloc_past, *]
  have c5_12 : w5.cell? ⟨w1.heap.size + 1, 0, none⟩ = some (.int .i64 X) := by rw [(bcell hbw5).1 _ _ (by first | (simp; done) | (simp; omega) | omega)]; simp [go_sem, World.cell?_alloc_past, *]
  have c5_13 : w5.cell? ⟨w1.heap.size + 1, 1, none⟩ = some (.int .i64 Y) := by rw [(bcell hbw5).1 _ _ (by first | (simp; done) | (simp; omega) | omega)]; simp [go_sem, World.cell?_alloc_past, *]
  have c5_14 : w5.cell? ⟨w1.heap.size + 1, 2, none⟩ = some (.int .i64 V) := by rw [(bcell hbw5).1 _ _ (by first | (simp; done) | (simp; omega) | omega)]; simp [go_sem, World.cell?_alloc_past, *]
  have hB5 : Below w.heap.size w w5 := (by (repeat (first | (with_reducible refine Below.drew ?_) | (with_reducible refine below_drewN ?_ _) | (with_reducible refine Below.alloc ?_ (by first | omega | (simp; done) | (simp; omega) | (simp at *; omega)) _) | (with_reducible refine Below.setCell ?_ (by first | omega | (simp; done) | (simp; omega) | (simp at *; omega)) _) | (with_reducible exact Below.refl _ _) | (with_reducible assumption) | (with_reducible refine Below.trans ?_ (Below.mono (by assumption) (by first | omega | (simp; done) | (simp; omega) | (simp at *; omega)))))))
  have fz5_0 : ∀ j, w5.frozen? ⟨w.heap.size, j, none⟩ = false := by intro j; rw [(bcell hbw5).2 _ _ (by first | (simp; done) | (simp; omega) | omega)]; first | (simp [go_sem, *]; done) | exact fz4_0 j
  have fz5_1 : ∀ j, w5.frozen? ⟨w1.heap.size, j, none⟩ = false := by intro j; rw [(bcell hbw5).2 _ _ (by first | (simp; done) | (simp; omega) | omega)]; first | (simp [go_sem, *]; done) | exact fz4_1 j
  clear c4_0 c4_1 c4_2 c4_3 c4_4 c4_5 c4_6 c4_7 c4_8 c4_9 c4_10 c4_11 c4_12 c4_13 c4_14 o4_0 n4_0 t4_0_1 t4_0_2 t4_0_3 o4_1 n4_1 t4_1_1 t4_1_2 t4_1_3 o4_2 n4_2 t4_2_1 t4_2_2 t4_2_3
  have o5_0 : w.heap.size < w5.heap.size := by omega
  have n5_0 : w5.heap.size ≠ w.heap.size := by omega
  have t5_0_1 : w.heap.size < w5.heap.size + 1 := by omega
  have t5_0_2 : w.heap.size < w5.heap.size + 1 + 1 := by omega
  have t5_0_3 : w.heap.size < w5.heap.size + 1 + 1 + 1 := by omega
  have o5_1 : w1.heap.size < w5.heap.size := by omega
  have n5_1 : w5.heap.size ≠ w1.heap.size := by omega
  have t5_1_1 : w1.heap.size < w5.heap.size + 1 := by omega
  have t5_1_2 : w1.heap.size < w5.heap.size + 1 + 1 := by omega
  have t5_1_3 : w1.heap.size < w5.heap.size + 1 + 1 + 1 := by omega
  have o5_2 : w1.heap.size + 1 < w5.heap.size := by omega
  have n5_2 : w5.heap.size ≠ w1.heap.size + 1 := by omega
  have t5_2_1 : w1.heap.size + 1 < w5.heap.size + 1 := by omega
  have t5_2_2 : w1.heap.size + 1 < w5.heap.size + 1 + 1 := by omega
  have t5_2_3 : w1.heap.size + 1 < w5.heap.size + 1 + 1 + 1 := by omega
  have b5 : w.heap.size ≤ w5.heap.size := by omega
  clear hbw5
  go_wp2
  rw [rounds_succ]
  go_wp2_with fail
  refine (baseLowest_is V T n2 d2 _ V0 (by omega) T0 (by omega) hn2 hd2).mono ?_
  rintro e w6 ⟨rfl, hbw6⟩
  have z6 := hbw6.size
  try simp at z6
  have c6_0 : w6.cell? ⟨w.heap.size, 0, none⟩ = some (.int .i64 0) := by rw [(bcell hbw6).1 _ _ (by first | (simp; done) | (simp; omega) | omega)]; simp [go_sem, World.cell?_alloc_past, *]
  have c6_1 : w6.cell? ⟨w.heap.size, 1, none⟩ = some (.int .i64 0) := by rw [(bcell hbw6).1 _ _ (by first | (simp; done) | (simp; omega) | omega)]; simp [go_sem, World.cell?_alloc_past, *]
  have c6_2 : w6.cell? ⟨w.heap.size, 2, none⟩ = some (.int .i64 0) := by rw [(bcell hbw6).1 _ _ (by first | (simp; done) | (simp; omega) | omega)]; simp [go_sem, World.cell?_alloc_past, *]
  have c6_3 : w6.cell? ⟨w.heap.size, 3, none⟩ = some (.int .i64 0) := by rw [(bcell hbw6).1 _ _ (by first | (simp; done) | (simp; omega) | omega)]; simp [go_sem, World.cell?_alloc_past, *]
  have c6_4 : w6.cell? ⟨w.heap.size, 4, none⟩ = some (.int .i64 0) := by rw [(bcell hbw6).1 _ _ (by first | (simp; done) | (simp; omega) | omega)]; simp [go_sem, World.cell?_alloc_past, *]
  have c6_5 : w6.cell? ⟨w.heap.size, 5, none⟩ = some (.int .i64 0) := by rw [(bcell hbw6).1 _ _ (by first | (simp; done) | (simp; omega) | omega)]; simp [go_sem, World.cell?_alloc_past, *]
  have c6_6 : w6.cell? ⟨w1.heap.size, 0, none⟩ = some (.int .i64 n0) := by rw [(bcell hbw6).1 _ _ (by first | (simp; done) | (simp; omega) | omega)]; simp [go_sem, World.cell?_alloc_past, *]
  have c6_7 : w6.cell? ⟨w1.heap.size, 1, none⟩ = some (.int .i64 d0) := by rw [(bcell hbw6).1 _ _ (by first | (simp; done) | (simp; omega) | omega)]; simp [go_sem, World.cell?_alloc_past, *]
  have c6_8 : w6.cell? ⟨w1.heap.size, 2, none⟩ = some (.int .i64 n1) := by rw [(bcell hbw6).1 _ _ (by first | (simp; done) | (simp; omega) | omega)]; simp [go_sem, World.cell?_alloc_past, *]
  have c6_9 : w6.cell? ⟨w1.heap.size, 3, none⟩ = some (.int .i64 d1) := by rw [(bcell hbw6).1 _ _ (by first | (simp; done) | (simp; omega) | omega)]; simp [go_sem, World.cell?_alloc_past, *]
  have c6_10 : w6.cell? ⟨w1.heap.size, 4, none⟩ = some (.int .i64 0) := by rw [(bcell hbw6).1 _ _ (by first | (simp; done) | (simp; omega) | omega)]; simp [go_sem, World.cell?_alloc_past, *]
  have c6_11 : w6.cell? ⟨w1.heap.size, 5, none⟩ = some (.int .i64 0) := by rw [(bcell hbw6).1 _ _ (by first | (simp; done) | (simp; omega) | omega)]; simp [go_sem, World.cell?_alloc_past, *]
  have c6_12 : w6.cell? ⟨w1.heap.size + 1, 0, none⟩ = some (.int .i64 X) := by rw [(bcell hbw6).1 _ _ (by first | (simp; done) | (simp; omega) | omega)]; simp [go_sem, World.cell?_alloc_past, *]
  have c6_13 : w6.cell? ⟨w1.heap.size + 1, 1, none⟩ = some (.int .i64 Y) := by rw [(bcell hbw6).1 _ _ (by first | (simp; done) | (simp; omega) | omega)]; simp [go_sem, World.cell?_alloc_past, *]
  have c6_14 : w6.cell? ⟨w1.heap.size + 1, 2, none⟩ = some (.int .i64 V) := by rw [(bcell hbw6).1 _ _ (by first | (simp; done) | (simp; omega) | omega)]; simp [go_sem, World.cell?_alloc_past, *]
  have hB6 : Below w.heap.size w w6 := (by (repeat (first | (with_reducible refine Below.drew ?_) | (with_reducible refine below_drewN ?_ _) | (with_reducible refine Below.alloc ?_ (by first | omega | (simp; done) | (simp; omega) | (simp at *; omega)) _) | (with_reducible refine Below.setCell ?_ (by first | omega | (simp; done) | (simp; omega) | (simp at *; omega)) _) | (with_reducible exact Below.refl _ _) | (with_reducible assumption) | (with_reducible refine Below.trans ?_ (Below.mono (by assumption) (by first | omega | (simp; done) | (simp; omega) | (simp at *; omega)))))))
  have fz6_0 : ∀ j, w6.frozen? ⟨w.heap.size, j, none⟩ = false := by intro j; rw [(bcell hbw6).2 _ _ (by first | (simp; done) | (simp; omega) | omega)]; first | (simp [go_sem, *]; done) | exact fz5_0 j
  have fz6_1 : ∀ j, w6.frozen? ⟨w1.heap.size, j, none⟩ = false := by intro j; rw [(bcell hbw6).2 _ _ (by first | (simp; done) | (simp; omega) | omega)]; first | (simp [go_sem, *]; done) | exact fz5_1 j
  clear c5_0 c5_1 c5_2 c5_3 c5_4 c5_5 c5_6 c5_7 c5_8 c5_9 c5_10 c5_11 c5_12 c5_13 c5_14 o5_0 n5_0 t5_0_1 t5_0_2 t5_0_3 o5_1 n5_1 t5_1_1 t5_1_2 t5_1_3 o5_2 n5_2 t5_2_1 t5_2_2 t5_2_3
  have o6_0 : w.heap.size < w6.heap.size := by omega
  have n6_0 : w6.heap.size ≠ w.heap.size := by omega
  have t6_0_1 : w.heap.size < w6.heap.size + 1 := by omega
  have t6_0_2 : w.heap.size < w6.heap.size + 1 + 1 := by omega
  have t6_0_3 : w.heap.size < w6.heap.size + 1 + 1 + 1 := by omega
  have o6_1 : w1.heap.size < w6.heap.size := by omega
  have n6_1 : w6.heap.size ≠ w1.heap.size := by omega
  have t6_1_1 : w1.heap.size < w6.heap.size + 1 := by omega
  have t6_1_2 : w1.heap.size < w6.heap.size + 1 + 1 := by omega
  have t6_1_3 : w1.heap.size < w6.heap.size + 1 + 1 + 1 := by omega
  have o6_2 : w1.heap.size + 1 < w6.heap.size := by omega
  have n6_2 : w6.heap.size ≠ w1.heap.size + 1 := by omega
  have t6_2_1 : w1.heap.size + 1 < w6.heap.size + 1 := by omega
  have t6_2_2 : w1.heap.size + 1 < w6.heap.size + 1 + 1 := by omega
  have t6_2_3 : w1.heap.size + 1 < w6.heap.size + 1 + 1 + 1 := by omega
  have b6 : w.heap.size ≤ w6.heap.size := by omega
  clear hbw6
  go_wp2_with fail
  refine (baseIsSmall_is n2 d2 true _ hs2).mono ?_
  rintro e w7 ⟨rfl, hbw7⟩
  have z7 := hbw7.size
  try simp at z7
  have c7_0 : w7.cell? ⟨w.heap.size, 0, none⟩ = some (.int .i64 0) := by rw [(bcell hbw7).1 _ _ (by first | (simp; done) | (simp; omega) | omega)]; simp [go_sem, World.cell?_alloc_past, *]
  have c7_1 : w7.cell? ⟨w.heap.size, 1, none⟩ = some (.int .i64 0) := by rw [(bcell hbw7).1 _ _ (by first | (simp; done) | (simp; omega) | omega)]; simp [go_sem, World.cell?_alloc_past, *]
  have c7_2 : w7.cell? ⟨w.heap.size, 2, none⟩ = some (.int .i64 0) := by rw [(bcell hbw7).1 _ _ (by first | (simp; done) | (simp; omega) | omega)]; simp [go_sem, World.cell?_alloc_past, *]
  have c7_3 : w7.cell? ⟨w.heap.size, 3, none⟩ = some (.int .i64 0) := by rw [(bcell hbw7).1 _ _ (by first | (simp; done) | (simp; omega) | omega)]; simp [go_sem, World.cell?_alloc_past, *]
  have c7_4 : w7.cell? ⟨w.heap.size, 4, none⟩ = some (.int .i64 0) := by rw [(bcell hbw7).1 _ _ (by first | (simp; done) | (simp; omega) | omega)]; simp [go_sem, World.cell?_alloc_past, *]
  have c7_5 : w7.cell? ⟨w.heap.size, 5, none⟩ = some (.int .i64 0) := by rw [(bcell hbw7).1 _ _ (by first | (simp; done) | (simp; omega) | omega)]; simp [go_sem, World.cell?_alloc_past, *]
  have c7_6 : w7.cell? ⟨w1.heap.size, 0, none⟩ = some (.int .i64 n0) := by rw [(bcell hbw7).1 _ _ (by first | (simp; done) | (simp; omega) | omega)]; simp [go_sem, World.cell?_alloc_past, *]
  have c7_7 : w7.cell? ⟨w1.heap.size, 1, none⟩ = some (.int .i64 d0) := by rw [(bcell hbw7).1 _ _ (by first | (simp; done) | (simp; omega) | omega)]; simp [go_sem, World.cell?_alloc_past, *]
  have c7_8 : w7.cell? ⟨w1.heap.size, 2, none⟩ = some (.int .i64 n1) := by rw [(bcell hbw7).1 _ _ (by first | (simp; done) | (simp; omega) | omega)]; simp [go_sem, World.cell?_alloc_past, *]
  have c7_9 : w7.cell? ⟨w1.heap.size, 3, none⟩ = some (.int .i64 d1) := by rw [(bcell hbw7).1 _ _ (by first | (simp; done) | (simp; omega) | omega)]; simp [go_sem, World.cell?_alloc_past, *]
  have c7_10 : w7.cell? ⟨w1.heap.size, 4, none⟩ = some (.int .i64 n2) := by rw [(bcell hbw7).1 _ _ (by first | (simp; done) | (simp; omega) | omega)]; simp [go_sem, World.cell?_alloc_past, *]
  have c7_11 : w7.cell? ⟨w1.heap.size, 5, none⟩ = some (.int .i64 d2) := by rw [(bcell hbw7).1 _ _ (by first | (simp; done) | (simp; omega) | omega)]; simp [go_sem, World.cell?_alloc_past, *]
  have c7_12 : w7.cell? ⟨w1.heap.size + 1, 0, none⟩ = some (.int .i64 X) := by rw [(bcell hbw7).1 _ _ (by first | (simp; done) | (simp; omega) | omega)]; simp [go_sem, World.cell?_alloc_past, *]
  have c7_13 : w7.cell? ⟨w1.heap.size + 1, 1, none⟩ = some (.int .i64 Y) := by rw [(bcell hbw7).1 _ _ (by first | (simp; done) | (simp; omega) | omega)]; simp [go_sem, World.cell?_alloc_past, *]
  have c7_14 : w7.cell? ⟨w1.heap.size + 1, 2, none⟩ = some (.int .i64 V) := by rw [(bcell hbw7).1 _ _ (by first | (simp; done) | (simp; omega) | omega)]; simp [go_sem, World.cell?_alloc_past, *]
  have hB7 : Below w.heap.size w w7 := (by (repeat (first | (with_reducible refine Below.drew ?_) | (with_reducible refine below_drewN ?_ _) | (with_reducible refine Below.alloc ?_ (by first | omega | (simp; done) | (simp; omega) | (simp at *; omega)) _) | (with_reducible refine Below.setCell ?_ (by first | omega | (simp; done) | (simp; omega) | (simp at *; omega)) _) | (with_reducible exact Below.refl _ _) | (with_reducible assumption) | (with_reducible refine Below.trans ?_ (Below.mono (by assumption) (by first | omega | (simp; done) | (simp; omega) | (simp at *; omega)))))))
  have fz7_0 : ∀ j, w7.frozen? ⟨w.heap.size, j, none⟩ = false := by intro j; rw [(bcell hbw7).2 _ _ (by first | (simp; done) | (simp; omega) | omega)]; first | (simp [go_sem, *]; done) | exact fz6_0 j
  have fz7_1 : ∀ j, w7.frozen? ⟨w1.heap.size, j, none⟩ = false := by intro j; rw [(bcell hbw7).2 _ _ (by first | (simp; done) | (simp; omega) | omega)]; first | (simp [go_sem, *]; done) | exact fz6_1 j
  clear c6_0 c6_1 c6_2 c6_3 c6_4 c6_5 c6_6 c6_7 c6_8 c6_9 c6_10 c6_11 c6_12 c6_13 c6_14 o6_0 n6_0 t6_0_1 t6_0_2 t6_0_3 o6_1 n6_1 t6_1_1 t6_1_2 t6_1_3 o6_2 n6_2 t6_2_1 t6_2_2 t6_2_3
  have o7_0 : w.heap.size < w7.heap.size := by omega
  have n7_0 : w7.heap.size ≠ w.heap.size := by omega
  have t7_0_1 : w.heap.size < w7.heap.size + 1 := by omega
  have t7_0_2 : w.heap.size < w7.heap.size + 1 + 1 := by omega
  have t7_0_3 : w.heap.size < w7.heap.size + 1 + 1 + 1 := by omega
  have o7_1 : w1.heap.size < w7.heap.size := by omega
  have n7_1 : w7.heap.size ≠ w1.heap.size := by omega
  have t7_1_1 : w1.heap.size < w7.heap.size + 1 := by omega
  have t7_1_2 : w1.heap.size < w7.heap.size + 1 + 1 := by omega
  have t7_1_3 : w1.heap.size < w7.heap.size + 1 + 1 + 1 := by omega
  have o7_2 : w1.heap.size + 1 < w7.heap.size := by omega
  have n7_2 : w7.heap.size ≠ w1.heap.size + 1 := by omega
  have t7_2_1 : w1.heap.size + 1 < w7.heap.size + 1 := by omega
  have t7_2_2 : w1.heap.size + 1 < w7.heap.size + 1 + 1 := by omega
  have t7_2_3 : w1.heap.size + 1 < w7.heap.size + 1 + 1 + 1 := by omega
  have b7 : w.heap.size ≤ w7.heap.size := by omega
  clear hbw7
  go_wp2
  rw [rounds_succ]
  go_wp2
  refine bodyPost_ret (v := .tuple #[.agg #[.int .i64 n0, .int .i64 d0, .int .i64 n1, .int .i64 d1, .int .i64 n2, .int .i64 d2], .int .i64 0]) (by simp [results, Tryd.results60, go_sem, *]) rfl ⟨rfl, ?_⟩
  (repeat (first | (with_reducible refine Below.drew ?_) | (with_reducible refine below_drewN ?_ _) | (with_reducible refine Below.alloc ?_ (by first | omega | (simp; done) | (simp; omega) | (simp at *; omega)) _) | (with_reducible refine Below.setCell ?_ (by first | omega | (simp; done) | (simp; omega) | (simp at *; omega)) _) | (with_reducible exact Below.refl _ _) | (with_reducible assumption) | (with_reducible refine Below.trans ?_ (Below.mono (by assumption) (by first | omega | (simp; done) | (simp; omega) | (simp at *; omega))))))
end Go.Proofs.YtebieflnlmdllaaDoor
