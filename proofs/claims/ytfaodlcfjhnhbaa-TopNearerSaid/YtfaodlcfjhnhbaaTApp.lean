/- What tissue.approach returns: a load that approaches what is breathed. -/
import Derived.Test.YtfaodlcfjhnhbaaDecM
import Derived.Outline
namespace Go.Proofs.Ytfaodlcfjhnhbaa
open Go.ChangeShapes Go.WideShapes Go.ChangeAt Go.RowKit
set_option linter.unusedVariables false
set_option linter.unusedSimpArgs false

/-- The lower end of a load goes towards a, the upper end towards b, with a decay from x to y. -/
def apL (l a x y : Int) : Int := if a ≤ l then a + shLo (l - a) x else a - shHi (a - l) y
def apH (l b x y : Int) : Int := if b ≤ l then b + shHi (l - b) y else b - shLo (b - l) x
theorem shLo_bd2 {n p : Int} (h0 : 0 ≤ n) (p0 : 0 ≤ p) (p1 : p ≤ 1000000000) : 0 ≤ shLo n p ∧ shLo n p ≤ n := by
  have a := Int.mul_nonneg h0 p0
  have b := Int.mul_le_mul_of_nonneg_left p1 h0
  unfold shLo
  omega
theorem shHi_bd2 {n p : Int} (h0 : 0 ≤ n) (p0 : 0 ≤ p) (p1 : p ≤ 1000000000) : 0 ≤ shHi n p ∧ shHi n p ≤ n := by
  have a := Int.mul_nonneg h0 p0
  have b := Int.mul_le_mul_of_nonneg_left p1 h0
  unfold shHi
  omega
theorem apL_bd {l a x y m : Int} (h0 : 0 ≤ l) (h1 : l ≤ m) (a0 : 0 ≤ a) (a1 : a ≤ m) (x0 : 0 ≤ x) (x1 : x ≤ 1000000000) (y0 : 0 ≤ y) (y1 : y ≤ 1000000000) : 0 ≤ apL l a x y ∧ apL l a x y ≤ m := by
  unfold apL
  split
  · have := shLo_bd2 (n := l - a) (by omega) x0 x1; omega
  · have := shHi_bd2 (n := a - l) (by omega) y0 y1; omega
theorem apH_bd {l a x y m : Int} (h0 : 0 ≤ l) (h1 : l ≤ m) (a0 : 0 ≤ a) (a1 : a ≤ m) (x0 : 0 ≤ x) (x1 : x ≤ 1000000000) (y0 : 0 ≤ y) (y1 : y ≤ 1000000000) : 0 ≤ apH l a x y ∧ apH l a x y ≤ m := by
  unfold apH
  split
  · have := shHi_bd2 (n := l - a) (by omega) y0 y1; omega
  · have := shLo_bd2 (n := a - l) (by omega) x0 x1; omega
theorem share_lo (n p r : Int) (w : World) (h0 : 0 ≤ n) (h1 : n ≤ 2000000000) (p0 : 0 ≤ p) (p1 : p ≤ 1000000000) (hr : Hid (shLo n p = r)) :
    Calls Try.prog 74 #[.int .i64 n, .int .i64 p] w fun e w' => (∃ g, e = .returned (.agg #[.int .i64 r, .int .i64 g])) ∧ Below w.heap.size w w' :=
  (share_any n p w h0 h1 p0 p1).mono fun e w' h => ⟨⟨shHi n p, by rw [h.1, hr.out]⟩, h.2⟩
theorem share_hi (n p r : Int) (w : World) (h0 : 0 ≤ n) (h1 : n ≤ 2000000000) (p0 : 0 ≤ p) (p1 : p ≤ 1000000000) (hr : Hid (shHi n p = r)) :
    Calls Try.prog 74 #[.int .i64 n, .int .i64 p] w fun e w' => (∃ g, e = .returned (.agg #[.int .i64 g, .int .i64 r])) ∧ Below w.heap.size w w' :=
  (share_any n p w h0 h1 p0 p1).mono fun e w' h => ⟨⟨shLo n p, by rw [h.1, hr.out]⟩, h.2⟩
set_option maxHeartbeats 1000000 in
theorem approach_00 (l m a b x y : Int) (w : World) (l0 : 0 ≤ l) (l1 : l ≤ 100000000) (m0 : 0 ≤ m) (m1 : m ≤ 100000000) (a0 : 0 ≤ a) (a1 : a ≤ 100000000) (b0 : 0 ≤ b) (b1 : b ≤ 100000000) (x0 : 0 ≤ x) (x1 : x ≤ 1000000000) (y0 : 0 ≤ y) (y1 : y ≤ 1000000000) (hc1 : a ≤ l) (hc2 : b ≤ m) :
    Calls Try.prog 54 #[.agg #[.int .i64 l, .int .i64 m], .agg #[.int .i64 a, .int .i64 b], .agg #[.int .i64 x, .int .i64 y]] w fun e w' => e = .returned (.agg #[.int .i64 (a + shLo (l - a) x), .int .i64 (b + shHi (m - b) y)]) ∧ Below w.heap.size w w' := by
  have fl0 := fld0
  have fl1 := fld1
  have sb1 := shLo_bd2 (n := (l - a)) (p := x) (by omega) (by omega) (by omega)
  have sb2 := shHi_bd2 (n := (m - b)) (p := y) (by omega) (by omega) (by omega)
  obtain ⟨r1, hr1⟩ : ∃ r, Hid (shLo (l - a) x = r) := ⟨_, rfl⟩
  obtain ⟨r2, hr2⟩ : ∃ r, Hid (shHi (m - b) y = r) := ⟨_, rfl⟩
  rw [hr1.out] at sb1
  rw [hr2.out] at sb2
  rw [hr1.out, hr2.out]
  obtain ⟨s1, s2⟩ := sb1
  obtain ⟨s3, s4⟩ := sb2
  go_enter Try.func54, Try.ntmps54
  go_wp2
  go_quiet (fail)
  go_wp2_with fail
  refine (share_lo (l - a) x r1 _ (by omega) (by omega) (by omega) (by omega) hr1).mono ?_
  rintro e w1 ⟨⟨gw1, rfl⟩, hbw1⟩
  have z1 := hbw1.size
  try simp at z1
  have c1_0_0 : w1.cell? ⟨w.heap.size, 0, none⟩ = some (.int .i64 l) := by rw [(bcell hbw1).1 _ _ (by first | (simp; done) | (simp; omega) | omega)]; simp [go_sem, World.cell?_alloc_past, *]
  have c1_0_1 : w1.cell? ⟨w.heap.size, 1, none⟩ = some (.int .i64 m) := by rw [(bcell hbw1).1 _ _ (by first | (simp; done) | (simp; omega) | omega)]; simp [go_sem, World.cell?_alloc_past, *]
  have c1_1_0 : w1.cell? ⟨w.heap.size + 1, 0, none⟩ = some (.int .i64 a) := by rw [(bcell hbw1).1 _ _ (by first | (simp; done) | (simp; omega) | omega)]; simp [go_sem, World.cell?_alloc_past, *]
  have c1_1_1 : w1.cell? ⟨w.heap.size + 1, 1, none⟩ = some (.int .i64 b) := by rw [(bcell hbw1).1 _ _ (by first | (simp; done) | (simp; omega) | omega)]; simp [go_sem, World.cell?_alloc_past, *]
  have c1_2_0 : w1.cell? ⟨w.heap.size + 1 + 1, 0, none⟩ = some (.int .i64 x) := by rw [(bcell hbw1).1 _ _ (by first | (simp; done) | (simp; omega) | omega)]; simp [go_sem, World.cell?_alloc_past, *]
  have c1_2_1 : w1.cell? ⟨w.heap.size + 1 + 1, 1, none⟩ = some (.int .i64 y) := by rw [(bcell hbw1).1 _ _ (by first | (simp; done) | (simp; omega) | omega)]; simp [go_sem, World.cell?_alloc_past, *]
  have c1_3_0 : w1.cell? ⟨w.heap.size + 1 + 1 + 1, 0, none⟩ = some (.int .i64 0) := by rw [(bcell hbw1).1 _ _ (by first | (simp; done) | (simp; omega) | omega)]; simp [go_sem, World.cell?_alloc_past, *]
  have c1_3_1 : w1.cell? ⟨w.heap.size + 1 + 1 + 1, 1, none⟩ = some (.int .i64 0) := by rw [(bcell hbw1).1 _ _ (by first | (simp; done) | (simp; omega) | omega)]; simp [go_sem, World.cell?_alloc_past, *]
  have f1_3 : ∀ j, w1.frozen? ⟨w.heap.size + 1 + 1 + 1, j, none⟩ = false := fun j => by rw [(bcell hbw1).2 _ _ (by first | (simp; done) | (simp; omega) | omega)]; simp [go_sem, *]
  have c1_4_0 : w1.cell? ⟨w.heap.size + 1 + 1 + 1 + 1, 0, none⟩ = some (.int .i64 0) := by rw [(bcell hbw1).1 _ _ (by first | (simp; done) | (simp; omega) | omega)]; simp [go_sem, World.cell?_alloc_past, *]
  have c1_4_1 : w1.cell? ⟨w.heap.size + 1 + 1 + 1 + 1, 1, none⟩ = some (.int .i64 0) := by rw [(bcell hbw1).1 _ _ (by first | (simp; done) | (simp; omega) | omega)]; simp [go_sem, World.cell?_alloc_past, *]
  have f1_4 : ∀ j, w1.frozen? ⟨w.heap.size + 1 + 1 + 1 + 1, j, none⟩ = false := fun j => by rw [(bcell hbw1).2 _ _ (by first | (simp; done) | (simp; omega) | omega)]; simp [go_sem, *]
  have hB1 : Below w.heap.size w w1 := (by (repeat (first | (with_reducible refine Below.drew ?_) | (with_reducible refine below_drewN ?_ _) | (with_reducible refine Below.alloc ?_ (by first | omega | (simp; done) | (simp; omega) | (simp at *; omega)) _) | (with_reducible refine Below.setCell ?_ (by first | omega | (simp; done) | (simp; omega) | (simp at *; omega)) _) | (with_reducible exact Below.refl _ _) | (with_reducible assumption) | (with_reducible refine Below.trans ?_ (Below.mono (by assumption) (by first | omega | (simp; done) | (simp; omega) | (simp at *; omega)))))))
  have o1_0 : w.heap.size < w1.heap.size := by omega
  have n1_0 : w1.heap.size ≠ w.heap.size := by omega
  have t1_0_1 : w.heap.size < w1.heap.size + 1 := by omega
  have t1_0_2 : w.heap.size < w1.heap.size + 1 + 1 := by omega
  have t1_0_3 : w.heap.size < w1.heap.size + 1 + 1 + 1 := by omega
  have t1_0_4 : w.heap.size < w1.heap.size + 1 + 1 + 1 + 1 := by omega
  have t1_0_5 : w.heap.size < w1.heap.size + 1 + 1 + 1 + 1 + 1 := by omega
  have o1_1 : w.heap.size + 1 < w1.heap.size := by omega
  have n1_1 : w1.heap.size ≠ w.heap.size + 1 := by omega
  have t1_1_1 : w.heap.size + 1 < w1.heap.size + 1 := by omega
  have t1_1_2 : w.heap.size + 1 < w1.heap.size + 1 + 1 := by omega
  have t1_1_3 : w.heap.size + 1 < w1.heap.size + 1 + 1 + 1 := by omega
  have t1_1_4 : w.heap.size + 1 < w1.heap.size + 1 + 1 + 1 + 1 := by omega
  have t1_1_5 : w.heap.size + 1 < w1.heap.size + 1 + 1 + 1 + 1 + 1 := by omega
  have o1_2 : w.heap.size + 1 + 1 < w1.heap.size := by omega
  have n1_2 : w1.heap.size ≠ w.heap.size + 1 + 1 := by omega
  have t1_2_1 : w.heap.size + 1 + 1 < w1.heap.size + 1 := by omega
  have t1_2_2 : w.heap.size + 1 + 1 < w1.heap.size + 1 + 1 := by omega
  have t1_2_3 : w.heap.size + 1 + 1 < w1.heap.size + 1 + 1 + 1 := by omega
  have t1_2_4 : w.heap.size + 1 + 1 < w1.heap.size + 1 + 1 + 1 + 1 := by omega
  have t1_2_5 : w.heap.size + 1 + 1 < w1.heap.size + 1 + 1 + 1 + 1 + 1 := by omega
  have o1_3 : w.heap.size + 1 + 1 + 1 < w1.heap.size := by omega
  have n1_3 : w1.heap.size ≠ w.heap.size + 1 + 1 + 1 := by omega
  have t1_3_1 : w.heap.size + 1 + 1 + 1 < w1.heap.size + 1 := by omega
  have t1_3_2 : w.heap.size + 1 + 1 + 1 < w1.heap.size + 1 + 1 := by omega
  have t1_3_3 : w.heap.size + 1 + 1 + 1 < w1.heap.size + 1 + 1 + 1 := by omega
  have t1_3_4 : w.heap.size + 1 + 1 + 1 < w1.heap.size + 1 + 1 + 1 + 1 := by omega
  have t1_3_5 : w.heap.size + 1 + 1 + 1 < w1.heap.size + 1 + 1 + 1 + 1 + 1 := by omega
  have o1_4 : w.heap.size + 1 + 1 + 1 + 1 < w1.heap.size := by omega
  have n1_4 : w1.heap.size ≠ w.heap.size + 1 + 1 + 1 + 1 := by omega
  have t1_4_1 : w.heap.size + 1 + 1 + 1 + 1 < w1.heap.size + 1 := by omega
  have t1_4_2 : w.heap.size + 1 + 1 + 1 + 1 < w1.heap.size + 1 + 1 := by omega
  have t1_4_3 : w.heap.size + 1 + 1 + 1 + 1 < w1.heap.size + 1 + 1 + 1 := by omega
  have t1_4_4 : w.heap.size + 1 + 1 + 1 + 1 < w1.heap.size + 1 + 1 + 1 + 1 := by omega
  have t1_4_5 : w.heap.size + 1 + 1 + 1 + 1 < w1.heap.size + 1 + 1 + 1 + 1 + 1 := by omega
  have bb1 : w.heap.size ≤ w1.heap.size := by omega
  clear hbw1
  go_wp2_with fail
  refine (share_hi (m - b) y r2 _ (by omega) (by omega) (by omega) (by omega) hr2).mono ?_
  rintro e w2 ⟨⟨gw2, rfl⟩, hbw2⟩
  have z2 := hbw2.size
  try simp at z2
  have c2_0_0 : w2.cell? ⟨w.heap.size, 0, none⟩ = some (.int .i64 l) := by rw [(bcell hbw2).1 _ _ (by first | (simp; done) | (simp; omega) | omega)]; simp [go_sem, World.cell?_alloc_past, *]
  have c2_0_1 : w2.cell? ⟨w.heap.size, 1, none⟩ = some (.int .i64 m) := by rw [(bcell hbw2).1 _ _ (by first | (simp; done) | (simp; omega) | omega)]; simp [go_sem, World.cell?_alloc_past, *]
  have c2_1_0 : w2.cell? ⟨w.heap.size + 1, 0, none⟩ = some (.int .i64 a) := by rw [(bcell hbw2).1 _ _ (by first | (simp; done) | (simp; omega) | omega)]; simp [go_sem, World.cell?_alloc_past, *]
  have c2_1_1 : w2.cell? ⟨w.heap.size + 1, 1, none⟩ = some (.int .i64 b) := by rw [(bcell hbw2).1 _ _ (by first | (simp; done) | (simp; omega) | omega)]; simp [go_sem, World.cell?_alloc_past, *]
  have c2_2_0 : w2.cell? ⟨w.heap.size + 1 + 1, 0, none⟩ = some (.int .i64 x) := by rw [(bcell hbw2).1 _ _ (by first | (simp; done) | (simp; omega) | omega)]; simp [go_sem, World.cell?_alloc_past, *]
  have c2_2_1 : w2.cell? ⟨w.heap.size + 1 + 1, 1, none⟩ = some (.int .i64 y) := by rw [(bcell hbw2).1 _ _ (by first | (simp; done) | (simp; omega) | omega)]; simp [go_sem, World.cell?_alloc_past, *]
  have c2_3_0 : w2.cell? ⟨w.heap.size + 1 + 1 + 1, 0, none⟩ = some (.int .i64 0) := by rw [(bcell hbw2).1 _ _ (by first | (simp; done) | (simp; omega) | omega)]; simp [go_sem, World.cell?_alloc_past, *]
  have c2_3_1 : w2.cell? ⟨w.heap.size + 1 + 1 + 1, 1, none⟩ = some (.int .i64 0) := by rw [(bcell hbw2).1 _ _ (by first | (simp; done) | (simp; omega) | omega)]; simp [go_sem, World.cell?_alloc_past, *]
  have f2_3 : ∀ j, w2.frozen? ⟨w.heap.size + 1 + 1 + 1, j, none⟩ = false := fun j => by rw [(bcell hbw2).2 _ _ (by first | (simp; done) | (simp; omega) | omega)]; simp [go_sem, *]
  have c2_4_0 : w2.cell? ⟨w.heap.size + 1 + 1 + 1 + 1, 0, none⟩ = some (.int .i64 (a + r1)) := by rw [(bcell hbw2).1 _ _ (by first | (simp; done) | (simp; omega) | omega)]; simp [go_sem, World.cell?_alloc_past, *]
  have c2_4_1 : w2.cell? ⟨w.heap.size + 1 + 1 + 1 + 1, 1, none⟩ = some (.int .i64 0) := by rw [(bcell hbw2).1 _ _ (by first | (simp; done) | (simp; omega) | omega)]; simp [go_sem, World.cell?_alloc_past, *]
  have f2_4 : ∀ j, w2.frozen? ⟨w.heap.size + 1 + 1 + 1 + 1, j, none⟩ = false := fun j => by rw [(bcell hbw2).2 _ _ (by first | (simp; done) | (simp; omega) | omega)]; simp [go_sem, *]
  have hB2 : Below w.heap.size w w2 := (by (repeat (first | (with_reducible refine Below.drew ?_) | (with_reducible refine below_drewN ?_ _) | (with_reducible refine Below.alloc ?_ (by first | omega | (simp; done) | (simp; omega) | (simp at *; omega)) _) | (with_reducible refine Below.setCell ?_ (by first | omega | (simp; done) | (simp; omega) | (simp at *; omega)) _) | (with_reducible exact Below.refl _ _) | (with_reducible assumption) | (with_reducible refine Below.trans ?_ (Below.mono (by assumption) (by first | omega | (simp; done) | (simp; omega) | (simp at *; omega)))))))
  clear c1_0_0 c1_0_1 c1_1_0 c1_1_1 c1_2_0 c1_2_1 c1_3_0 c1_3_1 f1_3 c1_4_0 c1_4_1 f1_4 o1_0 n1_0 t1_0_1 t1_0_2 t1_0_3 t1_0_4 t1_0_5 o1_1 n1_1 t1_1_1 t1_1_2 t1_1_3 t1_1_4 t1_1_5 o1_2 n1_2 t1_2_1 t1_2_2 t1_2_3 t1_2_4 t1_2_5 o1_3 n1_3 t1_3_1 t1_3_2 t1_3_3 t1_3_4 t1_3_5 o1_4 n1_4 t1_4_1 t1_4_2 t1_4_3 t1_4_4 t1_4_5
  have o2_0 : w.heap.size < w2.heap.size := by omega
  have n2_0 : w2.heap.size ≠ w.heap.size := by omega
  have t2_0_1 : w.heap.size < w2.heap.size + 1 := by omega
  have t2_0_2 : w.heap.size < w2.heap.size + 1 + 1 := by omega
  have t2_0_3 : w.heap.size < w2.heap.size + 1 + 1 + 1 := by omega
  have t2_0_4 : w.heap.size < w2.heap.size + 1 + 1 + 1 + 1 := by omega
  have t2_0_5 : w.heap.size < w2.heap.size + 1 + 1 + 1 + 1 + 1 := by omega
  have o2_1 : w.heap.size + 1 < w2.heap.size := by omega
  have n2_1 : w2.heap.size ≠ w.heap.size + 1 := by omega
  have t2_1_1 : w.heap.size + 1 < w2.heap.size + 1 := by omega
  have t2_1_2 : w.heap.size + 1 < w2.heap.size + 1 + 1 := by omega
  have t2_1_3 : w.heap.size + 1 < w2.heap.size + 1 + 1 + 1 := by omega
  have t2_1_4 : w.heap.size + 1 < w2.heap.size + 1 + 1 + 1 + 1 := by omega
  have t2_1_5 : w.heap.size + 1 < w2.heap.size + 1 + 1 + 1 + 1 + 1 := by omega
  have o2_2 : w.heap.size + 1 + 1 < w2.heap.size := by omega
  have n2_2 : w2.heap.size ≠ w.heap.size + 1 + 1 := by omega
  have t2_2_1 : w.heap.size + 1 + 1 < w2.heap.size + 1 := by omega
  have t2_2_2 : w.heap.size + 1 + 1 < w2.heap.size + 1 + 1 := by omega
  have t2_2_3 : w.heap.size + 1 + 1 < w2.heap.size + 1 + 1 + 1 := by omega
  have t2_2_4 : w.heap.size + 1 + 1 < w2.heap.size + 1 + 1 + 1 + 1 := by omega
  have t2_2_5 : w.heap.size + 1 + 1 < w2.heap.size + 1 + 1 + 1 + 1 + 1 := by omega
  have o2_3 : w.heap.size + 1 + 1 + 1 < w2.heap.size := by omega
  have n2_3 : w2.heap.size ≠ w.heap.size + 1 + 1 + 1 := by omega
  have t2_3_1 : w.heap.size + 1 + 1 + 1 < w2.heap.size + 1 := by omega
  have t2_3_2 : w.heap.size + 1 + 1 + 1 < w2.heap.size + 1 + 1 := by omega
  have t2_3_3 : w.heap.size + 1 + 1 + 1 < w2.heap.size + 1 + 1 + 1 := by omega
  have t2_3_4 : w.heap.size + 1 + 1 + 1 < w2.heap.size + 1 + 1 + 1 + 1 := by omega
  have t2_3_5 : w.heap.size + 1 + 1 + 1 < w2.heap.size + 1 + 1 + 1 + 1 + 1 := by omega
  have o2_4 : w.heap.size + 1 + 1 + 1 + 1 < w2.heap.size := by omega
  have n2_4 : w2.heap.size ≠ w.heap.size + 1 + 1 + 1 + 1 := by omega
  have t2_4_1 : w.heap.size + 1 + 1 + 1 + 1 < w2.heap.size + 1 := by omega
  have t2_4_2 : w.heap.size + 1 + 1 + 1 + 1 < w2.heap.size + 1 + 1 := by omega
  have t2_4_3 : w.heap.size + 1 + 1 + 1 + 1 < w2.heap.size + 1 + 1 + 1 := by omega
  have t2_4_4 : w.heap.size + 1 + 1 + 1 + 1 < w2.heap.size + 1 + 1 + 1 + 1 := by omega
  have t2_4_5 : w.heap.size + 1 + 1 + 1 + 1 < w2.heap.size + 1 + 1 + 1 + 1 + 1 := by omega
  have bb2 : w.heap.size ≤ w2.heap.size := by omega
  clear hbw2
  go_wp2
  refine bodyPost_ret (v := .agg #[.int .i64 (a + r1), .int .i64 (b + r2)]) (by simp [results, Try.results54, go_sem, World.cell?_alloc_past, *]) rfl ⟨rfl, ?_⟩
  (repeat (first | (with_reducible refine Below.drew ?_) | (with_reducible refine below_drewN ?_ _) | (with_reducible refine Below.alloc ?_ (by first | omega | (simp; done) | (simp; omega) | (simp at *; omega)) _) | (with_reducible refine Below.setCell ?_ (by first | omega | (simp; done) | (simp; omega) | (simp at *; omega)) _) | (with_reducible exact Below.refl _ _) | (with_reducible assumption) | (with_reducible refine Below.trans ?_ (Below.mono (by assumption) (by first | omega | (simp; done) | (simp; omega) | (simp at *; omega))))))
set_option maxHeartbeats 1000000 in
theorem approach_01 (l m a b x y : Int) (w : World) (l0 : 0 ≤ l) (l1 : l ≤ 100000000) (m0 : 0 ≤ m) (m1 : m ≤ 100000000) (a0 : 0 ≤ a) (a1 : a ≤ 100000000) (b0 : 0 ≤ b) (b1 : b ≤ 100000000) (x0 : 0 ≤ x) (x1 : x ≤ 1000000000) (y0 : 0 ≤ y) (y1 : y ≤ 1000000000) (hc1 : a ≤ l) (hc2 : ¬ b ≤ m) :
    Calls Try.prog 54 #[.agg #[.int .i64 l, .int .i64 m], .agg #[.int .i64 a, .int .i64 b], .agg #[.int .i64 x, .int .i64 y]] w fun e w' => e = .returned (.agg #[.int .i64 (a + shLo (l - a) x), .int .i64 (b - shLo (b - m) x)]) ∧ Below w.heap.size w w' := by
  have fl0 := fld0
  have fl1 := fld1
  have sb1 := shLo_bd2 (n := (l - a)) (p := x) (by omega) (by omega) (by omega)
  have sb2 := shLo_bd2 (n := (b - m)) (p := x) (by omega) (by omega) (by omega)
  obtain ⟨r1, hr1⟩ : ∃ r, Hid (shLo (l - a) x = r) := ⟨_, rfl⟩
  obtain ⟨r2, hr2⟩ : ∃ r, Hid (shLo (b - m) x = r) := ⟨_, rfl⟩
  rw [hr1.out] at sb1
  rw [hr2.out] at sb2
  rw [hr1.out, hr2.out]
  obtain ⟨s1, s2⟩ := sb1
  obtain ⟨s3, s4⟩ := sb2
  have hc2' : m < b := by omega
  go_enter Try.func54, Try.ntmps54
  go_wp2
  go_quiet (fail)
  go_wp2_with fail
  refine (share_lo (l - a) x r1 _ (by omega) (by omega) (by omega) (by omega) hr1).mono ?_
  rintro e w1 ⟨⟨gw1, rfl⟩, hbw1⟩
  have z1 := hbw1.size
  try simp at z1
  have c1_0_0 : w1.cell? ⟨w.heap.size, 0, none⟩ = some (.int .i64 l) := by rw [(bcell hbw1).1 _ _ (by first | (simp; done) | (simp; omega) | omega)]; simp [go_sem, World.cell?_alloc_past, *]
  have c1_0_1 : w1.cell? ⟨w.heap.size, 1, none⟩ = some (.int .i64 m) := by rw [(bcell hbw1).1 _ _ (by first | (simp; done) | (simp; omega) | omega)]; simp [go_sem, World.cell?_alloc_past, *]
  have c1_1_0 : w1.cell? ⟨w.heap.size + 1, 0, none⟩ = some (.int .i64 a) := by rw [(bcell hbw1).1 _ _ (by first | (simp; done) | (simp; omega) | omega)]; simp [go_sem, World.cell?_alloc_past, *]
  have c1_1_1 : w1.cell? ⟨w.heap.size + 1, 1, none⟩ = some (.int .i64 b) := by rw [(bcell hbw1).1 _ _ (by first | (simp; done) | (simp; omega) | omega)]; simp [go_sem, World.cell?_alloc_past, *]
  have c1_2_0 : w1.cell? ⟨w.heap.size + 1 + 1, 0, none⟩ = some (.int .i64 x) := by rw [(bcell hbw1).1 _ _ (by first | (simp; done) | (simp; omega) | omega)]; simp [go_sem, World.cell?_alloc_past, *]
  have c1_2_1 : w1.cell? ⟨w.heap.size + 1 + 1, 1, none⟩ = some (.int .i64 y) := by rw [(bcell hbw1).1 _ _ (by first | (simp; done) | (simp; omega) | omega)]; simp [go_sem, World.cell?_alloc_past, *]
  have c1_3_0 : w1.cell? ⟨w.heap.size + 1 + 1 + 1, 0, none⟩ = some (.int .i64 0) := by rw [(bcell hbw1).1 _ _ (by first | (simp; done) | (simp; omega) | omega)]; simp [go_sem, World.cell?_alloc_past, *]
  have c1_3_1 : w1.cell? ⟨w.heap.size + 1 + 1 + 1, 1, none⟩ = some (.int .i64 0) := by rw [(bcell hbw1).1 _ _ (by first | (simp; done) | (simp; omega) | omega)]; simp [go_sem, World.cell?_alloc_past, *]
  have f1_3 : ∀ j, w1.frozen? ⟨w.heap.size + 1 + 1 + 1, j, none⟩ = false := fun j => by rw [(bcell hbw1).2 _ _ (by first | (simp; done) | (simp; omega) | omega)]; simp [go_sem, *]
  have c1_4_0 : w1.cell? ⟨w.heap.size + 1 + 1 + 1 + 1, 0, none⟩ = some (.int .i64 0) := by rw [(bcell hbw1).1 _ _ (by first | (simp; done) | (simp; omega) | omega)]; simp [go_sem, World.cell?_alloc_past, *]
  have c1_4_1 : w1.cell? ⟨w.heap.size + 1 + 1 + 1 + 1, 1, none⟩ = some (.int .i64 0) := by rw [(bcell hbw1).1 _ _ (by first | (simp; done) | (simp; omega) | omega)]; simp [go_sem, World.cell?_alloc_past, *]
  have f1_4 : ∀ j, w1.frozen? ⟨w.heap.size + 1 + 1 + 1 + 1, j, none⟩ = false := fun j => by rw [(bcell hbw1).2 _ _ (by first | (simp; done) | (simp; omega) | omega)]; simp [go_sem, *]
  have hB1 : Below w.heap.size w w1 := (by (repeat (first | (with_reducible refine Below.drew ?_) | (with_reducible refine below_drewN ?_ _) | (with_reducible refine Below.alloc ?_ (by first | omega | (simp; done) | (simp; omega) | (simp at *; omega)) _) | (with_reducible refine Below.setCell ?_ (by first | omega | (simp; done) | (simp; omega) | (simp at *; omega)) _) | (with_reducible exact Below.refl _ _) | (with_reducible assumption) | (with_reducible refine Below.trans ?_ (Below.mono (by assumption) (by first | omega | (simp; done) | (simp; omega) | (simp at *; omega)))))))
  have o1_0 : w.heap.size < w1.heap.size := by omega
  have n1_0 : w1.heap.size ≠ w.heap.size := by omega
  have t1_0_1 : w.heap.size < w1.heap.size + 1 := by omega
  have t1_0_2 : w.heap.size < w1.heap.size + 1 + 1 := by omega
  have t1_0_3 : w.heap.size < w1.heap.size + 1 + 1 + 1 := by omega
  have t1_0_4 : w.heap.size < w1.heap.size + 1 + 1 + 1 + 1 := by omega
  have t1_0_5 : w.heap.size < w1.heap.size + 1 + 1 + 1 + 1 + 1 := by omega
  have o1_1 : w.heap.size + 1 < w1.heap.size := by omega
  have n1_1 : w1.heap.size ≠ w.heap.size + 1 := by omega
  have t1_1_1 : w.heap.size + 1 < w1.heap.size + 1 := by omega
  have t1_1_2 : w.heap.size + 1 < w1.heap.size + 1 + 1 := by omega
  have t1_1_3 : w.heap.size + 1 < w1.heap.size + 1 + 1 + 1 := by omega
  have t1_1_4 : w.heap.size + 1 < w1.heap.size + 1 + 1 + 1 + 1 := by omega
  have t1_1_5 : w.heap.size + 1 < w1.heap.size + 1 + 1 + 1 + 1 + 1 := by omega
  have o1_2 : w.heap.size + 1 + 1 < w1.heap.size := by omega
  have n1_2 : w1.heap.size ≠ w.heap.size + 1 + 1 := by omega
  have t1_2_1 : w.heap.size + 1 + 1 < w1.heap.size + 1 := by omega
  have t1_2_2 : w.heap.size + 1 + 1 < w1.heap.size + 1 + 1 := by omega
  have t1_2_3 : w.heap.size + 1 + 1 < w1.heap.size + 1 + 1 + 1 := by omega
  have t1_2_4 : w.heap.size + 1 + 1 < w1.heap.size + 1 + 1 + 1 + 1 := by omega
  have t1_2_5 : w.heap.size + 1 + 1 < w1.heap.size + 1 + 1 + 1 + 1 + 1 := by omega
  have o1_3 : w.heap.size + 1 + 1 + 1 < w1.heap.size := by omega
  have n1_3 : w1.heap.size ≠ w.heap.size + 1 + 1 + 1 := by omega
  have t1_3_1 : w.heap.size + 1 + 1 + 1 < w1.heap.size + 1 := by omega
  have t1_3_2 : w.heap.size + 1 + 1 + 1 < w1.heap.size + 1 + 1 := by omega
  have t1_3_3 : w.heap.size + 1 + 1 + 1 < w1.heap.size + 1 + 1 + 1 := by omega
  have t1_3_4 : w.heap.size + 1 + 1 + 1 < w1.heap.size + 1 + 1 + 1 + 1 := by omega
  have t1_3_5 : w.heap.size + 1 + 1 + 1 < w1.heap.size + 1 + 1 + 1 + 1 + 1 := by omega
  have o1_4 : w.heap.size + 1 + 1 + 1 + 1 < w1.heap.size := by omega
  have n1_4 : w1.heap.size ≠ w.heap.size + 1 + 1 + 1 + 1 := by omega
  have t1_4_1 : w.heap.size + 1 + 1 + 1 + 1 < w1.heap.size + 1 := by omega
  have t1_4_2 : w.heap.size + 1 + 1 + 1 + 1 < w1.heap.size + 1 + 1 := by omega
  have t1_4_3 : w.heap.size + 1 + 1 + 1 + 1 < w1.heap.size + 1 + 1 + 1 := by omega
  have t1_4_4 : w.heap.size + 1 + 1 + 1 + 1 < w1.heap.size + 1 + 1 + 1 + 1 := by omega
  have t1_4_5 : w.heap.size + 1 + 1 + 1 + 1 < w1.heap.size + 1 + 1 + 1 + 1 + 1 := by omega
  have bb1 : w.heap.size ≤ w1.heap.size := by omega
  clear hbw1
  go_wp2_with fail
  refine (share_lo (b - m) x r2 _ (by omega) (by omega) (by omega) (by omega) hr2).mono ?_
  rintro e w2 ⟨⟨gw2, rfl⟩, hbw2⟩
  have z2 := hbw2.size
  try simp at z2
  have c2_0_0 : w2.cell? ⟨w.heap.size, 0, none⟩ = some (.int .i64 l) := by rw [(bcell hbw2).1 _ _ (by first | (simp; done) | (simp; omega) | omega)]; simp [go_sem, World.cell?_alloc_past, *]
  have c2_0_1 : w2.cell? ⟨w.heap.size, 1, none⟩ = some (.int .i64 m) := by rw [(bcell hbw2).1 _ _ (by first | (simp; done) | (simp; omega) | omega)]; simp [go_sem, World.cell?_alloc_past, *]
  have c2_1_0 : w2.cell? ⟨w.heap.size + 1, 0, none⟩ = some (.int .i64 a) := by rw [(bcell hbw2).1 _ _ (by first | (simp; done) | (simp; omega) | omega)]; simp [go_sem, World.cell?_alloc_past, *]
  have c2_1_1 : w2.cell? ⟨w.heap.size + 1, 1, none⟩ = some (.int .i64 b) := by rw [(bcell hbw2).1 _ _ (by first | (simp; done) | (simp; omega) | omega)]; simp [go_sem, World.cell?_alloc_past, *]
  have c2_2_0 : w2.cell? ⟨w.heap.size + 1 + 1, 0, none⟩ = some (.int .i64 x) := by rw [(bcell hbw2).1 _ _ (by first | (simp; done) | (simp; omega) | omega)]; simp [go_sem, World.cell?_alloc_past, *]
  have c2_2_1 : w2.cell? ⟨w.heap.size + 1 + 1, 1, none⟩ = some (.int .i64 y) := by rw [(bcell hbw2).1 _ _ (by first | (simp; done) | (simp; omega) | omega)]; simp [go_sem, World.cell?_alloc_past, *]
  have c2_3_0 : w2.cell? ⟨w.heap.size + 1 + 1 + 1, 0, none⟩ = some (.int .i64 0) := by rw [(bcell hbw2).1 _ _ (by first | (simp; done) | (simp; omega) | omega)]; simp [go_sem, World.cell?_alloc_past, *]
  have c2_3_1 : w2.cell? ⟨w.heap.size + 1 + 1 + 1, 1, none⟩ = some (.int .i64 0) := by rw [(bcell hbw2).1 _ _ (by first | (simp; done) | (simp; omega) | omega)]; simp [go_sem, World.cell?_alloc_past, *]
  have f2_3 : ∀ j, w2.frozen? ⟨w.heap.size + 1 + 1 + 1, j, none⟩ = false := fun j => by rw [(bcell hbw2).2 _ _ (by first | (simp; done) | (simp; omega) | omega)]; simp [go_sem, *]
  have c2_4_0 : w2.cell? ⟨w.heap.size + 1 + 1 + 1 + 1, 0, none⟩ = some (.int .i64 (a + r1)) := by rw [(bcell hbw2).1 _ _ (by first | (simp; done) | (simp; omega) | omega)]; simp [go_sem, World.cell?_alloc_past, *]
  have c2_4_1 : w2.cell? ⟨w.heap.size + 1 + 1 + 1 + 1, 1, none⟩ = some (.int .i64 0) := by rw [(bcell hbw2).1 _ _ (by first | (simp; done) | (simp; omega) | omega)]; simp [go_sem, World.cell?_alloc_past, *]
  have f2_4 : ∀ j, w2.frozen? ⟨w.heap.size + 1 + 1 + 1 + 1, j, none⟩ = false := fun j => by rw [(bcell hbw2).2 _ _ (by first | (simp; done) | (simp; omega) | omega)]; simp [go_sem, *]
  have hB2 : Below w.heap.size w w2 := (by (repeat (first | (with_reducible refine Below.drew ?_) | (with_reducible refine below_drewN ?_ _) | (with_reducible refine Below.alloc ?_ (by first | omega | (simp; done) | (simp; omega) | (simp at *; omega)) _) | (with_reducible refine Below.setCell ?_ (by first | omega | (simp; done) | (simp; omega) | (simp at *; omega)) _) | (with_reducible exact Below.refl _ _) | (with_reducible assumption) | (with_reducible refine Below.trans ?_ (Below.mono (by assumption) (by first | omega | (simp; done) | (simp; omega) | (simp at *; omega)))))))
  clear c1_0_0 c1_0_1 c1_1_0 c1_1_1 c1_2_0 c1_2_1 c1_3_0 c1_3_1 f1_3 c1_4_0 c1_4_1 f1_4 o1_0 n1_0 t1_0_1 t1_0_2 t1_0_3 t1_0_4 t1_0_5 o1_1 n1_1 t1_1_1 t1_1_2 t1_1_3 t1_1_4 t1_1_5 o1_2 n1_2 t1_2_1 t1_2_2 t1_2_3 t1_2_4 t1_2_5 o1_3 n1_3 t1_3_1 t1_3_2 t1_3_3 t1_3_4 t1_3_5 o1_4 n1_4 t1_4_1 t1_4_2 t1_4_3 t1_4_4 t1_4_5
  have o2_0 : w.heap.size < w2.heap.size := by omega
  have n2_0 : w2.heap.size ≠ w.heap.size := by omega
  have t2_0_1 : w.heap.size < w2.heap.size + 1 := by omega
  have t2_0_2 : w.heap.size < w2.heap.size + 1 + 1 := by omega
  have t2_0_3 : w.heap.size < w2.heap.size + 1 + 1 + 1 := by omega
  have t2_0_4 : w.heap.size < w2.heap.size + 1 + 1 + 1 + 1 := by omega
  have t2_0_5 : w.heap.size < w2.heap.size + 1 + 1 + 1 + 1 + 1 := by omega
  have o2_1 : w.heap.size + 1 < w2.heap.size := by omega
  have n2_1 : w2.heap.size ≠ w.heap.size + 1 := by omega
  have t2_1_1 : w.heap.size + 1 < w2.heap.size + 1 := by omega
  have t2_1_2 : w.heap.size + 1 < w2.heap.size + 1 + 1 := by omega
  have t2_1_3 : w.heap.size + 1 < w2.heap.size + 1 + 1 + 1 := by omega
  have t2_1_4 : w.heap.size + 1 < w2.heap.size + 1 + 1 + 1 + 1 := by omega
  have t2_1_5 : w.heap.size + 1 < w2.heap.size + 1 + 1 + 1 + 1 + 1 := by omega
  have o2_2 : w.heap.size + 1 + 1 < w2.heap.size := by omega
  have n2_2 : w2.heap.size ≠ w.heap.size + 1 + 1 := by omega
  have t2_2_1 : w.heap.size + 1 + 1 < w2.heap.size + 1 := by omega
  have t2_2_2 : w.heap.size + 1 + 1 < w2.heap.size + 1 + 1 := by omega
  have t2_2_3 : w.heap.size + 1 + 1 < w2.heap.size + 1 + 1 + 1 := by omega
  have t2_2_4 : w.heap.size + 1 + 1 < w2.heap.size + 1 + 1 + 1 + 1 := by omega
  have t2_2_5 : w.heap.size + 1 + 1 < w2.heap.size + 1 + 1 + 1 + 1 + 1 := by omega
  have o2_3 : w.heap.size + 1 + 1 + 1 < w2.heap.size := by omega
  have n2_3 : w2.heap.size ≠ w.heap.size + 1 + 1 + 1 := by omega
  have t2_3_1 : w.heap.size + 1 + 1 + 1 < w2.heap.size + 1 := by omega
  have t2_3_2 : w.heap.size + 1 + 1 + 1 < w2.heap.size + 1 + 1 := by omega
  have t2_3_3 : w.heap.size + 1 + 1 + 1 < w2.heap.size + 1 + 1 + 1 := by omega
  have t2_3_4 : w.heap.size + 1 + 1 + 1 < w2.heap.size + 1 + 1 + 1 + 1 := by omega
  have t2_3_5 : w.heap.size + 1 + 1 + 1 < w2.heap.size + 1 + 1 + 1 + 1 + 1 := by omega
  have o2_4 : w.heap.size + 1 + 1 + 1 + 1 < w2.heap.size := by omega
  have n2_4 : w2.heap.size ≠ w.heap.size + 1 + 1 + 1 + 1 := by omega
  have t2_4_1 : w.heap.size + 1 + 1 + 1 + 1 < w2.heap.size + 1 := by omega
  have t2_4_2 : w.heap.size + 1 + 1 + 1 + 1 < w2.heap.size + 1 + 1 := by omega
  have t2_4_3 : w.heap.size + 1 + 1 + 1 + 1 < w2.heap.size + 1 + 1 + 1 := by omega
  have t2_4_4 : w.heap.size + 1 + 1 + 1 + 1 < w2.heap.size + 1 + 1 + 1 + 1 := by omega
  have t2_4_5 : w.heap.size + 1 + 1 + 1 + 1 < w2.heap.size + 1 + 1 + 1 + 1 + 1 := by omega
  have bb2 : w.heap.size ≤ w2.heap.size := by omega
  clear hbw2
  go_wp2
  refine bodyPost_ret (v := .agg #[.int .i64 (a + r1), .int .i64 (b - r2)]) (by simp [results, Try.results54, go_sem, World.cell?_alloc_past, *]) rfl ⟨rfl, ?_⟩
  (repeat (first | (with_reducible refine Below.drew ?_) | (with_reducible refine below_drewN ?_ _) | (with_reducible refine Below.alloc ?_ (by first | omega | (simp; done) | (simp; omega) | (simp at *; omega)) _) | (with_reducible refine Below.setCell ?_ (by first | omega | (simp; done) | (simp; omega) | (simp at *; omega)) _) | (with_reducible exact Below.refl _ _) | (with_reducible assumption) | (with_reducible refine Below.trans ?_ (Below.mono (by assumption) (by first | omega | (simp; done) | (simp; omega) | (simp at *; omega))))))
set_option maxHeartbeats 1000000 in
theorem approach_10 (l m a b x y : Int) (w : World) (l0 : 0 ≤ l) (l1 : l ≤ 100000000) (m0 : 0 ≤ m) (m1 : m ≤ 100000000) (a0 : 0 ≤ a) (a1 : a ≤ 100000000) (b0 : 0 ≤ b) (b1 : b ≤ 100000000) (x0 : 0 ≤ x) (x1 : x ≤ 1000000000) (y0 : 0 ≤ y) (y1 : y ≤ 1000000000) (hc1 : ¬ a ≤ l) (hc2 : b ≤ m) :
    Calls Try.prog 54 #[.agg #[.int .i64 l, .int .i64 m], .agg #[.int .i64 a, .int .i64 b], .agg #[.int .i64 x, .int .i64 y]] w fun e w' => e = .returned (.agg #[.int .i64 (a - shHi (a - l) y), .int .i64 (b + shHi (m - b) y)]) ∧ Below w.heap.size w w' := by
  have fl0 := fld0
  have fl1 := fld1
  have sb1 := shHi_bd2 (n := (a - l)) (p := y) (by omega) (by omega) (by omega)
  have sb2 := shHi_bd2 (n := (m - b)) (p := y) (by omega) (by omega) (by omega)
  obtain ⟨r1, hr1⟩ : ∃ r, Hid (shHi (a - l) y = r) := ⟨_, rfl⟩
  obtain ⟨r2, hr2⟩ : ∃ r, Hid (shHi (m - b) y = r) := ⟨_, rfl⟩
  rw [hr1.out] at sb1
  rw [hr2.out] at sb2
  rw [hr1.out, hr2.out]
  obtain ⟨s1, s2⟩ := sb1
  obtain ⟨s3, s4⟩ := sb2
  have hc1' : l < a := by omega
  go_enter Try.func54, Try.ntmps54
  go_wp2
  go_quiet (fail)
  go_wp2_with fail
  refine (share_hi (a - l) y r1 _ (by omega) (by omega) (by omega) (by omega) hr1).mono ?_
  rintro e w1 ⟨⟨gw1, rfl⟩, hbw1⟩
  have z1 := hbw1.size
  try simp at z1
  have c1_0_0 : w1.cell? ⟨w.heap.size, 0, none⟩ = some (.int .i64 l) := by rw [(bcell hbw1).1 _ _ (by first | (simp; done) | (simp; omega) | omega)]; simp [go_sem, World.cell?_alloc_past, *]
  have c1_0_1 : w1.cell? ⟨w.heap.size, 1, none⟩ = some (.int .i64 m) := by rw [(bcell hbw1).1 _ _ (by first | (simp; done) | (simp; omega) | omega)]; simp [go_sem, World.cell?_alloc_past, *]
  have c1_1_0 : w1.cell? ⟨w.heap.size + 1, 0, none⟩ = some (.int .i64 a) := by rw [(bcell hbw1).1 _ _ (by first | (simp; done) | (simp; omega) | omega)]; simp [go_sem, World.cell?_alloc_past, *]
  have c1_1_1 : w1.cell? ⟨w.heap.size + 1, 1, none⟩ = some (.int .i64 b) := by rw [(bcell hbw1).1 _ _ (by first | (simp; done) | (simp; omega) | omega)]; simp [go_sem, World.cell?_alloc_past, *]
  have c1_2_0 : w1.cell? ⟨w.heap.size + 1 + 1, 0, none⟩ = some (.int .i64 x) := by rw [(bcell hbw1).1 _ _ (by first | (simp; done) | (simp; omega) | omega)]; simp [go_sem, World.cell?_alloc_past, *]
  have c1_2_1 : w1.cell? ⟨w.heap.size + 1 + 1, 1, none⟩ = some (.int .i64 y) := by rw [(bcell hbw1).1 _ _ (by first | (simp; done) | (simp; omega) | omega)]; simp [go_sem, World.cell?_alloc_past, *]
  have c1_3_0 : w1.cell? ⟨w.heap.size + 1 + 1 + 1, 0, none⟩ = some (.int .i64 0) := by rw [(bcell hbw1).1 _ _ (by first | (simp; done) | (simp; omega) | omega)]; simp [go_sem, World.cell?_alloc_past, *]
  have c1_3_1 : w1.cell? ⟨w.heap.size + 1 + 1 + 1, 1, none⟩ = some (.int .i64 0) := by rw [(bcell hbw1).1 _ _ (by first | (simp; done) | (simp; omega) | omega)]; simp [go_sem, World.cell?_alloc_past, *]
  have f1_3 : ∀ j, w1.frozen? ⟨w.heap.size + 1 + 1 + 1, j, none⟩ = false := fun j => by rw [(bcell hbw1).2 _ _ (by first | (simp; done) | (simp; omega) | omega)]; simp [go_sem, *]
  have c1_4_0 : w1.cell? ⟨w.heap.size + 1 + 1 + 1 + 1, 0, none⟩ = some (.int .i64 0) := by rw [(bcell hbw1).1 _ _ (by first | (simp; done) | (simp; omega) | omega)]; simp [go_sem, World.cell?_alloc_past, *]
  have c1_4_1 : w1.cell? ⟨w.heap.size + 1 + 1 + 1 + 1, 1, none⟩ = some (.int .i64 0) := by rw [(bcell hbw1).1 _ _ (by first | (simp; done) | (simp; omega) | omega)]; simp [go_sem, World.cell?_alloc_past, *]
  have f1_4 : ∀ j, w1.frozen? ⟨w.heap.size + 1 + 1 + 1 + 1, j, none⟩ = false := fun j => by rw [(bcell hbw1).2 _ _ (by first | (simp; done) | (simp; omega) | omega)]; simp [go_sem, *]
  have hB1 : Below w.heap.size w w1 := (by (repeat (first | (with_reducible refine Below.drew ?_) | (with_reducible refine below_drewN ?_ _) | (with_reducible refine Below.alloc ?_ (by first | omega | (simp; done) | (simp; omega) | (simp at *; omega)) _) | (with_reducible refine Below.setCell ?_ (by first | omega | (simp; done) | (simp; omega) | (simp at *; omega)) _) | (with_reducible exact Below.refl _ _) | (with_reducible assumption) | (with_reducible refine Below.trans ?_ (Below.mono (by assumption) (by first | omega | (simp; done) | (simp; omega) | (simp at *; omega)))))))
  have o1_0 : w.heap.size < w1.heap.size := by omega
  have n1_0 : w1.heap.size ≠ w.heap.size := by omega
  have t1_0_1 : w.heap.size < w1.heap.size + 1 := by omega
  have t1_0_2 : w.heap.size < w1.heap.size + 1 + 1 := by omega
  have t1_0_3 : w.heap.size < w1.heap.size + 1 + 1 + 1 := by omega
  have t1_0_4 : w.heap.size < w1.heap.size + 1 + 1 + 1 + 1 := by omega
  have t1_0_5 : w.heap.size < w1.heap.size + 1 + 1 + 1 + 1 + 1 := by omega
  have o1_1 : w.heap.size + 1 < w1.heap.size := by omega
  have n1_1 : w1.heap.size ≠ w.heap.size + 1 := by omega
  have t1_1_1 : w.heap.size + 1 < w1.heap.size + 1 := by omega
  have t1_1_2 : w.heap.size + 1 < w1.heap.size + 1 + 1 := by omega
  have t1_1_3 : w.heap.size + 1 < w1.heap.size + 1 + 1 + 1 := by omega
  have t1_1_4 : w.heap.size + 1 < w1.heap.size + 1 + 1 + 1 + 1 := by omega
  have t1_1_5 : w.heap.size + 1 < w1.heap.size + 1 + 1 + 1 + 1 + 1 := by omega
  have o1_2 : w.heap.size + 1 + 1 < w1.heap.size := by omega
  have n1_2 : w1.heap.size ≠ w.heap.size + 1 + 1 := by omega
  have t1_2_1 : w.heap.size + 1 + 1 < w1.heap.size + 1 := by omega
  have t1_2_2 : w.heap.size + 1 + 1 < w1.heap.size + 1 + 1 := by omega
  have t1_2_3 : w.heap.size + 1 + 1 < w1.heap.size + 1 + 1 + 1 := by omega
  have t1_2_4 : w.heap.size + 1 + 1 < w1.heap.size + 1 + 1 + 1 + 1 := by omega
  have t1_2_5 : w.heap.size + 1 + 1 < w1.heap.size + 1 + 1 + 1 + 1 + 1 := by omega
  have o1_3 : w.heap.size + 1 + 1 + 1 < w1.heap.size := by omega
  have n1_3 : w1.heap.size ≠ w.heap.size + 1 + 1 + 1 := by omega
  have t1_3_1 : w.heap.size + 1 + 1 + 1 < w1.heap.size + 1 := by omega
  have t1_3_2 : w.heap.size + 1 + 1 + 1 < w1.heap.size + 1 + 1 := by omega
  have t1_3_3 : w.heap.size + 1 + 1 + 1 < w1.heap.size + 1 + 1 + 1 := by omega
  have t1_3_4 : w.heap.size + 1 + 1 + 1 < w1.heap.size + 1 + 1 + 1 + 1 := by omega
  have t1_3_5 : w.heap.size + 1 + 1 + 1 < w1.heap.size + 1 + 1 + 1 + 1 + 1 := by omega
  have o1_4 : w.heap.size + 1 + 1 + 1 + 1 < w1.heap.size := by omega
  have n1_4 : w1.heap.size ≠ w.heap.size + 1 + 1 + 1 + 1 := by omega
  have t1_4_1 : w.heap.size + 1 + 1 + 1 + 1 < w1.heap.size + 1 := by omega
  have t1_4_2 : w.heap.size + 1 + 1 + 1 + 1 < w1.heap.size + 1 + 1 := by omega
  have t1_4_3 : w.heap.size + 1 + 1 + 1 + 1 < w1.heap.size + 1 + 1 + 1 := by omega
  have t1_4_4 : w.heap.size + 1 + 1 + 1 + 1 < w1.heap.size + 1 + 1 + 1 + 1 := by omega
  have t1_4_5 : w.heap.size + 1 + 1 + 1 + 1 < w1.heap.size + 1 + 1 + 1 + 1 + 1 := by omega
  have bb1 : w.heap.size ≤ w1.heap.size := by omega
  clear hbw1
  go_wp2_with fail
  refine (share_hi (m - b) y r2 _ (by omega) (by omega) (by omega) (by omega) hr2).mono ?_
  rintro e w2 ⟨⟨gw2, rfl⟩, hbw2⟩
  have z2 := hbw2.size
  try simp at z2
  have c2_0_0 : w2.cell? ⟨w.heap.size, 0, none⟩ = some (.int .i64 l) := by rw [(bcell hbw2).1 _ _ (by first | (simp; done) | (simp; omega) | omega)]; simp [go_sem, World.cell?_alloc_past, *]
  have c2_0_1 : w2.cell? ⟨w.heap.size, 1, none⟩ = some (.int .i64 m) := by rw [(bcell hbw2).1 _ _ (by first | (simp; done) | (simp; omega) | omega)]; simp [go_sem, World.cell?_alloc_past, *]
  have c2_1_0 : w2.cell? ⟨w.heap.size + 1, 0, none⟩ = some (.int .i64 a) := by rw [(bcell hbw2).1 _ _ (by first | (simp; done) | (simp; omega) | omega)]; simp [go_sem, World.cell?_alloc_past, *]
  have c2_1_1 : w2.cell? ⟨w.heap.size + 1, 1, none⟩ = some (.int .i64 b) := by rw [(bcell hbw2).1 _ _ (by first | (simp; done) | (simp; omega) | omega)]; simp [go_sem, World.cell?_alloc_past, *]
  have c2_2_0 : w2.cell? ⟨w.heap.size + 1 + 1, 0, none⟩ = some (.int .i64 x) := by rw [(bcell hbw2).1 _ _ (by first | (simp; done) | (simp; omega) | omega)]; simp [go_sem, World.cell?_alloc_past, *]
  have c2_2_1 : w2.cell? ⟨w.heap.size + 1 + 1, 1, none⟩ = some (.int .i64 y) := by rw [(bcell hbw2).1 _ _ (by first | (simp; done) | (simp; omega) | omega)]; simp [go_sem, World.cell?_alloc_past, *]
  have c2_3_0 : w2.cell? ⟨w.heap.size + 1 + 1 + 1, 0, none⟩ = some (.int .i64 0) := by rw [(bcell hbw2).1 _ _ (by first | (simp; done) | (simp; omega) | omega)]; simp [go_sem, World.cell?_alloc_past, *]
  have c2_3_1 : w2.cell? ⟨w.heap.size + 1 + 1 + 1, 1, none⟩ = some (.int .i64 0) := by rw [(bcell hbw2).1 _ _ (by first | (simp; done) | (simp; omega) | omega)]; simp [go_sem, World.cell?_alloc_past, *]
  have f2_3 : ∀ j, w2.frozen? ⟨w.heap.size + 1 + 1 + 1, j, none⟩ = false := fun j => by rw [(bcell hbw2).2 _ _ (by first | (simp; done) | (simp; omega) | omega)]; simp [go_sem, *]
  have c2_4_0 : w2.cell? ⟨w.heap.size + 1 + 1 + 1 + 1, 0, none⟩ = some (.int .i64 (a - r1)) := by rw [(bcell hbw2).1 _ _ (by first | (simp; done) | (simp; omega) | omega)]; simp [go_sem, World.cell?_alloc_past, *]
  have c2_4_1 : w2.cell? ⟨w.heap.size + 1 + 1 + 1 + 1, 1, none⟩ = some (.int .i64 0) := by rw [(bcell hbw2).1 _ _ (by first | (simp; done) | (simp; omega) | omega)]; simp [go_sem, World.cell?_alloc_past, *]
  have f2_4 : ∀ j, w2.frozen? ⟨w.heap.size + 1 + 1 + 1 + 1, j, none⟩ = false := fun j => by rw [(bcell hbw2).2 _ _ (by first | (simp; done) | (simp; omega) | omega)]; simp [go_sem, *]
  have hB2 : Below w.heap.size w w2 := (by (repeat (first | (with_reducible refine Below.drew ?_) | (with_reducible refine below_drewN ?_ _) | (with_reducible refine Below.alloc ?_ (by first | omega | (simp; done) | (simp; omega) | (simp at *; omega)) _) | (with_reducible refine Below.setCell ?_ (by first | omega | (simp; done) | (simp; omega) | (simp at *; omega)) _) | (with_reducible exact Below.refl _ _) | (with_reducible assumption) | (with_reducible refine Below.trans ?_ (Below.mono (by assumption) (by first | omega | (simp; done) | (simp; omega) | (simp at *; omega)))))))
  clear c1_0_0 c1_0_1 c1_1_0 c1_1_1 c1_2_0 c1_2_1 c1_3_0 c1_3_1 f1_3 c1_4_0 c1_4_1 f1_4 o1_0 n1_0 t1_0_1 t1_0_2 t1_0_3 t1_0_4 t1_0_5 o1_1 n1_1 t1_1_1 t1_1_2 t1_1_3 t1_1_4 t1_1_5 o1_2 n1_2 t1_2_1 t1_2_2 t1_2_3 t1_2_4 t1_2_5 o1_3 n1_3 t1_3_1 t1_3_2 t1_3_3 t1_3_4 t1_3_5 o1_4 n1_4 t1_4_1 t1_4_2 t1_4_3 t1_4_4 t1_4_5
  have o2_0 : w.heap.size < w2.heap.size := by omega
  have n2_0 : w2.heap.size ≠ w.heap.size := by omega
  have t2_0_1 : w.heap.size < w2.heap.size + 1 := by omega
  have t2_0_2 : w.heap.size < w2.heap.size + 1 + 1 := by omega
  have t2_0_3 : w.heap.size < w2.heap.size + 1 + 1 + 1 := by omega
  have t2_0_4 : w.heap.size < w2.heap.size + 1 + 1 + 1 + 1 := by omega
  have t2_0_5 : w.heap.size < w2.heap.size + 1 + 1 + 1 + 1 + 1 := by omega
  have o2_1 : w.heap.size + 1 < w2.heap.size := by omega
  have n2_1 : w2.heap.size ≠ w.heap.size + 1 := by omega
  have t2_1_1 : w.heap.size + 1 < w2.heap.size + 1 := by omega
  have t2_1_2 : w.heap.size + 1 < w2.heap.size + 1 + 1 := by omega
  have t2_1_3 : w.heap.size + 1 < w2.heap.size + 1 + 1 + 1 := by omega
  have t2_1_4 : w.heap.size + 1 < w2.heap.size + 1 + 1 + 1 + 1 := by omega
  have t2_1_5 : w.heap.size + 1 < w2.heap.size + 1 + 1 + 1 + 1 + 1 := by omega
  have o2_2 : w.heap.size + 1 + 1 < w2.heap.size := by omega
  have n2_2 : w2.heap.size ≠ w.heap.size + 1 + 1 := by omega
  have t2_2_1 : w.heap.size + 1 + 1 < w2.heap.size + 1 := by omega
  have t2_2_2 : w.heap.size + 1 + 1 < w2.heap.size + 1 + 1 := by omega
  have t2_2_3 : w.heap.size + 1 + 1 < w2.heap.size + 1 + 1 + 1 := by omega
  have t2_2_4 : w.heap.size + 1 + 1 < w2.heap.size + 1 + 1 + 1 + 1 := by omega
  have t2_2_5 : w.heap.size + 1 + 1 < w2.heap.size + 1 + 1 + 1 + 1 + 1 := by omega
  have o2_3 : w.heap.size + 1 + 1 + 1 < w2.heap.size := by omega
  have n2_3 : w2.heap.size ≠ w.heap.size + 1 + 1 + 1 := by omega
  have t2_3_1 : w.heap.size + 1 + 1 + 1 < w2.heap.size + 1 := by omega
  have t2_3_2 : w.heap.size + 1 + 1 + 1 < w2.heap.size + 1 + 1 := by omega
  have t2_3_3 : w.heap.size + 1 + 1 + 1 < w2.heap.size + 1 + 1 + 1 := by omega
  have t2_3_4 : w.heap.size + 1 + 1 + 1 < w2.heap.size + 1 + 1 + 1 + 1 := by omega
  have t2_3_5 : w.heap.size + 1 + 1 + 1 < w2.heap.size + 1 + 1 + 1 + 1 + 1 := by omega
  have o2_4 : w.heap.size + 1 + 1 + 1 + 1 < w2.heap.size := by omega
  have n2_4 : w2.heap.size ≠ w.heap.size + 1 + 1 + 1 + 1 := by omega
  have t2_4_1 : w.heap.size + 1 + 1 + 1 + 1 < w2.heap.size + 1 := by omega
  have t2_4_2 : w.heap.size + 1 + 1 + 1 + 1 < w2.heap.size + 1 + 1 := by omega
  have t2_4_3 : w.heap.size + 1 + 1 + 1 + 1 < w2.heap.size + 1 + 1 + 1 := by omega
  have t2_4_4 : w.heap.size + 1 + 1 + 1 + 1 < w2.heap.size + 1 + 1 + 1 + 1 := by omega
  have t2_4_5 : w.heap.size + 1 + 1 + 1 + 1 < w2.heap.size + 1 + 1 + 1 + 1 + 1 := by omega
  have bb2 : w.heap.size ≤ w2.heap.size := by omega
  clear hbw2
  go_wp2
  refine bodyPost_ret (v := .agg #[.int .i64 (a - r1), .int .i64 (b + r2)]) (by simp [results, Try.results54, go_sem, World.cell?_alloc_past, *]) rfl ⟨rfl, ?_⟩
  (repeat (first | (with_reducible refine Below.drew ?_) | (with_reducible refine below_drewN ?_ _) | (with_reducible refine Below.alloc ?_ (by first | omega | (simp; done) | (simp; omega) | (simp at *; omega)) _) | (with_reducible refine Below.setCell ?_ (by first | omega | (simp; done) | (simp; omega) | (simp at *; omega)) _) | (with_reducible exact Below.refl _ _) | (with_reducible assumption) | (with_reducible refine Below.trans ?_ (Below.mono (by assumption) (by first | omega | (simp; done) | (simp; omega) | (simp at *; omega))))))
set_option maxHeartbeats 1000000 in
theorem approach_11 (l m a b x y : Int) (w : World) (l0 : 0 ≤ l) (l1 : l ≤ 100000000) (m0 : 0 ≤ m) (m1 : m ≤ 100000000) (a0 : 0 ≤ a) (a1 : a ≤ 100000000) (b0 : 0 ≤ b) (b1 : b ≤ 100000000) (x0 : 0 ≤ x) (x1 : x ≤ 1000000000) (y0 : 0 ≤ y) (y1 : y ≤ 1000000000) (hc1 : ¬ a ≤ l) (hc2 : ¬ b ≤ m) :
    Calls Try.prog 54 #[.agg #[.int .i64 l, .int .i64 m], .agg #[.int .i64 a, .int .i64 b], .agg #[.int .i64 x, .int .i64 y]] w fun e w' => e = .returned (.agg #[.int .i64 (a - shHi (a - l) y), .int .i64 (b - shLo (b - m) x)]) ∧ Below w.heap.size w w' := by
  have fl0 := fld0
  have fl1 := fld1
  have sb1 := shHi_bd2 (n := (a - l)) (p := y) (by omega) (by omega) (by omega)
  have sb2 := shLo_bd2 (n := (b - m)) (p := x) (by omega) (by omega) (by omega)
  obtain ⟨r1, hr1⟩ : ∃ r, Hid (shHi (a - l) y = r) := ⟨_, rfl⟩
  obtain ⟨r2, hr2⟩ : ∃ r, Hid (shLo (b - m) x = r) := ⟨_, rfl⟩
  rw [hr1.out] at sb1
  rw [hr2.out] at sb2
  rw [hr1.out, hr2.out]
  obtain ⟨s1, s2⟩ := sb1
  obtain ⟨s3, s4⟩ := sb2
  have hc1' : l < a := by omega
  have hc2' : m < b := by omega
  go_enter Try.func54, Try.ntmps54
  go_wp2
  go_quiet (fail)
  go_wp2_with fail
  refine (share_hi (a - l) y r1 _ (by omega) (by omega) (by omega) (by omega) hr1).mono ?_
  rintro e w1 ⟨⟨gw1, rfl⟩, hbw1⟩
  have z1 := hbw1.size
  try simp at z1
  have c1_0_0 : w1.cell? ⟨w.heap.size, 0, none⟩ = some (.int .i64 l) := by rw [(bcell hbw1).1 _ _ (by first | (simp; done) | (simp; omega) | omega)]; simp [go_sem, World.cell?_alloc_past, *]
  have c1_0_1 : w1.cell? ⟨w.heap.size, 1, none⟩ = some (.int .i64 m) := by rw [(bcell hbw1).1 _ _ (by first | (simp; done) | (simp; omega) | omega)]; simp [go_sem, World.cell?_alloc_past, *]
  have c1_1_0 : w1.cell? ⟨w.heap.size + 1, 0, none⟩ = some (.int .i64 a) := by rw [(bcell hbw1).1 _ _ (by first | (simp; done) | (simp; omega) | omega)]; simp [go_sem, World.cell?_alloc_past, *]
  have c1_1_1 : w1.cell? ⟨w.heap.size + 1, 1, none⟩ = some (.int .i64 b) := by rw [(bcell hbw1).1 _ _ (by first | (simp; done) | (simp; omega) | omega)]; simp [go_sem, World.cell?_alloc_past, *]
  have c1_2_0 : w1.cell? ⟨w.heap.size + 1 + 1, 0, none⟩ = some (.int .i64 x) := by rw [(bcell hbw1).1 _ _ (by first | (simp; done) | (simp; omega) | omega)]; simp [go_sem, World.cell?_alloc_past, *]
  have c1_2_1 : w1.cell? ⟨w.heap.size + 1 + 1, 1, none⟩ = some (.int .i64 y) := by rw [(bcell hbw1).1 _ _ (by first | (simp; done) | (simp; omega) | omega)]; simp [go_sem, World.cell?_alloc_past, *]
  have c1_3_0 : w1.cell? ⟨w.heap.size + 1 + 1 + 1, 0, none⟩ = some (.int .i64 0) := by rw [(bcell hbw1).1 _ _ (by first | (simp; done) | (simp; omega) | omega)]; simp [go_sem, World.cell?_alloc_past, *]
  have c1_3_1 : w1.cell? ⟨w.heap.size + 1 + 1 + 1, 1, none⟩ = some (.int .i64 0) := by rw [(bcell hbw1).1 _ _ (by first | (simp; done) | (simp; omega) | omega)]; simp [go_sem, World.cell?_alloc_past, *]
  have f1_3 : ∀ j, w1.frozen? ⟨w.heap.size + 1 + 1 + 1, j, none⟩ = false := fun j => by rw [(bcell hbw1).2 _ _ (by first | (simp; done) | (simp; omega) | omega)]; simp [go_sem, *]
  have c1_4_0 : w1.cell? ⟨w.heap.size + 1 + 1 + 1 + 1, 0, none⟩ = some (.int .i64 0) := by rw [(bcell hbw1).1 _ _ (by first | (simp; done) | (simp; omega) | omega)]; simp [go_sem, World.cell?_alloc_past, *]
  have c1_4_1 : w1.cell? ⟨w.heap.size + 1 + 1 + 1 + 1, 1, none⟩ = some (.int .i64 0) := by rw [(bcell hbw1).1 _ _ (by first | (simp; done) | (simp; omega) | omega)]; simp [go_sem, World.cell?_alloc_past, *]
  have f1_4 : ∀ j, w1.frozen? ⟨w.heap.size + 1 + 1 + 1 + 1, j, none⟩ = false := fun j => by rw [(bcell hbw1).2 _ _ (by first | (simp; done) | (simp; omega) | omega)]; simp [go_sem, *]
  have hB1 : Below w.heap.size w w1 := (by (repeat (first | (with_reducible refine Below.drew ?_) | (with_reducible refine below_drewN ?_ _) | (with_reducible refine Below.alloc ?_ (by first | omega | (simp; done) | (simp; omega) | (simp at *; omega)) _) | (with_reducible refine Below.setCell ?_ (by first | omega | (simp; done) | (simp; omega) | (simp at *; omega)) _) | (with_reducible exact Below.refl _ _) | (with_reducible assumption) | (with_reducible refine Below.trans ?_ (Below.mono (by assumption) (by first | omega | (simp; done) | (simp; omega) | (simp at *; omega)))))))
  have o1_0 : w.heap.size < w1.heap.size := by omega
  have n1_0 : w1.heap.size ≠ w.heap.size := by omega
  have t1_0_1 : w.heap.size < w1.heap.size + 1 := by omega
  have t1_0_2 : w.heap.size < w1.heap.size + 1 + 1 := by omega
  have t1_0_3 : w.heap.size < w1.heap.size + 1 + 1 + 1 := by omega
  have t1_0_4 : w.heap.size < w1.heap.size + 1 + 1 + 1 + 1 := by omega
  have t1_0_5 : w.heap.size < w1.heap.size + 1 + 1 + 1 + 1 + 1 := by omega
  have o1_1 : w.heap.size + 1 < w1.heap.size := by omega
  have n1_1 : w1.heap.size ≠ w.heap.size + 1 := by omega
  have t1_1_1 : w.heap.size + 1 < w1.heap.size + 1 := by omega
  have t1_1_2 : w.heap.size + 1 < w1.heap.size + 1 + 1 := by omega
  have t1_1_3 : w.heap.size + 1 < w1.heap.size + 1 + 1 + 1 := by omega
  have t1_1_4 : w.heap.size + 1 < w1.heap.size + 1 + 1 + 1 + 1 := by omega
  have t1_1_5 : w.heap.size + 1 < w1.heap.size + 1 + 1 + 1 + 1 + 1 := by omega
  have o1_2 : w.heap.size + 1 + 1 < w1.heap.size := by omega
  have n1_2 : w1.heap.size ≠ w.heap.size + 1 + 1 := by omega
  have t1_2_1 : w.heap.size + 1 + 1 < w1.heap.size + 1 := by omega
  have t1_2_2 : w.heap.size + 1 + 1 < w1.heap.size + 1 + 1 := by omega
  have t1_2_3 : w.heap.size + 1 + 1 < w1.heap.size + 1 + 1 + 1 := by omega
  have t1_2_4 : w.heap.size + 1 + 1 < w1.heap.size + 1 + 1 + 1 + 1 := by omega
  have t1_2_5 : w.heap.size + 1 + 1 < w1.heap.size + 1 + 1 + 1 + 1 + 1 := by omega
  have o1_3 : w.heap.size + 1 + 1 + 1 < w1.heap.size := by omega
  have n1_3 : w1.heap.size ≠ w.heap.size + 1 + 1 + 1 := by omega
  have t1_3_1 : w.heap.size + 1 + 1 + 1 < w1.heap.size + 1 := by omega
  have t1_3_2 : w.heap.size + 1 + 1 + 1 < w1.heap.size + 1 + 1 := by omega
  have t1_3_3 : w.heap.size + 1 + 1 + 1 < w1.heap.size + 1 + 1 + 1 := by omega
  have t1_3_4 : w.heap.size + 1 + 1 + 1 < w1.heap.size + 1 + 1 + 1 + 1 := by omega
  have t1_3_5 : w.heap.size + 1 + 1 + 1 < w1.heap.size + 1 + 1 + 1 + 1 + 1 := by omega
  have o1_4 : w.heap.size + 1 + 1 + 1 + 1 < w1.heap.size := by omega
  have n1_4 : w1.heap.size ≠ w.heap.size + 1 + 1 + 1 + 1 := by omega
  have t1_4_1 : w.heap.size + 1 + 1 + 1 + 1 < w1.heap.size + 1 := by omega
  have t1_4_2 : w.heap.size + 1 + 1 + 1 + 1 < w1.heap.size + 1 + 1 := by omega
  have t1_4_3 : w.heap.size + 1 + 1 + 1 + 1 < w1.heap.size + 1 + 1 + 1 := by omega
  have t1_4_4 : w.heap.size + 1 + 1 + 1 + 1 < w1.heap.size + 1 + 1 + 1 + 1 := by omega
  have t1_4_5 : w.heap.size + 1 + 1 + 1 + 1 < w1.heap.size + 1 + 1 + 1 + 1 + 1 := by omega
  have bb1 : w.heap.size ≤ w1.heap.size := by omega
  clear hbw1
  go_wp2_with fail
  refine (share_lo (b - m) x r2 _ (by omega) (by omega) (by omega) (by omega) hr2).mono ?_
  rintro e w2 ⟨⟨gw2, rfl⟩, hbw2⟩
  have z2 := hbw2.size
  try simp at z2
  have c2_0_0 : w2.cell? ⟨w.heap.size, 0, none⟩ = some (.int .i64 l) := by rw [(bcell hbw2).1 _ _ (by first | (simp; done) | (simp; omega) | omega)]; simp [go_sem, World.cell?_alloc_past, *]
  have c2_0_1 : w2.cell? ⟨w.heap.size, 1, none⟩ = some (.int .i64 m) := by rw [(bcell hbw2).1 _ _ (by first | (simp; done) | (simp; omega) | omega)]; simp [go_sem, World.cell?_alloc_past, *]
  have c2_1_0 : w2.cell? ⟨w.heap.size + 1, 0, none⟩ = some (.int .i64 a) := by rw [(bcell hbw2).1 _ _ (by first | (simp; done) | (simp; omega) | omega)]; simp [go_sem, World.cell?_alloc_past, *]
  have c2_1_1 : w2.cell? ⟨w.heap.size + 1, 1, none⟩ = some (.int .i64 b) := by rw [(bcell hbw2).1 _ _ (by first | (simp; done) | (simp; omega) | omega)]; simp [go_sem, World.cell?_alloc_past, *]
  have c2_2_0 : w2.cell? ⟨w.heap.size + 1 + 1, 0, none⟩ = some (.int .i64 x) := by rw [(bcell hbw2).1 _ _ (by first | (simp; done) | (simp; omega) | omega)]; simp [go_sem, World.cell?_alloc_past, *]
  have c2_2_1 : w2.cell? ⟨w.heap.size + 1 + 1, 1, none⟩ = some (.int .i64 y) := by rw [(bcell hbw2).1 _ _ (by first | (simp; done) | (simp; omega) | omega)]; simp [go_sem, World.cell?_alloc_past, *]
  have c2_3_0 : w2.cell? ⟨w.heap.size + 1 + 1 + 1, 0, none⟩ = some (.int .i64 0) := by rw [(bcell hbw2).1 _ _ (by first | (simp; done) | (simp; omega) | omega)]; simp [go_sem, World.cell?_alloc_past, *]
  have c2_3_1 : w2.cell? ⟨w.heap.size + 1 + 1 + 1, 1, none⟩ = some (.int .i64 0) := by rw [(bcell hbw2).1 _ _ (by first | (simp; done) | (simp; omega) | omega)]; simp [go_sem, World.cell?_alloc_past, *]
  have f2_3 : ∀ j, w2.frozen? ⟨w.heap.size + 1 + 1 + 1, j, none⟩ = false := fun j => by rw [(bcell hbw2).2 _ _ (by first | (simp; done) | (simp; omega) | omega)]; simp [go_sem, *]
  have c2_4_0 : w2.cell? ⟨w.heap.size + 1 + 1 + 1 + 1, 0, none⟩ = some (.int .i64 (a - r1)) := by rw [(bcell hbw2).1 _ _ (by first | (simp; done) | (simp; omega) | omega)]; simp [go_sem, World.cell?_alloc_past, *]
  have c2_4_1 : w2.cell? ⟨w.heap.size + 1 + 1 + 1 + 1, 1, none⟩ = some (.int .i64 0) := by rw [(bcell hbw2).1 _ _ (by first | (simp; done) | (simp; omega) | omega)]; simp [go_sem, World.cell?_alloc_past, *]
  have f2_4 : ∀ j, w2.frozen? ⟨w.heap.size + 1 + 1 + 1 + 1, j, none⟩ = false := fun j => by rw [(bcell hbw2).2 _ _ (by first | (simp; done) | (simp; omega) | omega)]; simp [go_sem, *]
  have hB2 : Below w.heap.size w w2 := (by (repeat (first | (with_reducible refine Below.drew ?_) | (with_reducible refine below_drewN ?_ _) | (with_reducible refine Below.alloc ?_ (by first | omega | (simp; done) | (simp; omega) | (simp at *; omega)) _) | (with_reducible refine Below.setCell ?_ (by first | omega | (simp; done) | (simp; omega) | (simp at *; omega)) _) | (with_reducible exact Below.refl _ _) | (with_reducible assumption) | (with_reducible refine Below.trans ?_ (Below.mono (by assumption) (by first | omega | (simp; done) | (simp; omega) | (simp at *; omega)))))))
  clear c1_0_0 c1_0_1 c1_1_0 c1_1_1 c1_2_0 c1_2_1 c1_3_0 c1_3_1 f1_3 c1_4_0 c1_4_1 f1_4 o1_0 n1_0 t1_0_1 t1_0_2 t1_0_3 t1_0_4 t1_0_5 o1_1 n1_1 t1_1_1 t1_1_2 t1_1_3 t1_1_4 t1_1_5 o1_2 n1_2 t1_2_1 t1_2_2 t1_2_3 t1_2_4 t1_2_5 o1_3 n1_3 t1_3_1 t1_3_2 t1_3_3 t1_3_4 t1_3_5 o1_4 n1_4 t1_4_1 t1_4_2 t1_4_3 t1_4_4 t1_4_5
  have o2_0 : w.heap.size < w2.heap.size := by omega
  have n2_0 : w2.heap.size ≠ w.heap.size := by omega
  have t2_0_1 : w.heap.size < w2.heap.size + 1 := by omega
  have t2_0_2 : w.heap.size < w2.heap.size + 1 + 1 := by omega
  have t2_0_3 : w.heap.size < w2.heap.size + 1 + 1 + 1 := by omega
  have t2_0_4 : w.heap.size < w2.heap.size + 1 + 1 + 1 + 1 := by omega
  have t2_0_5 : w.heap.size < w2.heap.size + 1 + 1 + 1 + 1 + 1 := by omega
  have o2_1 : w.heap.size + 1 < w2.heap.size := by omega
  have n2_1 : w2.heap.size ≠ w.heap.size + 1 := by omega
  have t2_1_1 : w.heap.size + 1 < w2.heap.size + 1 := by omega
  have t2_1_2 : w.heap.size + 1 < w2.heap.size + 1 + 1 := by omega
  have t2_1_3 : w.heap.size + 1 < w2.heap.size + 1 + 1 + 1 := by omega
  have t2_1_4 : w.heap.size + 1 < w2.heap.size + 1 + 1 + 1 + 1 := by omega
  have t2_1_5 : w.heap.size + 1 < w2.heap.size + 1 + 1 + 1 + 1 + 1 := by omega
  have o2_2 : w.heap.size + 1 + 1 < w2.heap.size := by omega
  have n2_2 : w2.heap.size ≠ w.heap.size + 1 + 1 := by omega
  have t2_2_1 : w.heap.size + 1 + 1 < w2.heap.size + 1 := by omega
  have t2_2_2 : w.heap.size + 1 + 1 < w2.heap.size + 1 + 1 := by omega
  have t2_2_3 : w.heap.size + 1 + 1 < w2.heap.size + 1 + 1 + 1 := by omega
  have t2_2_4 : w.heap.size + 1 + 1 < w2.heap.size + 1 + 1 + 1 + 1 := by omega
  have t2_2_5 : w.heap.size + 1 + 1 < w2.heap.size + 1 + 1 + 1 + 1 + 1 := by omega
  have o2_3 : w.heap.size + 1 + 1 + 1 < w2.heap.size := by omega
  have n2_3 : w2.heap.size ≠ w.heap.size + 1 + 1 + 1 := by omega
  have t2_3_1 : w.heap.size + 1 + 1 + 1 < w2.heap.size + 1 := by omega
  have t2_3_2 : w.heap.size + 1 + 1 + 1 < w2.heap.size + 1 + 1 := by omega
  have t2_3_3 : w.heap.size + 1 + 1 + 1 < w2.heap.size + 1 + 1 + 1 := by omega
  have t2_3_4 : w.heap.size + 1 + 1 + 1 < w2.heap.size + 1 + 1 + 1 + 1 := by omega
  have t2_3_5 : w.heap.size + 1 + 1 + 1 < w2.heap.size + 1 + 1 + 1 + 1 + 1 := by omega
  have o2_4 : w.heap.size + 1 + 1 + 1 + 1 < w2.heap.size := by omega
  have n2_4 : w2.heap.size ≠ w.heap.size + 1 + 1 + 1 + 1 := by omega
  have t2_4_1 : w.heap.size + 1 + 1 + 1 + 1 < w2.heap.size + 1 := by omega
  have t2_4_2 : w.heap.size + 1 + 1 + 1 + 1 < w2.heap.size + 1 + 1 := by omega
  have t2_4_3 : w.heap.size + 1 + 1 + 1 + 1 < w2.heap.size + 1 + 1 + 1 := by omega
  have t2_4_4 : w.heap.size + 1 + 1 + 1 + 1 < w2.heap.size + 1 + 1 + 1 + 1 := by omega
  have t2_4_5 : w.heap.size + 1 + 1 + 1 + 1 < w2.heap.size + 1 + 1 + 1 + 1 + 1 := by omega
  have bb2 : w.heap.size ≤ w2.heap.size := by omega
  clear hbw2
  go_wp2
  refine bodyPost_ret (v := .agg #[.int .i64 (a - r1), .int .i64 (b - r2)]) (by simp [results, Try.results54, go_sem, World.cell?_alloc_past, *]) rfl ⟨rfl, ?_⟩
  (repeat (first | (with_reducible refine Below.drew ?_) | (with_reducible refine below_drewN ?_ _) | (with_reducible refine Below.alloc ?_ (by first | omega | (simp; done) | (simp; omega) | (simp at *; omega)) _) | (with_reducible refine Below.setCell ?_ (by first | omega | (simp; done) | (simp; omega) | (simp at *; omega)) _) | (with_reducible exact Below.refl _ _) | (with_reducible assumption) | (with_reducible refine Below.trans ?_ (Below.mono (by assumption) (by first | omega | (simp; done) | (simp; omega) | (simp at *; omega))))))
theorem approach_any (l m a b x y : Int) (w : World) (l0 : 0 ≤ l) (l1 : l ≤ 100000000) (m0 : 0 ≤ m) (m1 : m ≤ 100000000) (a0 : 0 ≤ a) (a1 : a ≤ 100000000) (b0 : 0 ≤ b) (b1 : b ≤ 100000000) (x0 : 0 ≤ x) (x1 : x ≤ 1000000000) (y0 : 0 ≤ y) (y1 : y ≤ 1000000000) :
    Calls Try.prog 54 #[.agg #[.int .i64 l, .int .i64 m], .agg #[.int .i64 a, .int .i64 b], .agg #[.int .i64 x, .int .i64 y]] w fun e w' => e = .returned (.agg #[.int .i64 (apL l a x y), .int .i64 (apH m b x y)]) ∧ Below w.heap.size w w' := by
  unfold apL apH
  by_cases h1 : a ≤ l <;> by_cases h2 : b ≤ m
  · rw [if_pos h1, if_pos h2]; exact approach_00 l m a b x y w l0 l1 m0 m1 a0 a1 b0 b1 x0 x1 y0 y1 h1 h2
  · rw [if_pos h1, if_neg h2]; exact approach_01 l m a b x y w l0 l1 m0 m1 a0 a1 b0 b1 x0 x1 y0 y1 h1 h2
  · rw [if_neg h1, if_pos h2]; exact approach_10 l m a b x y w l0 l1 m0 m1 a0 a1 b0 b1 x0 x1 y0 y1 h1 h2
  · rw [if_neg h1, if_neg h2]; exact approach_11 l m a b x y w l0 l1 m0 m1 a0 a1 b0 b1 x0 x1 y0 y1 h1 h2
end Go.Proofs.Ytfaodlcfjhnhbaa
