/- The walk of shotlinelaw01.GasEdges: it returns true. -/
import Derived.Test.YtebieflnlmdllaaDoorLawDepths
import Derived.Outline
namespace Go.Proofs.YtebieflnlmdllaaDoor
open Go.ChangeShapes Go.WideShapes Go.ChangeAt Go.RowKit
set_option linter.unusedVariables false
set_option linter.unusedSimpArgs false
attribute [local go_sem ↓] Go.wp_at_zero Go.wp_at_succ

theorem ceil_le {n o p : Int} (h : 0 < o) : (n + o - 1) / o ≤ p ↔ n ≤ o * p := by
  have h1 := Int.ediv_lt_iff_lt_mul h (a := n + o - 1) (b := p + 1)
  rw [Int.add_mul, Int.mul_comm p o] at h1
  omega
theorem le_floor {n o p : Int} (h : 0 < o) : p ≤ n / o ↔ o * p ≤ n := by
  rw [Int.le_ediv_iff_mul_le h, Int.mul_comm p o]
theorem edges_0 {h s d a b : Int} (k5 : 1 ≤ a) : inB (0 * (s + d)) (1000 * a) (1000 * b) = false := by
  apply inB_not.2; rw [Int.zero_mul]; omega
theorem edges_k {o s d a b : Int} (k1 : 1 ≤ o) (k5 : 0 ≤ d) (k6 : d ≤ 30000) : inB (o * (s + d)) (1000 * a) (1000 * b) = inB d (depLo o s a) (depHi o s b) := by
  have h1 := ceil_le (n := 1000 * a) (o := o) (p := s + d) (by omega)
  have h2 := le_floor (n := 1000 * b) (o := o) (p := s + d) (by omega)
  rw [Bool.eq_iff_iff, inB_iff, inB_iff]
  unfold depLo depHi
  split <;> split <;> omega
theorem edges_n {o s d a b : Int} (k1 : 1 ≤ o) (k5 : 0 ≤ d) (k6 : d ≤ 30000) (hn : ¬ depLo o s a ≤ depHi o s b) : inB (o * (s + d)) (1000 * a) (1000 * b) = false := by
  rw [edges_k k1 k5 k6]
  apply inB_not.2; omega
set_option maxRecDepth 100000 in
set_option maxHeartbeats 2000000 in
theorem glaw_p (o h s d a b : Int) (w : World) (m : Int) (hm : w.cell? ⟨1, 0, none⟩ = some (.int .i64 m)) (c : Int) (hp : Hid (eqE o h s d = c)) (hc : (c != 0) = true) :
    Calls Tryd.prog 6 #[.agg #[.int .i64 o, .int .i64 h, .int .i64 s, .int .i64 a, .int .i64 b], .int .i64 d] w fun e w' => e = .returned (.bool true) ∧ Below w.heap.size w w' := by
  have hl := World.block_lt_of_cell? _ _ hm
  have hne : w.heap.size ≠ 1 := by simp at hl; omega
  have hl2 : 1 < w.heap.size := by simpa using hl
  go_enter Tryd.func6, Tryd.ntmps6
  go_wp2_with fail
  refine (awake_any _ m (by simp [go_sem, World.cell?_alloc_past, *])).mono ?_
  rintro e w1 ⟨rfl, hbw1⟩
  have z1 := hbw1.size
  try simp at z1
  have c1_0 : w1.cell? ⟨w.heap.size, 0, none⟩ = some (.int .i64 o) := by rw [(bcell hbw1).1 _ _ (by first | (simp; done) | (simp; omega) | omega)]; simp [go_sem, World.cell?_alloc_past, *]
  have c1_1 : w1.cell? ⟨w.heap.size, 1, none⟩ = some (.int .i64 h) := by rw [(bcell hbw1).1 _ _ (by first | (simp; done) | (simp; omega) | omega)]; simp [go_sem, World.cell?_alloc_past, *]
  have c1_2 : w1.cell? ⟨w.heap.size, 2, none⟩ = some (.int .i64 s) := by rw [(bcell hbw1).1 _ _ (by first | (simp; done) | (simp; omega) | omega)]; simp [go_sem, World.cell?_alloc_past, *]
  have c1_3 : w1.cell? ⟨w.heap.size, 3, none⟩ = some (.int .i64 a) := by rw [(bcell hbw1).1 _ _ (by first | (simp; done) | (simp; omega) | omega)]; simp [go_sem, World.cell?_alloc_past, *]
  have c1_4 : w1.cell? ⟨w.heap.size, 4, none⟩ = some (.int .i64 b) := by rw [(bcell hbw1).1 _ _ (by first | (simp; done) | (simp; omega) | omega)]; simp [go_sem, World.cell?_alloc_past, *]
  have hB1 : Below w.heap.size w w1 := (by (repeat (first | (with_reducible refine Below.drew ?_) | (with_reducible refine below_drewN ?_ _) | (with_reducible refine Below.alloc ?_ (by first | omega | (simp; done) | (simp; omega) | (simp at *; omega)) _) | (with_reducible refine Below.setCell ?_ (by first | omega | (simp; done) | (simp; omega) | (simp at *; omega)) _) | (with_reducible exact Below.refl _ _) | (with_reducible assumption) | (with_reducible refine Below.trans ?_ (Below.mono (by assumption) (by first | omega | (simp; done) | (simp; omega) | (simp at *; omega)))))))
  have o1_0 : w.heap.size < w1.heap.size := by omega
  have n1_0 : w1.heap.size ≠ w.heap.size := by omega
  have t1_0_1 : w.heap.size < w1.heap.size + 1 := by omega
  have t1_0_2 : w.heap.size < w1.heap.size + 1 + 1 := by omega
  have t1_0_3 : w.heap.size < w1.heap.size + 1 + 1 + 1 := by omega
  have t1_0_4 : w.heap.size < w1.heap.size + 1 + 1 + 1 + 1 := by omega
  have t1_0_5 : w.heap.size < w1.heap.size + 1 + 1 + 1 + 1 + 1 := by omega
  have b1 : w.heap.size ≤ w1.heap.size := by omega
  clear hbw1
  go_wp2_with fail
  refine (place_is _ _ _ _ c _ hp).mono ?_
  rintro e w2 ⟨rfl, hbw2⟩
  have z2 := hbw2.size
  try simp at z2
  have c2_0 : w2.cell? ⟨w.heap.size, 0, none⟩ = some (.int .i64 o) := by rw [(bcell hbw2).1 _ _ (by first | (simp; done) | (simp; omega) | omega)]; simp [go_sem, World.cell?_alloc_past, *]
  have c2_1 : w2.cell? ⟨w.heap.size, 1, none⟩ = some (.int .i64 h) := by rw [(bcell hbw2).1 _ _ (by first | (simp; done) | (simp; omega) | omega)]; simp [go_sem, World.cell?_alloc_past, *]
  have c2_2 : w2.cell? ⟨w.heap.size, 2, none⟩ = some (.int .i64 s) := by rw [(bcell hbw2).1 _ _ (by first | (simp; done) | (simp; omega) | omega)]; simp [go_sem, World.cell?_alloc_past, *]
  have c2_3 : w2.cell? ⟨w.heap.size, 3, none⟩ = some (.int .i64 a) := by rw [(bcell hbw2).1 _ _ (by first | (simp; done) | (simp; omega) | omega)]; simp [go_sem, World.cell?_alloc_past, *]
  have c2_4 : w2.cell? ⟨w.heap.size, 4, none⟩ = some (.int .i64 b) := by rw [(bcell hbw2).1 _ _ (by first | (simp; done) | (simp; omega) | omega)]; simp [go_sem, World.cell?_alloc_past, *]
  have hB2 : Below w.heap.size w w2 := (by (repeat (first | (with_reducible refine Below.drew ?_) | (with_reducible refine below_drewN ?_ _) | (with_reducible refine Below.alloc ?_ (by first | omega | (simp; done) | (simp; omega) | (simp at *; omega)) _) | (with_reducible refine Below.setCell ?_ (by first | omega | (simp; done) | (simp; omega) | (simp at *; omega)) _) | (with_reducible exact Below.refl _ _) | (with_reducible assumption) | (with_reducible refine Below.trans ?_ (Below.mono (by assumption) (by first | omega | (simp; done) | (simp; omega) | (simp at *; omega)))))))
  clear c1_0 c1_1 c1_2 c1_3 c1_4 o1_0 n1_0 t1_0_1 t1_0_2 t1_0_3 t1_0_4 t1_0_5
  have o2_0 : w.heap.size < w2.heap.size := by omega
  have n2_0 : w2.heap.size ≠ w.heap.size := by omega
  have t2_0_1 : w.heap.size < w2.heap.size + 1 := by omega
  have t2_0_2 : w.heap.size < w2.heap.size + 1 + 1 := by omega
  have t2_0_3 : w.heap.size < w2.heap.size + 1 + 1 + 1 := by omega
  have t2_0_4 : w.heap.size < w2.heap.size + 1 + 1 + 1 + 1 := by omega
  have t2_0_5 : w.heap.size < w2.heap.size + 1 + 1 + 1 + 1 + 1 := by omega
  have b2 : w.heap.size ≤ w2.heap.size := by omega
  clear hbw2
  go_wp2
  go_ret
  exact ⟨rfl, (by (repeat (first | (with_reducible refine Below.drew ?_) | (with_reducible refine below_drewN ?_ _) | (with_reducible refine Below.alloc ?_ (by first | omega | (simp; done) | (simp; omega) | (simp at *; omega)) _) | (with_reducible refine Below.setCell ?_ (by first | omega | (simp; done) | (simp; omega) | (simp at *; omega)) _) | (with_reducible exact Below.refl _ _) | (with_reducible assumption) | (with_reducible refine Below.trans ?_ (Below.mono (by assumption) (by first | omega | (simp; done) | (simp; omega) | (simp at *; omega)))))))⟩
set_option maxRecDepth 100000 in
set_option maxHeartbeats 2000000 in
theorem glaw_l (o h s d a b : Int) (w : World) (m : Int) (hm : w.cell? ⟨1, 0, none⟩ = some (.int .i64 m)) (c : Int) (hp : Hid (eqE o h s d = 0)) (hlm : Hid (limE a b = c)) (hc : (c != 0) = true) :
    Calls Tryd.prog 6 #[.agg #[.int .i64 o, .int .i64 h, .int .i64 s, .int .i64 a, .int .i64 b], .int .i64 d] w fun e w' => e = .returned (.bool true) ∧ Below w.heap.size w w' := by
  have hl := World.block_lt_of_cell? _ _ hm
  have hne : w.heap.size ≠ 1 := by simp at hl; omega
  have hl2 : 1 < w.heap.size := by simpa using hl
  go_enter Tryd.func6, Tryd.ntmps6
  go_wp2_with fail
  refine (awake_any _ m (by simp [go_sem, World.cell?_alloc_past, *])).mono ?_
  rintro e w1 ⟨rfl, hbw1⟩
  have z1 := hbw1.size
  try simp at z1
  have c1_0 : w1.cell? ⟨w.heap.size, 0, none⟩ = some (.int .i64 o) := by rw [(bcell hbw1).1 _ _ (by first | (simp; done) | (simp; omega) | omega)]; simp [go_sem, World.cell?_alloc_past, *]
  have c1_1 : w1.cell? ⟨w.heap.size, 1, none⟩ = some (.int .i64 h) := by rw [(bcell hbw1).1 _ _ (by first | (simp; done) | (simp; omega) | omega)]; simp [go_sem, World.cell?_alloc_past, *]
  have c1_2 : w1.cell? ⟨w.heap.size, 2, none⟩ = some (.int .i64 s) := by rw [(bcell hbw1).1 _ _ (by first | (simp; done) | (simp; omega) | omega)]; simp [go_sem, World.cell?_alloc_past, *]
  have c1_3 : w1.cell? ⟨w.heap.size, 3, none⟩ = some (.int .i64 a) := by rw [(bcell hbw1).1 _ _ (by first | (simp; done) | (simp; omega) | omega)]; simp [go_sem, World.cell?_alloc_past, *]
  have c1_4 : w1.cell? ⟨w.heap.size, 4, none⟩ = some (.int .i64 b) := by rw [(bcell hbw1).1 _ _ (by first | (simp; done) | (simp; omega) | omega)]; simp [go_sem, World.cell?_alloc_past, *]
  have hB1 : Below w.heap.size w w1 := (by (repeat (first | (with_reducible refine Below.drew ?_) | (with_reducible refine below_drewN ?_ _) | (with_reducible refine Below.alloc ?_ (by first | omega | (simp; done) | (simp; omega) | (simp at *; omega)) _) | (with_reducible refine Below.setCell ?_ (by first | omega | (simp; done) | (simp; omega) | (simp at *; omega)) _) | (with_reducible exact Below.refl _ _) | (with_reducible assumption) | (with_reducible refine Below.trans ?_ (Below.mono (by assumption) (by first | omega | (simp; done) | (simp; omega) | (simp at *; omega)))))))
  have o1_0 : w.heap.size < w1.heap.size := by omega
  have n1_0 : w1.heap.size ≠ w.heap.size := by omega
  have t1_0_1 : w.heap.size < w1.heap.size + 1 := by omega
  have t1_0_2 : w.heap.size < w1.heap.size + 1 + 1 := by omega
  have t1_0_3 : w.heap.size < w1.heap.size + 1 + 1 + 1 := by omega
  have t1_0_4 : w.heap.size < w1.heap.size + 1 + 1 + 1 + 1 := by omega
  have t1_0_5 : w.heap.size < w1.heap.size + 1 + 1 + 1 + 1 + 1 := by omega
  have b1 : w.heap.size ≤ w1.heap.size := by omega
  clear hbw1
  go_wp2_with fail
  refine (place_is _ _ _ _ 0 _ hp).mono ?_
  rintro e w2 ⟨rfl, hbw2⟩
  have z2 := hbw2.size
  try simp at z2
  have c2_0 : w2.cell? ⟨w.heap.size, 0, none⟩ = some (.int .i64 o) := by rw [(bcell hbw2).1 _ _ (by first | (simp; done) | (simp; omega) | omega)]; simp [go_sem, World.cell?_alloc_past, *]
  have c2_1 : w2.cell? ⟨w.heap.size, 1, none⟩ = some (.int .i64 h) := by rw [(bcell hbw2).1 _ _ (by first | (simp; done) | (simp; omega) | omega)]; simp [go_sem, World.cell?_alloc_past, *]
  have c2_2 : w2.cell? ⟨w.heap.size, 2, none⟩ = some (.int .i64 s) := by rw [(bcell hbw2).1 _ _ (by first | (simp; done) | (simp; omega) | omega)]; simp [go_sem, World.cell?_alloc_past, *]
  have c2_3 : w2.cell? ⟨w.heap.size, 3, none⟩ = some (.int .i64 a) := by rw [(bcell hbw2).1 _ _ (by first | (simp; done) | (simp; omega) | omega)]; simp [go_sem, World.cell?_alloc_past, *]
  have c2_4 : w2.cell? ⟨w.heap.size, 4, none⟩ = some (.int .i64 b) := by rw [(bcell hbw2).1 _ _ (by first | (simp; done) | (simp; omega) | omega)]; simp [go_sem, World.cell?_alloc_past, *]
  have hB2 : Below w.heap.size w w2 := (by (repeat (first | (with_reducible refine Below.drew ?_) | (with_reducible refine below_drewN ?_ _) | (with_reducible refine Below.alloc ?_ (by first | omega | (simp; done) | (simp; omega) | (simp at *; omega)) _) | (with_reducible refine Below.setCell ?_ (by first | omega | (simp; done) | (simp; omega) | (simp at *; omega)) _) | (with_reducible exact Below.refl _ _) | (with_reducible assumption) | (with_reducible refine Below.trans ?_ (Below.mono (by assumption) (by first | omega | (simp; done) | (simp; omega) | (simp at *; omega)))))))
  clear c1_0 c1_1 c1_2 c1_3 c1_4 o1_0 n1_0 t1_0_1 t1_0_2 t1_0_3 t1_0_4 t1_0_5
  have o2_0 : w.heap.size < w2.heap.size := by omega
  have n2_0 : w2.heap.size ≠ w.heap.size := by omega
  have t2_0_1 : w.heap.size < w2.heap.size + 1 := by omega
  have t2_0_2 : w.heap.size < w2.heap.size + 1 + 1 := by omega
  have t2_0_3 : w.heap.size < w2.heap.size + 1 + 1 + 1 := by omega
  have t2_0_4 : w.heap.size < w2.heap.size + 1 + 1 + 1 + 1 := by omega
  have t2_0_5 : w.heap.size < w2.heap.size + 1 + 1 + 1 + 1 + 1 := by omega
  have b2 : w.heap.size ≤ w2.heap.size := by omega
  clear hbw2
  go_wp2_with ((go_at_call 31; ((with_reducible refine (refCheckLimits_is _ _ c _ hlm).mono ?_)); rintro e w' ⟨rfl, rfl⟩))
  go_ret
  exact ⟨rfl, (by (repeat (first | (with_reducible refine Below.drew ?_) | (with_reducible refine below_drewN ?_ _) | (with_reducible refine Below.alloc ?_ (by first | omega | (simp; done) | (simp; omega) | (simp at *; omega)) _) | (with_reducible refine Below.setCell ?_ (by first | omega | (simp; done) | (simp; omega) | (simp at *; omega)) _) | (with_reducible exact Below.refl _ _) | (with_reducible assumption) | (with_reducible refine Below.trans ?_ (Below.mono (by assumption) (by first | omega | (simp; done) | (simp; omega) | (simp at *; omega)))))))⟩
set_option maxRecDepth 100000 in
set_option maxHeartbeats 2000000 in
theorem glaw_n (o h s d a b : Int) (w : World) (m : Int) (hm : w.cell? ⟨1, 0, none⟩ = some (.int .i64 m)) (hp : Hid (eqE o h s d = 0)) (hlm : Hid (limE a b = 0)) (k1 : 0 ≤ o) (k2 : o ≤ 1000) (k3 : 0 ≤ h) (k4 : h ≤ 1000) (k7 : o + h ≤ 1000) (k5 : 400 ≤ s) (k6 : s ≤ 1100) (k8 : 0 ≤ d) (k9 : d ≤ 30000) (g1 : 1 ≤ a) (g2 : a ≤ 4000) (g3 : 1 ≤ b) (g4 : b ≤ 4000) (hd : Hid (depE o h s a b = 12)) (h0 : Hid (depL o h s a b = 0)) (h1 : Hid (depH o h s a b = 0)) (hv : Hid (inB (o * (s + d)) (1000 * a) (1000 * b) = false)) :
    Calls Tryd.prog 6 #[.agg #[.int .i64 o, .int .i64 h, .int .i64 s, .int .i64 a, .int .i64 b], .int .i64 d] w fun e w' => e = .returned (.bool true) ∧ Below w.heap.size w w' := by
  have hl := World.block_lt_of_cell? _ _ hm
  have hne : w.heap.size ≠ 1 := by simp at hl; omega
  have hl2 : 1 < w.heap.size := by simpa using hl
  go_enter Tryd.func6, Tryd.ntmps6
  go_wp2_with fail
  refine (awake_any _ m (by simp [go_sem, World.cell?_alloc_past, *])).mono ?_
  rintro e w1 ⟨rfl, hbw1⟩
  have z1 := hbw1.size
  try simp at z1
  have c1_0 : w1.cell? ⟨w.heap.size, 0, none⟩ = some (.int .i64 o) := by rw [(bcell hbw1).1 _ _ (by first | (simp; done) | (simp; omega) | omega)]; simp [go_sem, World.cell?_alloc_past, *]
  have c1_1 : w1.cell? ⟨w.heap.size, 1, none⟩ = some (.int .i64 h) := by rw [(bcell hbw1).1 _ _ (by first | (simp; done) | (simp; omega) | omega)]; simp [go_sem, World.cell?_alloc_past, *]
  have c1_2 : w1.cell? ⟨w.heap.size, 2, none⟩ = some (.int .i64 s) := by rw [(bcell hbw1).1 _ _ (by first | (simp; done) | (simp; omega) | omega)]; simp [go_sem, World.cell?_alloc_past, *]
  have c1_3 : w1.cell? ⟨w.heap.size, 3, none⟩ = some (.int .i64 a) := by rw [(bcell hbw1).1 _ _ (by first | (simp; done) | (simp; omega) | omega)]; simp [go_sem, World.cell?_alloc_past, *]
  have c1_4 : w1.cell? ⟨w.heap.size, 4, none⟩ = some (.int .i64 b) := by rw [(bcell hbw1).1 _ _ (by first | (simp; done) | (simp; omega) | omega)]; simp [go_sem, World.cell?_alloc_past, *]
  have hB1 : Below w.heap.size w w1 := (by (repeat (first | (with_reducible refine Below.drew ?_) | (with_reducible refine below_drewN ?_ _) | (with_reducible refine Below.alloc ?_ (by first | omega | (simp; done) | (simp; omega) | (simp at *; omega)) _) | (with_reducible refine Below.setCell ?_ (by first | omega | (simp; done) | (simp; omega) | (simp at *; omega)) _) | (with_reducible exact Below.refl _ _) | (with_reducible assumption) | (with_reducible refine Below.trans ?_ (Below.mono (by assumption) (by first | omega | (simp; done) | (simp; omega) | (simp at *; omega)))))))
  have o1_0 : w.heap.size < w1.heap.size := by omega
  have n1_0 : w1.heap.size ≠ w.heap.size := by omega
  have t1_0_1 : w.heap.size < w1.heap.size + 1 := by omega
  have t1_0_2 : w.heap.size < w1.heap.size + 1 + 1 := by omega
  have t1_0_3 : w.heap.size < w1.heap.size + 1 + 1 + 1 := by omega
  have t1_0_4 : w.heap.size < w1.heap.size + 1 + 1 + 1 + 1 := by omega
  have t1_0_5 : w.heap.size < w1.heap.size + 1 + 1 + 1 + 1 + 1 := by omega
  have b1 : w.heap.size ≤ w1.heap.size := by omega
  clear hbw1
  obtain ⟨P0, hP0⟩ : ∃ x, Hid (o * (s + d) = x) := ⟨_, rfl⟩
  obtain ⟨P1, hP1⟩ : ∃ x, Hid (h * (s + d) = x) := ⟨_, rfl⟩
  obtain ⟨P2, hP2⟩ : ∃ x, Hid ((1000 - o - h) * (s + d) = x) := ⟨_, rfl⟩
  have hv2 : Hid (inB P0 (1000 * a) (1000 * b) = false) := by rw [← hP0.out]; exact hv.out
  have u4 : IntKind.i64.wrap (1000 * a) = 1000 * a := IntWalk.i64_in _ (by omega)
  have u5 : IntKind.i64.wrap (1000 * b) = 1000 * b := IntWalk.i64_in _ (by omega)
  go_wp2_with fail
  refine (place_is _ _ _ _ 0 _ hp).mono ?_
  rintro e w2 ⟨rfl, hbw2⟩
  have z2 := hbw2.size
  try simp at z2
  have c2_0 : w2.cell? ⟨w.heap.size, 0, none⟩ = some (.int .i64 o) := by rw [(bcell hbw2).1 _ _ (by first | (simp; done) | (simp; omega) | omega)]; simp [go_sem, World.cell?_alloc_past, *]
  have c2_1 : w2.cell? ⟨w.heap.size, 1, none⟩ = some (.int .i64 h) := by rw [(bcell hbw2).1 _ _ (by first | (simp; done) | (simp; omega) | omega)]; simp [go_sem, World.cell?_alloc_past, *]
  have c2_2 : w2.cell? ⟨w.heap.size, 2, none⟩ = some (.int .i64 s) := by rw [(bcell hbw2).1 _ _ (by first | (simp; done) | (simp; omega) | omega)]; simp [go_sem, World.cell?_alloc_past, *]
  have c2_3 : w2.cell? ⟨w.heap.size, 3, none⟩ = some (.int .i64 a) := by rw [(bcell hbw2).1 _ _ (by first | (simp; done) | (simp; omega) | omega)]; simp [go_sem, World.cell?_alloc_past, *]
  have c2_4 : w2.cell? ⟨w.heap.size, 4, none⟩ = some (.int .i64 b) := by rw [(bcell hbw2).1 _ _ (by first | (simp; done) | (simp; omega) | omega)]; simp [go_sem, World.cell?_alloc_past, *]
  have hB2 : Below w.heap.size w w2 := (by (repeat (first | (with_reducible refine Below.drew ?_) | (with_reducible refine below_drewN ?_ _) | (with_reducible refine Below.alloc ?_ (by first | omega | (simp; done) | (simp; omega) | (simp at *; omega)) _) | (with_reducible refine Below.setCell ?_ (by first | omega | (simp; done) | (simp; omega) | (simp at *; omega)) _) | (with_reducible exact Below.refl _ _) | (with_reducible assumption) | (with_reducible refine Below.trans ?_ (Below.mono (by assumption) (by first | omega | (simp; done) | (simp; omega) | (simp at *; omega)))))))
  clear c1_0 c1_1 c1_2 c1_3 c1_4 o1_0 n1_0 t1_0_1 t1_0_2 t1_0_3 t1_0_4 t1_0_5
  have o2_0 : w.heap.size < w2.heap.size := by omega
  have n2_0 : w2.heap.size ≠ w.heap.size := by omega
  have t2_0_1 : w.heap.size < w2.heap.size + 1 := by omega
  have t2_0_2 : w.heap.size < w2.heap.size + 1 + 1 := by omega
  have t2_0_3 : w.heap.size < w2.heap.size + 1 + 1 + 1 := by omega
  have t2_0_4 : w.heap.size < w2.heap.size + 1 + 1 + 1 + 1 := by omega
  have t2_0_5 : w.heap.size < w2.heap.size + 1 + 1 + 1 + 1 + 1 := by omega
  have b2 : w.heap.size ≤ w2.heap.size := by omega
  clear hbw2
  go_wp2_with ((go_at_call 31; ((with_reducible refine (refCheckLimits_is _ _ 0 _ hlm).mono ?_)); rintro e w' ⟨rfl, rfl⟩))
  refine (DepthsFor_is _ _ _ _ _ 0 0 12 _ h0 h1 hd).mono ?_
  rintro e w3 ⟨rfl, hbw3⟩
  have z3 := hbw3.size
  try simp at z3
  have c3_0 : w3.cell? ⟨w.heap.size, 0, none⟩ = some (.int .i64 o) := by rw [(bcell hbw3).1 _ _ (by first | (simp; done) | (simp; omega) | omega)]; simp [go_sem, World.cell?_alloc_past, *]
  have c3_1 : w3.cell? ⟨w.heap.size, 1, none⟩ = some (.int .i64 h) := by rw [(bcell hbw3).1 _ _ (by first | (simp; done) | (simp; omega) | omega)]; simp [go_sem, World.cell?_alloc_past, *]
  have c3_2 : w3.cell? ⟨w.heap.size, 2, none⟩ = some (.int .i64 s) := by rw [(bcell hbw3).1 _ _ (by first | (simp; done) | (simp; omega) | omega)]; simp [go_sem, World.cell?_alloc_past, *]
  have c3_3 : w3.cell? ⟨w.heap.size, 3, none⟩ = some (.int .i64 a) := by rw [(bcell hbw3).1 _ _ (by first | (simp; done) | (simp; omega) | omega)]; simp [go_sem, World.cell?_alloc_past, *]
  have c3_4 : w3.cell? ⟨w.heap.size, 4, none⟩ = some (.int .i64 b) := by rw [(bcell hbw3).1 _ _ (by first | (simp; done) | (simp; omega) | omega)]; simp [go_sem, World.cell?_alloc_past, *]
  have hB3 : Below w.heap.size w w3 := (by (repeat (first | (with_reducible refine Below.drew ?_) | (with_reducible refine below_drewN ?_ _) | (with_reducible refine Below.alloc ?_ (by first | omega | (simp; done) | (simp; omega) | (simp at *; omega)) _) | (with_reducible refine Below.setCell ?_ (by first | omega | (simp; done) | (simp; omega) | (simp at *; omega)) _) | (with_reducible exact Below.refl _ _) | (with_reducible assumption) | (with_reducible refine Below.trans ?_ (Below.mono (by assumption) (by first | omega | (simp; done) | (simp; omega) | (simp at *; omega)))))))
  clear c2_0 c2_1 c2_2 c2_3 c2_4 o2_0 n2_0 t2_0_1 t2_0_2 t2_0_3 t2_0_4 t2_0_5
  have o3_0 : w.heap.size < w3.heap.size := by omega
  have n3_0 : w3.heap.size ≠ w.heap.size := by omega
  have t3_0_1 : w.heap.size < w3.heap.size + 1 := by omega
  have t3_0_2 : w.heap.size < w3.heap.size + 1 + 1 := by omega
  have t3_0_3 : w.heap.size < w3.heap.size + 1 + 1 + 1 := by omega
  have t3_0_4 : w.heap.size < w3.heap.size + 1 + 1 + 1 + 1 := by omega
  have t3_0_5 : w.heap.size < w3.heap.size + 1 + 1 + 1 + 1 + 1 := by omega
  have o3_1 : w2.heap.size < w3.heap.size := by omega
  have n3_1 : w3.heap.size ≠ w2.heap.size := by omega
  have t3_1_1 : w2.heap.size < w3.heap.size + 1 := by omega
  have t3_1_2 : w2.heap.size < w3.heap.size + 1 + 1 := by omega
  have t3_1_3 : w2.heap.size < w3.heap.size + 1 + 1 + 1 := by omega
  have t3_1_4 : w2.heap.size < w3.heap.size + 1 + 1 + 1 + 1 := by omega
  have t3_1_5 : w2.heap.size < w3.heap.size + 1 + 1 + 1 + 1 + 1 := by omega
  have b3 : w.heap.size ≤ w3.heap.size := by omega
  clear hbw3
  go_wp2_with fail
  refine (Partial_v o h (s + d) _ _ _ _ k1 k2 k3 k4 (by omega) (by omega) k7 hP0 hP1 hP2).mono ?_
  rintro e w4 ⟨rfl, hbw4⟩
  have z4 := hbw4.size
  try simp at z4
  have c4_0 : w4.cell? ⟨w.heap.size, 0, none⟩ = some (.int .i64 o) := by rw [(bcell hbw4).1 _ _ (by first | (simp; done) | (simp; omega) | omega)]; simp [go_sem, World.cell?_alloc_past, *]
  have c4_1 : w4.cell? ⟨w.heap.size, 1, none⟩ = some (.int .i64 h) := by rw [(bcell hbw4).1 _ _ (by first | (simp; done) | (simp; omega) | omega)]; simp [go_sem, World.cell?_alloc_past, *]
  have c4_2 : w4.cell? ⟨w.heap.size, 2, none⟩ = some (.int .i64 s) := by rw [(bcell hbw4).1 _ _ (by first | (simp; done) | (simp; omega) | omega)]; simp [go_sem, World.cell?_alloc_past, *]
  have c4_3 : w4.cell? ⟨w.heap.size, 3, none⟩ = some (.int .i64 a) := by rw [(bcell hbw4).1 _ _ (by first | (simp; done) | (simp; omega) | omega)]; simp [go_sem, World.cell?_alloc_past, *]
  have c4_4 : w4.cell? ⟨w.heap.size, 4, none⟩ = some (.int .i64 b) := by rw [(bcell hbw4).1 _ _ (by first | (simp; done) | (simp; omega) | omega)]; simp [go_sem, World.cell?_alloc_past, *]
  have c4_5 : w4.cell? ⟨w3.heap.size, 0, none⟩ = some (.int .i64 0) := by rw [(bcell hbw4).1 _ _ (by first | (simp; done) | (simp; omega) | omega)]; simp [go_sem, World.cell?_alloc_past, *]
  have c4_6 : w4.cell? ⟨w3.heap.size, 1, none⟩ = some (.int .i64 0) := by rw [(bcell hbw4).1 _ _ (by first | (simp; done) | (simp; omega) | omega)]; simp [go_sem, World.cell?_alloc_past, *]
  have hB4 : Below w.heap.size w w4 := (by (repeat (first | (with_reducible refine Below.drew ?_) | (with_reducible refine below_drewN ?_ _) | (with_reducible refine Below.alloc ?_ (by first | omega | (simp; done) | (simp; omega) | (simp at *; omega)) _) | (with_reducible refine Below.setCell ?_ (by first | omega | (simp; done) | (simp; omega) | (simp at *; omega)) _) | (with_reducible exact Below.refl _ _) | (with_reducible assumption) | (with_reducible refine Below.trans ?_ (Below.mono (by assumption) (by first | omega | (simp; done) | (simp; omega) | (simp at *; omega)))))))
  clear c3_0 c3_1 c3_2 c3_3 c3_4 o3_0 n3_0 t3_0_1 t3_0_2 t3_0_3 t3_0_4 t3_0_5 o3_1 n3_1 t3_1_1 t3_1_2 t3_1_3 t3_1_4 t3_1_5
  have o4_0 : w.heap.size < w4.heap.size := by omega
  have n4_0 : w4.heap.size ≠ w.heap.size := by omega
  have t4_0_1 : w.heap.size < w4.heap.size + 1 := by omega
  have t4_0_2 : w.heap.size < w4.heap.size + 1 + 1 := by omega
  have t4_0_3 : w.heap.size < w4.heap.size + 1 + 1 + 1 := by omega
  have t4_0_4 : w.heap.size < w4.heap.size + 1 + 1 + 1 + 1 := by omega
  have t4_0_5 : w.heap.size < w4.heap.size + 1 + 1 + 1 + 1 + 1 := by omega
  have o4_1 : w2.heap.size < w4.heap.size := by omega
  have n4_1 : w4.heap.size ≠ w2.heap.size := by omega
  have t4_1_1 : w2.heap.size < w4.heap.size + 1 := by omega
  have t4_1_2 : w2.heap.size < w4.heap.size + 1 + 1 := by omega
  have t4_1_3 : w2.heap.size < w4.heap.size + 1 + 1 + 1 := by omega
  have t4_1_4 : w2.heap.size < w4.heap.size + 1 + 1 + 1 + 1 := by omega
  have t4_1_5 : w2.heap.size < w4.heap.size + 1 + 1 + 1 + 1 + 1 := by omega
  have o4_2 : w3.heap.size < w4.heap.size := by omega
  have n4_2 : w4.heap.size ≠ w3.heap.size := by omega
  have t4_2_1 : w3.heap.size < w4.heap.size + 1 := by omega
  have t4_2_2 : w3.heap.size < w4.heap.size + 1 + 1 := by omega
  have t4_2_3 : w3.heap.size < w4.heap.size + 1 + 1 + 1 := by omega
  have t4_2_4 : w3.heap.size < w4.heap.size + 1 + 1 + 1 + 1 := by omega
  have t4_2_5 : w3.heap.size < w4.heap.size + 1 + 1 + 1 + 1 + 1 := by omega
  have b4 : w.heap.size ≤ w4.heap.size := by omega
  clear hbw4
  go_wp2_with ((go_at_call 34; ((with_reducible refine (baseWithin_b P0 _ _ false _ hv2).mono ?_)); rintro e w' ⟨rfl, rfl⟩))
  go_ret
  exact ⟨rfl, (by (repeat (first | (with_reducible refine Below.drew ?_) | (with_reducible refine below_drewN ?_ _) | (with_reducible refine Below.alloc ?_ (by first | omega | (simp; done) | (simp; omega) | (simp at *; omega)) _) | (with_reducible refine Below.setCell ?_ (by first | omega | (simp; done) | (simp; omega) | (simp at *; omega)) _) | (with_reducible exact Below.refl _ _) | (with_reducible assumption) | (with_reducible refine Below.trans ?_ (Below.mono (by assumption) (by first | omega | (simp; done) | (simp; omega) | (simp at *; omega)))))))⟩
set_option maxRecDepth 100000 in
set_option maxHeartbeats 2000000 in
theorem glaw_k (o h s d a b : Int) (w : World) (m : Int) (hm : w.cell? ⟨1, 0, none⟩ = some (.int .i64 m)) (hp : Hid (eqE o h s d = 0)) (hlm : Hid (limE a b = 0)) (k1 : 0 ≤ o) (k2 : o ≤ 1000) (k3 : 0 ≤ h) (k4 : h ≤ 1000) (k7 : o + h ≤ 1000) (k5 : 400 ≤ s) (k6 : s ≤ 1100) (k8 : 0 ≤ d) (k9 : d ≤ 30000) (g1 : 1 ≤ a) (g2 : a ≤ 4000) (g3 : 1 ≤ b) (g4 : b ≤ 4000) (x y : Int) (v : Bool) (hd : Hid (depE o h s a b = 0)) (h0 : Hid (depL o h s a b = x)) (h1 : Hid (depH o h s a b = y)) (hv : Hid (inB (o * (s + d)) (1000 * a) (1000 * b) = v)) (hu : Hid (inB d x y = v)) :
    Calls Tryd.prog 6 #[.agg #[.int .i64 o, .int .i64 h, .int .i64 s, .int .i64 a, .int .i64 b], .int .i64 d] w fun e w' => e = .returned (.bool true) ∧ Below w.heap.size w w' := by
  have hl := World.block_lt_of_cell? _ _ hm
  have hne : w.heap.size ≠ 1 := by simp at hl; omega
  have hl2 : 1 < w.heap.size := by simpa using hl
  go_enter Tryd.func6, Tryd.ntmps6
  go_wp2_with fail
  refine (awake_any _ m (by simp [go_sem, World.cell?_alloc_past, *])).mono ?_
  rintro e w1 ⟨rfl, hbw1⟩
  have z1 := hbw1.size
  try simp at z1
  have c1_0 : w1.cell? ⟨w.heap.size, 0, none⟩ = some (.int .i64 o) := by rw [(bcell hbw1).1 _ _ (by first | (simp; done) | (simp; omega) | omega)]; simp [go_sem, World.cell?_alloc_past, *]
  have c1_1 : w1.cell? ⟨w.heap.size, 1, none⟩ = some (.int .i64 h) := by rw [(bcell hbw1).1 _ _ (by first | (simp; done) | (simp; omega) | omega)]; simp [go_sem, World.cell?_alloc_past, *]
  have c1_2 : w1.cell? ⟨w.heap.size, 2, none⟩ = some (.int .i64 s) := by rw [(bcell hbw1).1 _ _ (by first | (simp; done) | (simp; omega) | omega)]; simp [go_sem, World.cell?_alloc_past, *]
  have c1_3 : w1.cell? ⟨w.heap.size, 3, none⟩ = some (.int .i64 a) := by rw [(bcell hbw1).1 _ _ (by first | (simp; done) | (simp; omega) | omega)]; simp [go_sem, World.cell?_alloc_past, *]
  have c1_4 : w1.cell? ⟨w.heap.size, 4, none⟩ = some (.int .i64 b) := by rw [(bcell hbw1).1 _ _ (by first | (simp; done) | (simp; omega) | omega)]; simp [go_sem, World.cell?_alloc_past, *]
  have hB1 : Below w.heap.size w w1 := (by (repeat (first | (with_reducible refine Below.drew ?_) | (with_reducible refine below_drewN ?_ _) | (with_reducible refine Below.alloc ?_ (by first | omega | (simp; done) | (simp; omega) | (simp at *; omega)) _) | (with_reducible refine Below.setCell ?_ (by first | omega | (simp; done) | (simp; omega) | (simp at *; omega)) _) | (with_reducible exact Below.refl _ _) | (with_reducible assumption) | (with_reducible refine Below.trans ?_ (Below.mono (by assumption) (by first | omega | (simp; done) | (simp; omega) | (simp at *; omega)))))))
  have o1_0 : w.heap.size < w1.heap.size := by omega
  have n1_0 : w1.heap.size ≠ w.heap.size := by omega
  have t1_0_1 : w.heap.size < w1.heap.size + 1 := by omega
  have t1_0_2 : w.heap.size < w1.heap.size + 1 + 1 := by omega
  have t1_0_3 : w.heap.size < w1.heap.size + 1 + 1 + 1 := by omega
  have t1_0_4 : w.heap.size < w1.heap.size + 1 + 1 + 1 + 1 := by omega
  have t1_0_5 : w.heap.size < w1.heap.size + 1 + 1 + 1 + 1 + 1 := by omega
  have b1 : w.heap.size ≤ w1.heap.size := by omega
  clear hbw1
  obtain ⟨P0, hP0⟩ : ∃ x, Hid (o * (s + d) = x) := ⟨_, rfl⟩
  obtain ⟨P1, hP1⟩ : ∃ x, Hid (h * (s + d) = x) := ⟨_, rfl⟩
  obtain ⟨P2, hP2⟩ : ∃ x, Hid ((1000 - o - h) * (s + d) = x) := ⟨_, rfl⟩
  have hv2 : Hid (inB P0 (1000 * a) (1000 * b) = v) := by rw [← hP0.out]; exact hv.out
  have u4 : IntKind.i64.wrap (1000 * a) = 1000 * a := IntWalk.i64_in _ (by omega)
  have u5 : IntKind.i64.wrap (1000 * b) = 1000 * b := IntWalk.i64_in _ (by omega)
  go_wp2_with fail
  refine (place_is _ _ _ _ 0 _ hp).mono ?_
  rintro e w2 ⟨rfl, hbw2⟩
  have z2 := hbw2.size
  try simp at z2
  have c2_0 : w2.cell? ⟨w.heap.size, 0, none⟩ = some (.int .i64 o) := by rw [(bcell hbw2).1 _ _ (by first | (simp; done) | (simp; omega) | omega)]; simp [go_sem, World.cell?_alloc_past, *]
  have c2_1 : w2.cell? ⟨w.heap.size, 1, none⟩ = some (.int .i64 h) := by rw [(bcell hbw2).1 _ _ (by first | (simp; done) | (simp; omega) | omega)]; simp [go_sem, World.cell?_alloc_past, *]
  have c2_2 : w2.cell? ⟨w.heap.size, 2, none⟩ = some (.int .i64 s) := by rw [(bcell hbw2).1 _ _ (by first | (simp; done) | (simp; omega) | omega)]; simp [go_sem, World.cell?_alloc_past, *]
  have c2_3 : w2.cell? ⟨w.heap.size, 3, none⟩ = some (.int .i64 a) := by rw [(bcell hbw2).1 _ _ (by first | (simp; done) | (simp; omega) | omega)]; simp [go_sem, World.cell?_alloc_past, *]
  have c2_4 : w2.cell? ⟨w.heap.size, 4, none⟩ = some (.int .i64 b) := by rw [(bcell hbw2).1 _ _ (by first | (simp; done) | (simp; omega) | omega)]; simp [go_sem, World.cell?_alloc_past, *]
  have hB2 : Below w.heap.size w w2 := (by (repeat (first | (with_reducible refine Below.drew ?_) | (with_reducible refine below_drewN ?_ _) | (with_reducible refine Below.alloc ?_ (by first | omega | (simp; done) | (simp; omega) | (simp at *; omega)) _) | (with_reducible refine Below.setCell ?_ (by first | omega | (simp; done) | (simp; omega) | (simp at *; omega)) _) | (with_reducible exact Below.refl _ _) | (with_reducible assumption) | (with_reducible refine Below.trans ?_ (Below.mono (by assumption) (by first | omega | (simp; done) | (simp; omega) | (simp at *; omega)))))))
  clear c1_0 c1_1 c1_2 c1_3 c1_4 o1_0 n1_0 t1_0_1 t1_0_2 t1_0_3 t1_0_4 t1_0_5
  have o2_0 : w.heap.size < w2.heap.size := by omega
  have n2_0 : w2.heap.size ≠ w.heap.size := by omega
  have t2_0_1 : w.heap.size < w2.heap.size + 1 := by omega
  have t2_0_2 : w.heap.size < w2.heap.size + 1 + 1 := by omega
  have t2_0_3 : w.heap.size < w2.heap.size + 1 + 1 + 1 := by omega
  have t2_0_4 : w.heap.size < w2.heap.size + 1 + 1 + 1 + 1 := by omega
  have t2_0_5 : w.heap.size < w2.heap.size + 1 + 1 + 1 + 1 + 1 := by omega
  have b2 : w.heap.size ≤ w2.heap.size := by omega
  clear hbw2
  go_wp2_with ((go_at_call 31; ((with_reducible refine (refCheckLimits_is _ _ 0 _ hlm).mono ?_)); rintro e w' ⟨rfl, rfl⟩))
  refine (DepthsFor_is _ _ _ _ _ x y 0 _ h0 h1 hd).mono ?_
  rintro e w3 ⟨rfl, hbw3⟩
  have z3 := hbw3.size
  try simp at z3
  have c3_0 : w3.cell? ⟨w.heap.size, 0, none⟩ = some (.int .i64 o) := by rw [(bcell hbw3).1 _ _ (by first | (simp; done) | (simp; omega) | omega)]; simp [go_sem, World.cell?_alloc_past, *]
  have c3_1 : w3.cell? ⟨w.heap.size, 1, none⟩ = some (.int .i64 h) := by rw [(bcell hbw3).1 _ _ (by first | (simp; done) | (simp; omega) | omega)]; simp [go_sem, World.cell?_alloc_past, *]
  have c3_2 : w3.cell? ⟨w.heap.size, 2, none⟩ = some (.int .i64 s) := by rw [(bcell hbw3).1 _ _ (by first | (simp; done) | (simp; omega) | omega)]; simp [go_sem, World.cell?_alloc_past, *]
  have c3_3 : w3.cell? ⟨w.heap.size, 3, none⟩ = some (.int .i64 a) := by rw [(bcell hbw3).1 _ _ (by first | (simp; done) | (simp; omega) | omega)]; simp [go_sem, World.cell?_alloc_past, *]
  have c3_4 : w3.cell? ⟨w.heap.size, 4, none⟩ = some (.int .i64 b) := by rw [(bcell hbw3).1 _ _ (by first | (simp; done) | (simp; omega) | omega)]; simp [go_sem, World.cell?_alloc_past, *]
  have hB3 : Below w.heap.size w w3 := (by (repeat (first | (with_reducible refine Below.drew ?_) | (with_reducible refine below_drewN ?_ _) | (with_reducible refine Below.alloc ?_ (by first | omega | (simp; done) | (simp; omega) | (simp at *; omega)) _) | (with_reducible refine Below.setCell ?_ (by first | omega | (simp; done) | (simp; omega) | (simp at *; omega)) _) | (with_reducible exact Below.refl _ _) | (with_reducible assumption) | (with_reducible refine Below.trans ?_ (Below.mono (by assumption) (by first | omega | (simp; done) | (simp; omega) | (simp at *; omega)))))))
  clear c2_0 c2_1 c2_2 c2_3 c2_4 o2_0 n2_0 t2_0_1 t2_0_2 t2_0_3 t2_0_4 t2_0_5
  have o3_0 : w.heap.size < w3.heap.size := by omega
  have n3_0 : w3.heap.size ≠ w.heap.size := by omega
  have t3_0_1 : w.heap.size < w3.heap.size + 1 := by omega
  have t3_0_2 : w.heap.size < w3.heap.size + 1 + 1 := by omega
  have t3_0_3 : w.heap.size < w3.heap.size + 1 + 1 + 1 := by omega
  have t3_0_4 : w.heap.size < w3.heap.size + 1 + 1 + 1 + 1 := by omega
  have t3_0_5 : w.heap.size < w3.heap.size + 1 + 1 + 1 + 1 + 1 := by omega
  have o3_1 : w2.heap.size < w3.heap.size := by omega
  have n3_1 : w3.heap.size ≠ w2.heap.size := by omega
  have t3_1_1 : w2.heap.size < w3.heap.size + 1 := by omega
  have t3_1_2 : w2.heap.size < w3.heap.size + 1 + 1 := by omega
  have t3_1_3 : w2.heap.size < w3.heap.size + 1 + 1 + 1 := by omega
  have t3_1_4 : w2.heap.size < w3.heap.size + 1 + 1 + 1 + 1 := by omega
  have t3_1_5 : w2.heap.size < w3.heap.size + 1 + 1 + 1 + 1 + 1 := by omega
  have b3 : w.heap.size ≤ w3.heap.size := by omega
  clear hbw3
  go_wp2_with fail
  refine (Partial_v o h (s + d) _ _ _ _ k1 k2 k3 k4 (by omega) (by omega) k7 hP0 hP1 hP2).mono ?_
  rintro e w4 ⟨rfl, hbw4⟩
  have z4 := hbw4.size
  try simp at z4
  have c4_0 : w4.cell? ⟨w.heap.size, 0, none⟩ = some (.int .i64 o) := by rw [(bcell hbw4).1 _ _ (by first | (simp; done) | (simp; omega) | omega)]; simp [go_sem, World.cell?_alloc_past, *]
  have c4_1 : w4.cell? ⟨w.heap.size, 1, none⟩ = some (.int .i64 h) := by rw [(bcell hbw4).1 _ _ (by first | (simp; done) | (simp; omega) | omega)]; simp [go_sem, World.cell?_alloc_past, *]
  have c4_2 : w4.cell? ⟨w.heap.size, 2, none⟩ = some (.int .i64 s) := by rw [(bcell hbw4).1 _ _ (by first | (simp; done) | (simp; omega) | omega)]; simp [go_sem, World.cell?_alloc_past, *]
  have c4_3 : w4.cell? ⟨w.heap.size, 3, none⟩ = some (.int .i64 a) := by rw [(bcell hbw4).1 _ _ (by first | (simp; done) | (simp; omega) | omega)]; simp [go_sem, World.cell?_alloc_past, *]
  have c4_4 : w4.cell? ⟨w.heap.size, 4, none⟩ = some (.int .i64 b) := by rw [(bcell hbw4).1 _ _ (by first | (simp; done) | (simp; omega) | omega)]; simp [go_sem, World.cell?_alloc_past, *]
  have c4_5 : w4.cell? ⟨w3.heap.size, 0, none⟩ = some (.int .i64 x) := by rw [(bcell hbw4).1 _ _ (by first | (simp; done) | (simp; omega) | omega)]; simp [go_sem, World.cell?_alloc_past, *]
  have c4_6 : w4.cell? ⟨w3.heap.size, 1, none⟩ = some (.int .i64 y) := by rw [(bcell hbw4).1 _ _ (by first | (simp; done) | (simp; omega) | omega)]; simp [go_sem, World.cell?_alloc_past, *]
  have hB4 : Below w.heap.size w w4 := (by (repeat (first | (with_reducible refine Below.drew ?_) | (with_reducible refine below_drewN ?_ _) | (with_reducible refine Below.alloc ?_ (by first | omega | (simp; done) | (simp; omega) | (simp at *; omega)) _) | (with_reducible refine Below.setCell ?_ (by first | omega | (simp; done) | (simp; omega) | (simp at *; omega)) _) | (with_reducible exact Below.refl _ _) | (with_reducible assumption) | (with_reducible refine Below.trans ?_ (Below.mono (by assumption) (by first | omega | (simp; done) | (simp; omega) | (simp at *; omega)))))))
  clear c3_0 c3_1 c3_2 c3_3 c3_4 o3_0 n3_0 t3_0_1 t3_0_2 t3_0_3 t3_0_4 t3_0_5 o3_1 n3_1 t3_1_1 t3_1_2 t3_1_3 t3_1_4 t3_1_5
  have o4_0 : w.heap.size < w4.heap.size := by omega
  have n4_0 : w4.heap.size ≠ w.heap.size := by omega
  have t4_0_1 : w.heap.size < w4.heap.size + 1 := by omega
  have t4_0_2 : w.heap.size < w4.heap.size + 1 + 1 := by omega
  have t4_0_3 : w.heap.size < w4.heap.size + 1 + 1 + 1 := by omega
  have t4_0_4 : w.heap.size < w4.heap.size + 1 + 1 + 1 + 1 := by omega
  have t4_0_5 : w.heap.size < w4.heap.size + 1 + 1 + 1 + 1 + 1 := by omega
  have o4_1 : w2.heap.size < w4.heap.size := by omega
  have n4_1 : w4.heap.size ≠ w2.heap.size := by omega
  have t4_1_1 : w2.heap.size < w4.heap.size + 1 := by omega
  have t4_1_2 : w2.heap.size < w4.heap.size + 1 + 1 := by omega
  have t4_1_3 : w2.heap.size < w4.heap.size + 1 + 1 + 1 := by omega
  have t4_1_4 : w2.heap.size < w4.heap.size + 1 + 1 + 1 + 1 := by omega
  have t4_1_5 : w2.heap.size < w4.heap.size + 1 + 1 + 1 + 1 + 1 := by omega
  have o4_2 : w3.heap.size < w4.heap.size := by omega
  have n4_2 : w4.heap.size ≠ w3.heap.size := by omega
  have t4_2_1 : w3.heap.size < w4.heap.size + 1 := by omega
  have t4_2_2 : w3.heap.size < w4.heap.size + 1 + 1 := by omega
  have t4_2_3 : w3.heap.size < w4.heap.size + 1 + 1 + 1 := by omega
  have t4_2_4 : w3.heap.size < w4.heap.size + 1 + 1 + 1 + 1 := by omega
  have t4_2_5 : w3.heap.size < w4.heap.size + 1 + 1 + 1 + 1 + 1 := by omega
  have b4 : w.heap.size ≤ w4.heap.size := by omega
  clear hbw4
  cases v
  all_goals
    go_wp2_with (first | (go_at_call 34; ((with_reducible refine (baseWithin_b P0 _ _ _ _ hv2).mono ?_)); rintro e w' ⟨rfl, rfl⟩) | (go_at_call 34; ((with_reducible refine (baseWithin_b d _ _ _ _ hu).mono ?_)); rintro e w' ⟨rfl, rfl⟩))
    go_ret
    exact ⟨rfl, (by (repeat (first | (with_reducible refine Below.drew ?_) | (with_reducible refine below_drewN ?_ _) | (with_reducible refine Below.alloc ?_ (by first | omega | (simp; done) | (simp; omega) | (simp at *; omega)) _) | (with_reducible refine Below.setCell ?_ (by first | omega | (simp; done) | (simp; omega) | (simp at *; omega)) _) | (with_reducible exact Below.refl _ _) | (with_reducible assumption) | (with_reducible refine Below.trans ?_ (Below.mono (by assumption) (by first | omega | (simp; done) | (simp; omega) | (simp at *; omega)))))))⟩
theorem gasEdges_any (o h s a b d : Int) (w : World) (m : Int) (hm : w.cell? ⟨1, 0, none⟩ = some (.int .i64 m)) :
    Calls Tryd.prog 6 #[.agg #[.int .i64 o, .int .i64 h, .int .i64 s, .int .i64 a, .int .i64 b], .int .i64 d] w fun e w' => e = .returned (.bool true) ∧ Below w.heap.size w w' := by
  rcases ez (eqE o h s d) with ⟨hp, hpb⟩ | ⟨hp, hpb⟩
  · rcases ez (limE a b) with ⟨hl, hlb⟩ | ⟨hl, hlb⟩
    · obtain ⟨⟨k1, k2, k3, k4, k7⟩, ⟨k5, k6⟩, k8, k9⟩ := eqE_z hp.out
      obtain ⟨g1, g2, g3, g4, g5⟩ := limE_z hl.out
      have hP : depP o h s a b = 0 := by
        obtain ⟨q1, q2, q3⟩ := firE3_z (show firE [gasE o h, rngE s 400 1100, rngE d 0 30000] = 0 from hp.out)
        unfold depP
        rw [q1, q2, hl.out]; rfl
      by_cases ho : o = 0
      · have hE : depE o h s a b = 12 := by unfold depE; rw [if_pos hP, if_pos ho]
        exact glaw_n o h s d a b w m hm hp hl k1 k2 k3 k4 k7 k5 k6 k8 k9 g1 g2 g3 g4 hE (by unfold depL; rw [hE]; rfl) (by unfold depH; rw [hE]; rfl) (by rw [ho]; exact edges_0 (h := h) g1)
      · by_cases hd : depLo o s a ≤ depHi o s b
        · have hE : depE o h s a b = 0 := by unfold depE; rw [if_pos hP, if_neg ho, if_pos hd]
          refine glaw_k o h s d a b w m hm hp hl k1 k2 k3 k4 k7 k5 k6 k8 k9 g1 g2 g3 g4 _ _ _ hE rfl rfl rfl ?_
          have e0 : depL o h s a b = depLo o s a := if_pos hE
          have e1 : depH o h s a b = depHi o s b := if_pos hE
          rw [e0, e1]
          exact (edges_k (by omega) k8 k9).symm
        · have hE : depE o h s a b = 12 := by unfold depE; rw [if_pos hP, if_neg ho, if_neg hd]
          exact glaw_n o h s d a b w m hm hp hl k1 k2 k3 k4 k7 k5 k6 k8 k9 g1 g2 g3 g4 hE (by unfold depL; rw [hE]; rfl) (by unfold depH; rw [hE]; rfl) (edges_n (by omega) k8 k9 hd)
    · exact glaw_l o h s d a b w m hm _ hp rfl hlb
  · exact glaw_p o h s d a b w m hm _ rfl hpb
end Go.Proofs.YtebieflnlmdllaaDoor
