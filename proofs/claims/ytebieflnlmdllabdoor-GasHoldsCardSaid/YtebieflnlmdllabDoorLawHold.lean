/- The walk of shotlinelaw01.GasHolds: it returns true. -/
import Derived.Test.YtebieflnlmdllabDoorAwake
import Derived.Test.YtebieflnlmdllabDoorHold
import Derived.Outline
namespace Go.Proofs.YtebieflnlmdllabDoor
open Go.ChangeShapes Go.WideShapes Go.ChangeAt Go.RowKit
set_option linter.unusedVariables false

theorem back_lo {s p : Int} (k1 : 1 ≤ s) (k3 : 0 ≤ p) : 1000 * (s * p / 1000) / s ≤ p ∧ s * (p - 1000 * (s * p / 1000) / s) < 1000 + s ∧ 0 ≤ 1000 * (s * p / 1000) / s := by
  have h1 := Int.emod_add_mul_ediv (s * p) 1000
  have h2 := Int.emod_nonneg (s * p) (show (1000 : Int) ≠ 0 by omega)
  have h3 := Int.emod_lt_of_pos (s * p) (show (0 : Int) < 1000 by omega)
  have m0 : 0 ≤ s * p := Int.mul_nonneg (by omega) k3
  have hn0 : 0 ≤ s * p / 1000 := Int.ediv_nonneg m0 (by omega)
  generalize s * p / 1000 = n at *
  have g1 := Int.emod_add_mul_ediv (1000 * n) s
  have g2 := Int.emod_nonneg (1000 * n) (show s ≠ 0 by omega)
  have g3 := Int.emod_lt_of_pos (1000 * n) (show 0 < s by omega)
  have hl0 : 0 ≤ 1000 * n / s := Int.ediv_nonneg (by omega) (by omega)
  refine ⟨?_, ?_, hl0⟩
  · have : 1000 * n / s ≤ s * p / s := Int.ediv_le_ediv (by omega) (by omega)
    rwa [Int.mul_ediv_cancel_left _ (by omega)] at this
  · rw [Int.mul_sub]; omega
theorem IsSize_is (n : Int) (b : Bool) (w : World) (hb : Hid (inB n 1 100000 = b)) :
    Calls Tryd.prog 17 #[.int .i64 n] w fun e w' => e = .returned (.bool b) ∧ w = w' := by
  have := IsSize_any n w
  rw [hb.out] at this
  exact this
theorem baseWithin_is (n a b : Int) (x : Bool) (w : World) (hb : Hid (inB n a b = x)) :
    Calls Tryd.prog 13 #[.int .i64 n, .int .i64 a, .int .i64 b] w fun e w' => e = .returned (.bool x) ∧ w = w' := by
  have := baseWithin_any n a b w
  rw [hb.out] at this
  exact this
set_option maxRecDepth 100000 in
set_option maxHeartbeats 2000000 in
theorem hlaw_b (s p a : Int) (w : World) (m : Int) (hm : w.cell? ⟨1, 0, none⟩ = some (.int .i64 m)) (hs : Hid (inB s 1 100000 = false)) (hh : Hid (hdE s p = 2)) (ho : Hid (poE s a = 2)) :
    Calls Tryd.prog 4 #[.int .i64 s, .int .i64 p, .int .i64 a] w fun e w' => e = .returned (.bool true) ∧ Below w.heap.size w w' := by
  go_enter Tryd.func4, Tryd.ntmps4
  go_wp2_with fail
  refine (awake_any _ m hm).mono ?_
  rintro e w1 ⟨rfl, hbw1⟩
  go_wp2_with fail
  refine (Held_bad _ _ _ hh).mono ?_
  rintro e w2 ⟨rfl, hbw2⟩
  have hB2 : Below w.heap.size w w2 := hbw1.trans (hbw2.mono hbw1.size)
  clear hbw1 hbw2
  go_wp2_with fail
  refine (PressureOf_bad _ _ _ ho).mono ?_
  rintro e w3 ⟨rfl, hbw3⟩
  have hB3 : Below w.heap.size w w3 := hB2.trans (hbw3.mono hB2.size)
  have s3 := hB3.size
  clear hbw3
  go_wp2_with (first | (go_at_call 17; ((with_reducible refine (IsSize_is _ false _ hs).mono ?_)); rintro e w' ⟨rfl, rfl⟩))
  go_ret
  exact ⟨rfl, (by (repeat (first | (with_reducible refine Below.drew ?_) | (with_reducible refine below_drewN ?_ _) | (with_reducible refine Below.alloc ?_ (by first | omega | (simp; done) | (simp; omega) | (simp at *; omega)) _) | (with_reducible refine Below.setCell ?_ (by first | omega | (simp; done) | (simp; omega) | (simp at *; omega)) _) | (with_reducible exact Below.refl _ _) | (with_reducible assumption) | (with_reducible refine Below.trans ?_ (Below.mono (by assumption) (by first | omega | (simp; done) | (simp; omega) | (simp at *; omega)))))))⟩
set_option maxRecDepth 100000 in
set_option maxHeartbeats 2000000 in
theorem hlaw_kbb (s p a : Int) (w : World) (m : Int) (hm : w.cell? ⟨1, 0, none⟩ = some (.int .i64 m)) (hs : Hid (inB s 1 100000 = true)) (k1 : 1 ≤ s) (k2 : s ≤ 100000) (hp : Hid (inB p 0 400000 = false)) (hh : Hid (hdE s p = 2)) (ha : Hid (inB a 0 1000000000 = false)) (ho : Hid (poE s a = 2)) :
    Calls Tryd.prog 4 #[.int .i64 s, .int .i64 p, .int .i64 a] w fun e w' => e = .returned (.bool true) ∧ Below w.heap.size w w' := by
  go_enter Tryd.func4, Tryd.ntmps4
  go_wp2_with fail
  refine (awake_any _ m hm).mono ?_
  rintro e w1 ⟨rfl, hbw1⟩
  go_wp2_with fail
  refine (Held_bad _ _ _ hh).mono ?_
  rintro e w2 ⟨rfl, hbw2⟩
  have hB2 : Below w.heap.size w w2 := hbw1.trans (hbw2.mono hbw1.size)
  clear hbw1 hbw2
  go_wp2_with fail
  refine (PressureOf_bad _ _ _ ho).mono ?_
  rintro e w3 ⟨rfl, hbw3⟩
  have hB3 : Below w.heap.size w w3 := hB2.trans (hbw3.mono hB2.size)
  have s3 := hB3.size
  clear hbw3
  go_wp2_with (first | (go_at_call 17; ((with_reducible refine (IsSize_is _ true _ hs).mono ?_)); rintro e w' ⟨rfl, rfl⟩) | (go_at_call 13; ((with_reducible refine (baseWithin_is p _ _ false _ hp).mono ?_)); rintro e w' ⟨rfl, rfl⟩) | (go_at_call 13; ((with_reducible refine (baseWithin_is a _ _ false _ ha).mono ?_)); rintro e w' ⟨rfl, rfl⟩))
  go_ret
  exact ⟨rfl, (by (repeat (first | (with_reducible refine Below.drew ?_) | (with_reducible refine below_drewN ?_ _) | (with_reducible refine Below.alloc ?_ (by first | omega | (simp; done) | (simp; omega) | (simp at *; omega)) _) | (with_reducible refine Below.setCell ?_ (by first | omega | (simp; done) | (simp; omega) | (simp at *; omega)) _) | (with_reducible exact Below.refl _ _) | (with_reducible assumption) | (with_reducible refine Below.trans ?_ (Below.mono (by assumption) (by first | omega | (simp; done) | (simp; omega) | (simp at *; omega)))))))⟩
set_option maxRecDepth 100000 in
set_option maxHeartbeats 2000000 in
theorem hlaw_kbk (s p a : Int) (w : World) (m : Int) (hm : w.cell? ⟨1, 0, none⟩ = some (.int .i64 m)) (hs : Hid (inB s 1 100000 = true)) (k1 : 1 ≤ s) (k2 : s ≤ 100000) (hp : Hid (inB p 0 400000 = false)) (hh : Hid (hdE s p = 2)) (ha : Hid (inB a 0 1000000000 = true)) (ho : Hid (poE s a = 0)) (k5 : 0 ≤ a) (k6 : a ≤ 1000000000) :
    Calls Tryd.prog 4 #[.int .i64 s, .int .i64 p, .int .i64 a] w fun e w' => e = .returned (.bool true) ∧ Below w.heap.size w w' := by
  obtain ⟨F, hF⟩ : ∃ F, Hid (1000 * a / s = F) := ⟨_, rfl⟩
  obtain ⟨C, hC⟩ : ∃ C, Hid ((1000 * a + s - 1) / s = C) := ⟨_, rfl⟩
  have cO := fun w => PressureOf_ok s a w ho k1 k2 k5 k6
  have cFl := fun w => baseFloor_nn (1000 * a) s w (by omega) (by omega) (by omega) (by omega)
  have cCe := fun w => baseCeil_nn (1000 * a) s w (by omega) (by omega) (by omega) (by omega)
  rw [hF.out, hC.out] at cO
  rw [hF.out] at cFl
  rw [hC.out] at cCe
  have ew : IntKind.i64.wrap (1000 * a) = 1000 * a := IntWalk.i64_in _ (by omega)
  have HcO := Lib.hid cO
  have HcFl := Lib.hid cFl
  have HcCe := Lib.hid cCe
  clear cO cFl cCe
  go_enter Tryd.func4, Tryd.ntmps4
  go_wp2_with fail
  refine (awake_any _ m hm).mono ?_
  rintro e w1 ⟨rfl, hbw1⟩
  go_wp2_with fail
  refine (Held_bad _ _ _ hh).mono ?_
  rintro e w2 ⟨rfl, hbw2⟩
  have hB2 : Below w.heap.size w w2 := hbw1.trans (hbw2.mono hbw1.size)
  clear hbw1 hbw2
  go_wp2_with fail
  refine (HcO.out _).mono ?_
  rintro e w3 ⟨rfl, hbw3⟩
  have hB3 : Below w.heap.size w w3 := hB2.trans (hbw3.mono hB2.size)
  have s3 := hB3.size
  clear hbw3
  go_wp2_with (first | (go_at_call 17; ((with_reducible refine (IsSize_is _ true _ hs).mono ?_)); rintro e w' ⟨rfl, rfl⟩) | (go_at_call 13; ((with_reducible refine (baseWithin_is p _ _ false _ hp).mono ?_)); rintro e w' ⟨rfl, rfl⟩) | (go_at_call 13; ((with_reducible refine (baseWithin_is a _ _ true _ ha).mono ?_)); rintro e w' ⟨rfl, rfl⟩))
  go_region_held3 (fun w' => w'.cell? ⟨w3.heap.size, 0, none⟩ = some (.int .i64 F) ∧ w'.cell? ⟨w3.heap.size, 1, none⟩ = some (.int .i64 C)) (simp [go_sem, *])
    (first
      | (go_at_call 18; ((with_reducible refine (HcFl.out _).mono ?_)); rintro e w' ⟨rfl, rfl⟩)
      | (go_at_call 19; ((with_reducible refine (HcCe.out _).mono ?_)); rintro e w' ⟨rfl, rfl⟩))
  go_wp2
  go_ret
  exact ⟨rfl, (by (repeat (first | (with_reducible refine Below.drew ?_) | (with_reducible refine below_drewN ?_ _) | (with_reducible refine Below.alloc ?_ (by first | omega | (simp; done) | (simp; omega) | (simp at *; omega)) _) | (with_reducible refine Below.setCell ?_ (by first | omega | (simp; done) | (simp; omega) | (simp at *; omega)) _) | (with_reducible exact Below.refl _ _) | (with_reducible assumption) | (with_reducible refine Below.trans ?_ (Below.mono (by assumption) (by first | omega | (simp; done) | (simp; omega) | (simp at *; omega)))))))⟩
set_option maxRecDepth 100000 in
set_option maxHeartbeats 2000000 in
theorem hlaw_kkb (s p a : Int) (w : World) (m : Int) (hm : w.cell? ⟨1, 0, none⟩ = some (.int .i64 m)) (hs : Hid (inB s 1 100000 = true)) (k1 : 1 ≤ s) (k2 : s ≤ 100000) (hp : Hid (inB p 0 400000 = true)) (hh : Hid (hdE s p = 0)) (k3 : 0 ≤ p) (k4 : p ≤ 400000) (ha : Hid (inB a 0 1000000000 = false)) (ho : Hid (poE s a = 2)) :
    Calls Tryd.prog 4 #[.int .i64 s, .int .i64 p, .int .i64 a] w fun e w' => e = .returned (.bool true) ∧ Below w.heap.size w w' := by
  have m1 : 0 ≤ s * p := Int.mul_nonneg (by omega) k3
  have m2 : s * p ≤ 100000 * 400000 := Int.mul_le_mul k2 k4 k3 (by omega)
  obtain ⟨l1, l2, l0⟩ := back_lo k1 k3
  obtain ⟨x, hx⟩ : ∃ x, Hid (s * p = x) := ⟨s * p, rfl⟩
  rw [hx.out] at m1 m2 l1 l2 l0
  obtain ⟨n, hn⟩ : ∃ n, Hid (x / 1000 = n) := ⟨x / 1000, rfl⟩
  have n1 : 0 ≤ n := by rw [← hn.out]; exact Int.ediv_nonneg m1 (by omega)
  have n2 : n ≤ 40000000 := by rw [← hn.out]; omega
  rw [hn.out] at l1 l2 l0
  have hpo : Hid (poE s n = 0) := poE_ok hs.out (inB_true (by omega) (by omega))
  have cB := fun w => PressureOf_ok s n w hpo k1 k2 n1 (by omega)
  have cH := fun w => Held_ok s p w hh k1 k2 k3 k4
  rw [hx.out, hn.out] at cH
  have cF := fun w => baseFloor_nn x 1000 w m1 (by omega) (by omega) (by omega)
  rw [hn.out] at cF
  obtain ⟨L, hL⟩ : ∃ L, Hid (1000 * n / s = L) := ⟨_, rfl⟩
  rw [hL.out] at l1 l2 l0 cB
  obtain ⟨U, hU⟩ : ∃ U, Hid ((1000 * n + s - 1) / s = U) := ⟨_, rfl⟩
  rw [hU.out] at cB
  have q1 : 0 ≤ s * (p - L) := Int.mul_nonneg (by omega) (by omega)
  obtain ⟨y, hy⟩ : ∃ y, Hid (s * (p - L) = y) := ⟨_, rfl⟩
  rw [hy.out] at l2 q1
  have u1 : IntKind.i64.wrap (s * p) = x := by rw [hx.out]; exact IntWalk.i64_in _ (by omega)
  have u2 : IntKind.i64.wrap (s * (p - L)) = y := by rw [hy.out]; exact IntWalk.i64_in _ (by omega)
  have u3 : ¬ p < L := by omega
  have u4 : y < 1000 + s := l2
  have u5 : ¬ 1000 + s ≤ y := by omega
  have HcB := Lib.hid cB
  have HcH := Lib.hid cH
  have HcF := Lib.hid cF
  clear cB cH cF
  go_enter Tryd.func4, Tryd.ntmps4
  go_wp2_with fail
  refine (awake_any _ m hm).mono ?_
  rintro e w1 ⟨rfl, hbw1⟩
  go_wp2_with fail
  refine (HcH.out _).mono ?_
  rintro e w2 ⟨rfl, hbw2⟩
  have hB2 : Below w.heap.size w w2 := hbw1.trans (hbw2.mono hbw1.size)
  clear hbw1 hbw2
  go_wp2_with fail
  refine (PressureOf_bad _ _ _ ho).mono ?_
  rintro e w3 ⟨rfl, hbw3⟩
  have hB3 : Below w.heap.size w w3 := hB2.trans (hbw3.mono hB2.size)
  have s3 := hB3.size
  clear hbw3
  go_wp2_with (first | (go_at_call 17; ((with_reducible refine (IsSize_is _ true _ hs).mono ?_)); rintro e w' ⟨rfl, rfl⟩) | (go_at_call 13; ((with_reducible refine (baseWithin_is p _ _ true _ hp).mono ?_)); rintro e w' ⟨rfl, rfl⟩) | (go_at_call 13; ((with_reducible refine (baseWithin_is a _ _ false _ ha).mono ?_)); rintro e w' ⟨rfl, rfl⟩) | (go_at_call 18; ((with_reducible refine (HcF.out _).mono ?_)); rintro e w' ⟨rfl, rfl⟩))
  refine (HcB.out _).mono ?_
  rintro e w4 ⟨rfl, hbw4⟩
  have s4 := hbw4.size
  simp at s4
  have g0 : w4.cell? ⟨w3.heap.size, 0, none⟩ = some (.int .i64 0) := by rw [(bcell hbw4).1 _ _ (by simp)]; simp [go_sem]
  have g1 : w4.cell? ⟨w3.heap.size, 1, none⟩ = some (.int .i64 0) := by rw [(bcell hbw4).1 _ _ (by simp)]; simp [go_sem]
  have hB4 : Below w.heap.size w w4 := (hB3.alloc hB3.size _).trans (hbw4.mono (by simp; omega))
  have n41 : w4.heap.size ≠ w3.heap.size := by omega
  have n42 : w3.heap.size < w4.heap.size := by omega
  have s5 : w.heap.size ≤ w4.heap.size := by omega
  clear hbw4
  go_wp2_with (first | (go_at_call 17; ((with_reducible refine (IsSize_is _ true _ hs).mono ?_)); rintro e w' ⟨rfl, rfl⟩) | (go_at_call 13; ((with_reducible refine (baseWithin_is p _ _ true _ hp).mono ?_)); rintro e w' ⟨rfl, rfl⟩) | (go_at_call 13; ((with_reducible refine (baseWithin_is a _ _ false _ ha).mono ?_)); rintro e w' ⟨rfl, rfl⟩) | (go_at_call 18; ((with_reducible refine (HcF.out _).mono ?_)); rintro e w' ⟨rfl, rfl⟩))
  go_ret
  exact ⟨rfl, (by (repeat (first | (with_reducible refine Below.drew ?_) | (with_reducible refine below_drewN ?_ _) | (with_reducible refine Below.alloc ?_ (by first | omega | (simp; done) | (simp; omega) | (simp at *; omega)) _) | (with_reducible refine Below.setCell ?_ (by first | omega | (simp; done) | (simp; omega) | (simp at *; omega)) _) | (with_reducible exact Below.refl _ _) | (with_reducible assumption) | (with_reducible refine Below.trans ?_ (Below.mono (by assumption) (by first | omega | (simp; done) | (simp; omega) | (simp at *; omega)))))))⟩
set_option maxRecDepth 100000 in
set_option maxHeartbeats 2000000 in
theorem hlaw_kkk (s p a : Int) (w : World) (m : Int) (hm : w.cell? ⟨1, 0, none⟩ = some (.int .i64 m)) (hs : Hid (inB s 1 100000 = true)) (k1 : 1 ≤ s) (k2 : s ≤ 100000) (hp : Hid (inB p 0 400000 = true)) (hh : Hid (hdE s p = 0)) (k3 : 0 ≤ p) (k4 : p ≤ 400000) (ha : Hid (inB a 0 1000000000 = true)) (ho : Hid (poE s a = 0)) (k5 : 0 ≤ a) (k6 : a ≤ 1000000000) :
    Calls Tryd.prog 4 #[.int .i64 s, .int .i64 p, .int .i64 a] w fun e w' => e = .returned (.bool true) ∧ Below w.heap.size w w' := by
  have m1 : 0 ≤ s * p := Int.mul_nonneg (by omega) k3
  have m2 : s * p ≤ 100000 * 400000 := Int.mul_le_mul k2 k4 k3 (by omega)
  obtain ⟨l1, l2, l0⟩ := back_lo k1 k3
  obtain ⟨x, hx⟩ : ∃ x, Hid (s * p = x) := ⟨s * p, rfl⟩
  rw [hx.out] at m1 m2 l1 l2 l0
  obtain ⟨n, hn⟩ : ∃ n, Hid (x / 1000 = n) := ⟨x / 1000, rfl⟩
  have n1 : 0 ≤ n := by rw [← hn.out]; exact Int.ediv_nonneg m1 (by omega)
  have n2 : n ≤ 40000000 := by rw [← hn.out]; omega
  rw [hn.out] at l1 l2 l0
  have hpo : Hid (poE s n = 0) := poE_ok hs.out (inB_true (by omega) (by omega))
  have cB := fun w => PressureOf_ok s n w hpo k1 k2 n1 (by omega)
  have cH := fun w => Held_ok s p w hh k1 k2 k3 k4
  rw [hx.out, hn.out] at cH
  have cF := fun w => baseFloor_nn x 1000 w m1 (by omega) (by omega) (by omega)
  rw [hn.out] at cF
  obtain ⟨L, hL⟩ : ∃ L, Hid (1000 * n / s = L) := ⟨_, rfl⟩
  rw [hL.out] at l1 l2 l0 cB
  obtain ⟨U, hU⟩ : ∃ U, Hid ((1000 * n + s - 1) / s = U) := ⟨_, rfl⟩
  rw [hU.out] at cB
  have q1 : 0 ≤ s * (p - L) := Int.mul_nonneg (by omega) (by omega)
  obtain ⟨y, hy⟩ : ∃ y, Hid (s * (p - L) = y) := ⟨_, rfl⟩
  rw [hy.out] at l2 q1
  have u1 : IntKind.i64.wrap (s * p) = x := by rw [hx.out]; exact IntWalk.i64_in _ (by omega)
  have u2 : IntKind.i64.wrap (s * (p - L)) = y := by rw [hy.out]; exact IntWalk.i64_in _ (by omega)
  have u3 : ¬ p < L := by omega
  have u4 : y < 1000 + s := l2
  have u5 : ¬ 1000 + s ≤ y := by omega
  have HcB := Lib.hid cB
  have HcH := Lib.hid cH
  have HcF := Lib.hid cF
  clear cB cH cF
  obtain ⟨F, hF⟩ : ∃ F, Hid (1000 * a / s = F) := ⟨_, rfl⟩
  obtain ⟨C, hC⟩ : ∃ C, Hid ((1000 * a + s - 1) / s = C) := ⟨_, rfl⟩
  have cO := fun w => PressureOf_ok s a w ho k1 k2 k5 k6
  have cFl := fun w => baseFloor_nn (1000 * a) s w (by omega) (by omega) (by omega) (by omega)
  have cCe := fun w => baseCeil_nn (1000 * a) s w (by omega) (by omega) (by omega) (by omega)
  rw [hF.out, hC.out] at cO
  rw [hF.out] at cFl
  rw [hC.out] at cCe
  have ew : IntKind.i64.wrap (1000 * a) = 1000 * a := IntWalk.i64_in _ (by omega)
  have HcO := Lib.hid cO
  have HcFl := Lib.hid cFl
  have HcCe := Lib.hid cCe
  clear cO cFl cCe
  go_enter Tryd.func4, Tryd.ntmps4
  go_wp2_with fail
  refine (awake_any _ m hm).mono ?_
  rintro e w1 ⟨rfl, hbw1⟩
  go_wp2_with fail
  refine (HcH.out _).mono ?_
  rintro e w2 ⟨rfl, hbw2⟩
  have hB2 : Below w.heap.size w w2 := hbw1.trans (hbw2.mono hbw1.size)
  clear hbw1 hbw2
  go_wp2_with fail
  refine (HcO.out _).mono ?_
  rintro e w3 ⟨rfl, hbw3⟩
  have hB3 : Below w.heap.size w w3 := hB2.trans (hbw3.mono hB2.size)
  have s3 := hB3.size
  clear hbw3
  go_wp2_with (first | (go_at_call 17; ((with_reducible refine (IsSize_is _ true _ hs).mono ?_)); rintro e w' ⟨rfl, rfl⟩) | (go_at_call 13; ((with_reducible refine (baseWithin_is p _ _ true _ hp).mono ?_)); rintro e w' ⟨rfl, rfl⟩) | (go_at_call 13; ((with_reducible refine (baseWithin_is a _ _ true _ ha).mono ?_)); rintro e w' ⟨rfl, rfl⟩) | (go_at_call 18; ((with_reducible refine (HcF.out _).mono ?_)); rintro e w' ⟨rfl, rfl⟩))
  refine (HcB.out _).mono ?_
  rintro e w4 ⟨rfl, hbw4⟩
  have s4 := hbw4.size
  simp at s4
  have g0 : w4.cell? ⟨w3.heap.size, 0, none⟩ = some (.int .i64 F) := by rw [(bcell hbw4).1 _ _ (by simp)]; simp [go_sem]
  have g1 : w4.cell? ⟨w3.heap.size, 1, none⟩ = some (.int .i64 C) := by rw [(bcell hbw4).1 _ _ (by simp)]; simp [go_sem]
  have hB4 : Below w.heap.size w w4 := (hB3.alloc hB3.size _).trans (hbw4.mono (by simp; omega))
  have n41 : w4.heap.size ≠ w3.heap.size := by omega
  have n42 : w3.heap.size < w4.heap.size := by omega
  have s5 : w.heap.size ≤ w4.heap.size := by omega
  clear hbw4
  go_wp2_with (first | (go_at_call 17; ((with_reducible refine (IsSize_is _ true _ hs).mono ?_)); rintro e w' ⟨rfl, rfl⟩) | (go_at_call 13; ((with_reducible refine (baseWithin_is p _ _ true _ hp).mono ?_)); rintro e w' ⟨rfl, rfl⟩) | (go_at_call 13; ((with_reducible refine (baseWithin_is a _ _ true _ ha).mono ?_)); rintro e w' ⟨rfl, rfl⟩) | (go_at_call 18; ((with_reducible refine (HcF.out _).mono ?_)); rintro e w' ⟨rfl, rfl⟩))
  go_region_held3 (fun w' => w'.cell? ⟨w3.heap.size, 0, none⟩ = some (.int .i64 F) ∧ w'.cell? ⟨w3.heap.size, 1, none⟩ = some (.int .i64 C)) (simp [go_sem, *])
    (first
      | (go_at_call 18; ((with_reducible refine (HcFl.out _).mono ?_)); rintro e w' ⟨rfl, rfl⟩)
      | (go_at_call 19; ((with_reducible refine (HcCe.out _).mono ?_)); rintro e w' ⟨rfl, rfl⟩))
  go_wp2
  go_ret
  exact ⟨rfl, (by (repeat (first | (with_reducible refine Below.drew ?_) | (with_reducible refine below_drewN ?_ _) | (with_reducible refine Below.alloc ?_ (by first | omega | (simp; done) | (simp; omega) | (simp at *; omega)) _) | (with_reducible refine Below.setCell ?_ (by first | omega | (simp; done) | (simp; omega) | (simp at *; omega)) _) | (with_reducible exact Below.refl _ _) | (with_reducible assumption) | (with_reducible refine Below.trans ?_ (Below.mono (by assumption) (by first | omega | (simp; done) | (simp; omega) | (simp at *; omega)))))))⟩
theorem mxLen (W : World) (h : W.ShapedOpen Tryd.prog) : ∃ m, W.cell? ⟨1, 0, none⟩ = some (.int .i64 m) := Tryd.laysM145.s1_3 W h
theorem gasHolds_any (s p a : Int) (w : World) (m : Int) (hm : w.cell? ⟨1, 0, none⟩ = some (.int .i64 m)) :
    Calls Tryd.prog 4 #[.int .i64 s, .int .i64 p, .int .i64 a] w fun e w' => e = .returned (.bool true) ∧ Below w.heap.size w w' := by
  rcases inB_cases s 1 100000 with hs | hs
  · obtain ⟨k1, k2⟩ := inB_iff.1 hs
    rcases inB_cases p 0 400000 with hp | hp <;> rcases inB_cases a 0 1000000000 with ha | ha
    · obtain ⟨k3, k4⟩ := inB_iff.1 hp
      obtain ⟨k5, k6⟩ := inB_iff.1 ha
      exact hlaw_kkk s p a w m hm hs k1 k2 hp (hdE_ok hs hp) k3 k4 ha (poE_ok hs ha) k5 k6
    · obtain ⟨k3, k4⟩ := inB_iff.1 hp
      exact hlaw_kkb s p a w m hm hs k1 k2 hp (hdE_ok hs hp) k3 k4 ha (poE_b2 hs ha)
    · obtain ⟨k5, k6⟩ := inB_iff.1 ha
      exact hlaw_kbk s p a w m hm hs k1 k2 hp (hdE_b2 hs hp) ha (poE_ok hs ha) k5 k6
    · exact hlaw_kbb s p a w m hm hs k1 k2 hp (hdE_b2 hs hp) ha (poE_b2 hs ha)
  · exact hlaw_b s p a w m hm hs (hdE_b1 hs) (poE_b1 hs)
end Go.Proofs.YtebieflnlmdllabDoor
