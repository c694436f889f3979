/- The walk of shotlinelaw01.GasPressures: it returns true. -/
import Derived.Test.YtebieflnlmdllaaDoorAwake
import Derived.Test.YtebieflnlmdllaaDoorPress
import Derived.Test.YtebieflnlmdllaaDoorArr
import Derived.Outline
namespace Go.Proofs.YtebieflnlmdllaaDoor
open Go.ChangeShapes Go.WideShapes Go.ChangeAt Go.RowKit
set_option linter.unusedVariables false

theorem PressureAt_bad (s d : Int) (w : World) (h : Hid (plE s d ≠ 0)) :
    Calls Tryd.prog 24 #[.int .i64 s, .int .i64 d] w fun e w' => e = .returned (.tuple #[.int .i64 0, .int .i64 (plE s d)]) ∧ Below w.heap.size w w' := by
  have := PressureAt_any s d w
  rw [show plP s d = 0 from if_neg h.out] at this
  exact this
theorem PressureAt_ok (s d : Int) (w : World) (h : Hid (plE s d = 0)) :
    Calls Tryd.prog 24 #[.int .i64 s, .int .i64 d] w fun e w' => e = .returned (.tuple #[.int .i64 (s + d), .int .i64 0]) ∧ Below w.heap.size w w' := by
  have := PressureAt_any s d w
  rw [show plP s d = s + d from if_pos h.out, h.out] at this
  exact this
theorem CheckPlace_ok (s d : Int) (w : World) (h : Hid (plE s d = 0)) :
    Calls Tryd.prog 25 #[.int .i64 s, .int .i64 d] w fun e w' => e = .returned (.int .i64 0) ∧ w = w' := by
  have := CheckPlace_any s d w
  rw [h.out] at this
  exact this
theorem Partial_bad (o h p c : Int) (w : World) (hc : Hid (paE o h p = c)) (hn : (c != 0) = true) :
    Calls Tryd.prog 26 #[.agg #[.int .i64 o, .int .i64 h], .int .i64 p] w fun e w' => e = .returned (.tuple #[.agg #[.int .i64 0, .int .i64 0, .int .i64 0], .int .i64 c]) ∧ Below w.heap.size w w' := by
  have := Partial_t1 o h p w (by rw [hc.out]; exact hn)
  rw [hc.out] at this
  exact this
theorem refCheckGas_is (o h c : Int) (w : World) (hc : Hid (gasE o h = c)) :
    Calls Tryd.prog 20 #[.agg #[.int .i64 o, .int .i64 h]] w fun e w' => e = .returned (.int .i64 c) ∧ w.alloc (.cells #[.int .i64 o, .int .i64 h] 23) = w' := by
  have := refCheckGas_any o h w
  rw [hc.out] at this
  exact this
theorem IsPressure_is (n : Int) (b : Bool) (w : World) (hb : Hid (inB n 0 100000 = b)) :
    Calls Tryd.prog 27 #[.int .i64 n] w fun e w' => e = .returned (.bool b) ∧ w = w' := by
  have := IsPressure_any n w
  rw [hb.out] at this
  exact this
set_option maxRecDepth 100000 in
set_option maxHeartbeats 2000000 in
theorem law_Bg (o h s d : Int) (w : World) (m : Int) (hm : w.cell? ⟨1, 0, none⟩ = some (.int .i64 m)) (hp : Hid (plE s d ≠ 0)) (hpb : (plE s d != 0) = true) (c : Int) (hg : Hid (gasE o h = c)) (hc : Hid (paE o h d = c)) (hn : (c != 0) = true) (hn2 : (c == 0) = false) :
    Calls Tryd.prog 4 #[.agg #[.int .i64 o, .int .i64 h], .int .i64 s, .int .i64 d] w fun e w' => e = .returned (.bool true) ∧ Below w.heap.size w w' := by
  have hl := World.block_lt_of_cell? _ _ hm
  have hne : w.heap.size ≠ 1 := by simp at hl; omega
  have hl2 : 1 < w.heap.size := by simpa using hl
  have hEq := eqArrIn
  go_enter Tryd.func4, Tryd.ntmps4
  go_wp2_with fail
  refine (awake_any _ m (by simp [go_sem, World.cell?_alloc_past, *])).mono ?_
  rintro e w1 ⟨rfl, hbw1⟩
  have g0 : w1.cell? ⟨w.heap.size, 0, none⟩ = some (.int .i64 o) := by rw [(bcell hbw1).1 _ _ (by simp)]; simp [go_sem]
  have g1 : w1.cell? ⟨w.heap.size, 1, none⟩ = some (.int .i64 h) := by rw [(bcell hbw1).1 _ _ (by simp)]; simp [go_sem]
  have hB1 : Below w.heap.size w w1 := (by (repeat (first | (with_reducible refine Below.drew ?_) | (with_reducible refine below_drewN ?_ _) | (with_reducible refine Below.alloc ?_ (by first | omega | (simp; done) | (simp; omega) | (simp at *; omega)) _) | (with_reducible refine Below.setCell ?_ (by first | omega | (simp; done) | (simp; omega) | (simp at *; omega)) _) | (with_reducible exact Below.refl _ _) | (with_reducible assumption) | (with_reducible refine Below.trans ?_ (Below.mono (by assumption) (by first | omega | (simp; done) | (simp; omega) | (simp at *; omega)))))))
  have s1 : w.heap.size < w1.heap.size := by have := hbw1.size; simp at this; omega
  clear hbw1
  go_wp2_with fail
  refine (PressureAt_bad _ _ _ hp).mono ?_
  rintro e w2 ⟨rfl, hbw2⟩
  have a0 : w2.cell? ⟨w.heap.size, 0, none⟩ = some (.int .i64 o) := by rw [(bcell hbw2).1 _ _ s1, g0]
  have a1 : w2.cell? ⟨w.heap.size, 1, none⟩ = some (.int .i64 h) := by rw [(bcell hbw2).1 _ _ s1, g1]
  have hB2 : Below w.heap.size w w2 := hB1.trans (hbw2.mono (by omega))
  have s2 : w.heap.size < w2.heap.size := by have := hbw2.size; omega
  clear hbw2 g0 g1
  go_wp2_with ((go_at_call 25; ((with_reducible refine (CheckPlace_any _ _ _).mono ?_)); rintro e w' ⟨rfl, rfl⟩))
  refine (Partial_bad _ _ _ c _ hc hn).mono ?_
  rintro e w3 ⟨rfl, hbw3⟩
  have e0 : w3.cell? ⟨w.heap.size, 0, none⟩ = some (.int .i64 o) := by rw [(bcell hbw3).1 _ _ s2, a0]
  have e1 : w3.cell? ⟨w.heap.size, 1, none⟩ = some (.int .i64 h) := by rw [(bcell hbw3).1 _ _ s2, a1]
  have hB3 : Below w.heap.size w w3 := hB2.trans (hbw3.mono (by omega))
  have s3 : w.heap.size < w3.heap.size := by have := hbw3.size; omega
  have s4 : w3.heap.size ≠ w.heap.size := by omega
  have s5 : w.heap.size < w3.heap.size + 1 := by omega
  have s6 : w.heap.size < w3.heap.size + 1 + 1 := by omega
  have s7 : w.heap.size < w3.heap.size + 1 + 1 + 1 := by omega
  have s8 : w.heap.size < w3.heap.size + 1 + 1 + 1 + 1 := by omega
  clear hbw3 a0 a1
  go_wp2_with (first | (go_at_call 20; ((with_reducible refine (refCheckGas_is _ _ c _ hg).mono ?_)); rintro e w' ⟨rfl, rfl⟩))
  go_ret
  exact ⟨rfl, (by (repeat (first | (with_reducible refine Below.drew ?_) | (with_reducible refine below_drewN ?_ _) | (with_reducible refine Below.alloc ?_ (by first | omega | (simp; done) | (simp; omega) | (simp at *; omega)) _) | (with_reducible refine Below.setCell ?_ (by first | omega | (simp; done) | (simp; omega) | (simp at *; omega)) _) | (with_reducible exact Below.refl _ _) | (with_reducible assumption) | (with_reducible refine Below.trans ?_ (Below.mono (by assumption) (by first | omega | (simp; done) | (simp; omega) | (simp at *; omega)))))))⟩
set_option maxRecDepth 100000 in
set_option maxHeartbeats 2000000 in
theorem law_Bp (o h s d : Int) (w : World) (m : Int) (hm : w.cell? ⟨1, 0, none⟩ = some (.int .i64 m)) (hp : Hid (plE s d ≠ 0)) (hpb : (plE s d != 0) = true) (hg : Hid (gasE o h = 0)) (hi : Hid (inB d 0 100000 = false)) (hc : Hid (paE o h d = 2)) :
    Calls Tryd.prog 4 #[.agg #[.int .i64 o, .int .i64 h], .int .i64 s, .int .i64 d] w fun e w' => e = .returned (.bool true) ∧ Below w.heap.size w w' := by
  have hl := World.block_lt_of_cell? _ _ hm
  have hne : w.heap.size ≠ 1 := by simp at hl; omega
  have hl2 : 1 < w.heap.size := by simpa using hl
  have hEq := eqArrIn
  go_enter Tryd.func4, Tryd.ntmps4
  go_wp2_with fail
  refine (awake_any _ m (by simp [go_sem, World.cell?_alloc_past, *])).mono ?_
  rintro e w1 ⟨rfl, hbw1⟩
  have g0 : w1.cell? ⟨w.heap.size, 0, none⟩ = some (.int .i64 o) := by rw [(bcell hbw1).1 _ _ (by simp)]; simp [go_sem]
  have g1 : w1.cell? ⟨w.heap.size, 1, none⟩ = some (.int .i64 h) := by rw [(bcell hbw1).1 _ _ (by simp)]; simp [go_sem]
  have hB1 : Below w.heap.size w w1 := (by (repeat (first | (with_reducible refine Below.drew ?_) | (with_reducible refine below_drewN ?_ _) | (with_reducible refine Below.alloc ?_ (by first | omega | (simp; done) | (simp; omega) | (simp at *; omega)) _) | (with_reducible refine Below.setCell ?_ (by first | omega | (simp; done) | (simp; omega) | (simp at *; omega)) _) | (with_reducible exact Below.refl _ _) | (with_reducible assumption) | (with_reducible refine Below.trans ?_ (Below.mono (by assumption) (by first | omega | (simp; done) | (simp; omega) | (simp at *; omega)))))))
  have s1 : w.heap.size < w1.heap.size := by have := hbw1.size; simp at this; omega
  clear hbw1
  go_wp2_with fail
  refine (PressureAt_bad _ _ _ hp).mono ?_
  rintro e w2 ⟨rfl, hbw2⟩
  have a0 : w2.cell? ⟨w.heap.size, 0, none⟩ = some (.int .i64 o) := by rw [(bcell hbw2).1 _ _ s1, g0]
  have a1 : w2.cell? ⟨w.heap.size, 1, none⟩ = some (.int .i64 h) := by rw [(bcell hbw2).1 _ _ s1, g1]
  have hB2 : Below w.heap.size w w2 := hB1.trans (hbw2.mono (by omega))
  have s2 : w.heap.size < w2.heap.size := by have := hbw2.size; omega
  clear hbw2 g0 g1
  go_wp2_with ((go_at_call 25; ((with_reducible refine (CheckPlace_any _ _ _).mono ?_)); rintro e w' ⟨rfl, rfl⟩))
  refine (Partial_bad _ _ _ 2 _ hc (by decide)).mono ?_
  rintro e w3 ⟨rfl, hbw3⟩
  have e0 : w3.cell? ⟨w.heap.size, 0, none⟩ = some (.int .i64 o) := by rw [(bcell hbw3).1 _ _ s2, a0]
  have e1 : w3.cell? ⟨w.heap.size, 1, none⟩ = some (.int .i64 h) := by rw [(bcell hbw3).1 _ _ s2, a1]
  have hB3 : Below w.heap.size w w3 := hB2.trans (hbw3.mono (by omega))
  have s3 : w.heap.size < w3.heap.size := by have := hbw3.size; omega
  have s4 : w3.heap.size ≠ w.heap.size := by omega
  have s5 : w.heap.size < w3.heap.size + 1 := by omega
  have s6 : w.heap.size < w3.heap.size + 1 + 1 := by omega
  have s7 : w.heap.size < w3.heap.size + 1 + 1 + 1 := by omega
  have s8 : w.heap.size < w3.heap.size + 1 + 1 + 1 + 1 := by omega
  clear hbw3 a0 a1
  go_wp2_with (first | (go_at_call 20; ((with_reducible refine (refCheckGas_is _ _ 0 _ hg).mono ?_)); rintro e w' ⟨rfl, rfl⟩) | (go_at_call 27; ((with_reducible refine (IsPressure_is _ false _ hi).mono ?_)); rintro e w' ⟨rfl, rfl⟩))
  go_ret
  exact ⟨rfl, (by (repeat (first | (with_reducible refine Below.drew ?_) | (with_reducible refine below_drewN ?_ _) | (with_reducible refine Below.alloc ?_ (by first | omega | (simp; done) | (simp; omega) | (simp at *; omega)) _) | (with_reducible refine Below.setCell ?_ (by first | omega | (simp; done) | (simp; omega) | (simp at *; omega)) _) | (with_reducible exact Below.refl _ _) | (with_reducible assumption) | (with_reducible refine Below.trans ?_ (Below.mono (by assumption) (by first | omega | (simp; done) | (simp; omega) | (simp at *; omega)))))))⟩
set_option maxRecDepth 100000 in
set_option maxHeartbeats 2000000 in
theorem law_Bk (o h s d : Int) (w : World) (m : Int) (hm : w.cell? ⟨1, 0, none⟩ = some (.int .i64 m)) (hp : Hid (plE s d ≠ 0)) (hpb : (plE s d != 0) = true) (hg : Hid (gasE o h = 0)) (hi : Hid (inB d 0 100000 = true)) (hb : Hid ((paE o h d != 0) = false)) (k1 : 0 ≤ o) (k2 : o ≤ 1000) (k3 : 0 ≤ h) (k4 : h ≤ 1000) (k5 : 0 ≤ d) (k6 : d ≤ 100000) (k7 : o + h ≤ 1000) :
    Calls Tryd.prog 4 #[.agg #[.int .i64 o, .int .i64 h], .int .i64 s, .int .i64 d] w fun e w' => e = .returned (.bool true) ∧ Below w.heap.size w w' := by
  have hl := World.block_lt_of_cell? _ _ hm
  have hne : w.heap.size ≠ 1 := by simp at hl; omega
  have hl2 : 1 < w.heap.size := by simpa using hl
  obtain ⟨A, HA⟩ : ∃ A, Hid (o * d = A) := ⟨o * d, rfl⟩
  obtain ⟨B, HB⟩ : ∃ B, Hid (h * d = B) := ⟨h * d, rfl⟩
  obtain ⟨D, HD⟩ : ∃ D, Hid ((1000 - o - h) * d = D) := ⟨(1000 - o - h) * d, rfl⟩
  have bd : ∀ x : Int, 0 ≤ x → x ≤ 1000 → 0 ≤ x * d ∧ x * d ≤ 100000000 := fun x h0 h1 => ⟨Int.mul_nonneg h0 k5, Int.le_trans (Int.mul_le_mul h1 k6 k5 (by omega)) (by omega)⟩
  have b1 := bd o k1 k2
  have b2 := bd h k3 k4
  have b3 := bd (1000 - o - h) (by omega) (by omega)
  have hs : A + B + D = 1000 * d := by
    rw [← HA.out, ← HB.out, ← HD.out, ← Int.add_mul, ← Int.add_mul]
    congr 1; omega
  rw [HA.out] at b1
  rw [HB.out] at b2
  rw [HD.out] at b3
  clear bd
  obtain ⟨b1, b1'⟩ := b1
  obtain ⟨b2, b2'⟩ := b2
  obtain ⟨b3, b3'⟩ := b3
  have t1 : (A + B + D == 1000 * d) = true := by simpa using hs
  clear hs
  have cP := fun w => Partial_t2 o h d w hb.out k1 k2 k3 k4 k5 k6 k7
  have cR := fun w => refPartial_any o h d w k1 k2 k3 k4 k5 k6 k7
  rw [HA.out, HB.out, HD.out] at cP cR
  have v1 : IntKind.i64.wrap (A + B) = A + B := IntWalk.i64_in _ (by omega)
  have v2 : IntKind.i64.wrap (A + B + D) = A + B + D := IntWalk.i64_in _ (by omega)
  have v3 : IntKind.i64.wrap (1000 * d) = 1000 * d := IntWalk.i64_in _ (by omega)
  have HcP := Lib.hid cP
  have HcR := Lib.hid cR
  clear cP cR
  have hEq := eqArrIn
  go_enter Tryd.func4, Tryd.ntmps4
  go_wp2_with fail
  refine (awake_any _ m (by simp [go_sem, World.cell?_alloc_past, *])).mono ?_
  rintro e w1 ⟨rfl, hbw1⟩
  have g0 : w1.cell? ⟨w.heap.size, 0, none⟩ = some (.int .i64 o) := by rw [(bcell hbw1).1 _ _ (by simp)]; simp [go_sem]
  have g1 : w1.cell? ⟨w.heap.size, 1, none⟩ = some (.int .i64 h) := by rw [(bcell hbw1).1 _ _ (by simp)]; simp [go_sem]
  have hB1 : Below w.heap.size w w1 := (by (repeat (first | (with_reducible refine Below.drew ?_) | (with_reducible refine below_drewN ?_ _) | (with_reducible refine Below.alloc ?_ (by first | omega | (simp; done) | (simp; omega) | (simp at *; omega)) _) | (with_reducible refine Below.setCell ?_ (by first | omega | (simp; done) | (simp; omega) | (simp at *; omega)) _) | (with_reducible exact Below.refl _ _) | (with_reducible assumption) | (with_reducible refine Below.trans ?_ (Below.mono (by assumption) (by first | omega | (simp; done) | (simp; omega) | (simp at *; omega)))))))
  have s1 : w.heap.size < w1.heap.size := by have := hbw1.size; simp at this; omega
  clear hbw1
  go_wp2_with fail
  refine (PressureAt_bad _ _ _ hp).mono ?_
  rintro e w2 ⟨rfl, hbw2⟩
  have a0 : w2.cell? ⟨w.heap.size, 0, none⟩ = some (.int .i64 o) := by rw [(bcell hbw2).1 _ _ s1, g0]
  have a1 : w2.cell? ⟨w.heap.size, 1, none⟩ = some (.int .i64 h) := by rw [(bcell hbw2).1 _ _ s1, g1]
  have hB2 : Below w.heap.size w w2 := hB1.trans (hbw2.mono (by omega))
  have s2 : w.heap.size < w2.heap.size := by have := hbw2.size; omega
  clear hbw2 g0 g1
  go_wp2_with ((go_at_call 25; ((with_reducible refine (CheckPlace_any _ _ _).mono ?_)); rintro e w' ⟨rfl, rfl⟩))
  refine (HcP.out _).mono ?_
  rintro e w3 ⟨rfl, hbw3⟩
  have e0 : w3.cell? ⟨w.heap.size, 0, none⟩ = some (.int .i64 o) := by rw [(bcell hbw3).1 _ _ s2, a0]
  have e1 : w3.cell? ⟨w.heap.size, 1, none⟩ = some (.int .i64 h) := by rw [(bcell hbw3).1 _ _ s2, a1]
  have hB3 : Below w.heap.size w w3 := hB2.trans (hbw3.mono (by omega))
  have s3 : w.heap.size < w3.heap.size := by have := hbw3.size; omega
  have s4 : w3.heap.size ≠ w.heap.size := by omega
  have s5 : w.heap.size < w3.heap.size + 1 := by omega
  have s6 : w.heap.size < w3.heap.size + 1 + 1 := by omega
  have s7 : w.heap.size < w3.heap.size + 1 + 1 + 1 := by omega
  have s8 : w.heap.size < w3.heap.size + 1 + 1 + 1 + 1 := by omega
  clear hbw3 a0 a1
  go_wp2_with (first | (go_at_call 20; ((with_reducible refine (refCheckGas_is _ _ 0 _ hg).mono ?_)); rintro e w' ⟨rfl, rfl⟩) | (go_at_call 27; ((with_reducible refine (IsPressure_is _ true _ hi).mono ?_)); rintro e w' ⟨rfl, rfl⟩))
  go_region_held3 (fun w' => w'.cell? ⟨w.heap.size, 0, none⟩ = some (.int .i64 o) ∧ w'.cell? ⟨w.heap.size, 1, none⟩ = some (.int .i64 h) ∧ w'.cell? ⟨w3.heap.size, 0, none⟩ = some (.int .i64 A) ∧ w'.cell? ⟨w3.heap.size, 1, none⟩ = some (.int .i64 B) ∧ w'.cell? ⟨w3.heap.size, 2, none⟩ = some (.int .i64 D)) (simp [go_sem, World.cell?_alloc_past, *])
    (first
      | (go_at_call 28; ((with_reducible refine (HcR.out _).mono ?_)); rintro e w' ⟨rfl, rfl⟩))
  go_wp2
  go_ret
  exact ⟨rfl, (by (repeat (first | (with_reducible refine Below.drew ?_) | (with_reducible refine below_drewN ?_ _) | (with_reducible refine Below.alloc ?_ (by first | omega | (simp; done) | (simp; omega) | (simp at *; omega)) _) | (with_reducible refine Below.setCell ?_ (by first | omega | (simp; done) | (simp; omega) | (simp at *; omega)) _) | (with_reducible exact Below.refl _ _) | (with_reducible assumption) | (with_reducible refine Below.trans ?_ (Below.mono (by assumption) (by first | omega | (simp; done) | (simp; omega) | (simp at *; omega)))))))⟩
set_option maxRecDepth 100000 in
set_option maxHeartbeats 2000000 in
theorem law_Kg (o h s d : Int) (w : World) (m : Int) (hm : w.cell? ⟨1, 0, none⟩ = some (.int .i64 m)) (hp : Hid (plE s d = 0)) (y1 : 400 ≤ s) (y2 : s ≤ 1100) (y3 : 0 ≤ d) (y4 : d ≤ 30000) (c : Int) (hg : Hid (gasE o h = c)) (hc : Hid (paE o h d = c)) (hn : (c != 0) = true) (hn2 : (c == 0) = false) :
    Calls Tryd.prog 4 #[.agg #[.int .i64 o, .int .i64 h], .int .i64 s, .int .i64 d] w fun e w' => e = .returned (.bool true) ∧ Below w.heap.size w w' := by
  have hl := World.block_lt_of_cell? _ _ hm
  have hne : w.heap.size ≠ 1 := by simp at hl; omega
  have hl2 : 1 < w.heap.size := by simpa using hl
  have hEq := eqArrIn
  go_enter Tryd.func4, Tryd.ntmps4
  go_wp2_with fail
  refine (awake_any _ m (by simp [go_sem, World.cell?_alloc_past, *])).mono ?_
  rintro e w1 ⟨rfl, hbw1⟩
  have g0 : w1.cell? ⟨w.heap.size, 0, none⟩ = some (.int .i64 o) := by rw [(bcell hbw1).1 _ _ (by simp)]; simp [go_sem]
  have g1 : w1.cell? ⟨w.heap.size, 1, none⟩ = some (.int .i64 h) := by rw [(bcell hbw1).1 _ _ (by simp)]; simp [go_sem]
  have hB1 : Below w.heap.size w w1 := (by (repeat (first | (with_reducible refine Below.drew ?_) | (with_reducible refine below_drewN ?_ _) | (with_reducible refine Below.alloc ?_ (by first | omega | (simp; done) | (simp; omega) | (simp at *; omega)) _) | (with_reducible refine Below.setCell ?_ (by first | omega | (simp; done) | (simp; omega) | (simp at *; omega)) _) | (with_reducible exact Below.refl _ _) | (with_reducible assumption) | (with_reducible refine Below.trans ?_ (Below.mono (by assumption) (by first | omega | (simp; done) | (simp; omega) | (simp at *; omega)))))))
  have s1 : w.heap.size < w1.heap.size := by have := hbw1.size; simp at this; omega
  clear hbw1
  go_wp2_with fail
  refine (PressureAt_ok _ _ _ hp).mono ?_
  rintro e w2 ⟨rfl, hbw2⟩
  have a0 : w2.cell? ⟨w.heap.size, 0, none⟩ = some (.int .i64 o) := by rw [(bcell hbw2).1 _ _ s1, g0]
  have a1 : w2.cell? ⟨w.heap.size, 1, none⟩ = some (.int .i64 h) := by rw [(bcell hbw2).1 _ _ s1, g1]
  have hB2 : Below w.heap.size w w2 := hB1.trans (hbw2.mono (by omega))
  have s2 : w.heap.size < w2.heap.size := by have := hbw2.size; omega
  clear hbw2 g0 g1
  go_wp2_with ((go_at_call 25; ((with_reducible refine (CheckPlace_ok _ _ _ hp).mono ?_)); rintro e w' ⟨rfl, rfl⟩))
  refine (Partial_bad _ _ _ c _ hc hn).mono ?_
  rintro e w3 ⟨rfl, hbw3⟩
  have e0 : w3.cell? ⟨w.heap.size, 0, none⟩ = some (.int .i64 o) := by rw [(bcell hbw3).1 _ _ s2, a0]
  have e1 : w3.cell? ⟨w.heap.size, 1, none⟩ = some (.int .i64 h) := by rw [(bcell hbw3).1 _ _ s2, a1]
  have hB3 : Below w.heap.size w w3 := hB2.trans (hbw3.mono (by omega))
  have s3 : w.heap.size < w3.heap.size := by have := hbw3.size; omega
  have s4 : w3.heap.size ≠ w.heap.size := by omega
  have s5 : w.heap.size < w3.heap.size + 1 := by omega
  have s6 : w.heap.size < w3.heap.size + 1 + 1 := by omega
  have s7 : w.heap.size < w3.heap.size + 1 + 1 + 1 := by omega
  have s8 : w.heap.size < w3.heap.size + 1 + 1 + 1 + 1 := by omega
  clear hbw3 a0 a1
  go_wp2_with (first | (go_at_call 20; ((with_reducible refine (refCheckGas_is _ _ c _ hg).mono ?_)); rintro e w' ⟨rfl, rfl⟩))
  go_ret
  exact ⟨rfl, (by (repeat (first | (with_reducible refine Below.drew ?_) | (with_reducible refine below_drewN ?_ _) | (with_reducible refine Below.alloc ?_ (by first | omega | (simp; done) | (simp; omega) | (simp at *; omega)) _) | (with_reducible refine Below.setCell ?_ (by first | omega | (simp; done) | (simp; omega) | (simp at *; omega)) _) | (with_reducible exact Below.refl _ _) | (with_reducible assumption) | (with_reducible refine Below.trans ?_ (Below.mono (by assumption) (by first | omega | (simp; done) | (simp; omega) | (simp at *; omega)))))))⟩
set_option maxRecDepth 100000 in
set_option maxHeartbeats 2000000 in
theorem law_Kp (o h s d : Int) (w : World) (m : Int) (hm : w.cell? ⟨1, 0, none⟩ = some (.int .i64 m)) (hp : Hid (plE s d = 0)) (y1 : 400 ≤ s) (y2 : s ≤ 1100) (y3 : 0 ≤ d) (y4 : d ≤ 30000) (hg : Hid (gasE o h = 0)) (hi : Hid (inB d 0 100000 = false)) (hc : Hid (paE o h d = 2)) :
    Calls Tryd.prog 4 #[.agg #[.int .i64 o, .int .i64 h], .int .i64 s, .int .i64 d] w fun e w' => e = .returned (.bool true) ∧ Below w.heap.size w w' := by
  have hl := World.block_lt_of_cell? _ _ hm
  have hne : w.heap.size ≠ 1 := by simp at hl; omega
  have hl2 : 1 < w.heap.size := by simpa using hl
  have hEq := eqArrIn
  go_enter Tryd.func4, Tryd.ntmps4
  go_wp2_with fail
  refine (awake_any _ m (by simp [go_sem, World.cell?_alloc_past, *])).mono ?_
  rintro e w1 ⟨rfl, hbw1⟩
  have g0 : w1.cell? ⟨w.heap.size, 0, none⟩ = some (.int .i64 o) := by rw [(bcell hbw1).1 _ _ (by simp)]; simp [go_sem]
  have g1 : w1.cell? ⟨w.heap.size, 1, none⟩ = some (.int .i64 h) := by rw [(bcell hbw1).1 _ _ (by simp)]; simp [go_sem]
  have hB1 : Below w.heap.size w w1 := (by (repeat (first | (with_reducible refine Below.drew ?_) | (with_reducible refine below_drewN ?_ _) | (with_reducible refine Below.alloc ?_ (by first | omega | (simp; done) | (simp; omega) | (simp at *; omega)) _) | (with_reducible refine Below.setCell ?_ (by first | omega | (simp; done) | (simp; omega) | (simp at *; omega)) _) | (with_reducible exact Below.refl _ _) | (with_reducible assumption) | (with_reducible refine Below.trans ?_ (Below.mono (by assumption) (by first | omega | (simp; done) | (simp; omega) | (simp at *; omega)))))))
  have s1 : w.heap.size < w1.heap.size := by have := hbw1.size; simp at this; omega
  clear hbw1
  go_wp2_with fail
  refine (PressureAt_ok _ _ _ hp).mono ?_
  rintro e w2 ⟨rfl, hbw2⟩
  have a0 : w2.cell? ⟨w.heap.size, 0, none⟩ = some (.int .i64 o) := by rw [(bcell hbw2).1 _ _ s1, g0]
  have a1 : w2.cell? ⟨w.heap.size, 1, none⟩ = some (.int .i64 h) := by rw [(bcell hbw2).1 _ _ s1, g1]
  have hB2 : Below w.heap.size w w2 := hB1.trans (hbw2.mono (by omega))
  have s2 : w.heap.size < w2.heap.size := by have := hbw2.size; omega
  clear hbw2 g0 g1
  go_wp2_with ((go_at_call 25; ((with_reducible refine (CheckPlace_ok _ _ _ hp).mono ?_)); rintro e w' ⟨rfl, rfl⟩))
  refine (Partial_bad _ _ _ 2 _ hc (by decide)).mono ?_
  rintro e w3 ⟨rfl, hbw3⟩
  have e0 : w3.cell? ⟨w.heap.size, 0, none⟩ = some (.int .i64 o) := by rw [(bcell hbw3).1 _ _ s2, a0]
  have e1 : w3.cell? ⟨w.heap.size, 1, none⟩ = some (.int .i64 h) := by rw [(bcell hbw3).1 _ _ s2, a1]
  have hB3 : Below w.heap.size w w3 := hB2.trans (hbw3.mono (by omega))
  have s3 : w.heap.size < w3.heap.size := by have := hbw3.size; omega
  have s4 : w3.heap.size ≠ w.heap.size := by omega
  have s5 : w.heap.size < w3.heap.size + 1 := by omega
  have s6 : w.heap.size < w3.heap.size + 1 + 1 := by omega
  have s7 : w.heap.size < w3.heap.size + 1 + 1 + 1 := by omega
  have s8 : w.heap.size < w3.heap.size + 1 + 1 + 1 + 1 := by omega
  clear hbw3 a0 a1
  go_wp2_with (first | (go_at_call 20; ((with_reducible refine (refCheckGas_is _ _ 0 _ hg).mono ?_)); rintro e w' ⟨rfl, rfl⟩) | (go_at_call 27; ((with_reducible refine (IsPressure_is _ false _ hi).mono ?_)); rintro e w' ⟨rfl, rfl⟩))
  go_ret
  exact ⟨rfl, (by (repeat (first | (with_reducible refine Below.drew ?_) | (with_reducible refine below_drewN ?_ _) | (with_reducible refine Below.alloc ?_ (by first | omega | (simp; done) | (simp; omega) | (simp at *; omega)) _) | (with_reducible refine Below.setCell ?_ (by first | omega | (simp; done) | (simp; omega) | (simp at *; omega)) _) | (with_reducible exact Below.refl _ _) | (with_reducible assumption) | (with_reducible refine Below.trans ?_ (Below.mono (by assumption) (by first | omega | (simp; done) | (simp; omega) | (simp at *; omega)))))))⟩
set_option maxRecDepth 100000 in
set_option maxHeartbeats 2000000 in
theorem law_Kk (o h s d : Int) (w : World) (m : Int) (hm : w.cell? ⟨1, 0, none⟩ = some (.int .i64 m)) (hp : Hid (plE s d = 0)) (y1 : 400 ≤ s) (y2 : s ≤ 1100) (y3 : 0 ≤ d) (y4 : d ≤ 30000) (hg : Hid (gasE o h = 0)) (hi : Hid (inB d 0 100000 = true)) (hb : Hid ((paE o h d != 0) = false)) (k1 : 0 ≤ o) (k2 : o ≤ 1000) (k3 : 0 ≤ h) (k4 : h ≤ 1000) (k5 : 0 ≤ d) (k6 : d ≤ 100000) (k7 : o + h ≤ 1000) :
    Calls Tryd.prog 4 #[.agg #[.int .i64 o, .int .i64 h], .int .i64 s, .int .i64 d] w fun e w' => e = .returned (.bool true) ∧ Below w.heap.size w w' := by
  have hl := World.block_lt_of_cell? _ _ hm
  have hne : w.heap.size ≠ 1 := by simp at hl; omega
  have hl2 : 1 < w.heap.size := by simpa using hl
  obtain ⟨A, HA⟩ : ∃ A, Hid (o * d = A) := ⟨o * d, rfl⟩
  obtain ⟨B, HB⟩ : ∃ B, Hid (h * d = B) := ⟨h * d, rfl⟩
  obtain ⟨D, HD⟩ : ∃ D, Hid ((1000 - o - h) * d = D) := ⟨(1000 - o - h) * d, rfl⟩
  have bd : ∀ x : Int, 0 ≤ x → x ≤ 1000 → 0 ≤ x * d ∧ x * d ≤ 100000000 := fun x h0 h1 => ⟨Int.mul_nonneg h0 k5, Int.le_trans (Int.mul_le_mul h1 k6 k5 (by omega)) (by omega)⟩
  have b1 := bd o k1 k2
  have b2 := bd h k3 k4
  have b3 := bd (1000 - o - h) (by omega) (by omega)
  have hs : A + B + D = 1000 * d := by
    rw [← HA.out, ← HB.out, ← HD.out, ← Int.add_mul, ← Int.add_mul]
    congr 1; omega
  rw [HA.out] at b1
  rw [HB.out] at b2
  rw [HD.out] at b3
  clear bd
  obtain ⟨b1, b1'⟩ := b1
  obtain ⟨b2, b2'⟩ := b2
  obtain ⟨b3, b3'⟩ := b3
  have t1 : (A + B + D == 1000 * d) = true := by simpa using hs
  clear hs
  have cP := fun w => Partial_t2 o h d w hb.out k1 k2 k3 k4 k5 k6 k7
  have cR := fun w => refPartial_any o h d w k1 k2 k3 k4 k5 k6 k7
  rw [HA.out, HB.out, HD.out] at cP cR
  have v1 : IntKind.i64.wrap (A + B) = A + B := IntWalk.i64_in _ (by omega)
  have v2 : IntKind.i64.wrap (A + B + D) = A + B + D := IntWalk.i64_in _ (by omega)
  have v3 : IntKind.i64.wrap (1000 * d) = 1000 * d := IntWalk.i64_in _ (by omega)
  have HcP := Lib.hid cP
  have HcR := Lib.hid cR
  clear cP cR
  have hEq := eqArrIn
  go_enter Tryd.func4, Tryd.ntmps4
  go_wp2_with fail
  refine (awake_any _ m (by simp [go_sem, World.cell?_alloc_past, *])).mono ?_
  rintro e w1 ⟨rfl, hbw1⟩
  have g0 : w1.cell? ⟨w.heap.size, 0, none⟩ = some (.int .i64 o) := by rw [(bcell hbw1).1 _ _ (by simp)]; simp [go_sem]
  have g1 : w1.cell? ⟨w.heap.size, 1, none⟩ = some (.int .i64 h) := by rw [(bcell hbw1).1 _ _ (by simp)]; simp [go_sem]
  have hB1 : Below w.heap.size w w1 := (by (repeat (first | (with_reducible refine Below.drew ?_) | (with_reducible refine below_drewN ?_ _) | (with_reducible refine Below.alloc ?_ (by first | omega | (simp; done) | (simp; omega) | (simp at *; omega)) _) | (with_reducible refine Below.setCell ?_ (by first | omega | (simp; done) | (simp; omega) | (simp at *; omega)) _) | (with_reducible exact Below.refl _ _) | (with_reducible assumption) | (with_reducible refine Below.trans ?_ (Below.mono (by assumption) (by first | omega | (simp; done) | (simp; omega) | (simp at *; omega)))))))
  have s1 : w.heap.size < w1.heap.size := by have := hbw1.size; simp at this; omega
  clear hbw1
  go_wp2_with fail
  refine (PressureAt_ok _ _ _ hp).mono ?_
  rintro e w2 ⟨rfl, hbw2⟩
  have a0 : w2.cell? ⟨w.heap.size, 0, none⟩ = some (.int .i64 o) := by rw [(bcell hbw2).1 _ _ s1, g0]
  have a1 : w2.cell? ⟨w.heap.size, 1, none⟩ = some (.int .i64 h) := by rw [(bcell hbw2).1 _ _ s1, g1]
  have hB2 : Below w.heap.size w w2 := hB1.trans (hbw2.mono (by omega))
  have s2 : w.heap.size < w2.heap.size := by have := hbw2.size; omega
  clear hbw2 g0 g1
  go_wp2_with ((go_at_call 25; ((with_reducible refine (CheckPlace_ok _ _ _ hp).mono ?_)); rintro e w' ⟨rfl, rfl⟩))
  refine (HcP.out _).mono ?_
  rintro e w3 ⟨rfl, hbw3⟩
  have e0 : w3.cell? ⟨w.heap.size, 0, none⟩ = some (.int .i64 o) := by rw [(bcell hbw3).1 _ _ s2, a0]
  have e1 : w3.cell? ⟨w.heap.size, 1, none⟩ = some (.int .i64 h) := by rw [(bcell hbw3).1 _ _ s2, a1]
  have hB3 : Below w.heap.size w w3 := hB2.trans (hbw3.mono (by omega))
  have s3 : w.heap.size < w3.heap.size := by have := hbw3.size; omega
  have s4 : w3.heap.size ≠ w.heap.size := by omega
  have s5 : w.heap.size < w3.heap.size + 1 := by omega
  have s6 : w.heap.size < w3.heap.size + 1 + 1 := by omega
  have s7 : w.heap.size < w3.heap.size + 1 + 1 + 1 := by omega
  have s8 : w.heap.size < w3.heap.size + 1 + 1 + 1 + 1 := by omega
  clear hbw3 a0 a1
  go_wp2_with (first | (go_at_call 20; ((with_reducible refine (refCheckGas_is _ _ 0 _ hg).mono ?_)); rintro e w' ⟨rfl, rfl⟩) | (go_at_call 27; ((with_reducible refine (IsPressure_is _ true _ hi).mono ?_)); rintro e w' ⟨rfl, rfl⟩))
  go_region_held3 (fun w' => w'.cell? ⟨w.heap.size, 0, none⟩ = some (.int .i64 o) ∧ w'.cell? ⟨w.heap.size, 1, none⟩ = some (.int .i64 h) ∧ w'.cell? ⟨w3.heap.size, 0, none⟩ = some (.int .i64 A) ∧ w'.cell? ⟨w3.heap.size, 1, none⟩ = some (.int .i64 B) ∧ w'.cell? ⟨w3.heap.size, 2, none⟩ = some (.int .i64 D)) (simp [go_sem, World.cell?_alloc_past, *])
    (first
      | (go_at_call 28; ((with_reducible refine (HcR.out _).mono ?_)); rintro e w' ⟨rfl, rfl⟩))
  go_wp2
  go_ret
  exact ⟨rfl, (by (repeat (first | (with_reducible refine Below.drew ?_) | (with_reducible refine below_drewN ?_ _) | (with_reducible refine Below.alloc ?_ (by first | omega | (simp; done) | (simp; omega) | (simp at *; omega)) _) | (with_reducible refine Below.setCell ?_ (by first | omega | (simp; done) | (simp; omega) | (simp at *; omega)) _) | (with_reducible exact Below.refl _ _) | (with_reducible assumption) | (with_reducible refine Below.trans ?_ (Below.mono (by assumption) (by first | omega | (simp; done) | (simp; omega) | (simp at *; omega)))))))⟩
theorem mxLen (W : World) (h : W.ShapedOpen Tryd.prog) : ∃ m, W.cell? ⟨1, 0, none⟩ = some (.int .i64 m) := Tryd.laysM145.s1_3 W h
theorem paE_g {o h d : Int} (k : gasE o h ≠ 0) : paE o h d = gasE o h := by unfold paE firE; rw [if_neg k]
theorem paE_p {o h d : Int} (k : gasE o h = 0) (k2 : inB d 0 100000 = false) : paE o h d = 2 := by
  unfold paE; rw [k, rngE_f k2]; decide
theorem paE_k {o h d : Int} (k : gasE o h = 0) (k2 : inB d 0 100000 = true) : paE o h d = 0 := by
  unfold paE; rw [k, rngE_t k2]; decide
theorem gasPressures_any (o h s d : Int) (w : World) (m : Int) (hm : w.cell? ⟨1, 0, none⟩ = some (.int .i64 m)) :
    Calls Tryd.prog 4 #[.agg #[.int .i64 o, .int .i64 h], .int .i64 s, .int .i64 d] w fun e w' => e = .returned (.bool true) ∧ Below w.heap.size w w' := by
  rcases ez (plE s d) with ⟨hp, hpb⟩ | ⟨hp, hpb⟩
  · obtain ⟨h1, h2⟩ := firE2_z (show firE [rngE s 400 1100, rngE d 0 30000] = 0 from hp.out)
    obtain ⟨y1, y2⟩ := rngE_z h1
    obtain ⟨y3, y4⟩ := rngE_z h2
    rcases ez (gasE o h) with ⟨hg, hgb⟩ | ⟨hg, hgb⟩
    · rcases inB_cases d 0 100000 with hi | hi
      · obtain ⟨k1, k2, k3, k4, k7⟩ := gasE_z hg.out
        obtain ⟨k5, k6⟩ := inB_iff.1 hi
        exact law_Kk o h s d w m hm hp y1 y2 y3 y4 hg hi (by show _ = false; rw [paE_k hg.out hi]; rfl) k1 k2 k3 k4 k5 k6 k7
      · exact law_Kp o h s d w m hm hp y1 y2 y3 y4 hg hi (paE_p hg.out hi)
    · exact law_Kg o h s d w m hm hp y1 y2 y3 y4 (gasE o h) rfl (paE_g hg.out) hgb (by simpa using hg.out)
  · rcases ez (gasE o h) with ⟨hg, hgb⟩ | ⟨hg, hgb⟩
    · rcases inB_cases d 0 100000 with hi | hi
      · obtain ⟨k1, k2, k3, k4, k7⟩ := gasE_z hg.out
        obtain ⟨k5, k6⟩ := inB_iff.1 hi
        exact law_Bk o h s d w m hm hp hpb hg hi (by show _ = false; rw [paE_k hg.out hi]; rfl) k1 k2 k3 k4 k5 k6 k7
      · exact law_Bp o h s d w m hm hp hpb hg hi (paE_p hg.out hi)
    · exact law_Bg o h s d w m hm hp hpb (gasE o h) rfl (paE_g hg.out) hgb (by simpa using hg.out)
end Go.Proofs.YtebieflnlmdllaaDoor
