/- shotlinelaw06.MixShares returns true for every input. -/
import Derived.Test.YtjkhjjmmkdfjmaaFRefSh
import Derived.Test.YtjkhjjmmkdfjmaaFAwake
import Derived.Deep.CutBlock
import Derived.Outline
namespace Go.Proofs.Ytjkhjjmmkdfjmaa
open Go.ChangeShapes Go.WideShapes Go.ChangeAt Go.RowKit
set_option linter.unusedVariables false
set_option linter.unusedSimpArgs false
attribute [local go_sem ↓] Go.wp_at_zero Go.wp_at_succ
theorem baseSize_le (n s : Int) (w : World) (h0 : -4000000000000000000 ≤ n) (h1 : n ≤ 4000000000000000000) (hs : Hid ((if 0 ≤ n then n else -n) = s)) :
    Calls Try.prog 38 #[.int .i64 n] w fun e w' => e = .returned (.int .i64 s) ∧ w = w' := by
  have e1 : IntKind.i64.wrap (-n) = -n := IntWalk.i64_in _ (by omega)
  by_cases hn : 0 ≤ n
  · have e2 : n = s := by have := hs.out; rw [if_pos hn] at this; exact this
    subst e2
    clear hs
    have d1 : ¬ n < -n := by omega
    have d2 : decide (n < -n) = false := by simpa using d1
    have d3 : -n ≤ n := by omega
    have d4 : max n (-n) = n := by omega
    go_enter Try.func38, Try.ntmps38
    go_wp2
    go_ret
    exact ⟨by first | rfl | (simp; omega), rfl⟩
  · have e2 : -n = s := by have := hs.out; rw [if_neg hn] at this; exact this
    have d1 : n < -n := by omega
    have d2 : decide (n < -n) = true := by simpa using d1
    have d4 : max n (-n) = -n := by omega
    clear hs
    go_enter Try.func38, Try.ntmps38
    go_wp2
    go_ret
    exact ⟨by first | rfl | exact ret_int e2 | (simp; try omega), rfl⟩
theorem refMinus_any (a b c x y z A B C : Int) (w : World) (a0 : 0 ≤ a) (a1 : a ≤ 1000000000) (b0 : 0 ≤ b) (b1 : b ≤ 1000000000) (c0 : 0 ≤ c) (c1 : c ≤ 1000000000) (x0 : 0 ≤ x) (x1 : x ≤ 1000000000) (y0 : 0 ≤ y) (y1 : y ≤ 1000000000) (z0 : 0 ≤ z) (z1 : z ≤ 1000000000) (h : Hid (a - x = A ∧ b - y = B ∧ c - z = C)) :
    Calls Try.prog 37 #[.agg #[.int .i64 a, .int .i64 b, .int .i64 c], .agg #[.int .i64 x, .int .i64 y, .int .i64 z]] w fun e w' => e = .returned (.agg #[.int .i64 A, .int .i64 B, .int .i64 C]) ∧ Below w.heap.size w w' := by
  have e1 : IntKind.i64.wrap (a - x) = A := by rw [← h.out.1]; exact IntWalk.i64_in _ (by omega)
  have e2 : IntKind.i64.wrap (b - y) = B := by rw [← h.out.2.1]; exact IntWalk.i64_in _ (by omega)
  have e3 : IntKind.i64.wrap (c - z) = C := by rw [← h.out.2.2]; exact IntWalk.i64_in _ (by omega)
  have f1 : a - x = A := h.out.1
  have f2 : b - y = B := h.out.2.1
  have f3 : c - z = C := h.out.2.2
  go_enter Try.func37, Try.ntmps37
  go_wp2
  refine bodyPost_ret (v := .agg #[.int .i64 A, .int .i64 B, .int .i64 C]) (by simp [results, Try.results37, go_sem, *]) rfl ⟨rfl, ?_⟩
  (repeat (first | (with_reducible refine Below.drew ?_) | (with_reducible refine below_drewN ?_ _) | (with_reducible refine Below.alloc ?_ (by first | omega | (simp; done) | (simp; omega) | (simp at *; omega)) _) | (with_reducible refine Below.setCell ?_ (by first | omega | (simp; done) | (simp; omega) | (simp at *; omega)) _) | (with_reducible exact Below.refl _ _) | (with_reducible assumption) | (with_reducible refine Below.trans ?_ (Below.mono (by assumption) (by first | omega | (simp; done) | (simp; omega) | (simp at *; omega))))))
theorem refShare_zero (m : Int) (w : World) : Calls Try.prog 36 #[.agg #[.int .i64 0, .int .i64 0, .int .i64 0], .int .i64 m] w fun e w' => e = .returned (.agg #[.int .i64 0, .int .i64 0, .int .i64 0]) ∧ Below w.heap.size w w' := by
  have hc : Hid (conB 0 0 0 = true) := Lib.hid (by decide)
  have hS : Hid ((0 : Int) + 0 + 0 = 0) := Lib.hid (by decide)
  go_enter Try.func36, Try.ntmps36
  go_wp2_with ((go_at_call 30; ((with_reducible refine (refSum_ok 0 0 0 0 _ hc hS).mono ?_)); rintro e w1 ⟨rfl, hbw⟩; obtain ⟨hbc, hbf⟩ := bcell hbw; have hbs := hbw.size))
  refine bodyPost_ret (v := .agg #[.int .i64 0, .int .i64 0, .int .i64 0]) (by simp [results, Try.results36, go_sem, World.cell?_alloc_past, *]) rfl ⟨rfl, ?_⟩
  (repeat (first | (with_reducible refine Below.drew ?_) | (with_reducible refine below_drewN ?_ _) | (with_reducible refine Below.alloc ?_ (by first | omega | (simp; done) | (simp; omega) | (simp at *; omega)) _) | (with_reducible refine Below.setCell ?_ (by first | omega | (simp; done) | (simp; omega) | (simp at *; omega)) _) | (with_reducible exact Below.refl _ _) | (with_reducible assumption) | (with_reducible refine Below.trans ?_ (Below.mono (by assumption) (by first | omega | (simp; done) | (simp; omega) | (simp at *; omega))))))
theorem refShare_any (a b c m X Y Z : Int) (w : World) (hc : Hid (conB a b c = true)) (m0 : 0 ≤ m) (m1 : Hid (m ≤ a + b + c)) (hX : Hid (shareR a b c m = (X, Y, Z))) :
    Calls Try.prog 36 #[.agg #[.int .i64 a, .int .i64 b, .int .i64 c], .int .i64 m] w fun e w' => e = .returned (.agg #[.int .i64 X, .int .i64 Y, .int .i64 Z]) ∧ Below w.heap.size w w' := by
  obtain ⟨a0, b0, c0, _⟩ := conB_iff.1 hc.out
  have hx := hX.out
  have m1' := m1.out
  unfold shareR at hx
  by_cases hz : a + b + c = 0
  · rw [if_pos hz] at hx
    obtain rfl : a = 0 := by omega
    obtain rfl : b = 0 := by omega
    obtain rfl : c = 0 := by omega
    obtain ⟨rfl, rfl, rfl⟩ : 0 = X ∧ 0 = Y ∧ 0 = Z := by simpa using hx
    exact refShare_zero m w
  · rw [if_neg hz] at hx
    have s0 : 0 < a + b + c := by omega
    obtain ⟨k0, k1, k2⟩ := miss_bd a0 b0 c0 s0 m0
    obtain ⟨K, hK⟩ := Int.eq_ofNat_of_zero_le k0
    rw [hK] at hx k1 k2
    have ea := emod_bd (a * m) s0
    have eb := emod_bd (b * m) s0
    have ec := emod_bd (c * m) s0
    have hq := shq_shr (a * m / (a + b + c)) (b * m / (a + b + c)) (c * m / (a + b + c)) (show K ≤ 2 by omega) ea.1 ea.2 eb.1 eb.2 ec.1 ec.2 k2
    exact refShare_pos a b c m (a + b + c) _ _ _ _ _ _ _ _ _ X Y Z K w hc (Lib.hid rfl) s0 m0 m1' (Lib.hid ⟨rfl, rfl, rfl⟩) (Lib.hid ⟨rfl, rfl, rfl⟩) (Lib.hid ⟨rfl, rfl, rfl⟩) (Lib.hid hK) (by omega) (Lib.hid (by rw [hq]; simpa using hx))
set_option maxHeartbeats 8000000 in
set_option maxRecDepth 100000 in
theorem mixShares_1 (a b c m : Int) (w : World) (hE : Hid (shaE a b c m = 2)) (hX : Hid (shaR a b c m = (0, 0, 0))) (hD : Hid (conE a b c = 2)) : Calls Try.prog 7 #[.agg #[.int .i64 a, .int .i64 b, .int .i64 c], .int .i64 m] w fun e w' => e = .returned (.bool true) ∧ Below w.heap.size w w' := by
  go_enter Try.func7, Try.ntmps7
  go_wp2_with fail
  refine (fawake_any _).mono ?_
  rintro e xw1 ⟨rfl, hbx1⟩
  have zx1 := hbx1.size
  try simp at zx1
  obtain ⟨x1_0_0, x1_0_1, x1_0_2⟩ : xw1.cell? ⟨w.heap.size, 0, none⟩ = some (.int .i64 a) ∧ xw1.cell? ⟨w.heap.size, 1, none⟩ = some (.int .i64 b) ∧ xw1.cell? ⟨w.heap.size, 2, none⟩ = some (.int .i64 c) := by refine ⟨?_, ?_, ?_⟩ <;> (rw [(bcell hbx1).1 _ _ (by first | (simp; done) | (simp; omega) | omega)]; simp [go_sem, World.cell?_alloc_past, *])
  obtain ⟨x1o0, x1n0, x1m0, x1t0_0, x1t0_1⟩ : w.heap.size < xw1.heap.size ∧ xw1.heap.size ≠ w.heap.size ∧ w.heap.size ≠ xw1.heap.size ∧ w.heap.size < xw1.heap.size + 1 ∧ w.heap.size < xw1.heap.size + 1 + 1 := by refine ⟨?_, ?_, ?_, ?_, ?_⟩ <;> omega
  have hBx1 : Below w.heap.size w xw1 := (by (repeat (first | (with_reducible refine Below.drew ?_) | (with_reducible refine below_drewN ?_ _) | (with_reducible refine Below.alloc ?_ (by first | omega | (simp; done) | (simp; omega) | (simp at *; omega)) _) | (with_reducible refine Below.setCell ?_ (by first | omega | (simp; done) | (simp; omega) | (simp at *; omega)) _) | (with_reducible exact Below.refl _ _) | (with_reducible assumption) | (with_reducible refine Below.trans ?_ (Below.mono (by assumption) (by first | omega | (simp; done) | (simp; omega) | (simp at *; omega)))))))
  clear hbx1 
  go_wp2_with fail
  refine (Share_any a b c m 0 0 0 2 _ hE hX).mono ?_
  rintro e xw2 ⟨rfl, hbx2⟩
  have zx2 := hbx2.size
  try simp at zx2
  obtain ⟨x2_0_0, x2_0_1, x2_0_2⟩ : xw2.cell? ⟨w.heap.size, 0, none⟩ = some (.int .i64 a) ∧ xw2.cell? ⟨w.heap.size, 1, none⟩ = some (.int .i64 b) ∧ xw2.cell? ⟨w.heap.size, 2, none⟩ = some (.int .i64 c) := by refine ⟨?_, ?_, ?_⟩ <;> (rw [(bcell hbx2).1 _ _ (by first | (simp; done) | (simp; omega) | omega)]; simp [go_sem, World.cell?_alloc_past, *])
  obtain ⟨x2o0, x2n0, x2m0, x2t0_0, x2t0_1⟩ : w.heap.size < xw2.heap.size ∧ xw2.heap.size ≠ w.heap.size ∧ w.heap.size ≠ xw2.heap.size ∧ w.heap.size < xw2.heap.size + 1 ∧ w.heap.size < xw2.heap.size + 1 + 1 := by refine ⟨?_, ?_, ?_, ?_, ?_⟩ <;> omega
  have hBx2 : Below w.heap.size w xw2 := (by (repeat (first | (with_reducible refine Below.drew ?_) | (with_reducible refine below_drewN ?_ _) | (with_reducible refine Below.alloc ?_ (by first | omega | (simp; done) | (simp; omega) | (simp at *; omega)) _) | (with_reducible refine Below.setCell ?_ (by first | omega | (simp; done) | (simp; omega) | (simp at *; omega)) _) | (with_reducible exact Below.refl _ _) | (with_reducible assumption) | (with_reducible refine Below.trans ?_ (Below.mono (by assumption) (by first | omega | (simp; done) | (simp; omega) | (simp at *; omega)))))))
  clear hbx2 x1_0_0 x1_0_1 x1_0_2 x1o0 x1n0 x1m0 x1t0_0 x1t0_1 hBx1
  go_wp2_with fail
  have ob1 : w.heap.size < xw2.heap.size := by omega
  refine (refCheckContent_any a b c 2 _ hD).mono ?_
  rintro e xw3 ⟨rfl, hbx3⟩
  have zx3 := hbx3.size
  try simp at zx3
  obtain ⟨x3_0_0, x3_0_1, x3_0_2, x3_1_0, x3_1_1, x3_1_2⟩ : xw3.cell? ⟨w.heap.size, 0, none⟩ = some (.int .i64 a) ∧ xw3.cell? ⟨w.heap.size, 1, none⟩ = some (.int .i64 b) ∧ xw3.cell? ⟨w.heap.size, 2, none⟩ = some (.int .i64 c) ∧ xw3.cell? ⟨xw2.heap.size, 0, none⟩ = some (.int .i64 0) ∧ xw3.cell? ⟨xw2.heap.size, 1, none⟩ = some (.int .i64 0) ∧ xw3.cell? ⟨xw2.heap.size, 2, none⟩ = some (.int .i64 0) := by refine ⟨?_, ?_, ?_, ?_, ?_, ?_⟩ <;> (rw [(bcell hbx3).1 _ _ (by first | (simp; done) | (simp; omega) | omega)]; simp [go_sem, World.cell?_alloc_past, *])
  obtain ⟨x3o0, x3n0, x3m0, x3t0_0, x3t0_1, x3o1, x3n1, x3m1, x3t1_0, x3t1_1⟩ : w.heap.size < xw3.heap.size ∧ xw3.heap.size ≠ w.heap.size ∧ w.heap.size ≠ xw3.heap.size ∧ w.heap.size < xw3.heap.size + 1 ∧ w.heap.size < xw3.heap.size + 1 + 1 ∧ xw2.heap.size < xw3.heap.size ∧ xw3.heap.size ≠ xw2.heap.size ∧ xw2.heap.size ≠ xw3.heap.size ∧ xw2.heap.size < xw3.heap.size + 1 ∧ xw2.heap.size < xw3.heap.size + 1 + 1 := by refine ⟨?_, ?_, ?_, ?_, ?_, ?_, ?_, ?_, ?_, ?_⟩ <;> omega
  have hBx3 : Below w.heap.size w xw3 := (by (repeat (first | (with_reducible refine Below.drew ?_) | (with_reducible refine below_drewN ?_ _) | (with_reducible refine Below.alloc ?_ (by first | omega | (simp; done) | (simp; omega) | (simp at *; omega)) _) | (with_reducible refine Below.setCell ?_ (by first | omega | (simp; done) | (simp; omega) | (simp at *; omega)) _) | (with_reducible exact Below.refl _ _) | (with_reducible assumption) | (with_reducible refine Below.trans ?_ (Below.mono (by assumption) (by first | omega | (simp; done) | (simp; omega) | (simp at *; omega)))))))
  clear hbx3 x2_0_0 x2_0_1 x2_0_2 x2o0 x2n0 x2m0 x2t0_0 x2t0_1 hBx2
  generalize xw2.heap.size = u at *
  go_wp2
  go_ret
  exact ⟨rfl, (by (repeat (first | (with_reducible refine Below.drew ?_) | (with_reducible refine below_drewN ?_ _) | (with_reducible refine Below.alloc ?_ (by first | omega | (simp; done) | (simp; omega) | (simp at *; omega)) _) | (with_reducible refine Below.setCell ?_ (by first | omega | (simp; done) | (simp; omega) | (simp at *; omega)) _) | (with_reducible exact Below.refl _ _) | (with_reducible assumption) | (with_reducible refine Below.trans ?_ (Below.mono (by assumption) (by first | omega | (simp; done) | (simp; omega) | (simp at *; omega)))))))⟩
set_option maxHeartbeats 8000000 in
set_option maxRecDepth 100000 in
theorem mixShares_2 (a b c m S : Int) (w : World) (hE : Hid (shaE a b c m = 2)) (hX : Hid (shaR a b c m = (0, 0, 0))) (hD : Hid (conE a b c = 0)) (hc : Hid (conB a b c = true)) (hS : Hid (a + b + c = S)) (hi : Hid (inB m 0 S = false)) : Calls Try.prog 7 #[.agg #[.int .i64 a, .int .i64 b, .int .i64 c], .int .i64 m] w fun e w' => e = .returned (.bool true) ∧ Below w.heap.size w w' := by
  have hi' : inB m 0 S = false := hi.out
  go_enter Try.func7, Try.ntmps7
  go_wp2_with fail
  refine (fawake_any _).mono ?_
  rintro e xw1 ⟨rfl, hbx1⟩
  have zx1 := hbx1.size
  try simp at zx1
  obtain ⟨x1_0_0, x1_0_1, x1_0_2⟩ : xw1.cell? ⟨w.heap.size, 0, none⟩ = some (.int .i64 a) ∧ xw1.cell? ⟨w.heap.size, 1, none⟩ = some (.int .i64 b) ∧ xw1.cell? ⟨w.heap.size, 2, none⟩ = some (.int .i64 c) := by refine ⟨?_, ?_, ?_⟩ <;> (rw [(bcell hbx1).1 _ _ (by first | (simp; done) | (simp; omega) | omega)]; simp [go_sem, World.cell?_alloc_past, *])
  obtain ⟨x1o0, x1n0, x1m0, x1t0_0, x1t0_1⟩ : w.heap.size < xw1.heap.size ∧ xw1.heap.size ≠ w.heap.size ∧ w.heap.size ≠ xw1.heap.size ∧ w.heap.size < xw1.heap.size + 1 ∧ w.heap.size < xw1.heap.size + 1 + 1 := by refine ⟨?_, ?_, ?_, ?_, ?_⟩ <;> omega
  have hBx1 : Below w.heap.size w xw1 := (by (repeat (first | (with_reducible refine Below.drew ?_) | (with_reducible refine below_drewN ?_ _) | (with_reducible refine Below.alloc ?_ (by first | omega | (simp; done) | (simp; omega) | (simp at *; omega)) _) | (with_reducible refine Below.setCell ?_ (by first | omega | (simp; done) | (simp; omega) | (simp at *; omega)) _) | (with_reducible exact Below.refl _ _) | (with_reducible assumption) | (with_reducible refine Below.trans ?_ (Below.mono (by assumption) (by first | omega | (simp; done) | (simp; omega) | (simp at *; omega)))))))
  clear hbx1 
  go_wp2_with fail
  refine (Share_any a b c m 0 0 0 2 _ hE hX).mono ?_
  rintro e xw2 ⟨rfl, hbx2⟩
  have zx2 := hbx2.size
  try simp at zx2
  obtain ⟨x2_0_0, x2_0_1, x2_0_2⟩ : xw2.cell? ⟨w.heap.size, 0, none⟩ = some (.int .i64 a) ∧ xw2.cell? ⟨w.heap.size, 1, none⟩ = some (.int .i64 b) ∧ xw2.cell? ⟨w.heap.size, 2, none⟩ = some (.int .i64 c) := by refine ⟨?_, ?_, ?_⟩ <;> (rw [(bcell hbx2).1 _ _ (by first | (simp; done) | (simp; omega) | omega)]; simp [go_sem, World.cell?_alloc_past, *])
  obtain ⟨x2o0, x2n0, x2m0, x2t0_0, x2t0_1⟩ : w.heap.size < xw2.heap.size ∧ xw2.heap.size ≠ w.heap.size ∧ w.heap.size ≠ xw2.heap.size ∧ w.heap.size < xw2.heap.size + 1 ∧ w.heap.size < xw2.heap.size + 1 + 1 := by refine ⟨?_, ?_, ?_, ?_, ?_⟩ <;> omega
  have hBx2 : Below w.heap.size w xw2 := (by (repeat (first | (with_reducible refine Below.drew ?_) | (with_reducible refine below_drewN ?_ _) | (with_reducible refine Below.alloc ?_ (by first | omega | (simp; done) | (simp; omega) | (simp at *; omega)) _) | (with_reducible refine Below.setCell ?_ (by first | omega | (simp; done) | (simp; omega) | (simp at *; omega)) _) | (with_reducible exact Below.refl _ _) | (with_reducible assumption) | (with_reducible refine Below.trans ?_ (Below.mono (by assumption) (by first | omega | (simp; done) | (simp; omega) | (simp at *; omega)))))))
  clear hbx2 x1_0_0 x1_0_1 x1_0_2 x1o0 x1n0 x1m0 x1t0_0 x1t0_1 hBx1
  go_wp2_with fail
  have ob1 : w.heap.size < xw2.heap.size := by omega
  refine (refCheckContent_any a b c 0 _ hD).mono ?_
  rintro e xw3 ⟨rfl, hbx3⟩
  have zx3 := hbx3.size
  try simp at zx3
  obtain ⟨x3_0_0, x3_0_1, x3_0_2, x3_1_0, x3_1_1, x3_1_2⟩ : xw3.cell? ⟨w.heap.size, 0, none⟩ = some (.int .i64 a) ∧ xw3.cell? ⟨w.heap.size, 1, none⟩ = some (.int .i64 b) ∧ xw3.cell? ⟨w.heap.size, 2, none⟩ = some (.int .i64 c) ∧ xw3.cell? ⟨xw2.heap.size, 0, none⟩ = some (.int .i64 0) ∧ xw3.cell? ⟨xw2.heap.size, 1, none⟩ = some (.int .i64 0) ∧ xw3.cell? ⟨xw2.heap.size, 2, none⟩ = some (.int .i64 0) := by refine ⟨?_, ?_, ?_, ?_, ?_, ?_⟩ <;> (rw [(bcell hbx3).1 _ _ (by first | (simp; done) | (simp; omega) | omega)]; simp [go_sem, World.cell?_alloc_past, *])
  obtain ⟨x3o0, x3n0, x3m0, x3t0_0, x3t0_1, x3o1, x3n1, x3m1, x3t1_0, x3t1_1⟩ : w.heap.size < xw3.heap.size ∧ xw3.heap.size ≠ w.heap.size ∧ w.heap.size ≠ xw3.heap.size ∧ w.heap.size < xw3.heap.size + 1 ∧ w.heap.size < xw3.heap.size + 1 + 1 ∧ xw2.heap.size < xw3.heap.size ∧ xw3.heap.size ≠ xw2.heap.size ∧ xw2.heap.size ≠ xw3.heap.size ∧ xw2.heap.size < xw3.heap.size + 1 ∧ xw2.heap.size < xw3.heap.size + 1 + 1 := by refine ⟨?_, ?_, ?_, ?_, ?_, ?_, ?_, ?_, ?_, ?_⟩ <;> omega
  have hBx3 : Below w.heap.size w xw3 := (by (repeat (first | (with_reducible refine Below.drew ?_) | (with_reducible refine below_drewN ?_ _) | (with_reducible refine Below.alloc ?_ (by first | omega | (simp; done) | (simp; omega) | (simp at *; omega)) _) | (with_reducible refine Below.setCell ?_ (by first | omega | (simp; done) | (simp; omega) | (simp at *; omega)) _) | (with_reducible exact Below.refl _ _) | (with_reducible assumption) | (with_reducible refine Below.trans ?_ (Below.mono (by assumption) (by first | omega | (simp; done) | (simp; omega) | (simp at *; omega)))))))
  clear hbx3 x2_0_0 x2_0_1 x2_0_2 x2o0 x2n0 x2m0 x2t0_0 x2t0_1 hBx2
  generalize xw2.heap.size = u at *
  go_wp2_with fail
  refine (refSum_ok a b c S _ hc hS).mono ?_
  rintro e xw4 ⟨rfl, hbx4⟩
  have zx4 := hbx4.size
  try simp at zx4
  obtain ⟨x4_0_0, x4_0_1, x4_0_2, x4_1_0, x4_1_1, x4_1_2⟩ : xw4.cell? ⟨w.heap.size, 0, none⟩ = some (.int .i64 a) ∧ xw4.cell? ⟨w.heap.size, 1, none⟩ = some (.int .i64 b) ∧ xw4.cell? ⟨w.heap.size, 2, none⟩ = some (.int .i64 c) ∧ xw4.cell? ⟨u, 0, none⟩ = some (.int .i64 0) ∧ xw4.cell? ⟨u, 1, none⟩ = some (.int .i64 0) ∧ xw4.cell? ⟨u, 2, none⟩ = some (.int .i64 0) := by refine ⟨?_, ?_, ?_, ?_, ?_, ?_⟩ <;> (rw [(bcell hbx4).1 _ _ (by first | (simp; done) | (simp; omega) | omega)]; simp [go_sem, World.cell?_alloc_past, *])
  obtain ⟨x4o0, x4n0, x4m0, x4t0_0, x4t0_1, x4o1, x4n1, x4m1, x4t1_0, x4t1_1⟩ : w.heap.size < xw4.heap.size ∧ xw4.heap.size ≠ w.heap.size ∧ w.heap.size ≠ xw4.heap.size ∧ w.heap.size < xw4.heap.size + 1 ∧ w.heap.size < xw4.heap.size + 1 + 1 ∧ u < xw4.heap.size ∧ xw4.heap.size ≠ u ∧ u ≠ xw4.heap.size ∧ u < xw4.heap.size + 1 ∧ u < xw4.heap.size + 1 + 1 := by refine ⟨?_, ?_, ?_, ?_, ?_, ?_, ?_, ?_, ?_, ?_⟩ <;> omega
  have hBx4 : Below w.heap.size w xw4 := (by (repeat (first | (with_reducible refine Below.drew ?_) | (with_reducible refine below_drewN ?_ _) | (with_reducible refine Below.alloc ?_ (by first | omega | (simp; done) | (simp; omega) | (simp at *; omega)) _) | (with_reducible refine Below.setCell ?_ (by first | omega | (simp; done) | (simp; omega) | (simp at *; omega)) _) | (with_reducible exact Below.refl _ _) | (with_reducible assumption) | (with_reducible refine Below.trans ?_ (Below.mono (by assumption) (by first | omega | (simp; done) | (simp; omega) | (simp at *; omega)))))))
  clear hbx4 x3_0_0 x3_0_1 x3_0_2 x3_1_0 x3_1_1 x3_1_2 x3o0 x3n0 x3m0 x3t0_0 x3t0_1 x3o1 x3n1 x3m1 x3t1_0 x3t1_1 hBx3
  go_wp2_with ((go_at_call 33; ((with_reducible refine (baseWithin_any _ _ _ _).mono ?_)); rintro e w' ⟨rfl, rfl⟩))
  go_ret
  exact ⟨rfl, (by (repeat (first | (with_reducible refine Below.drew ?_) | (with_reducible refine below_drewN ?_ _) | (with_reducible refine Below.alloc ?_ (by first | omega | (simp; done) | (simp; omega) | (simp at *; omega)) _) | (with_reducible refine Below.setCell ?_ (by first | omega | (simp; done) | (simp; omega) | (simp at *; omega)) _) | (with_reducible exact Below.refl _ _) | (with_reducible assumption) | (with_reducible refine Below.trans ?_ (Below.mono (by assumption) (by first | omega | (simp; done) | (simp; omega) | (simp at *; omega)))))))⟩
def SH9 (a b c X Y Z : Int) (u : Nat) (w : World) (s8 s9 : Value) (wx : World) : Prop := ∃ v, s8 = .pointer (some ⟨v, 0, none⟩) ∧ s9 = .int .i64 0 ∧ v < wx.heap.size ∧ u < wx.heap.size ∧ w.heap.size < wx.heap.size ∧ (wx.cell? ⟨w.heap.size, 0, none⟩ = some (.int .i64 a) ∧ wx.cell? ⟨w.heap.size, 1, none⟩ = some (.int .i64 b) ∧ wx.cell? ⟨w.heap.size, 2, none⟩ = some (.int .i64 c) ∧ wx.cell? ⟨u, 0, none⟩ = some (.int .i64 X) ∧ wx.cell? ⟨u, 1, none⟩ = some (.int .i64 Y) ∧ wx.cell? ⟨u, 2, none⟩ = some (.int .i64 Z) ∧ wx.cell? ⟨v, 0, none⟩ = some (.int .i64 a) ∧ wx.cell? ⟨v, 1, none⟩ = some (.int .i64 b) ∧ wx.cell? ⟨v, 2, none⟩ = some (.int .i64 c)) ∧ Below w.heap.size w wx
set_option maxHeartbeats 8000000 in
set_option maxRecDepth 100000 in
theorem mixShares_3 (a b c m S X Y Z A B C U0 U1 U2 V0 V1 V2 D0 D1 D2 s0 s1 s2 : Int) (w : World) (hE : Hid (shaE a b c m = 0)) (hX : Hid (shaR a b c m = (X, Y, Z))) (hX2 : Hid (shareR a b c m = (X, Y, Z))) (hD : Hid (conE a b c = 0)) (hc : Hid (conB a b c = true)) (hS : Hid (a + b + c = S)) (hi : Hid (inB m 0 S = true)) (m0 : 0 ≤ m) (m1 : Hid (m ≤ a + b + c)) (hE2 : Hid (shaE a b c S = 0)) (hA : Hid (shaR a b c S = (a, b, c))) (hcx : Hid (conE X Y Z = 0)) (hcX : Hid (conB X Y Z = true)) (hM : Hid (X + Y + Z = m)) (hm : Hid (a - X = A ∧ b - Y = B ∧ c - Z = C)) (hcA : Hid (conE A B C = 0)) (hU : Hid (X * S = U0 ∧ Y * S = U1 ∧ Z * S = U2)) (hV : Hid (a * m = V0 ∧ b * m = V1 ∧ c * m = V2)) (hN : Hid (U0 - V0 = D0 ∧ U1 - V1 = D1 ∧ U2 - V2 = D2)) (bU : (0 ≤ U0 ∧ U0 ≤ 1000000000000000000) ∧ (0 ≤ U1 ∧ U1 ≤ 1000000000000000000) ∧ (0 ≤ U2 ∧ U2 ≤ 1000000000000000000)) (bV : (0 ≤ V0 ∧ V0 ≤ 1000000000000000000) ∧ (0 ≤ V1 ∧ V1 ≤ 1000000000000000000) ∧ (0 ≤ V2 ∧ V2 ≤ 1000000000000000000)) (hs0 : Hid ((if 0 ≤ D0 then D0 else -D0) = s0)) (hs1 : Hid ((if 0 ≤ D1 then D1 else -D1) = s1)) (hs2 : Hid ((if 0 ≤ D2 then D2 else -D2) = s2)) (l0 : s0 ≤ S) (l1 : s1 ≤ S) (l2 : s2 ≤ S) : Calls Try.prog 7 #[.agg #[.int .i64 a, .int .i64 b, .int .i64 c], .int .i64 m] w fun e w' => e = .returned (.bool true) ∧ Below w.heap.size w w' := by
  have hi' : inB m 0 S = true := hi.out
  obtain ⟨a0, b0, c0, cs⟩ := conB_iff.1 hc.out
  obtain ⟨x0, y0, z0, xs⟩ := conB_iff.1 hcX.out
  obtain ⟨⟨u0, u0'⟩, ⟨u1, u1'⟩, u2, u2'⟩ := bU
  obtain ⟨⟨v0, v0'⟩, ⟨v1, v1'⟩, v2, v2'⟩ := bV
  have a1 : a ≤ 1000000000 := by omega
  have b1 : b ≤ 1000000000 := by omega
  have c1 : c ≤ 1000000000 := by omega
  have x1 : X ≤ 1000000000 := by omega
  have y1 : Y ≤ 1000000000 := by omega
  have z1 : Z ≤ 1000000000 := by omega
  have w0 : IntKind.i64.wrap (X * S) = U0 := by rw [hU.out.1]; exact IntWalk.i64_in _ (by omega)
  have vv0 : IntKind.i64.wrap (a * m) = V0 := by rw [hV.out.1]; exact IntWalk.i64_in _ (by omega)
  have n0 : IntKind.i64.wrap (U0 - V0) = D0 := by rw [hN.out.1]; exact IntWalk.i64_in _ (by have := hN.out.1; omega)
  have d0 : -4000000000000000000 ≤ D0 ∧ D0 ≤ 4000000000000000000 := by have := hN.out.1; omega
  have w1 : IntKind.i64.wrap (Y * S) = U1 := by rw [hU.out.2.1]; exact IntWalk.i64_in _ (by omega)
  have vv1 : IntKind.i64.wrap (b * m) = V1 := by rw [hV.out.2.1]; exact IntWalk.i64_in _ (by omega)
  have n1 : IntKind.i64.wrap (U1 - V1) = D1 := by rw [hN.out.2.1]; exact IntWalk.i64_in _ (by have := hN.out.2.1; omega)
  have d1 : -4000000000000000000 ≤ D1 ∧ D1 ≤ 4000000000000000000 := by have := hN.out.2.1; omega
  have w2 : IntKind.i64.wrap (Z * S) = U2 := by rw [hU.out.2.2]; exact IntWalk.i64_in _ (by omega)
  have vv2 : IntKind.i64.wrap (c * m) = V2 := by rw [hV.out.2.2]; exact IntWalk.i64_in _ (by omega)
  have n2 : IntKind.i64.wrap (U2 - V2) = D2 := by rw [hN.out.2.2]; exact IntWalk.i64_in _ (by have := hN.out.2.2; omega)
  have d2 : -4000000000000000000 ≤ D2 ∧ D2 ≤ 4000000000000000000 := by have := hN.out.2.2; omega
  have HU := hU
  have HV := hV
  have HN := hN
  clear cs xs hU hV hN
  go_enter Try.func7, Try.ntmps7
  go_wp2_with fail
  refine (fawake_any _).mono ?_
  rintro e xw1 ⟨rfl, hbx1⟩
  have zx1 := hbx1.size
  try simp at zx1
  obtain ⟨x1_0_0, x1_0_1, x1_0_2⟩ : xw1.cell? ⟨w.heap.size, 0, none⟩ = some (.int .i64 a) ∧ xw1.cell? ⟨w.heap.size, 1, none⟩ = some (.int .i64 b) ∧ xw1.cell? ⟨w.heap.size, 2, none⟩ = some (.int .i64 c) := by refine ⟨?_, ?_, ?_⟩ <;> (rw [(bcell hbx1).1 _ _ (by first | (simp; done) | (simp; omega) | omega)]; simp [go_sem, World.cell?_alloc_past, *])
  obtain ⟨x1o0, x1n0, x1m0, x1t0_0, x1t0_1⟩ : w.heap.size < xw1.heap.size ∧ xw1.heap.size ≠ w.heap.size ∧ w.heap.size ≠ xw1.heap.size ∧ w.heap.size < xw1.heap.size + 1 ∧ w.heap.size < xw1.heap.size + 1 + 1 := by refine ⟨?_, ?_, ?_, ?_, ?_⟩ <;> omega
  have hBx1 : Below w.heap.size w xw1 := (by (repeat (first | (with_reducible refine Below.drew ?_) | (with_reducible refine below_drewN ?_ _) | (with_reducible refine Below.alloc ?_ (by first | omega | (simp; done) | (simp; omega) | (simp at *; omega)) _) | (with_reducible refine Below.setCell ?_ (by first | omega | (simp; done) | (simp; omega) | (simp at *; omega)) _) | (with_reducible exact Below.refl _ _) | (with_reducible assumption) | (with_reducible refine Below.trans ?_ (Below.mono (by assumption) (by first | omega | (simp; done) | (simp; omega) | (simp at *; omega)))))))
  clear hbx1 
  go_wp2_with fail
  refine (Share_any a b c m X Y Z 0 _ hE hX).mono ?_
  rintro e xw2 ⟨rfl, hbx2⟩
  have zx2 := hbx2.size
  try simp at zx2
  obtain ⟨x2_0_0, x2_0_1, x2_0_2⟩ : xw2.cell? ⟨w.heap.size, 0, none⟩ = some (.int .i64 a) ∧ xw2.cell? ⟨w.heap.size, 1, none⟩ = some (.int .i64 b) ∧ xw2.cell? ⟨w.heap.size, 2, none⟩ = some (.int .i64 c) := by refine ⟨?_, ?_, ?_⟩ <;> (rw [(bcell hbx2).1 _ _ (by first | (simp; done) | (simp; omega) | omega)]; simp [go_sem, World.cell?_alloc_past, *])
  obtain ⟨x2o0, x2n0, x2m0, x2t0_0, x2t0_1⟩ : w.heap.size < xw2.heap.size ∧ xw2.heap.size ≠ w.heap.size ∧ w.heap.size ≠ xw2.heap.size ∧ w.heap.size < xw2.heap.size + 1 ∧ w.heap.size < xw2.heap.size + 1 + 1 := by refine ⟨?_, ?_, ?_, ?_, ?_⟩ <;> omega
  have hBx2 : Below w.heap.size w xw2 := (by (repeat (first | (with_reducible refine Below.drew ?_) | (with_reducible refine below_drewN ?_ _) | (with_reducible refine Below.alloc ?_ (by first | omega | (simp; done) | (simp; omega) | (simp at *; omega)) _) | (with_reducible refine Below.setCell ?_ (by first | omega | (simp; done) | (simp; omega) | (simp at *; omega)) _) | (with_reducible exact Below.refl _ _) | (with_reducible assumption) | (with_reducible refine Below.trans ?_ (Below.mono (by assumption) (by first | omega | (simp; done) | (simp; omega) | (simp at *; omega)))))))
  clear hbx2 x1_0_0 x1_0_1 x1_0_2 x1o0 x1n0 x1m0 x1t0_0 x1t0_1 hBx1
  go_wp2_with fail
  have ob1 : w.heap.size < xw2.heap.size := by omega
  refine (refCheckContent_any a b c 0 _ hD).mono ?_
  rintro e xw3 ⟨rfl, hbx3⟩
  have zx3 := hbx3.size
  try simp at zx3
  obtain ⟨x3_0_0, x3_0_1, x3_0_2, x3_1_0, x3_1_1, x3_1_2⟩ : xw3.cell? ⟨w.heap.size, 0, none⟩ = some (.int .i64 a) ∧ xw3.cell? ⟨w.heap.size, 1, none⟩ = some (.int .i64 b) ∧ xw3.cell? ⟨w.heap.size, 2, none⟩ = some (.int .i64 c) ∧ xw3.cell? ⟨xw2.heap.size, 0, none⟩ = some (.int .i64 X) ∧ xw3.cell? ⟨xw2.heap.size, 1, none⟩ = some (.int .i64 Y) ∧ xw3.cell? ⟨xw2.heap.size, 2, none⟩ = some (.int .i64 Z) := by refine ⟨?_, ?_, ?_, ?_, ?_, ?_⟩ <;> (rw [(bcell hbx3).1 _ _ (by first | (simp; done) | (simp; omega) | omega)]; simp [go_sem, World.cell?_alloc_past, *])
  obtain ⟨x3o0, x3n0, x3m0, x3t0_0, x3t0_1, x3o1, x3n1, x3m1, x3t1_0, x3t1_1⟩ : w.heap.size < xw3.heap.size ∧ xw3.heap.size ≠ w.heap.size ∧ w.heap.size ≠ xw3.heap.size ∧ w.heap.size < xw3.heap.size + 1 ∧ w.heap.size < xw3.heap.size + 1 + 1 ∧ xw2.heap.size < xw3.heap.size ∧ xw3.heap.size ≠ xw2.heap.size ∧ xw2.heap.size ≠ xw3.heap.size ∧ xw2.heap.size < xw3.heap.size + 1 ∧ xw2.heap.size < xw3.heap.size + 1 + 1 := by refine ⟨?_, ?_, ?_, ?_, ?_, ?_, ?_, ?_, ?_, ?_⟩ <;> omega
  have hBx3 : Below w.heap.size w xw3 := (by (repeat (first | (with_reducible refine Below.drew ?_) | (with_reducible refine below_drewN ?_ _) | (with_reducible refine Below.alloc ?_ (by first | omega | (simp; done) | (simp; omega) | (simp at *; omega)) _) | (with_reducible refine Below.setCell ?_ (by first | omega | (simp; done) | (simp; omega) | (simp at *; omega)) _) | (with_reducible exact Below.refl _ _) | (with_reducible assumption) | (with_reducible refine Below.trans ?_ (Below.mono (by assumption) (by first | omega | (simp; done) | (simp; omega) | (simp at *; omega)))))))
  clear hbx3 x2_0_0 x2_0_1 x2_0_2 x2o0 x2n0 x2m0 x2t0_0 x2t0_1 hBx2
  generalize xw2.heap.size = u at *
  go_wp2_with fail
  refine (refSum_ok a b c S _ hc hS).mono ?_
  rintro e xw4 ⟨rfl, hbx4⟩
  have zx4 := hbx4.size
  try simp at zx4
  obtain ⟨x4_0_0, x4_0_1, x4_0_2, x4_1_0, x4_1_1, x4_1_2⟩ : xw4.cell? ⟨w.heap.size, 0, none⟩ = some (.int .i64 a) ∧ xw4.cell? ⟨w.heap.size, 1, none⟩ = some (.int .i64 b) ∧ xw4.cell? ⟨w.heap.size, 2, none⟩ = some (.int .i64 c) ∧ xw4.cell? ⟨u, 0, none⟩ = some (.int .i64 X) ∧ xw4.cell? ⟨u, 1, none⟩ = some (.int .i64 Y) ∧ xw4.cell? ⟨u, 2, none⟩ = some (.int .i64 Z) := by refine ⟨?_, ?_, ?_, ?_, ?_, ?_⟩ <;> (rw [(bcell hbx4).1 _ _ (by first | (simp; done) | (simp; omega) | omega)]; simp [go_sem, World.cell?_alloc_past, *])
  obtain ⟨x4o0, x4n0, x4m0, x4t0_0, x4t0_1, x4o1, x4n1, x4m1, x4t1_0, x4t1_1⟩ : w.heap.size < xw4.heap.size ∧ xw4.heap.size ≠ w.heap.size ∧ w.heap.size ≠ xw4.heap.size ∧ w.heap.size < xw4.heap.size + 1 ∧ w.heap.size < xw4.heap.size + 1 + 1 ∧ u < xw4.heap.size ∧ xw4.heap.size ≠ u ∧ u ≠ xw4.heap.size ∧ u < xw4.heap.size + 1 ∧ u < xw4.heap.size + 1 + 1 := by refine ⟨?_, ?_, ?_, ?_, ?_, ?_, ?_, ?_, ?_, ?_⟩ <;> omega
  have hBx4 : Below w.heap.size w xw4 := (by (repeat (first | (with_reducible refine Below.drew ?_) | (with_reducible refine below_drewN ?_ _) | (with_reducible refine Below.alloc ?_ (by first | omega | (simp; done) | (simp; omega) | (simp at *; omega)) _) | (with_reducible refine Below.setCell ?_ (by first | omega | (simp; done) | (simp; omega) | (simp at *; omega)) _) | (with_reducible exact Below.refl _ _) | (with_reducible assumption) | (with_reducible refine Below.trans ?_ (Below.mono (by assumption) (by first | omega | (simp; done) | (simp; omega) | (simp at *; omega)))))))
  clear hbx4 x3_0_0 x3_0_1 x3_0_2 x3_1_0 x3_1_1 x3_1_2 x3o0 x3n0 x3m0 x3t0_0 x3t0_1 x3o1 x3n1 x3m1 x3t1_0 x3t1_1 hBx3
  go_upto_region 9 with ((go_at_call 33; ((with_reducible refine (baseWithin_any _ _ _ _).mono ?_)); rintro e w' ⟨rfl, rfl⟩))
  go_cut [8, 9] from 43 to 49 (fun s8 s9 wx => SH9 a b c X Y Z u w s8 s9 wx)
  case first =>
    refine wp_region_held_drew (S := (fun w' => w'.cell? ⟨w.heap.size, 0, none⟩ = some (.int .i64 a) ∧ w'.cell? ⟨w.heap.size, 1, none⟩ = some (.int .i64 b) ∧ w'.cell? ⟨w.heap.size, 2, none⟩ = some (.int .i64 c))) (by kernel_rfl) (by simp [go_sem, World.cell?_alloc_past, *]) (fun hHeld => ?_)
    refine tkH 0 ⟨some 44, _, _, _, _, _⟩ ?_ rfl ?_ (by assumption) ?_
    rotate_left
    · (intro w hSw; (try dsimp only at hSw); go_simp; all_goals with_reducible rfl)
    try simp only [Act.put, sA, sB, sC]
    refine tkH 1 ⟨some 45, _, _, _, _, _⟩ ?_ rfl ?_ (by assumption) ?_
    rotate_left
    · (intro w hSw; (try dsimp only at hSw); go_simp; all_goals with_reducible rfl)
    try simp only [Act.put, sA, sB, sC]
    refine wpAnyH_ready (rs := [2, 7]) (by kernel_rfl) (by simp) ?_
    refine AllReadyH.cons rfl (fun K hK => ?_) (AllReadyH.cons rfl (fun K hK => ?_) (AllReadyH.nil))
    · skip
      go_simp
      refine (refSum_ok a b c S _ hc hS).mono ?_
      rintro e xw5 ⟨rfl, hbx5⟩
      have zx5 := hbx5.size
      try simp at zx5
      obtain ⟨x5_0_0, x5_0_1, x5_0_2, x5_1_0, x5_1_1, x5_1_2⟩ : xw5.cell? ⟨w.heap.size, 0, none⟩ = some (.int .i64 a) ∧ xw5.cell? ⟨w.heap.size, 1, none⟩ = some (.int .i64 b) ∧ xw5.cell? ⟨w.heap.size, 2, none⟩ = some (.int .i64 c) ∧ xw5.cell? ⟨u, 0, none⟩ = some (.int .i64 X) ∧ xw5.cell? ⟨u, 1, none⟩ = some (.int .i64 Y) ∧ xw5.cell? ⟨u, 2, none⟩ = some (.int .i64 Z) := by refine ⟨?_, ?_, ?_, ?_, ?_, ?_⟩ <;> (rw [(bcell hbx5).1 _ _ (by first | (simp; done) | (simp; omega) | omega)]; simp [go_sem, World.cell?_alloc_past, *])
      obtain ⟨x5o0, x5n0, x5m0, x5t0_0, x5t0_1, x5o1, x5n1, x5m1, x5t1_0, x5t1_1⟩ : w.heap.size < xw5.heap.size ∧ xw5.heap.size ≠ w.heap.size ∧ w.heap.size ≠ xw5.heap.size ∧ w.heap.size < xw5.heap.size + 1 ∧ w.heap.size < xw5.heap.size + 1 + 1 ∧ u < xw5.heap.size ∧ xw5.heap.size ≠ u ∧ u ≠ xw5.heap.size ∧ u < xw5.heap.size + 1 ∧ u < xw5.heap.size + 1 + 1 := by refine ⟨?_, ?_, ?_, ?_, ?_, ?_, ?_, ?_, ?_, ?_⟩ <;> omega
      have hBx5 : Below w.heap.size w xw5 := (by (repeat (first | (with_reducible refine Below.drew ?_) | (with_reducible refine below_drewN ?_ _) | (with_reducible refine Below.alloc ?_ (by first | omega | (simp; done) | (simp; omega) | (simp at *; omega)) _) | (with_reducible refine Below.setCell ?_ (by first | omega | (simp; done) | (simp; omega) | (simp at *; omega)) _) | (with_reducible exact Below.refl _ _) | (with_reducible assumption) | (with_reducible refine Below.trans ?_ (Below.mono (by assumption) (by first | omega | (simp; done) | (simp; omega) | (simp at *; omega)))))))
      clear hbx5 x4_0_0 x4_0_1 x4_0_2 x4_1_0 x4_1_1 x4_1_2 x4o0 x4n0 x4m0 x4t0_0 x4t0_1 x4o1 x4n1 x4m1 x4t1_0 x4t1_1 hBx4
      go_wp2_with fail
      refine hK.out _ _ (by simp [go_sem, World.cell?_alloc_past, *]) (fun hHeld => ?_)
      clear hK K
      try simp only [Act.put, sA, sB, sC]
      refine wpAnyH_ready (rs := [3, 7]) (by kernel_rfl) (by simp) ?_
      refine AllReadyH.cons rfl (fun K hK => ?_) (AllReadyH.cons rfl (fun K hK => ?_) (AllReadyH.nil))
      · skip
        go_simp
        refine (Share_any a b c S a b c 0 _ hE2 hA).mono ?_
        rintro e xw6 ⟨rfl, hbx6⟩
        have zx6 := hbx6.size
        try simp at zx6
        obtain ⟨x6_0_0, x6_0_1, x6_0_2, x6_1_0, x6_1_1, x6_1_2⟩ : xw6.cell? ⟨w.heap.size, 0, none⟩ = some (.int .i64 a) ∧ xw6.cell? ⟨w.heap.size, 1, none⟩ = some (.int .i64 b) ∧ xw6.cell? ⟨w.heap.size, 2, none⟩ = some (.int .i64 c) ∧ xw6.cell? ⟨u, 0, none⟩ = some (.int .i64 X) ∧ xw6.cell? ⟨u, 1, none⟩ = some (.int .i64 Y) ∧ xw6.cell? ⟨u, 2, none⟩ = some (.int .i64 Z) := by refine ⟨?_, ?_, ?_, ?_, ?_, ?_⟩ <;> (rw [(bcell hbx6).1 _ _ (by first | (simp; done) | (simp; omega) | omega)]; simp [go_sem, World.cell?_alloc_past, *])
        obtain ⟨x6o0, x6n0, x6m0, x6t0_0, x6t0_1, x6o1, x6n1, x6m1, x6t1_0, x6t1_1⟩ : w.heap.size < xw6.heap.size ∧ xw6.heap.size ≠ w.heap.size ∧ w.heap.size ≠ xw6.heap.size ∧ w.heap.size < xw6.heap.size + 1 ∧ w.heap.size < xw6.heap.size + 1 + 1 ∧ u < xw6.heap.size ∧ xw6.heap.size ≠ u ∧ u ≠ xw6.heap.size ∧ u < xw6.heap.size + 1 ∧ u < xw6.heap.size + 1 + 1 := by refine ⟨?_, ?_, ?_, ?_, ?_, ?_, ?_, ?_, ?_, ?_⟩ <;> omega
        have hBx6 : Below w.heap.size w xw6 := (by (repeat (first | (with_reducible refine Below.drew ?_) | (with_reducible refine below_drewN ?_ _) | (with_reducible refine Below.alloc ?_ (by first | omega | (simp; done) | (simp; omega) | (simp at *; omega)) _) | (with_reducible refine Below.setCell ?_ (by first | omega | (simp; done) | (simp; omega) | (simp at *; omega)) _) | (with_reducible exact Below.refl _ _) | (with_reducible assumption) | (with_reducible refine Below.trans ?_ (Below.mono (by assumption) (by first | omega | (simp; done) | (simp; omega) | (simp at *; omega)))))))
        clear hbx6 x5_0_0 x5_0_1 x5_0_2 x5_1_0 x5_1_1 x5_1_2 x5o0 x5n0 x5m0 x5t0_0 x5t0_1 x5o1 x5n1 x5m1 x5t1_0 x5t1_1 hBx5
        go_wp2_with fail
        refine hK.out _ _ (by simp [go_sem, World.cell?_alloc_past, *]) (fun hHeld => ?_)
        clear hK K
        try simp only [Act.put, sA, sB, sC]
        refine tkH 4 ⟨some 43, _, _, _, _, _⟩ ?_ rfl ?_ (by assumption) ?_
        rotate_left
        · (intro w hSw; (try dsimp only at hSw); go_simp; all_goals with_reducible rfl)
        try simp only [Act.put, sA, sB, sC]
        refine tkH 5 ⟨some 48, _, _, _, _, _⟩ ?_ rfl ?_ (by assumption) ?_
        rotate_left
        · (intro w hSw; (try dsimp only at hSw); go_simp; all_goals with_reducible rfl)
        try simp only [Act.put, sA, sB, sC]
        refine tkH 6 ⟨some 49, _, _, _, _, _⟩ ?_ rfl ?_ (by assumption) ?_
        rotate_left
        · (intro w hSw; (try dsimp only at hSw); go_simp; all_goals with_reducible rfl)
        try simp only [Act.put, sA, sB, sC]
        refine wpAnyH_ready (rs := [7]) (by kernel_rfl) (by simp) ?_
        refine AllReadyH.cons rfl (fun K hK => ?_) (AllReadyH.nil)
        go_simp
        go_wp2_with fail
        refine hK.out _ _ (by simp [go_sem, World.cell?_alloc_past, *]) (fun hHeld => ?_)
        clear hK K
        try simp only [Act.put, sA, sB, sC]
        refine wpAnyH_ready (rs := [8]) (by kernel_rfl) (by simp) ?_
        refine AllReadyH.cons rfl (fun K hK => ?_) (AllReadyH.nil)
        go_simp
        go_wp2_with fail
        refine hK.out _ _ (by simp [go_sem, World.cell?_alloc_past, *]) (fun hHeld => ?_)
        clear hK K
        try simp only [Act.put, sA, sB, sC]
        refine tkH 9 ⟨some 9, _, _, _, _, _⟩ ?_ rfl ?_ (by assumption) ?_
        rotate_left
        · (intro w hSw; (try dsimp only at hSw); go_simp; all_goals with_reducible rfl)
        try simp only [Act.put, sA, sB, sC]
        refine wpAnyH_done (by kernel_rfl) ?_ _
        go_wp2_with fail
        go_meet
        refine ⟨xw6.heap.size, rfl, rfl, by first | omega | (simp; done) | (simp; omega), by first | omega | (simp; done) | (simp; omega), by first | omega | (simp; done) | (simp; omega), ⟨(by simp [go_sem, World.cell?_alloc_past, *]), (by simp [go_sem, World.cell?_alloc_past, *]), (by simp [go_sem, World.cell?_alloc_past, *]), (by simp [go_sem, World.cell?_alloc_past, *]), (by simp [go_sem, World.cell?_alloc_past, *]), (by simp [go_sem, World.cell?_alloc_past, *]), (by simp [go_sem, World.cell?_alloc_past, *]), (by simp [go_sem, World.cell?_alloc_past, *]), (by simp [go_sem, World.cell?_alloc_past, *])⟩, ?_⟩
        (repeat (first | (with_reducible refine Below.drew ?_) | (with_reducible refine below_drewN ?_ _) | (with_reducible refine Below.alloc ?_ (by first | omega | (simp; done) | (simp; omega) | (simp at *; omega)) _) | (with_reducible refine Below.setCell ?_ (by first | omega | (simp; done) | (simp; omega) | (simp at *; omega)) _) | (with_reducible exact Below.refl _ _) | (with_reducible assumption) | (with_reducible refine Below.trans ?_ (Below.mono (by assumption) (by first | omega | (simp; done) | (simp; omega) | (simp at *; omega))))))
      · skip
        go_simp
        go_wp2_with fail
        refine hK.out _ _ (by simp [go_sem, World.cell?_alloc_past, *]) (fun hHeld => ?_)
        clear hK K
        try simp only [Act.put, sA, sB, sC]
        refine wpAnyH_ready (rs := [3]) (by kernel_rfl) (by simp) ?_
        refine AllReadyH.cons rfl (fun K hK => ?_) (AllReadyH.nil)
        go_simp
        refine (Share_any a b c S a b c 0 _ hE2 hA).mono ?_
        rintro e xw6 ⟨rfl, hbx6⟩
        have zx6 := hbx6.size
        try simp at zx6
        obtain ⟨x6_0_0, x6_0_1, x6_0_2, x6_1_0, x6_1_1, x6_1_2, x6_2_0, x6_2_1, x6_2_2⟩ : xw6.cell? ⟨w.heap.size, 0, none⟩ = some (.int .i64 a) ∧ xw6.cell? ⟨w.heap.size, 1, none⟩ = some (.int .i64 b) ∧ xw6.cell? ⟨w.heap.size, 2, none⟩ = some (.int .i64 c) ∧ xw6.cell? ⟨u, 0, none⟩ = some (.int .i64 X) ∧ xw6.cell? ⟨u, 1, none⟩ = some (.int .i64 Y) ∧ xw6.cell? ⟨u, 2, none⟩ = some (.int .i64 Z) ∧ xw6.cell? ⟨xw5.heap.size, 0, none⟩ = some (.int .i64 0) ∧ xw6.cell? ⟨xw5.heap.size, 1, none⟩ = some (.int .i64 0) ∧ xw6.cell? ⟨xw5.heap.size, 2, none⟩ = some (.int .i64 0) := by refine ⟨?_, ?_, ?_, ?_, ?_, ?_, ?_, ?_, ?_⟩ <;> (rw [(bcell hbx6).1 _ _ (by first | (simp; done) | (simp; omega) | omega)]; simp [go_sem, World.cell?_alloc_past, *])
        have x6f2 : (∀ j, xw6.frozen? ⟨xw5.heap.size, j, none⟩ = false) := by (intro j; rw [(bcell hbx6).2 _ _ (by first | (simp; done) | (simp; omega) | omega)]; simp [go_sem, *])
        obtain ⟨x6o0, x6n0, x6m0, x6t0_0, x6t0_1, x6o1, x6n1, x6m1, x6t1_0, x6t1_1, x6o2, x6n2, x6m2, x6t2_0, x6t2_1⟩ : w.heap.size < xw6.heap.size ∧ xw6.heap.size ≠ w.heap.size ∧ w.heap.size ≠ xw6.heap.size ∧ w.heap.size < xw6.heap.size + 1 ∧ w.heap.size < xw6.heap.size + 1 + 1 ∧ u < xw6.heap.size ∧ xw6.heap.size ≠ u ∧ u ≠ xw6.heap.size ∧ u < xw6.heap.size + 1 ∧ u < xw6.heap.size + 1 + 1 ∧ xw5.heap.size < xw6.heap.size ∧ xw6.heap.size ≠ xw5.heap.size ∧ xw5.heap.size ≠ xw6.heap.size ∧ xw5.heap.size < xw6.heap.size + 1 ∧ xw5.heap.size < xw6.heap.size + 1 + 1 := by refine ⟨?_, ?_, ?_, ?_, ?_, ?_, ?_, ?_, ?_, ?_, ?_, ?_, ?_, ?_, ?_⟩ <;> omega
        have hBx6 : Below w.heap.size w xw6 := (by (repeat (first | (with_reducible refine Below.drew ?_) | (with_reducible refine below_drewN ?_ _) | (with_reducible refine Below.alloc ?_ (by first | omega | (simp; done) | (simp; omega) | (simp at *; omega)) _) | (with_reducible refine Below.setCell ?_ (by first | omega | (simp; done) | (simp; omega) | (simp at *; omega)) _) | (with_reducible exact Below.refl _ _) | (with_reducible assumption) | (with_reducible refine Below.trans ?_ (Below.mono (by assumption) (by first | omega | (simp; done) | (simp; omega) | (simp at *; omega)))))))
        clear hbx6 x5_0_0 x5_0_1 x5_0_2 x5_1_0 x5_1_1 x5_1_2 x5o0 x5n0 x5m0 x5t0_0 x5t0_1 x5o1 x5n1 x5m1 x5t1_0 x5t1_1 hBx5
        go_wp2_with fail
        refine hK.out _ _ (by simp [go_sem, World.cell?_alloc_past, *]) (fun hHeld => ?_)
        clear hK K
        try simp only [Act.put, sA, sB, sC]
        refine tkH 4 ⟨some 43, _, _, _, _, _⟩ ?_ rfl ?_ (by assumption) ?_
        rotate_left
        · (intro w hSw; (try dsimp only at hSw); go_simp; all_goals with_reducible rfl)
        try simp only [Act.put, sA, sB, sC]
        refine tkH 5 ⟨some 48, _, _, _, _, _⟩ ?_ rfl ?_ (by assumption) ?_
        rotate_left
        · (intro w hSw; (try dsimp only at hSw); go_simp; all_goals with_reducible rfl)
        try simp only [Act.put, sA, sB, sC]
        refine tkH 6 ⟨some 49, _, _, _, _, _⟩ ?_ rfl ?_ (by assumption) ?_
        rotate_left
        · (intro w hSw; (try dsimp only at hSw); go_simp; all_goals with_reducible rfl)
        try simp only [Act.put, sA, sB, sC]
        refine wpAnyH_ready (rs := [8]) (by kernel_rfl) (by simp) ?_
        refine AllReadyH.cons rfl (fun K hK => ?_) (AllReadyH.nil)
        go_simp
        go_wp2_with fail
        refine hK.out _ _ (by simp [go_sem, World.cell?_alloc_past, *]) (fun hHeld => ?_)
        clear hK K
        try simp only [Act.put, sA, sB, sC]
        refine tkH 9 ⟨some 9, _, _, _, _, _⟩ ?_ rfl ?_ (by assumption) ?_
        rotate_left
        · (intro w hSw; (try dsimp only at hSw); go_simp; all_goals with_reducible rfl)
        try simp only [Act.put, sA, sB, sC]
        refine wpAnyH_done (by kernel_rfl) ?_ _
        go_wp2_with fail
        go_meet
        refine ⟨xw5.heap.size, rfl, rfl, by first | omega | (simp; done) | (simp; omega), by first | omega | (simp; done) | (simp; omega), by first | omega | (simp; done) | (simp; omega), ⟨(by simp [go_sem, World.cell?_alloc_past, *]), (by simp [go_sem, World.cell?_alloc_past, *]), (by simp [go_sem, World.cell?_alloc_past, *]), (by simp [go_sem, World.cell?_alloc_past, *]), (by simp [go_sem, World.cell?_alloc_past, *]), (by simp [go_sem, World.cell?_alloc_past, *]), (by simp [go_sem, World.cell?_alloc_past, *]), (by simp [go_sem, World.cell?_alloc_past, *]), (by simp [go_sem, World.cell?_alloc_past, *])⟩, ?_⟩
        (repeat (first | (with_reducible refine Below.drew ?_) | (with_reducible refine below_drewN ?_ _) | (with_reducible refine Below.alloc ?_ (by first | omega | (simp; done) | (simp; omega) | (simp at *; omega)) _) | (with_reducible refine Below.setCell ?_ (by first | omega | (simp; done) | (simp; omega) | (simp at *; omega)) _) | (with_reducible exact Below.refl _ _) | (with_reducible assumption) | (with_reducible refine Below.trans ?_ (Below.mono (by assumption) (by first | omega | (simp; done) | (simp; omega) | (simp at *; omega))))))
    · skip
      go_simp
      go_wp2_with fail
      refine hK.out _ _ (by simp [go_sem, World.cell?_alloc_past, *]) (fun hHeld => ?_)
      clear hK K
      try simp only [Act.put, sA, sB, sC]
      refine wpAnyH_ready (rs := [2]) (by kernel_rfl) (by simp) ?_
      refine AllReadyH.cons rfl (fun K hK => ?_) (AllReadyH.nil)
      go_simp
      refine (refSum_ok a b c S _ hc hS).mono ?_
      rintro e xw5 ⟨rfl, hbx5⟩
      have zx5 := hbx5.size
      try simp at zx5
      obtain ⟨x5_0_0, x5_0_1, x5_0_2, x5_1_0, x5_1_1, x5_1_2, x5_2_0, x5_2_1, x5_2_2⟩ : xw5.cell? ⟨w.heap.size, 0, none⟩ = some (.int .i64 a) ∧ xw5.cell? ⟨w.heap.size, 1, none⟩ = some (.int .i64 b) ∧ xw5.cell? ⟨w.heap.size, 2, none⟩ = some (.int .i64 c) ∧ xw5.cell? ⟨u, 0, none⟩ = some (.int .i64 X) ∧ xw5.cell? ⟨u, 1, none⟩ = some (.int .i64 Y) ∧ xw5.cell? ⟨u, 2, none⟩ = some (.int .i64 Z) ∧ xw5.cell? ⟨xw4.heap.size, 0, none⟩ = some (.int .i64 0) ∧ xw5.cell? ⟨xw4.heap.size, 1, none⟩ = some (.int .i64 0) ∧ xw5.cell? ⟨xw4.heap.size, 2, none⟩ = some (.int .i64 0) := by refine ⟨?_, ?_, ?_, ?_, ?_, ?_, ?_, ?_, ?_⟩ <;> (rw [(bcell hbx5).1 _ _ (by first | (simp; done) | (simp; omega) | omega)]; simp [go_sem, World.cell?_alloc_past, *])
      have x5f2 : (∀ j, xw5.frozen? ⟨xw4.heap.size, j, none⟩ = false) := by (intro j; rw [(bcell hbx5).2 _ _ (by first | (simp; done) | (simp; omega) | omega)]; simp [go_sem, *])
      obtain ⟨x5o0, x5n0, x5m0, x5t0_0, x5t0_1, x5o1, x5n1, x5m1, x5t1_0, x5t1_1, x5o2, x5n2, x5m2, x5t2_0, x5t2_1⟩ : w.heap.size < xw5.heap.size ∧ xw5.heap.size ≠ w.heap.size ∧ w.heap.size ≠ xw5.heap.size ∧ w.heap.size < xw5.heap.size + 1 ∧ w.heap.size < xw5.heap.size + 1 + 1 ∧ u < xw5.heap.size ∧ xw5.heap.size ≠ u ∧ u ≠ xw5.heap.size ∧ u < xw5.heap.size + 1 ∧ u < xw5.heap.size + 1 + 1 ∧ xw4.heap.size < xw5.heap.size ∧ xw5.heap.size ≠ xw4.heap.size ∧ xw4.heap.size ≠ xw5.heap.size ∧ xw4.heap.size < xw5.heap.size + 1 ∧ xw4.heap.size < xw5.heap.size + 1 + 1 := by refine ⟨?_, ?_, ?_, ?_, ?_, ?_, ?_, ?_, ?_, ?_, ?_, ?_, ?_, ?_, ?_⟩ <;> omega
      have hBx5 : Below w.heap.size w xw5 := (by (repeat (first | (with_reducible refine Below.drew ?_) | (with_reducible refine below_drewN ?_ _) | (with_reducible refine Below.alloc ?_ (by first | omega | (simp; done) | (simp; omega) | (simp at *; omega)) _) | (with_reducible refine Below.setCell ?_ (by first | omega | (simp; done) | (simp; omega) | (simp at *; omega)) _) | (with_reducible exact Below.refl _ _) | (with_reducible assumption) | (with_reducible refine Below.trans ?_ (Below.mono (by assumption) (by first | omega | (simp; done) | (simp; omega) | (simp at *; omega)))))))
      clear hbx5 x4_0_0 x4_0_1 x4_0_2 x4_1_0 x4_1_1 x4_1_2 x4o0 x4n0 x4m0 x4t0_0 x4t0_1 x4o1 x4n1 x4m1 x4t1_0 x4t1_1 hBx4
      go_wp2_with fail
      refine hK.out _ _ (by simp [go_sem, World.cell?_alloc_past, *]) (fun hHeld => ?_)
      clear hK K
      try simp only [Act.put, sA, sB, sC]
      refine wpAnyH_ready (rs := [3]) (by kernel_rfl) (by simp) ?_
      refine AllReadyH.cons rfl (fun K hK => ?_) (AllReadyH.nil)
      go_simp
      refine (Share_any a b c S a b c 0 _ hE2 hA).mono ?_
      rintro e xw6 ⟨rfl, hbx6⟩
      have zx6 := hbx6.size
      try simp at zx6
      obtain ⟨x6_0_0, x6_0_1, x6_0_2, x6_1_0, x6_1_1, x6_1_2, x6_2_0, x6_2_1, x6_2_2⟩ : xw6.cell? ⟨w.heap.size, 0, none⟩ = some (.int .i64 a) ∧ xw6.cell? ⟨w.heap.size, 1, none⟩ = some (.int .i64 b) ∧ xw6.cell? ⟨w.heap.size, 2, none⟩ = some (.int .i64 c) ∧ xw6.cell? ⟨u, 0, none⟩ = some (.int .i64 X) ∧ xw6.cell? ⟨u, 1, none⟩ = some (.int .i64 Y) ∧ xw6.cell? ⟨u, 2, none⟩ = some (.int .i64 Z) ∧ xw6.cell? ⟨xw4.heap.size, 0, none⟩ = some (.int .i64 0) ∧ xw6.cell? ⟨xw4.heap.size, 1, none⟩ = some (.int .i64 0) ∧ xw6.cell? ⟨xw4.heap.size, 2, none⟩ = some (.int .i64 0) := by refine ⟨?_, ?_, ?_, ?_, ?_, ?_, ?_, ?_, ?_⟩ <;> (rw [(bcell hbx6).1 _ _ (by first | (simp; done) | (simp; omega) | omega)]; simp [go_sem, World.cell?_alloc_past, *])
      have x6f2 : (∀ j, xw6.frozen? ⟨xw4.heap.size, j, none⟩ = false) := by (intro j; rw [(bcell hbx6).2 _ _ (by first | (simp; done) | (simp; omega) | omega)]; simp [go_sem, *])
      obtain ⟨x6o0, x6n0, x6m0, x6t0_0, x6t0_1, x6o1, x6n1, x6m1, x6t1_0, x6t1_1, x6o2, x6n2, x6m2, x6t2_0, x6t2_1⟩ : w.heap.size < xw6.heap.size ∧ xw6.heap.size ≠ w.heap.size ∧ w.heap.size ≠ xw6.heap.size ∧ w.heap.size < xw6.heap.size + 1 ∧ w.heap.size < xw6.heap.size + 1 + 1 ∧ u < xw6.heap.size ∧ xw6.heap.size ≠ u ∧ u ≠ xw6.heap.size ∧ u < xw6.heap.size + 1 ∧ u < xw6.heap.size + 1 + 1 ∧ xw4.heap.size < xw6.heap.size ∧ xw6.heap.size ≠ xw4.heap.size ∧ xw4.heap.size ≠ xw6.heap.size ∧ xw4.heap.size < xw6.heap.size + 1 ∧ xw4.heap.size < xw6.heap.size + 1 + 1 := by refine ⟨?_, ?_, ?_, ?_, ?_, ?_, ?_, ?_, ?_, ?_, ?_, ?_, ?_, ?_, ?_⟩ <;> omega
      have hBx6 : Below w.heap.size w xw6 := (by (repeat (first | (with_reducible refine Below.drew ?_) | (with_reducible refine below_drewN ?_ _) | (with_reducible refine Below.alloc ?_ (by first | omega | (simp; done) | (simp; omega) | (simp at *; omega)) _) | (with_reducible refine Below.setCell ?_ (by first | omega | (simp; done) | (simp; omega) | (simp at *; omega)) _) | (with_reducible exact Below.refl _ _) | (with_reducible assumption) | (with_reducible refine Below.trans ?_ (Below.mono (by assumption) (by first | omega | (simp; done) | (simp; omega) | (simp at *; omega)))))))
      clear hbx6 x5_0_0 x5_0_1 x5_0_2 x5_1_0 x5_1_1 x5_1_2 x5_2_0 x5_2_1 x5_2_2 x5f2 x5o0 x5n0 x5m0 x5t0_0 x5t0_1 x5o1 x5n1 x5m1 x5t1_0 x5t1_1 x5o2 x5n2 x5m2 x5t2_0 x5t2_1 hBx5
      go_wp2_with fail
      refine hK.out _ _ (by simp [go_sem, World.cell?_alloc_past, *]) (fun hHeld => ?_)
      clear hK K
      try simp only [Act.put, sA, sB, sC]
      refine tkH 4 ⟨some 43, _, _, _, _, _⟩ ?_ rfl ?_ (by assumption) ?_
      rotate_left
      · (intro w hSw; (try dsimp only at hSw); go_simp; all_goals with_reducible rfl)
      try simp only [Act.put, sA, sB, sC]
      refine tkH 5 ⟨some 48, _, _, _, _, _⟩ ?_ rfl ?_ (by assumption) ?_
      rotate_left
      · (intro w hSw; (try dsimp only at hSw); go_simp; all_goals with_reducible rfl)
      try simp only [Act.put, sA, sB, sC]
      refine tkH 6 ⟨some 49, _, _, _, _, _⟩ ?_ rfl ?_ (by assumption) ?_
      rotate_left
      · (intro w hSw; (try dsimp only at hSw); go_simp; all_goals with_reducible rfl)
      try simp only [Act.put, sA, sB, sC]
      refine wpAnyH_ready (rs := [8]) (by kernel_rfl) (by simp) ?_
      refine AllReadyH.cons rfl (fun K hK => ?_) (AllReadyH.nil)
      go_simp
      go_wp2_with fail
      refine hK.out _ _ (by simp [go_sem, World.cell?_alloc_past, *]) (fun hHeld => ?_)
      clear hK K
      try simp only [Act.put, sA, sB, sC]
      refine tkH 9 ⟨some 9, _, _, _, _, _⟩ ?_ rfl ?_ (by assumption) ?_
      rotate_left
      · (intro w hSw; (try dsimp only at hSw); go_simp; all_goals with_reducible rfl)
      try simp only [Act.put, sA, sB, sC]
      refine wpAnyH_done (by kernel_rfl) ?_ _
      go_wp2_with fail
      go_meet
      refine ⟨xw4.heap.size, rfl, rfl, by first | omega | (simp; done) | (simp; omega), by first | omega | (simp; done) | (simp; omega), by first | omega | (simp; done) | (simp; omega), ⟨(by simp [go_sem, World.cell?_alloc_past, *]), (by simp [go_sem, World.cell?_alloc_past, *]), (by simp [go_sem, World.cell?_alloc_past, *]), (by simp [go_sem, World.cell?_alloc_past, *]), (by simp [go_sem, World.cell?_alloc_past, *]), (by simp [go_sem, World.cell?_alloc_past, *]), (by simp [go_sem, World.cell?_alloc_past, *]), (by simp [go_sem, World.cell?_alloc_past, *]), (by simp [go_sem, World.cell?_alloc_past, *])⟩, ?_⟩
      (repeat (first | (with_reducible refine Below.drew ?_) | (with_reducible refine below_drewN ?_ _) | (with_reducible refine Below.alloc ?_ (by first | omega | (simp; done) | (simp; omega) | (simp at *; omega)) _) | (with_reducible refine Below.setCell ?_ (by first | omega | (simp; done) | (simp; omega) | (simp at *; omega)) _) | (with_reducible exact Below.refl _ _) | (with_reducible assumption) | (with_reducible refine Below.trans ?_ (Below.mono (by assumption) (by first | omega | (simp; done) | (simp; omega) | (simp at *; omega))))))
  case rest =>
    obtain ⟨v, rfl, rfl, lv, lu, lw, ⟨k0, k1, k2, k3, k4, k5, k6, k7, k8⟩, kB⟩ := hcut
    have p1 : wc.heap.size ≠ w.heap.size := by omega
    have p2 : wc.heap.size ≠ u := by omega
    have p3 : wc.heap.size ≠ v := by omega
    go_upto_region 10 with (fail)
    refine wp_region_held_drew (S := (fun w' => w'.cell? ⟨w.heap.size, 0, none⟩ = some (.int .i64 a) ∧ w'.cell? ⟨w.heap.size, 1, none⟩ = some (.int .i64 b) ∧ w'.cell? ⟨w.heap.size, 2, none⟩ = some (.int .i64 c) ∧ w'.cell? ⟨u, 0, none⟩ = some (.int .i64 X) ∧ w'.cell? ⟨u, 1, none⟩ = some (.int .i64 Y) ∧ w'.cell? ⟨u, 2, none⟩ = some (.int .i64 Z) ∧ w'.cell? ⟨v, 0, none⟩ = some (.int .i64 a) ∧ w'.cell? ⟨v, 1, none⟩ = some (.int .i64 b) ∧ w'.cell? ⟨v, 2, none⟩ = some (.int .i64 c))) (by kernel_rfl) (by simp [go_sem, World.cell?_alloc_past, *]) (fun hHeld => ?_)
    refine tkH 0 ⟨some 50, _, _, _, _, _⟩ ?_ rfl ?_ (by assumption) ?_
    rotate_left
    · (intro w hSw; (try dsimp only at hSw); go_simp; all_goals with_reducible rfl)
    try simp only [Act.put, sA, sB, sC]
    refine tkH 1 ⟨some 51, _, _, _, _, _⟩ ?_ rfl ?_ (by assumption) ?_
    rotate_left
    · (intro w hSw; (try dsimp only at hSw); go_simp; all_goals with_reducible rfl)
    try simp only [Act.put, sA, sB, sC]
    refine tkH 2 ⟨some 52, _, _, _, _, _⟩ ?_ rfl ?_ (by assumption) ?_
    rotate_left
    · (intro w hSw; (try dsimp only at hSw); go_simp; all_goals with_reducible rfl)
    try simp only [Act.put, sA, sB, sC]
    refine tkH 3 ⟨some 53, _, _, _, _, _⟩ ?_ rfl ?_ (by assumption) ?_
    rotate_left
    · (intro w hSw; (try dsimp only at hSw); go_simp; all_goals with_reducible rfl)
    try simp only [Act.put, sA, sB, sC]
    refine tkH 4 ⟨some 54, _, _, _, _, _⟩ ?_ rfl ?_ (by assumption) ?_
    rotate_left
    · (intro w hSw; (try dsimp only at hSw); go_simp; all_goals with_reducible rfl)
    try simp only [Act.put, sA, sB, sC]
    refine tkH 5 ⟨some 55, _, _, _, _, _⟩ ?_ rfl ?_ (by assumption) ?_
    rotate_left
    · (intro w hSw; (try dsimp only at hSw); go_simp; all_goals with_reducible rfl)
    try simp only [Act.put, sA, sB, sC]
    refine wpAnyH_ready (rs := [6]) (by kernel_rfl) (by simp) ?_
    refine AllReadyH.cons rfl (fun K hK => ?_) AllReadyH.nil
    go_simp
    refine (refShare_any a b c m X Y Z _ hc m0 m1 hX2).mono ?_
    rintro e yw1 ⟨rfl, hby1⟩
    have zy1 := hby1.size
    try simp at zy1
    obtain ⟨y1_0_0, y1_0_1, y1_0_2, y1_1_0, y1_1_1, y1_1_2, y1_2_0, y1_2_1, y1_2_2⟩ : yw1.cell? ⟨w.heap.size, 0, none⟩ = some (.int .i64 a) ∧ yw1.cell? ⟨w.heap.size, 1, none⟩ = some (.int .i64 b) ∧ yw1.cell? ⟨w.heap.size, 2, none⟩ = some (.int .i64 c) ∧ yw1.cell? ⟨u, 0, none⟩ = some (.int .i64 X) ∧ yw1.cell? ⟨u, 1, none⟩ = some (.int .i64 Y) ∧ yw1.cell? ⟨u, 2, none⟩ = some (.int .i64 Z) ∧ yw1.cell? ⟨v, 0, none⟩ = some (.int .i64 a) ∧ yw1.cell? ⟨v, 1, none⟩ = some (.int .i64 b) ∧ yw1.cell? ⟨v, 2, none⟩ = some (.int .i64 c) := by refine ⟨?_, ?_, ?_, ?_, ?_, ?_, ?_, ?_, ?_⟩ <;> (rw [(bcell hby1).1 _ _ (by first | (simp; done) | (simp; omega) | omega)]; simp [go_sem, World.cell?_alloc_past, *])
    obtain ⟨y1o0, y1n0, y1t0_0, y1o1, y1n1, y1t1_0, y1o2, y1n2, y1t2_0⟩ : w.heap.size < yw1.heap.size ∧ yw1.heap.size ≠ w.heap.size ∧ w.heap.size < yw1.heap.size + 1 ∧ u < yw1.heap.size ∧ yw1.heap.size ≠ u ∧ u < yw1.heap.size + 1 ∧ v < yw1.heap.size ∧ yw1.heap.size ≠ v ∧ v < yw1.heap.size + 1 := by refine ⟨?_, ?_, ?_, ?_, ?_, ?_, ?_, ?_, ?_⟩ <;> omega
    have hBy1 : Below w.heap.size w yw1 := (by (repeat (first | (with_reducible refine Below.drew ?_) | (with_reducible refine below_drewN ?_ _) | (with_reducible refine Below.alloc ?_ (by first | omega | (simp; done) | (simp; omega) | (simp at *; omega)) _) | (with_reducible refine Below.setCell ?_ (by first | omega | (simp; done) | (simp; omega) | (simp at *; omega)) _) | (with_reducible exact Below.refl _ _) | (with_reducible assumption) | (with_reducible refine Below.trans ?_ (Below.mono (by assumption) (by first | omega | (simp; done) | (simp; omega) | (simp at *; omega)))))))
    clear hby1 
    go_wp2_with fail
    refine hK.out _ _ (by simp [go_sem, World.cell?_alloc_past, *]) (fun hHeld => ?_)
    clear hK K
    try simp only [Act.put, sA, sB, sC]
    refine tkH 7 ⟨some 57, _, _, _, _, _⟩ ?_ rfl ?_ (by assumption) ?_
    rotate_left
    · (intro w hSw; (try dsimp only at hSw); go_simp; all_goals with_reducible rfl)
    try simp only [Act.put, sA, sB, sC]
    refine tkH 8 ⟨some 58, _, _, _, _, _⟩ ?_ rfl ?_ (by assumption) ?_
    rotate_left
    · (intro w hSw; (try dsimp only at hSw); go_simp; all_goals with_reducible rfl)
    try simp only [Act.put, sA, sB, sC]
    refine tkH 9 ⟨some 59, _, _, _, _, _⟩ ?_ rfl ?_ (by assumption) ?_
    rotate_left
    · (intro w hSw; (try dsimp only at hSw); go_simp; all_goals with_reducible rfl)
    try simp only [Act.put, sA, sB, sC]
    refine tkH 10 ⟨some 60, _, _, _, _, _⟩ ?_ rfl ?_ (by assumption) ?_
    rotate_left
    · (intro w hSw; (try dsimp only at hSw); go_simp; all_goals with_reducible rfl)
    try simp only [Act.put, sA, sB, sC]
    refine tkH 11 ⟨some 61, _, _, _, _, _⟩ ?_ rfl ?_ (by assumption) ?_
    rotate_left
    · (intro w hSw; (try dsimp only at hSw); go_simp; all_goals with_reducible rfl)
    try simp only [Act.put, sA, sB, sC]
    refine tkH 12 ⟨some 62, _, _, _, _, _⟩ ?_ rfl ?_ (by assumption) ?_
    rotate_left
    · (intro w hSw; (try dsimp only at hSw); go_simp; all_goals with_reducible rfl)
    try simp only [Act.put, sA, sB, sC]
    refine tkH 13 ⟨some 63, _, _, _, _, _⟩ ?_ rfl ?_ (by assumption) ?_
    rotate_left
    · (intro w hSw; (try dsimp only at hSw); go_simp; all_goals with_reducible rfl)
    try simp only [Act.put, sA, sB, sC]
    refine tkH 14 ⟨some 64, _, _, _, _, _⟩ ?_ rfl ?_ (by assumption) ?_
    rotate_left
    · (intro w hSw; (try dsimp only at hSw); go_simp; all_goals with_reducible rfl)
    try simp only [Act.put, sA, sB, sC]
    refine tkH 15 ⟨some 65, _, _, _, _, _⟩ ?_ rfl ?_ (by assumption) ?_
    rotate_left
    · (intro w hSw; (try dsimp only at hSw); go_simp; all_goals with_reducible rfl)
    try simp only [Act.put, sA, sB, sC]
    refine tkH 16 ⟨some 66, _, _, _, _, _⟩ ?_ rfl ?_ (by assumption) ?_
    rotate_left
    · (intro w hSw; (try dsimp only at hSw); go_simp; all_goals with_reducible rfl)
    try simp only [Act.put, sA, sB, sC]
    refine tkH 17 ⟨some 67, _, _, _, _, _⟩ ?_ rfl ?_ (by assumption) ?_
    rotate_left
    · (intro w hSw; (try dsimp only at hSw); go_simp; all_goals with_reducible rfl)
    try simp only [Act.put, sA, sB, sC]
    refine tkH 18 ⟨some 68, _, _, _, _, _⟩ ?_ rfl ?_ (by assumption) ?_
    rotate_left
    · (intro w hSw; (try dsimp only at hSw); go_simp; all_goals with_reducible rfl)
    try simp only [Act.put, sA, sB, sC]
    refine tkH 19 ⟨some 69, _, _, _, _, _⟩ ?_ rfl ?_ (by assumption) ?_
    rotate_left
    · (intro w hSw; (try dsimp only at hSw); go_simp; all_goals with_reducible rfl)
    try simp only [Act.put, sA, sB, sC]
    refine wpAnyH_ready (rs := [20]) (by kernel_rfl) (by simp) ?_
    refine AllReadyH.cons rfl (fun K hK => ?_) AllReadyH.nil
    go_simp
    refine (refCheckContent_any X Y Z 0 _ hcx).mono ?_
    rintro e yw2 ⟨rfl, hby2⟩
    have zy2 := hby2.size
    try simp at zy2
    obtain ⟨y2_0_0, y2_0_1, y2_0_2, y2_1_0, y2_1_1, y2_1_2, y2_2_0, y2_2_1, y2_2_2⟩ : yw2.cell? ⟨w.heap.size, 0, none⟩ = some (.int .i64 a) ∧ yw2.cell? ⟨w.heap.size, 1, none⟩ = some (.int .i64 b) ∧ yw2.cell? ⟨w.heap.size, 2, none⟩ = some (.int .i64 c) ∧ yw2.cell? ⟨u, 0, none⟩ = some (.int .i64 X) ∧ yw2.cell? ⟨u, 1, none⟩ = some (.int .i64 Y) ∧ yw2.cell? ⟨u, 2, none⟩ = some (.int .i64 Z) ∧ yw2.cell? ⟨v, 0, none⟩ = some (.int .i64 a) ∧ yw2.cell? ⟨v, 1, none⟩ = some (.int .i64 b) ∧ yw2.cell? ⟨v, 2, none⟩ = some (.int .i64 c) := by refine ⟨?_, ?_, ?_, ?_, ?_, ?_, ?_, ?_, ?_⟩ <;> (rw [(bcell hby2).1 _ _ (by first | (simp; done) | (simp; omega) | omega)]; simp [go_sem, World.cell?_alloc_past, *])
    obtain ⟨y2o0, y2n0, y2t0_0, y2o1, y2n1, y2t1_0, y2o2, y2n2, y2t2_0⟩ : w.heap.size < yw2.heap.size ∧ yw2.heap.size ≠ w.heap.size ∧ w.heap.size < yw2.heap.size + 1 ∧ u < yw2.heap.size ∧ yw2.heap.size ≠ u ∧ u < yw2.heap.size + 1 ∧ v < yw2.heap.size ∧ yw2.heap.size ≠ v ∧ v < yw2.heap.size + 1 := by refine ⟨?_, ?_, ?_, ?_, ?_, ?_, ?_, ?_, ?_⟩ <;> omega
    have hBy2 : Below w.heap.size w yw2 := (by (repeat (first | (with_reducible refine Below.drew ?_) | (with_reducible refine below_drewN ?_ _) | (with_reducible refine Below.alloc ?_ (by first | omega | (simp; done) | (simp; omega) | (simp at *; omega)) _) | (with_reducible refine Below.setCell ?_ (by first | omega | (simp; done) | (simp; omega) | (simp at *; omega)) _) | (with_reducible exact Below.refl _ _) | (with_reducible assumption) | (with_reducible refine Below.trans ?_ (Below.mono (by assumption) (by first | omega | (simp; done) | (simp; omega) | (simp at *; omega)))))))
    clear hby2 y1_0_0 y1_0_1 y1_0_2 y1_1_0 y1_1_1 y1_1_2 y1_2_0 y1_2_1 y1_2_2 y1o0 y1n0 y1t0_0 y1o1 y1n1 y1t1_0 y1o2 y1n2 y1t2_0 hBy1
    go_wp2_with fail
    refine hK.out _ _ (by simp [go_sem, World.cell?_alloc_past, *]) (fun hHeld => ?_)
    clear hK K
    try simp only [Act.put, sA, sB, sC]
    refine tkH 21 ⟨some 71, _, _, _, _, _⟩ ?_ rfl ?_ (by assumption) ?_
    rotate_left
    · (intro w hSw; (try dsimp only at hSw); go_simp; all_goals with_reducible rfl)
    try simp only [Act.put, sA, sB, sC]
    refine tkH 22 ⟨some 72, _, _, _, _, _⟩ ?_ rfl ?_ (by assumption) ?_
    rotate_left
    · (intro w hSw; (try dsimp only at hSw); go_simp; all_goals with_reducible rfl)
    try simp only [Act.put, sA, sB, sC]
    refine tkH 23 ⟨some 73, _, _, _, _, _⟩ ?_ rfl ?_ (by assumption) ?_
    rotate_left
    · (intro w hSw; (try dsimp only at hSw); go_simp; all_goals with_reducible rfl)
    try simp only [Act.put, sA, sB, sC]
    refine tkH 24 ⟨some 74, _, _, _, _, _⟩ ?_ rfl ?_ (by assumption) ?_
    rotate_left
    · (intro w hSw; (try dsimp only at hSw); go_simp; all_goals with_reducible rfl)
    try simp only [Act.put, sA, sB, sC]
    refine tkH 26 ⟨some 76, _, _, _, _, _⟩ ?_ rfl ?_ (by assumption) ?_
    rotate_left
    · (intro w hSw; (try dsimp only at hSw); go_simp; all_goals with_reducible rfl)
    try simp only [Act.put, sA, sB, sC]
    refine wpAnyH_ready (rs := [25]) (by kernel_rfl) (by simp) ?_
    refine AllReadyH.cons rfl (fun K hK => ?_) AllReadyH.nil
    go_simp
    refine (refSum_ok X Y Z m _ hcX hM).mono ?_
    rintro e yw3 ⟨rfl, hby3⟩
    have zy3 := hby3.size
    try simp at zy3
    obtain ⟨y3_0_0, y3_0_1, y3_0_2, y3_1_0, y3_1_1, y3_1_2, y3_2_0, y3_2_1, y3_2_2⟩ : yw3.cell? ⟨w.heap.size, 0, none⟩ = some (.int .i64 a) ∧ yw3.cell? ⟨w.heap.size, 1, none⟩ = some (.int .i64 b) ∧ yw3.cell? ⟨w.heap.size, 2, none⟩ = some (.int .i64 c) ∧ yw3.cell? ⟨u, 0, none⟩ = some (.int .i64 X) ∧ yw3.cell? ⟨u, 1, none⟩ = some (.int .i64 Y) ∧ yw3.cell? ⟨u, 2, none⟩ = some (.int .i64 Z) ∧ yw3.cell? ⟨v, 0, none⟩ = some (.int .i64 a) ∧ yw3.cell? ⟨v, 1, none⟩ = some (.int .i64 b) ∧ yw3.cell? ⟨v, 2, none⟩ = some (.int .i64 c) := by refine ⟨?_, ?_, ?_, ?_, ?_, ?_, ?_, ?_, ?_⟩ <;> (rw [(bcell hby3).1 _ _ (by first | (simp; done) | (simp; omega) | omega)]; simp [go_sem, World.cell?_alloc_past, *])
    obtain ⟨y3o0, y3n0, y3t0_0, y3o1, y3n1, y3t1_0, y3o2, y3n2, y3t2_0⟩ : w.heap.size < yw3.heap.size ∧ yw3.heap.size ≠ w.heap.size ∧ w.heap.size < yw3.heap.size + 1 ∧ u < yw3.heap.size ∧ yw3.heap.size ≠ u ∧ u < yw3.heap.size + 1 ∧ v < yw3.heap.size ∧ yw3.heap.size ≠ v ∧ v < yw3.heap.size + 1 := by refine ⟨?_, ?_, ?_, ?_, ?_, ?_, ?_, ?_, ?_⟩ <;> omega
    have hBy3 : Below w.heap.size w yw3 := (by (repeat (first | (with_reducible refine Below.drew ?_) | (with_reducible refine below_drewN ?_ _) | (with_reducible refine Below.alloc ?_ (by first | omega | (simp; done) | (simp; omega) | (simp at *; omega)) _) | (with_reducible refine Below.setCell ?_ (by first | omega | (simp; done) | (simp; omega) | (simp at *; omega)) _) | (with_reducible exact Below.refl _ _) | (with_reducible assumption) | (with_reducible refine Below.trans ?_ (Below.mono (by assumption) (by first | omega | (simp; done) | (simp; omega) | (simp at *; omega)))))))
    clear hby3 y2_0_0 y2_0_1 y2_0_2 y2_1_0 y2_1_1 y2_1_2 y2_2_0 y2_2_1 y2_2_2 y2o0 y2n0 y2t0_0 y2o1 y2n1 y2t1_0 y2o2 y2n2 y2t2_0 hBy2
    go_wp2_with fail
    refine hK.out _ _ (by simp [go_sem, World.cell?_alloc_past, *]) (fun hHeld => ?_)
    clear hK K
    try simp only [Act.put, sA, sB, sC]
    refine tkH 27 ⟨some 77, _, _, _, _, _⟩ ?_ rfl ?_ (by assumption) ?_
    rotate_left
    · (intro w hSw; (try dsimp only at hSw); go_simp; all_goals with_reducible rfl)
    try simp only [Act.put, sA, sB, sC]
    refine tkH 28 ⟨some 78, _, _, _, _, _⟩ ?_ rfl ?_ (by assumption) ?_
    rotate_left
    · (intro w hSw; (try dsimp only at hSw); go_simp; all_goals with_reducible rfl)
    try simp only [Act.put, sA, sB, sC]
    refine tkH 29 ⟨some 79, _, _, _, _, _⟩ ?_ rfl ?_ (by assumption) ?_
    rotate_left
    · (intro w hSw; (try dsimp only at hSw); go_simp; all_goals with_reducible rfl)
    try simp only [Act.put, sA, sB, sC]
    refine tkH 30 ⟨some 80, _, _, _, _, _⟩ ?_ rfl ?_ (by assumption) ?_
    rotate_left
    · (intro w hSw; (try dsimp only at hSw); go_simp; all_goals with_reducible rfl)
    try simp only [Act.put, sA, sB, sC]
    refine tkH 31 ⟨some 81, _, _, _, _, _⟩ ?_ rfl ?_ (by assumption) ?_
    rotate_left
    · (intro w hSw; (try dsimp only at hSw); go_simp; all_goals with_reducible rfl)
    try simp only [Act.put, sA, sB, sC]
    refine wpAnyH_ready (rs := [32]) (by kernel_rfl) (by simp) ?_
    refine AllReadyH.cons rfl (fun K hK => ?_) AllReadyH.nil
    go_simp
    refine (refMinus_any a b c X Y Z A B C _ a0 a1 b0 b1 c0 c1 x0 x1 y0 y1 z0 z1 hm).mono ?_
    rintro e yw4 ⟨rfl, hby4⟩
    have zy4 := hby4.size
    try simp at zy4
    obtain ⟨y4_0_0, y4_0_1, y4_0_2, y4_1_0, y4_1_1, y4_1_2, y4_2_0, y4_2_1, y4_2_2⟩ : yw4.cell? ⟨w.heap.size, 0, none⟩ = some (.int .i64 a) ∧ yw4.cell? ⟨w.heap.size, 1, none⟩ = some (.int .i64 b) ∧ yw4.cell? ⟨w.heap.size, 2, none⟩ = some (.int .i64 c) ∧ yw4.cell? ⟨u, 0, none⟩ = some (.int .i64 X) ∧ yw4.cell? ⟨u, 1, none⟩ = some (.int .i64 Y) ∧ yw4.cell? ⟨u, 2, none⟩ = some (.int .i64 Z) ∧ yw4.cell? ⟨v, 0, none⟩ = some (.int .i64 a) ∧ yw4.cell? ⟨v, 1, none⟩ = some (.int .i64 b) ∧ yw4.cell? ⟨v, 2, none⟩ = some (.int .i64 c) := by refine ⟨?_, ?_, ?_, ?_, ?_, ?_, ?_, ?_, ?_⟩ <;> (rw [(bcell hby4).1 _ _ (by first | (simp; done) | (simp; omega) | omega)]; simp [go_sem, World.cell?_alloc_past, *])
    obtain ⟨y4o0, y4n0, y4t0_0, y4o1, y4n1, y4t1_0, y4o2, y4n2, y4t2_0⟩ : w.heap.size < yw4.heap.size ∧ yw4.heap.size ≠ w.heap.size ∧ w.heap.size < yw4.heap.size + 1 ∧ u < yw4.heap.size ∧ yw4.heap.size ≠ u ∧ u < yw4.heap.size + 1 ∧ v < yw4.heap.size ∧ yw4.heap.size ≠ v ∧ v < yw4.heap.size + 1 := by refine ⟨?_, ?_, ?_, ?_, ?_, ?_, ?_, ?_, ?_⟩ <;> omega
    have hBy4 : Below w.heap.size w yw4 := (by (repeat (first | (with_reducible refine Below.drew ?_) | (with_reducible refine below_drewN ?_ _) | (with_reducible refine Below.alloc ?_ (by first | omega | (simp; done) | (simp; omega) | (simp at *; omega)) _) | (with_reducible refine Below.setCell ?_ (by first | omega | (simp; done) | (simp; omega) | (simp at *; omega)) _) | (with_reducible exact Below.refl _ _) | (with_reducible assumption) | (with_reducible refine Below.trans ?_ (Below.mono (by assumption) (by first | omega | (simp; done) | (simp; omega) | (simp at *; omega)))))))
    clear hby4 y3_0_0 y3_0_1 y3_0_2 y3_1_0 y3_1_1 y3_1_2 y3_2_0 y3_2_1 y3_2_2 y3o0 y3n0 y3t0_0 y3o1 y3n1 y3t1_0 y3o2 y3n2 y3t2_0 hBy3
    go_wp2_with fail
    refine hK.out _ _ (by simp [go_sem, World.cell?_alloc_past, *]) (fun hHeld => ?_)
    clear hK K
    try simp only [Act.put, sA, sB, sC]
    refine wpAnyH_ready (rs := [33]) (by kernel_rfl) (by simp) ?_
    refine AllReadyH.cons rfl (fun K hK => ?_) AllReadyH.nil
    go_simp
    refine (refCheckContent_any A B C 0 _ hcA).mono ?_
    rintro e yw5 ⟨rfl, hby5⟩
    have zy5 := hby5.size
    try simp at zy5
    obtain ⟨y5_0_0, y5_0_1, y5_0_2, y5_1_0, y5_1_1, y5_1_2, y5_2_0, y5_2_1, y5_2_2⟩ : yw5.cell? ⟨w.heap.size, 0, none⟩ = some (.int .i64 a) ∧ yw5.cell? ⟨w.heap.size, 1, none⟩ = some (.int .i64 b) ∧ yw5.cell? ⟨w.heap.size, 2, none⟩ = some (.int .i64 c) ∧ yw5.cell? ⟨u, 0, none⟩ = some (.int .i64 X) ∧ yw5.cell? ⟨u, 1, none⟩ = some (.int .i64 Y) ∧ yw5.cell? ⟨u, 2, none⟩ = some (.int .i64 Z) ∧ yw5.cell? ⟨v, 0, none⟩ = some (.int .i64 a) ∧ yw5.cell? ⟨v, 1, none⟩ = some (.int .i64 b) ∧ yw5.cell? ⟨v, 2, none⟩ = some (.int .i64 c) := by refine ⟨?_, ?_, ?_, ?_, ?_, ?_, ?_, ?_, ?_⟩ <;> (rw [(bcell hby5).1 _ _ (by first | (simp; done) | (simp; omega) | omega)]; simp [go_sem, World.cell?_alloc_past, *])
    obtain ⟨y5o0, y5n0, y5t0_0, y5o1, y5n1, y5t1_0, y5o2, y5n2, y5t2_0⟩ : w.heap.size < yw5.heap.size ∧ yw5.heap.size ≠ w.heap.size ∧ w.heap.size < yw5.heap.size + 1 ∧ u < yw5.heap.size ∧ yw5.heap.size ≠ u ∧ u < yw5.heap.size + 1 ∧ v < yw5.heap.size ∧ yw5.heap.size ≠ v ∧ v < yw5.heap.size + 1 := by refine ⟨?_, ?_, ?_, ?_, ?_, ?_, ?_, ?_, ?_⟩ <;> omega
    have hBy5 : Below w.heap.size w yw5 := (by (repeat (first | (with_reducible refine Below.drew ?_) | (with_reducible refine below_drewN ?_ _) | (with_reducible refine Below.alloc ?_ (by first | omega | (simp; done) | (simp; omega) | (simp at *; omega)) _) | (with_reducible refine Below.setCell ?_ (by first | omega | (simp; done) | (simp; omega) | (simp at *; omega)) _) | (with_reducible exact Below.refl _ _) | (with_reducible assumption) | (with_reducible refine Below.trans ?_ (Below.mono (by assumption) (by first | omega | (simp; done) | (simp; omega) | (simp at *; omega)))))))
    clear hby5 y4_0_0 y4_0_1 y4_0_2 y4_1_0 y4_1_1 y4_1_2 y4_2_0 y4_2_1 y4_2_2 y4o0 y4n0 y4t0_0 y4o1 y4n1 y4t1_0 y4o2 y4n2 y4t2_0 hBy4
    go_wp2_with fail
    refine hK.out _ _ (by simp [go_sem, World.cell?_alloc_past, *]) (fun hHeld => ?_)
    clear hK K
    try simp only [Act.put, sA, sB, sC]
    refine tkH 34 ⟨some 84, _, _, _, _, _⟩ ?_ rfl ?_ (by assumption) ?_
    rotate_left
    · (intro w hSw; (try dsimp only at hSw); go_simp; all_goals with_reducible rfl)
    try simp only [Act.put, sA, sB, sC]
    refine tkH 35 ⟨some 85, _, _, _, _, _⟩ ?_ rfl ?_ (by assumption) ?_
    rotate_left
    · (intro w hSw; (try dsimp only at hSw); go_simp; all_goals with_reducible rfl)
    try simp only [Act.put, sA, sB, sC]
    refine wpAnyH_done (by kernel_rfl) ?_ _
    go_wp2_with fail
    refine (refSum_ok a b c S _ hc hS).mono ?_
    rintro e yw6 ⟨rfl, hby6⟩
    have zy6 := hby6.size
    try simp at zy6
    obtain ⟨y6_0_0, y6_0_1, y6_0_2, y6_1_0, y6_1_1, y6_1_2, y6_2_0, y6_2_1, y6_2_2⟩ : yw6.cell? ⟨w.heap.size, 0, none⟩ = some (.int .i64 a) ∧ yw6.cell? ⟨w.heap.size, 1, none⟩ = some (.int .i64 b) ∧ yw6.cell? ⟨w.heap.size, 2, none⟩ = some (.int .i64 c) ∧ yw6.cell? ⟨u, 0, none⟩ = some (.int .i64 X) ∧ yw6.cell? ⟨u, 1, none⟩ = some (.int .i64 Y) ∧ yw6.cell? ⟨u, 2, none⟩ = some (.int .i64 Z) ∧ yw6.cell? ⟨v, 0, none⟩ = some (.int .i64 a) ∧ yw6.cell? ⟨v, 1, none⟩ = some (.int .i64 b) ∧ yw6.cell? ⟨v, 2, none⟩ = some (.int .i64 c) := by refine ⟨?_, ?_, ?_, ?_, ?_, ?_, ?_, ?_, ?_⟩ <;> (rw [(bcell hby6).1 _ _ (by first | (simp; done) | (simp; omega) | omega)]; simp [go_sem, World.cell?_alloc_past, *])
    obtain ⟨y6o0, y6n0, y6t0_0, y6o1, y6n1, y6t1_0, y6o2, y6n2, y6t2_0⟩ : w.heap.size < yw6.heap.size ∧ yw6.heap.size ≠ w.heap.size ∧ w.heap.size < yw6.heap.size + 1 ∧ u < yw6.heap.size ∧ yw6.heap.size ≠ u ∧ u < yw6.heap.size + 1 ∧ v < yw6.heap.size ∧ yw6.heap.size ≠ v ∧ v < yw6.heap.size + 1 := by refine ⟨?_, ?_, ?_, ?_, ?_, ?_, ?_, ?_, ?_⟩ <;> omega
    have hBy6 : Below w.heap.size w yw6 := (by (repeat (first | (with_reducible refine Below.drew ?_) | (with_reducible refine below_drewN ?_ _) | (with_reducible refine Below.alloc ?_ (by first | omega | (simp; done) | (simp; omega) | (simp at *; omega)) _) | (with_reducible refine Below.setCell ?_ (by first | omega | (simp; done) | (simp; omega) | (simp at *; omega)) _) | (with_reducible exact Below.refl _ _) | (with_reducible assumption) | (with_reducible refine Below.trans ?_ (Below.mono (by assumption) (by first | omega | (simp; done) | (simp; omega) | (simp at *; omega)))))))
    clear hby6 y5_0_0 y5_0_1 y5_0_2 y5_1_0 y5_1_1 y5_1_2 y5_2_0 y5_2_1 y5_2_2 y5o0 y5n0 y5t0_0 y5o1 y5n1 y5t1_0 y5o2 y5n2 y5t2_0 hBy5
    go_wp2_with (first | (go_at_call 38; ((with_reducible refine (baseSize_le D0 s0 _ d0.1 d0.2 hs0).mono ?_)); rintro e w' ⟨rfl, rfl⟩) | (go_at_call 38; ((with_reducible refine (baseSize_le D1 s1 _ d1.1 d1.2 hs1).mono ?_)); rintro e w' ⟨rfl, rfl⟩) | (go_at_call 38; ((with_reducible refine (baseSize_le D2 s2 _ d2.1 d2.2 hs2).mono ?_)); rintro e w' ⟨rfl, rfl⟩))
    go_ret
    exact ⟨rfl, (by (repeat (first | (with_reducible refine Below.drew ?_) | (with_reducible refine below_drewN ?_ _) | (with_reducible refine Below.alloc ?_ (by first | omega | (simp; done) | (simp; omega) | (simp at *; omega)) _) | (with_reducible refine Below.setCell ?_ (by first | omega | (simp; done) | (simp; omega) | (simp at *; omega)) _) | (with_reducible exact Below.refl _ _) | (with_reducible assumption) | (with_reducible refine Below.trans ?_ (Below.mono (by assumption) (by first | omega | (simp; done) | (simp; omega) | (simp at *; omega)))))))⟩
theorem mul_bd9 {x s : Int} (x0 : 0 ≤ x) (x1 : x ≤ 1000000000) (s0 : 0 ≤ s) (s1 : s ≤ 1000000000) : 0 ≤ x * s ∧ x * s ≤ 1000000000000000000 :=
  ⟨Int.mul_nonneg x0 s0, Int.le_trans (Int.mul_le_mul x1 s1 s0 (by omega)) (by omega)⟩
theorem mixShares_any (a b c m : Int) (w : World) : Calls Try.prog 7 #[.agg #[.int .i64 a, .int .i64 b, .int .i64 c], .int .i64 m] w fun e w' => e = .returned (.bool true) ∧ Below w.heap.size w w' := by
  by_cases hc : conB a b c = true
  · obtain ⟨a0, b0, c0, cs⟩ := conB_iff.1 hc
    rcases inB_cases m 0 (a + b + c) with hi | hi
    · obtain ⟨m0, m1⟩ := inB_iff.1 hi
      obtain ⟨X, Y, Z, hX⟩ : ∃ X Y Z, shareR a b c m = (X, Y, Z) := ⟨_, _, _, rfl⟩
      obtain ⟨e, ⟨x0, x1, x2, x3⟩, ⟨y0, y1, y2, y3⟩, ⟨z0, z1, z2, z3⟩⟩ := share_ok hc m0 m1 hX
      have hE : shaE a b c m = 0 := by unfold shaE; rw [if_pos hc]; exact rngE_t hi
      have hE2 : shaE a b c (a + b + c) = 0 := by unfold shaE; rw [if_pos hc]; exact rngE_t (inB_true (by omega) (by omega))
      have hcX : conB X Y Z = true := conB_iff.2 ⟨x0, y0, z0, by omega⟩
      have hcA : conB (a - X) (b - Y) (c - Z) = true := conB_iff.2 ⟨by omega, by omega, by omega, by omega⟩
      refine mixShares_3 a b c m (a + b + c) X Y Z _ _ _ _ _ _ _ _ _ _ _ _ _ _ _ w (Lib.hid hE) (Lib.hid (by unfold shaR; rw [if_pos hE]; exact hX)) (Lib.hid hX) (Lib.hid (conE_t hc)) (Lib.hid hc) (Lib.hid rfl) (Lib.hid hi) m0 (Lib.hid m1) (Lib.hid hE2) (Lib.hid (by unfold shaR; rw [if_pos hE2]; exact share_all hc)) (Lib.hid (conE_t hcX)) (Lib.hid hcX) (Lib.hid e) (Lib.hid ⟨rfl, rfl, rfl⟩) (Lib.hid (conE_t hcA)) (Lib.hid ⟨rfl, rfl, rfl⟩) (Lib.hid ⟨rfl, rfl, rfl⟩) (Lib.hid ⟨rfl, rfl, rfl⟩) ⟨mul_bd9 x0 (by omega) (by omega) (by omega), mul_bd9 y0 (by omega) (by omega) (by omega), mul_bd9 z0 (by omega) (by omega) (by omega)⟩ ⟨mul_bd9 a0 (by omega) m0 (by omega), mul_bd9 b0 (by omega) m0 (by omega), mul_bd9 c0 (by omega) m0 (by omega)⟩ (Lib.hid rfl) (Lib.hid rfl) (Lib.hid rfl) ?_ ?_ ?_
      · split <;> omega
      · split <;> omega
      · split <;> omega
    · have hE : shaE a b c m = 2 := by unfold shaE; rw [if_pos hc]; exact rngE_f hi
      exact mixShares_2 a b c m (a + b + c) w (Lib.hid hE) (Lib.hid (by unfold shaR; rw [if_neg (by omega)])) (Lib.hid (conE_t hc)) (Lib.hid hc) (Lib.hid rfl) (Lib.hid hi)
  · have hE : shaE a b c m = 2 := by unfold shaE; rw [if_neg hc]
    exact mixShares_1 a b c m w (Lib.hid hE) (Lib.hid (by unfold shaR; rw [if_neg (by omega)])) (Lib.hid (conE_f (by simpa using hc)))
end Go.Proofs.Ytjkhjjmmkdfjmaa
