/- What gas.Held, gas.PressureOf and shotlineref01.IsSize return. -/
import Derived.Test.YtebieflnlmdllabDoorDep
import Derived.Test.YtebieflnlmdllabDoorNums
import Derived.Outline
namespace Go.Proofs.YtebieflnlmdllabDoor
open Go.ChangeShapes Go.WideShapes Go.ChangeAt Go.RowKit
set_option linter.unusedVariables false

theorem fir2_val (x y : Bool) : firE [if x = true then 0 else 2, if y = true then 0 else 2] = if x = true ∧ y = true then 0 else 2 := by
  cases x <;> cases y <;> decide
theorem IsSize_any (n : Int) (w : World) :
    Calls Tryd.prog 17 #[.int .i64 n] w fun e w' => e = .returned (.bool (inB n 1 100000)) ∧ w = w' := by
  go_enter Tryd.func17, Tryd.ntmps17
  go_wp2_with ((go_at_call 13; ((with_reducible refine (baseWithin_any _ _ _ _).mono ?_)); rintro e w' ⟨rfl, rfl⟩))
  go_ret
  exact ⟨rfl, rfl⟩
def hdE (s p : Int) : Int := firE [rngE s 1 100000, rngE p 0 400000]
def poE (s a : Int) : Int := firE [rngE s 1 100000, rngE a 0 1000000000]
theorem hdE_ok {s p : Int} (h1 : inB s 1 100000 = true) (h2 : inB p 0 400000 = true) : hdE s p = 0 := by unfold hdE; rw [rngE_t h1, rngE_t h2]; decide
theorem hdE_b1 {s p : Int} (h1 : inB s 1 100000 = false) : hdE s p = 2 := by unfold hdE; rw [rngE_f h1]; simp [firE]
theorem hdE_b2 {s p : Int} (h1 : inB s 1 100000 = true) (h2 : inB p 0 400000 = false) : hdE s p = 2 := by unfold hdE; rw [rngE_t h1, rngE_f h2]; decide
theorem poE_ok {s p : Int} (h1 : inB s 1 100000 = true) (h2 : inB p 0 1000000000 = true) : poE s p = 0 := by unfold poE; rw [rngE_t h1, rngE_t h2]; decide
theorem poE_b1 {s p : Int} (h1 : inB s 1 100000 = false) : poE s p = 2 := by unfold poE; rw [rngE_f h1]; simp [firE]
theorem poE_b2 {s p : Int} (h1 : inB s 1 100000 = true) (h2 : inB p 0 1000000000 = false) : poE s p = 2 := by unfold poE; rw [rngE_t h1, rngE_f h2]; decide
theorem Held_ok (s p : Int) (w : World) (h : Hid (hdE s p = 0)) (k1 : 1 ≤ s) (k2 : s ≤ 100000) (k3 : 0 ≤ p) (k4 : p ≤ 400000) :
    Calls Tryd.prog 15 #[.int .i64 s, .int .i64 p] w fun e w' => e = .returned (.tuple #[.int .i64 (s * p / 1000), .int .i64 0]) ∧ Below w.heap.size w w' := by
  have hb : (hdE s p != 0) = false := by rw [h.out]; rfl
  unfold hdE at hb
  have m1 : 0 ≤ s * p := Int.mul_nonneg (by omega) k3
  have m2 : s * p ≤ 100000 * 400000 := Int.mul_le_mul k2 k4 k3 (by omega)
  have u1 : IntKind.i64.wrap (s * p) = s * p := IntWalk.i64_in _ (by omega)
  have u2 := quo_in (s * p) 1000 m1 (by omega) (by omega)
  have u3 : (s * p).tdiv 1000 = s * p / 1000 := Int.tdiv_eq_ediv_of_nonneg m1
  go_enter Tryd.func15, Tryd.ntmps15
  go_wp2_with (first | (go_at_call 35; ((with_reducible refine (checkSize_any _ _).mono ?_)); rintro e w' ⟨rfl, rfl⟩) | (go_at_call 36; ((with_reducible refine (checkRange_any _ _ _ _).mono ?_)); rintro e w' ⟨rfl, rfl⟩) | (go_at_call 34; ((with_reducible refine (firstOf2c (rngE s 1 100000) (rngE p 0 400000) _ _ (by simp [go_sem]) (by simp [go_sem])).mono ?_)); rintro e w' ⟨rfl, rfl⟩))
  go_ret2
  exact ⟨rfl, (by (repeat (first | (with_reducible refine Below.drew ?_) | (with_reducible refine below_drewN ?_ _) | (with_reducible refine Below.alloc ?_ (by first | omega | (simp; done) | (simp; omega) | (simp at *; omega)) _) | (with_reducible refine Below.setCell ?_ (by first | omega | (simp; done) | (simp; omega) | (simp at *; omega)) _) | (with_reducible exact Below.refl _ _) | (with_reducible assumption) | (with_reducible refine Below.trans ?_ (Below.mono (by assumption) (by first | omega | (simp; done) | (simp; omega) | (simp at *; omega)))))))⟩
theorem Held_bad (s p : Int) (w : World) (h : Hid (hdE s p = 2)) :
    Calls Tryd.prog 15 #[.int .i64 s, .int .i64 p] w fun e w' => e = .returned (.tuple #[.int .i64 0, .int .i64 2]) ∧ Below w.heap.size w w' := by
  have hb : (hdE s p != 0) = true := by rw [h.out]; rfl
  have hx : Hid (firE [rngE s 1 100000, rngE p 0 400000] = 2) := h
  unfold hdE at hb
  clear h
  go_enter Tryd.func15, Tryd.ntmps15
  go_wp2_with (first | (go_at_call 35; ((with_reducible refine (checkSize_any _ _).mono ?_)); rintro e w' ⟨rfl, rfl⟩) | (go_at_call 36; ((with_reducible refine (checkRange_any _ _ _ _).mono ?_)); rintro e w' ⟨rfl, rfl⟩) | (go_at_call 34; ((with_reducible refine (firstOf2c (rngE s 1 100000) (rngE p 0 400000) _ _ (by simp [go_sem]) (by simp [go_sem])).mono ?_)); rintro e w' ⟨rfl, rfl⟩))
  go_ret2
  exact ⟨by rw [hx.out]; rfl, (by (repeat (first | (with_reducible refine Below.drew ?_) | (with_reducible refine below_drewN ?_ _) | (with_reducible refine Below.alloc ?_ (by first | omega | (simp; done) | (simp; omega) | (simp at *; omega)) _) | (with_reducible refine Below.setCell ?_ (by first | omega | (simp; done) | (simp; omega) | (simp at *; omega)) _) | (with_reducible exact Below.refl _ _) | (with_reducible assumption) | (with_reducible refine Below.trans ?_ (Below.mono (by assumption) (by first | omega | (simp; done) | (simp; omega) | (simp at *; omega)))))))⟩
theorem PressureOf_ok (s a : Int) (w : World) (h : Hid (poE s a = 0)) (k1 : 1 ≤ s) (k2 : s ≤ 100000) (k3 : 0 ≤ a) (k4 : a ≤ 1000000000) :
    Calls Tryd.prog 16 #[.int .i64 s, .int .i64 a] w fun e w' => e = .returned (.tuple #[.agg #[.int .i64 (1000 * a / s), .int .i64 ((1000 * a + s - 1) / s)], .int .i64 0]) ∧ Below w.heap.size w w' := by
  have hb : (poE s a != 0) = false := by rw [h.out]; rfl
  unfold poE at hb
  go_enter Tryd.func16, Tryd.ntmps16
  go_wp2_with (first | (go_at_call 35; ((with_reducible refine (checkSize_any _ _).mono ?_)); rintro e w' ⟨rfl, rfl⟩) | (go_at_call 37; ((with_reducible refine (checkAmount_any _ _).mono ?_)); rintro e w' ⟨rfl, rfl⟩) | (go_at_call 34; ((with_reducible refine (firstOf2c (rngE s 1 100000) (rngE a 0 1000000000) _ _ (by simp [go_sem]) (by simp [go_sem])).mono ?_)); rintro e w' ⟨rfl, rfl⟩) | (go_at_call 38; ((with_reducible refine (enclose_any _ _ _ (by omega) (by omega) (by omega) (by omega)).mono ?_)); rintro e w' ⟨rfl, rfl⟩))
  refine bodyPost_ret (v := .tuple #[.agg #[.int .i64 (1000 * a / s), .int .i64 ((1000 * a + s - 1) / s)], .int .i64 0]) (by simp [results, Tryd.results16, go_sem]) rfl ⟨rfl, (by (repeat (first | (with_reducible refine Below.drew ?_) | (with_reducible refine below_drewN ?_ _) | (with_reducible refine Below.alloc ?_ (by first | omega | (simp; done) | (simp; omega) | (simp at *; omega)) _) | (with_reducible refine Below.setCell ?_ (by first | omega | (simp; done) | (simp; omega) | (simp at *; omega)) _) | (with_reducible exact Below.refl _ _) | (with_reducible assumption) | (with_reducible refine Below.trans ?_ (Below.mono (by assumption) (by first | omega | (simp; done) | (simp; omega) | (simp at *; omega)))))))⟩
theorem PressureOf_bad (s a : Int) (w : World) (h : Hid (poE s a = 2)) :
    Calls Tryd.prog 16 #[.int .i64 s, .int .i64 a] w fun e w' => e = .returned (.tuple #[.agg #[.int .i64 0, .int .i64 0], .int .i64 2]) ∧ Below w.heap.size w w' := by
  have hb : (poE s a != 0) = true := by rw [h.out]; rfl
  have hx : Hid (firE [rngE s 1 100000, rngE a 0 1000000000] = 2) := h
  unfold poE at hb
  clear h
  go_enter Tryd.func16, Tryd.ntmps16
  go_wp2_with (first | (go_at_call 35; ((with_reducible refine (checkSize_any _ _).mono ?_)); rintro e w' ⟨rfl, rfl⟩) | (go_at_call 37; ((with_reducible refine (checkAmount_any _ _).mono ?_)); rintro e w' ⟨rfl, rfl⟩) | (go_at_call 34; ((with_reducible refine (firstOf2c (rngE s 1 100000) (rngE a 0 1000000000) _ _ (by simp [go_sem]) (by simp [go_sem])).mono ?_)); rintro e w' ⟨rfl, rfl⟩))
  refine bodyPost_ret (v := .tuple #[.agg #[.int .i64 0, .int .i64 0], .int .i64 2]) (by simp [results, Tryd.results16, go_sem, hx.out]) rfl ⟨rfl, (by (repeat (first | (with_reducible refine Below.drew ?_) | (with_reducible refine below_drewN ?_ _) | (with_reducible refine Below.alloc ?_ (by first | omega | (simp; done) | (simp; omega) | (simp at *; omega)) _) | (with_reducible refine Below.setCell ?_ (by first | omega | (simp; done) | (simp; omega) | (simp at *; omega)) _) | (with_reducible exact Below.refl _ _) | (with_reducible assumption) | (with_reducible refine Below.trans ?_ (Below.mono (by assumption) (by first | omega | (simp; done) | (simp; omega) | (simp at *; omega)))))))⟩
end Go.Proofs.YtebieflnlmdllabDoor
