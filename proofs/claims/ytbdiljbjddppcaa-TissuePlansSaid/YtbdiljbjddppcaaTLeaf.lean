/- The contracts of the small functions that package tissue checks numbers with; the program's root of a level. -/
import Derived.Test.YtbdiljbjddppcaaRoots
import Derived.Outline
namespace Go.Proofs.Ytbdiljbjddppcaa
open Go.ChangeShapes Go.WideShapes Go.ChangeAt Go.RowKit
set_option linter.unusedVariables false
set_option linter.unusedSimpArgs false

theorem cWithin_any (n a b : Int) (w : World) :
    Calls Try.prog 89 #[.int .i64 n, .int .i64 a, .int .i64 b] w fun e w' => e = .returned (.bool (inB n a b)) ∧ w = w' := by
  by_cases h1 : a ≤ n
  · by_cases h2 : n ≤ b
    · have h3 := inB_true h1 h2
      go_enter Try.func89, Try.ntmps89
      go_wp2
      go_ret
      exact ⟨by first | rfl | exact ret_bool h3.symm, rfl⟩
    · have h3 := inB_f2 (a := a) h2
      go_enter Try.func89, Try.ntmps89
      go_wp2
      go_ret
      exact ⟨by first | rfl | exact ret_bool h3.symm, rfl⟩
  · have h3 := inB_f1 (b := b) h1
    go_enter Try.func89, Try.ntmps89
    go_wp2
    go_ret
    exact ⟨by first | rfl | exact ret_bool h3.symm, rfl⟩
theorem cRange_any (n a b : Int) (w : World) :
    Calls Try.prog 59 #[.int .i64 n, .int .i64 a, .int .i64 b] w fun e w' => e = .returned (.int .i64 (rngE n a b)) ∧ w = w' := by
  rcases inB_cases n a b with h | h
  · have h3 := rngE_t h
    go_enter Try.func59, Try.ntmps59
    go_wp2_with (go_at_call 89; refine (cWithin_any _ _ _ _).mono ?_; rintro e w' ⟨rfl, rfl⟩)
    go_ret
    exact ⟨by first | rfl | exact ret_int h3.symm, rfl⟩
  · have h3 := rngE_f h
    go_enter Try.func59, Try.ntmps59
    go_wp2_with (go_at_call 89; refine (cWithin_any _ _ _ _).mono ?_; rintro e w' ⟨rfl, rfl⟩)
    go_ret
    exact ⟨by first | rfl | exact ret_int h3.symm, rfl⟩
theorem tcheckLevel_any (n : Int) (w : World) :
    Calls Try.prog 57 #[.int .i64 n] w fun e w' => e = .returned (.int .i64 (rngE n 0 24)) ∧ w = w' := by
  go_enter Try.func57, Try.ntmps57
  go_wp2_with (go_at_call 59; refine (cRange_any _ _ _ _).mono ?_; rintro e w' ⟨rfl, rfl⟩)
  go_ret
  exact ⟨rfl, rfl⟩
theorem tcheckPressure_any (n : Int) (w : World) :
    Calls Try.prog 52 #[.int .i64 n] w fun e w' => e = .returned (.int .i64 (rngE n 400 31100)) ∧ w = w' := by
  go_enter Try.func52, Try.ntmps52
  go_wp2_with (go_at_call 59; refine (cRange_any _ _ _ _).mono ?_; rintro e w' ⟨rfl, rfl⟩)
  go_ret
  exact ⟨rfl, rfl⟩
theorem tcheckSurface_any (n : Int) (w : World) :
    Calls Try.prog 97 #[.int .i64 n] w fun e w' => e = .returned (.int .i64 (rngE n 400 1100)) ∧ w = w' := by
  go_enter Try.func97, Try.ntmps97
  go_wp2_with (go_at_call 59; refine (cRange_any _ _ _ _).mono ?_; rintro e w' ⟨rfl, rfl⟩)
  go_ret
  exact ⟨rfl, rfl⟩
theorem tcheckFactor_any (n : Int) (w : World) :
    Calls Try.prog 65 #[.int .i64 n] w fun e w' => e = .returned (.int .i64 (rngE n 0 1000)) ∧ w = w' := by
  go_enter Try.func65, Try.ntmps65
  go_wp2_with (go_at_call 59; refine (cRange_any _ _ _ _).mono ?_; rintro e w' ⟨rfl, rfl⟩)
  go_ret
  exact ⟨rfl, rfl⟩
theorem tcheckFine_any (n : Int) (w : World) :
    Calls Try.prog 83 #[.int .i64 n] w fun e w' => e = .returned (.int .i64 (rngE n 0 6)) ∧ w = w' := by
  go_enter Try.func83, Try.ntmps83
  go_wp2_with (go_at_call 59; refine (cRange_any _ _ _ _).mono ?_; rintro e w' ⟨rfl, rfl⟩)
  go_ret
  exact ⟨rfl, rfl⟩
theorem rcs_get : ∀ {n j : Nat}, j < n → (rcs n)[2 * j]? = some (.int .i64 (rootP j).1) ∧ (rcs n)[2 * j + 1]? = some (.int .i64 (rootP j).2)
  | 0, j, h => by omega
  | n + 1, j, h => by
    have hl : ∀ n, (rcs n).length = 2 * n := fun n => by
      induction n with
      | zero => rfl
      | succ n ih => rw [rcs_succ, List.length_append, ih]; simp; omega
    rw [rcs_succ]
    by_cases hj : j < n
    · obtain ⟨h1, h2⟩ := rcs_get hj
      rw [List.getElem?_append_left (by rw [hl]; omega), List.getElem?_append_left (by rw [hl]; omega)]
      exact ⟨h1, h2⟩
    · obtain rfl : j = n := by omega
      rw [List.getElem?_append_right (by rw [hl]; omega), List.getElem?_append_right (by rw [hl]; omega), hl]
      simp
theorem RootOf_bad (n : Int) (w : World) (h : Hid (rngE n 0 24 = 2)) :
    Calls Try.prog 21 #[.int .i64 n] w fun e w' => e = .returned (.tuple #[.agg #[.int .i64 0, .int .i64 0], .int .i64 2]) ∧ Below w.heap.size w w' := by
  have hc : ∀ w, Calls Try.prog 57 #[.int .i64 n] w fun e w' => e = .returned (.int .i64 2) ∧ w = w' := fun w => by
    have := tcheckLevel_any n w
    rw [h.out] at this
    exact this
  have HC := Lib.hid hc
  clear hc
  go_enter Try.func21, Try.ntmps21
  go_wp2_with ((go_at_call 57; ((with_reducible refine (HC.out _).mono ?_)); rintro e w' ⟨rfl, rfl⟩))
  refine bodyPost_ret (v := .tuple #[.agg #[.int .i64 0, .int .i64 0], .int .i64 2]) (by simp [results, Try.results21, go_sem]) rfl ⟨rfl, ?_⟩
  (repeat (first | (with_reducible refine Below.drew ?_) | (with_reducible refine below_drewN ?_ _) | (with_reducible refine Below.alloc ?_ (by first | omega | (simp; done) | (simp; omega) | (simp at *; omega)) _) | (with_reducible refine Below.setCell ?_ (by first | omega | (simp; done) | (simp; omega) | (simp at *; omega)) _) | (with_reducible exact Below.refl _ _) | (with_reducible assumption) | (with_reducible refine Below.trans ?_ (Below.mono (by assumption) (by first | omega | (simp; done) | (simp; omega) | (simp at *; omega))))))
theorem RootOf_good (L : Nat) (w : World) (hL : L ≤ 24) :
    Calls Try.prog 21 #[.int .i64 L] w fun e w' => e = .returned (.tuple #[.agg #[.int .i64 (rootP L).1, .int .i64 (rootP L).2], .int .i64 0]) ∧ Below w.heap.size w w' := by
  have hc : ∀ w, Calls Try.prog 57 #[.int .i64 L] w fun e w' => e = .returned (.int .i64 0) ∧ w = w' := fun w => by
    have := tcheckLevel_any L w
    rw [rngE_t (inB_true (by omega) (by omega))] at this
    exact this
  have HC := Lib.hid hc
  clear hc
  go_enter Try.func21, Try.ntmps21
  go_wp2_with ((go_at_call 57; ((with_reducible refine (HC.out _).mono ?_)); rintro e w' ⟨rfl, rfl⟩))
  go_wp2_with fail
  refine (rootsTo_any L _ (by omega)).mono ?_
  rintro e w1 ⟨v, rfl, hR, hbw1⟩
  obtain ⟨b, cap, rfl, lt, ge, _, _, hcell⟩ := hR
  obtain ⟨hbc1, hbf1⟩ := bcell hbw1
  have hbs1 := hbw1.size
  try simp at hbs1
  try simp at ge
  obtain ⟨g0, g1⟩ := rcs_get (show L < L + 1 by omega)
  have e0 : w1.cell? ⟨b, L * 2, none⟩ = some (.int .i64 (rootP L).1) := by rw [Nat.mul_comm]; exact hcell _ _ g0
  have e1 : w1.cell? ⟨b, L * 2 + 1, none⟩ = some (.int .i64 (rootP L).2) := by rw [Nat.mul_comm]; exact hcell _ _ g1
  have c0 : w1.cell? ⟨w.heap.size, 0, none⟩ = some (.int .i64 0) := by rw [hbc1 _ _ (by simp)]; simp [go_sem]
  have c1 : w1.cell? ⟨w.heap.size, 1, none⟩ = some (.int .i64 0) := by rw [hbc1 _ _ (by simp)]; simp [go_sem]
  have f0 : ∀ j, w1.frozen? ⟨w.heap.size, j, none⟩ = false := by intro j; rw [hbf1 _ _ (by simp)]; simp [go_sem]
  have hB1 : Below w.heap.size w w1 := (by (repeat (first | (with_reducible refine Below.drew ?_) | (with_reducible refine below_drewN ?_ _) | (with_reducible refine Below.alloc ?_ (by first | omega | (simp; done) | (simp; omega) | (simp at *; omega)) _) | (with_reducible refine Below.setCell ?_ (by first | omega | (simp; done) | (simp; omega) | (simp at *; omega)) _) | (with_reducible exact Below.refl _ _) | (with_reducible assumption) | (with_reducible refine Below.trans ?_ (Below.mono (by assumption) (by first | omega | (simp; done) | (simp; omega) | (simp at *; omega)))))))
  clear hbc1 hbf1 hcell g0 g1
  go_wp2
  refine bodyPost_ret (v := .tuple #[.agg #[.int .i64 (rootP L).1, .int .i64 (rootP L).2], .int .i64 0]) (by simp [results, Try.results21, go_sem, *]) rfl ⟨rfl, ?_⟩
  (repeat (first | (with_reducible refine Below.drew ?_) | (with_reducible refine below_drewN ?_ _) | (with_reducible refine Below.alloc ?_ (by first | omega | (simp; done) | (simp; omega) | (simp at *; omega)) _) | (with_reducible refine Below.setCell ?_ (by first | omega | (simp; done) | (simp; omega) | (simp at *; omega)) _) | (with_reducible exact Below.refl _ _) | (with_reducible assumption) | (with_reducible refine Below.trans ?_ (Below.mono (by assumption) (by first | omega | (simp; done) | (simp; omega) | (simp at *; omega))))))
end Go.Proofs.Ytbdiljbjddppcaa
