/- What the specifications of limits, aims and depths return. -/
import Derived.Test.YtebieflnlmdllaaDoorFirst
import Derived.Test.YtebieflnlmdllaaDoorPress
import Derived.Test.YtebieflnlmdllaaDoorNums
import Derived.Deep.DrawnRows
import Derived.Outline
namespace Go.Proofs.YtebieflnlmdllaaDoor
open Go.ChangeShapes Go.WideShapes Go.ChangeAt Go.RowKit
set_option linter.unusedVariables false
attribute [local go_sem ↓] Go.wp_at_zero Go.wp_at_succ

theorem baseWithin_t (n a b : Int) (w : World) (h1 : a ≤ n) (h2 : n ≤ b) :
    Calls Tryd.prog 34 #[.int .i64 n, .int .i64 a, .int .i64 b] w fun e w' => e = .returned (.bool true) ∧ w = w' := by
  have := baseWithin_any n a b w
  rw [inB_true h1 h2] at this
  exact this
theorem baseWithin_b (n a b : Int) (x : Bool) (w : World) (hb : Hid (inB n a b = x)) :
    Calls Tryd.prog 34 #[.int .i64 n, .int .i64 a, .int .i64 b] w fun e w' => e = .returned (.bool x) ∧ w = w' := by
  have := baseWithin_any n a b w
  rw [hb.out] at this
  exact this
theorem limE_val (a b : Int) : limE a b = if inB a 1 4000 = true ∧ inB b 1 4000 = true then (if a ≤ b then 0 else 9) else 2 := by
  unfold limE rng2E rngE
  rcases inB_cases a 1 4000 with h1 | h1 <;> rcases inB_cases b 1 4000 with h2 | h2 <;> simp [h1, h2, firE]
theorem refCheckLimits_any (a b : Int) (w : World) :
    Calls Tryd.prog 31 #[.agg #[.int .i64 a, .int .i64 b]] w fun e w' => e = .returned (.int .i64 (limE a b)) ∧ w.alloc (.cells #[.int .i64 a, .int .i64 b] 47) = w' := by
  obtain ⟨v, hv⟩ : ∃ v, Hid (limE a b = v) := ⟨_, rfl⟩
  rw [hv.out]
  by_cases h3 : a ≤ b
  all_goals
    rcases inB_cases a 1 4000 with h1 | h1 <;> rcases inB_cases b 1 4000 with h2 | h2
    all_goals
      go_enter Tryd.func31, Tryd.ntmps31
      go_wp2_with ((go_at_call 34; ((with_reducible refine (baseWithin_any _ _ _ _).mono ?_)); rintro e w' ⟨rfl, rfl⟩))
      go_ret
      exact ⟨ret_int (by rw [← hv.out, limE_val]; simp [h1, h2, h3]), rfl⟩
theorem aimE_val (s d a b n : Int) : aimE s d a b n = if plE s d ≠ 0 then plE s d else if limE a b ≠ 0 then limE a b else if inB n 0 30000 = true then 0 else 2 := by
  rw [plE_val]
  unfold aimE rngE
  rcases inB_cases s 400 1100 with h1 | h1 <;> rcases inB_cases d 0 30000 with h2 | h2 <;> rcases inB_cases n 0 30000 with h3 | h3 <;> simp [h1, h2, h3, firE]
theorem refCheckAim_any (s d a b n : Int) (w : World) :
    Calls Tryd.prog 40 #[.agg #[.int .i64 s, .int .i64 d, .int .i64 a, .int .i64 b, .int .i64 n]] w fun e w' => e = .returned (.int .i64 (aimE s d a b n)) ∧ Below w.heap.size w w' := by
  obtain ⟨v, hv⟩ : ∃ v, Hid (aimE s d a b n = v) := ⟨_, rfl⟩
  have hx := aimE_val s d a b n
  rw [hv.out]
  rw [hv.out] at hx
  have HX := Lib.hid hx
  clear hx
  rcases ez (plE s d) with ⟨h1, b1⟩ | ⟨h1, b1⟩
  · rcases ez (limE a b) with ⟨h2, b2⟩ | ⟨h2, b2⟩
    · rcases inB_cases n 0 30000 with h3 | h3
      all_goals
        have hr := HX.out
        rw [if_neg (by simp [h1.out]), if_neg (by simp [h2.out])] at hr
        simp only [h3] at hr
        have HR := Lib.hid hr
        clear hr
        go_enter Tryd.func40, Tryd.ntmps40
        go_wp2_with (first | (go_at_call 25; ((with_reducible refine (CheckPlace_any _ _ _).mono ?_)); rintro e w' ⟨rfl, rfl⟩) | (go_at_call 31; ((with_reducible refine (refCheckLimits_any _ _ _).mono ?_)); rintro e w' ⟨rfl, rfl⟩) | (go_at_call 74; ((with_reducible refine (IsDepth_any _ _).mono ?_)); rintro e w' ⟨rfl, rfl⟩))
        all_goals try (go_region_held3 (fun w' => w'.cell? ⟨w.heap.size, 0, none⟩ = some (.int .i64 s) ∧ w'.cell? ⟨w.heap.size, 1, none⟩ = some (.int .i64 d) ∧ w'.cell? ⟨w.heap.size, 2, none⟩ = some (.int .i64 a) ∧ w'.cell? ⟨w.heap.size, 3, none⟩ = some (.int .i64 b) ∧ w'.cell? ⟨w.heap.size, 4, none⟩ = some (.int .i64 n)) (simp [go_sem, World.cell?_alloc_past]) (first | (go_at_call 25; ((with_reducible refine (CheckPlace_any _ _ _).mono ?_)); rintro e w' ⟨rfl, rfl⟩)))
        all_goals try (go_wp2_with (first | (go_at_call 25; ((with_reducible refine (CheckPlace_any _ _ _).mono ?_)); rintro e w' ⟨rfl, rfl⟩) | (go_at_call 31; ((with_reducible refine (refCheckLimits_any _ _ _).mono ?_)); rintro e w' ⟨rfl, rfl⟩) | (go_at_call 74; ((with_reducible refine (IsDepth_any _ _).mono ?_)); rintro e w' ⟨rfl, rfl⟩)))
        go_ret
        exact ⟨ret_int (by rw [HR.out]; rfl), (by (repeat (first | (with_reducible refine Below.drew ?_) | (with_reducible refine below_drewN ?_ _) | (with_reducible refine Below.alloc ?_ (by first | omega | (simp; done) | (simp; omega) | (simp at *; omega)) _) | (with_reducible refine Below.setCell ?_ (by first | omega | (simp; done) | (simp; omega) | (simp at *; omega)) _) | (with_reducible exact Below.refl _ _) | (with_reducible assumption) | (with_reducible refine Below.trans ?_ (Below.mono (by assumption) (by first | omega | (simp; done) | (simp; omega) | (simp at *; omega)))))))⟩
    · have hr := HX.out
      rw [if_neg (by simp [h1.out]), if_pos h2.out] at hr
      have HR := Lib.hid hr
      clear hr
      go_enter Tryd.func40, Tryd.ntmps40
      go_wp2_with (first | (go_at_call 25; ((with_reducible refine (CheckPlace_any _ _ _).mono ?_)); rintro e w' ⟨rfl, rfl⟩) | (go_at_call 31; ((with_reducible refine (refCheckLimits_any _ _ _).mono ?_)); rintro e w' ⟨rfl, rfl⟩) | (go_at_call 74; ((with_reducible refine (IsDepth_any _ _).mono ?_)); rintro e w' ⟨rfl, rfl⟩))
      all_goals try (go_region_held3 (fun w' => w'.cell? ⟨w.heap.size, 0, none⟩ = some (.int .i64 s) ∧ w'.cell? ⟨w.heap.size, 1, none⟩ = some (.int .i64 d) ∧ w'.cell? ⟨w.heap.size, 2, none⟩ = some (.int .i64 a) ∧ w'.cell? ⟨w.heap.size, 3, none⟩ = some (.int .i64 b) ∧ w'.cell? ⟨w.heap.size, 4, none⟩ = some (.int .i64 n)) (simp [go_sem, World.cell?_alloc_past]) (first | (go_at_call 25; ((with_reducible refine (CheckPlace_any _ _ _).mono ?_)); rintro e w' ⟨rfl, rfl⟩)))
      all_goals try (go_wp2_with (first | (go_at_call 25; ((with_reducible refine (CheckPlace_any _ _ _).mono ?_)); rintro e w' ⟨rfl, rfl⟩) | (go_at_call 31; ((with_reducible refine (refCheckLimits_any _ _ _).mono ?_)); rintro e w' ⟨rfl, rfl⟩) | (go_at_call 74; ((with_reducible refine (IsDepth_any _ _).mono ?_)); rintro e w' ⟨rfl, rfl⟩)))
      go_ret
      exact ⟨ret_int HR.out.symm, (by (repeat (first | (with_reducible refine Below.drew ?_) | (with_reducible refine below_drewN ?_ _) | (with_reducible refine Below.alloc ?_ (by first | omega | (simp; done) | (simp; omega) | (simp at *; omega)) _) | (with_reducible refine Below.setCell ?_ (by first | omega | (simp; done) | (simp; omega) | (simp at *; omega)) _) | (with_reducible exact Below.refl _ _) | (with_reducible assumption) | (with_reducible refine Below.trans ?_ (Below.mono (by assumption) (by first | omega | (simp; done) | (simp; omega) | (simp at *; omega)))))))⟩
  · have hr := HX.out
    rw [if_pos h1.out] at hr
    have HR := Lib.hid hr
    clear hr
    go_enter Tryd.func40, Tryd.ntmps40
    go_wp2_with (first | (go_at_call 25; ((with_reducible refine (CheckPlace_any _ _ _).mono ?_)); rintro e w' ⟨rfl, rfl⟩) | (go_at_call 31; ((with_reducible refine (refCheckLimits_any _ _ _).mono ?_)); rintro e w' ⟨rfl, rfl⟩) | (go_at_call 74; ((with_reducible refine (IsDepth_any _ _).mono ?_)); rintro e w' ⟨rfl, rfl⟩))
    all_goals try (go_region_held3 (fun w' => w'.cell? ⟨w.heap.size, 0, none⟩ = some (.int .i64 s) ∧ w'.cell? ⟨w.heap.size, 1, none⟩ = some (.int .i64 d) ∧ w'.cell? ⟨w.heap.size, 2, none⟩ = some (.int .i64 a) ∧ w'.cell? ⟨w.heap.size, 3, none⟩ = some (.int .i64 b) ∧ w'.cell? ⟨w.heap.size, 4, none⟩ = some (.int .i64 n)) (simp [go_sem, World.cell?_alloc_past]) (first | (go_at_call 25; ((with_reducible refine (CheckPlace_any _ _ _).mono ?_)); rintro e w' ⟨rfl, rfl⟩)))
    all_goals try (go_wp2_with (first | (go_at_call 25; ((with_reducible refine (CheckPlace_any _ _ _).mono ?_)); rintro e w' ⟨rfl, rfl⟩) | (go_at_call 31; ((with_reducible refine (refCheckLimits_any _ _ _).mono ?_)); rintro e w' ⟨rfl, rfl⟩) | (go_at_call 74; ((with_reducible refine (IsDepth_any _ _).mono ?_)); rintro e w' ⟨rfl, rfl⟩)))
    go_ret
    exact ⟨ret_int HR.out.symm, (by (repeat (first | (with_reducible refine Below.drew ?_) | (with_reducible refine below_drewN ?_ _) | (with_reducible refine Below.alloc ?_ (by first | omega | (simp; done) | (simp; omega) | (simp at *; omega)) _) | (with_reducible refine Below.setCell ?_ (by first | omega | (simp; done) | (simp; omega) | (simp at *; omega)) _) | (with_reducible exact Below.refl _ _) | (with_reducible assumption) | (with_reducible refine Below.trans ?_ (Below.mono (by assumption) (by first | omega | (simp; done) | (simp; omega) | (simp at *; omega)))))))⟩
end Go.Proofs.YtebieflnlmdllaaDoor
