import Derived.Test.YtjkhjjmmkdfjmaaBBFShare2
import Derived.Test.YtjkhjjmmkdfjmaaBBFNamed
import Derived.Test.YtjkhjjmmkdfjmaaBBLastReg
import Derived.Outline
namespace Go.Proofs.Ytjkhjjmmkdfjmaa
open Go.ChangeShapes Go.WideShapes Go.ChangeAt Go.RowKit
set_option linter.unusedVariables false
set_option linter.unusedSimpArgs false
attribute [local go_sem ↓] Go.wp_at_zero Go.wp_at_succ
theorem refSum_b (a b c s : Int) (w : World) (a0 : 0 ≤ a) (a1 : a ≤ 1000000000) (b0 : 0 ≤ b) (b1 : b ≤ 1000000000) (c0 : 0 ≤ c) (c1 : c ≤ 1000000000) (hs : Hid (a + b + c = s)) : Calls Try.prog 30 #[.agg #[.int .i64 a, .int .i64 b, .int .i64 c]] w fun e w' => e = .returned (.int .i64 s) ∧ Below w.heap.size w w' := by
  go_enter Try.func30, Try.ntmps30
  go_wp2
  go_ret
  exact ⟨ret_int hs.out, belA⟩
theorem refSum_ok (a b c s : Int) (w : World) (h : Hid (conB a b c = true)) (hs : Hid (a + b + c = s)) : Calls Try.prog 30 #[.agg #[.int .i64 a, .int .i64 b, .int .i64 c]] w fun e w' => e = .returned (.int .i64 s) ∧ Below w.heap.size w w' := by
  obtain ⟨h1, h2, h3, h4⟩ := conB_iff.1 h.out
  exact refSum_b a b c s w h1 (by omega) h2 (by omega) h3 (by omega) hs
theorem conB_alt (a b c : Int) : conB a b c = (inB a 0 1000000000 && inB b 0 1000000000 && inB c 0 1000000000 && decide (a + b + c ≤ 1000000000)) := by
  rw [Bool.eq_iff_iff, conB_iff]
  simp only [Bool.and_eq_true, inB_iff, decide_eq_true_eq]
  omega
set_option maxHeartbeats 1000000 in
set_option maxRecDepth 100000 in
theorem refCheckContent_any (a b c E : Int) (w : World) (hE : Hid (conE a b c = E)) : Calls Try.prog 32 #[.agg #[.int .i64 a, .int .i64 b, .int .i64 c]] w fun e w' => e = .returned (.int .i64 E) ∧ Below w.heap.size w w' := by
  have hA := conB_alt a b c
  rcases inB_cases a 0 1000000000 with h1 | h1
  · rcases inB_cases b 0 1000000000 with h2 | h2
    · rcases inB_cases c 0 1000000000 with h3 | h3
      · obtain ⟨⟨a0, a1⟩, ⟨b0, b1⟩, c0, c1⟩ := And.intro (inB_iff.1 h1) (And.intro (inB_iff.1 h2) (inB_iff.1 h3))
        obtain ⟨s, hs⟩ : ∃ z, Hid (a + b + c = z) := ⟨_, Lib.hid rfl⟩
        rw [h1, h2, h3] at hA
        by_cases h4 : a + b + c ≤ 1000000000
        · have hr : Hid (E = 0) := Lib.hid (by rw [← hE.out]; exact conE_t (by rw [hA]; simpa using h4))
          have s1 : s ≤ 1000000000 := by rw [← hs.out]; exact h4
          clear hE hA h4
          go_enter Try.func32, Try.ntmps32
          go_wp2_with (first | (go_at_call 33; ((with_reducible refine (baseWithin_any _ _ _ _).mono ?_)); rintro e w' ⟨rfl, rfl⟩) | (go_at_call 30; ((with_reducible refine (refSum_b a b c s _ a0 a1 b0 b1 c0 c1 hs).mono ?_)); rintro e w1 ⟨rfl, hbw⟩; obtain ⟨hbc, hbf⟩ := bcell hbw; have hbs := hbw.size))
          go_ret
          exact ⟨ret_int hr.out.symm, belA⟩
        · have hr : Hid (E = 2) := Lib.hid (by rw [← hE.out]; exact conE_f (by rw [hA]; simpa using h4))
          have s1 : 1000000000 < s := by rw [← hs.out]; omega
          clear hE hA h4
          go_enter Try.func32, Try.ntmps32
          go_wp2_with (first | (go_at_call 33; ((with_reducible refine (baseWithin_any _ _ _ _).mono ?_)); rintro e w' ⟨rfl, rfl⟩) | (go_at_call 30; ((with_reducible refine (refSum_b a b c s _ a0 a1 b0 b1 c0 c1 hs).mono ?_)); rintro e w1 ⟨rfl, hbw⟩; obtain ⟨hbc, hbf⟩ := bcell hbw; have hbs := hbw.size))
          go_ret
          exact ⟨ret_int hr.out.symm, belA⟩
      · have hr : Hid (E = 2) := Lib.hid (by rw [← hE.out]; exact conE_f (by rw [hA, h1, h2, h3]; rfl))
        clear hE hA
        go_enter Try.func32, Try.ntmps32
        go_wp2_with (go_at_call 33; ((with_reducible refine (baseWithin_any _ _ _ _).mono ?_)); rintro e w' ⟨rfl, rfl⟩)
        go_ret
        exact ⟨ret_int hr.out.symm, belA⟩
    · have hr : Hid (E = 2) := Lib.hid (by rw [← hE.out]; exact conE_f (by rw [hA, h1, h2]; rfl))
      clear hE hA
      go_enter Try.func32, Try.ntmps32
      go_wp2_with (go_at_call 33; ((with_reducible refine (baseWithin_any _ _ _ _).mono ?_)); rintro e w' ⟨rfl, rfl⟩)
      go_ret
      exact ⟨ret_int hr.out.symm, belA⟩
  · have hr : Hid (E = 2) := Lib.hid (by rw [← hE.out]; exact conE_f (by rw [hA, h1]; rfl))
    clear hE hA
    go_enter Try.func32, Try.ntmps32
    go_wp2_with (go_at_call 33; ((with_reducible refine (baseWithin_any _ _ _ _).mono ?_)); rintro e w' ⟨rfl, rfl⟩)
    go_ret
    exact ⟨ret_int hr.out.symm, belA⟩
end Go.Proofs.Ytjkhjjmmkdfjmaa
