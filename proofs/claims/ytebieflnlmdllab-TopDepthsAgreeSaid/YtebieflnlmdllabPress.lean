/- What gas.PressureAt, gas.Partial and their specifications return. -/
import Derived.Test.YtebieflnlmdllabDep
import Derived.LoopN
import Derived.Outline
namespace Go.Proofs.Ytebieflnlmdllab
open Go.ChangeShapes Go.WideShapes Go.ChangeAt Go.RowKit
set_option linter.unusedVariables false

def plE (s d : Int) : Int := firE [rngE s 400 1100, rngE d 0 30000]
def plP (s d : Int) : Int := if plE s d = 0 then s + d else 0
theorem IsSurface_any (n : Int) (w : World) :
    Calls Try.prog 36 #[.int .i64 n] w fun e w' => e = .returned (.bool (inB n 400 1100)) ∧ w = w' := by
  go_enter Try.func36, Try.ntmps36
  go_wp2_with ((go_at_call 10; ((with_reducible refine (baseWithin_any _ _ _ _).mono ?_)); rintro e w' ⟨rfl, rfl⟩))
  go_ret
  exact ⟨rfl, rfl⟩
theorem IsDepth_any (n : Int) (w : World) :
    Calls Try.prog 16 #[.int .i64 n] w fun e w' => e = .returned (.bool (inB n 0 30000)) ∧ w = w' := by
  go_enter Try.func16, Try.ntmps16
  go_wp2_with ((go_at_call 10; ((with_reducible refine (baseWithin_any _ _ _ _).mono ?_)); rintro e w' ⟨rfl, rfl⟩))
  go_ret
  exact ⟨rfl, rfl⟩
theorem plE_val (s d : Int) : plE s d = if inB s 400 1100 = true ∧ inB d 0 30000 = true then 0 else 2 := by
  unfold plE rngE
  rcases inB_cases s 400 1100 with h1 | h1 <;> rcases inB_cases d 0 30000 with h2 | h2 <;> simp [h1, h2, firE]
theorem CheckPlace_any (s d : Int) (w : World) :
    Calls Try.prog 14 #[.int .i64 s, .int .i64 d] w fun e w' => e = .returned (.int .i64 (plE s d)) ∧ w = w' := by
  obtain ⟨v, hv⟩ : ∃ v, Hid (plE s d = v) := ⟨_, rfl⟩
  rw [hv.out]
  rcases inB_cases s 400 1100 with h1 | h1 <;> rcases inB_cases d 0 30000 with h2 | h2
  all_goals
    go_enter Try.func14, Try.ntmps14
    go_wp2_with (first | (go_at_call 36; ((with_reducible refine (IsSurface_any _ _).mono ?_)); rintro e w' ⟨rfl, rfl⟩) | (go_at_call 16; ((with_reducible refine (IsDepth_any _ _).mono ?_)); rintro e w' ⟨rfl, rfl⟩))
    go_ret
    exact ⟨ret_int (by rw [← hv.out, plE_val]; simp [h1, h2]), rfl⟩
def paE (o h p : Int) : Int := firE [gasE o h, rngE p 0 100000]
def paV (o h p x : Int) : Int := if paE o h p = 0 then x * p else 0
end Go.Proofs.Ytebieflnlmdllab
