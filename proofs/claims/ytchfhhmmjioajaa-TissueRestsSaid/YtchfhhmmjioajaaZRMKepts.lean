import Derived.Test.YtchfhhmmjioajaaZRMLimits
import Derived.Test.YtchfhhmmjioajaaZRMRefChk
import Derived.Test.YtchfhhmmjioajaaZRMSmall
import Derived.Test.YtchfhhmmjioajaaZRTCeil
import Derived.Test.YtchfhhmmjioajaaZRTAwake
import Derived.Deep.DrawnRows
import Derived.Outline
import Derived.Deep.CutRange
import Derived.Deep.CutBlock
/- Limits at a pressure: the program's line, and the specification's. -/
namespace Go.Proofs.Ytchfhhmmjioajaa
open Go.ChangeShapes Go.WideShapes Go.ChangeAt Go.RowKit
set_option linter.unusedVariables false
set_option linter.unusedSimpArgs false
attribute [local go_sem ↓] Go.wp_at_zero Go.wp_at_succ
end Go.Proofs.Ytchfhhmmjioajaa

/- Whether loads keep the limits at a pressure: tissue.keptAt. -/
namespace Go.Proofs.Ytchfhhmmjioajaa
open Go.ChangeShapes Go.WideShapes Go.ChangeAt Go.RowKit
set_option linter.unusedVariables false
set_option linter.unusedSimpArgs false
attribute [local go_sem ↓] Go.wp_at_zero Go.wp_at_succ
end Go.Proofs.Ytchfhhmmjioajaa

/- Whether loads keep the limits at a pressure: tissue.KeptAt, and the specification's. -/
namespace Go.Proofs.Ytchfhhmmjioajaa
open Go.ChangeShapes Go.WideShapes Go.ChangeAt Go.RowKit
set_option linter.unusedVariables false
set_option linter.unusedSimpArgs false
attribute [local go_sem ↓] Go.wp_at_zero Go.wp_at_succ
end Go.Proofs.Ytchfhhmmjioajaa

/- Whether loads keep the limits at a pressure: the specification's KeptAt. -/
namespace Go.Proofs.Ytchfhhmmjioajaa
open Go.ChangeShapes Go.WideShapes Go.ChangeAt Go.RowKit
set_option linter.unusedVariables false
set_option linter.unusedSimpArgs false
attribute [local go_sem ↓] Go.wp_at_zero Go.wp_at_succ
end Go.Proofs.Ytchfhhmmjioajaa

/- Small contracts for the statements on limits: light, KeptAt at every input. -/
namespace Go.Proofs.Ytchfhhmmjioajaa
open Go.ChangeShapes Go.WideShapes Go.ChangeAt Go.RowKit
set_option linter.unusedVariables false
set_option linter.unusedSimpArgs false
attribute [local go_sem ↓] Go.wp_at_zero Go.wp_at_succ
theorem light_is (T : List Cm) (L : List Ld) (A B : Option Addr) (cap cap' : Nat) (fr tz se o hh fi : Int) (r : Bool) (w : World) (hl : L.length ≤ 9223372036854775807) (hr : Hid ((fewB T.length && decide (L.length ≤ 19)) = r)) :
    Calls Try.prog 32 #[.agg #[.slice A T.length cap, .slice B L.length cap', .int .i64 fr, .int .i64 tz, .int .i64 se, .int .i64 o, .int .i64 hh, .int .i64 fi]] w fun e w' => e = .returned (.bool r) ∧ Below w.heap.size w w' := by
  cases hf : fewB T.length with
  | false =>
    have HF := Lib.hid (fun w => few_is T.length A cap false w (Lib.hid hf))
    have hv : Hid (r = false) := by show _ = _; rw [← hr.out, hf]; rfl
    clear hf hr
    go_enter Try.func32, Try.ntmps32
    go_wp2_with ((go_at_call 21; ((with_reducible refine (HF.out _).mono ?_)); rintro e w' ⟨rfl, rfl⟩))
    go_ret
    exact ⟨by first | exact ret_bool hv.out.symm | exact ret_bool (by rw [hv.out]; simp; omega), (by (repeat (first | (with_reducible refine Below.drew ?_) | (with_reducible refine below_drewN ?_ _) | (with_reducible refine Below.alloc ?_ (by first | omega | (simp; done) | (simp; omega) | (simp at *; omega)) _) | (with_reducible refine Below.setCell ?_ (by first | omega | (simp; done) | (simp; omega) | (simp at *; omega)) _) | (with_reducible exact Below.refl _ _) | (with_reducible assumption) | (with_reducible refine Below.trans ?_ (Below.mono (by assumption) (by first | omega | (simp; done) | (simp; omega) | (simp at *; omega)))))))⟩
  | true =>
    have HF := Lib.hid (fun w => few_is T.length A cap true w (Lib.hid hf))
    by_cases h19 : L.length ≤ 19
    · have h19' : (L.length : Int) ≤ 19 := by omega
      have hv : Hid (r = true) := by show _ = _; rw [← hr.out, hf]; simp [h19]
      clear hf hr h19
      go_enter Try.func32, Try.ntmps32
      go_wp2_with ((go_at_call 21; ((with_reducible refine (HF.out _).mono ?_)); rintro e w' ⟨rfl, rfl⟩))
      go_ret
      exact ⟨by first | exact ret_bool hv.out.symm | exact ret_bool (by rw [hv.out]; simp; omega), (by (repeat (first | (with_reducible refine Below.drew ?_) | (with_reducible refine below_drewN ?_ _) | (with_reducible refine Below.alloc ?_ (by first | omega | (simp; done) | (simp; omega) | (simp at *; omega)) _) | (with_reducible refine Below.setCell ?_ (by first | omega | (simp; done) | (simp; omega) | (simp at *; omega)) _) | (with_reducible exact Below.refl _ _) | (with_reducible assumption) | (with_reducible refine Below.trans ?_ (Below.mono (by assumption) (by first | omega | (simp; done) | (simp; omega) | (simp at *; omega)))))))⟩
    · have h19' : ¬ (L.length : Int) ≤ 19 := by omega
      have hv : Hid (r = false) := by show _ = _; rw [← hr.out, hf]; simp [h19]
      clear hf hr h19
      go_enter Try.func32, Try.ntmps32
      go_wp2_with ((go_at_call 21; ((with_reducible refine (HF.out _).mono ?_)); rintro e w' ⟨rfl, rfl⟩))
      go_ret
      exact ⟨by first | exact ret_bool hv.out.symm | exact ret_bool (by rw [hv.out]; simp; omega), (by (repeat (first | (with_reducible refine Below.drew ?_) | (with_reducible refine below_drewN ?_ _) | (with_reducible refine Below.alloc ?_ (by first | omega | (simp; done) | (simp; omega) | (simp at *; omega)) _) | (with_reducible refine Below.setCell ?_ (by first | omega | (simp; done) | (simp; omega) | (simp at *; omega)) _) | (with_reducible exact Below.refl _ _) | (with_reducible assumption) | (with_reducible refine Below.trans ?_ (Below.mono (by assumption) (by first | omega | (simp; done) | (simp; omega) | (simp at *; omega)))))))⟩
theorem few_le {n : Nat} (h : fewB n = true) : n ≤ 18 := by
  unfold fewB at h
  simp at h
  omega
end Go.Proofs.Ytchfhhmmjioajaa
