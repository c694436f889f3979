/- What gas.PressureAt, gas.Partial and their specifications return. -/
import Derived.Test.YtbdiljbjddppcaaDep
import Derived.LoopN
import Derived.Outline
namespace Go.Proofs.Ytbdiljbjddppcaa
open Go.ChangeShapes Go.WideShapes Go.ChangeAt Go.RowKit
set_option linter.unusedVariables false

def plE (s d : Int) : Int := firE [rngE s 400 1100, rngE d 0 30000]
def plP (s d : Int) : Int := if plE s d = 0 then s + d else 0
theorem PressureAt_any (s d : Int) (w : World) :
    Calls Try.prog 78 #[.int .i64 s, .int .i64 d] w fun e w' => e = .returned (.tuple #[.int .i64 (plP s d), .int .i64 (plE s d)]) ∧ Below w.heap.size w w' := by
  rcases ez (plE s d) with ⟨h, hb⟩ | ⟨h, hb⟩
  · obtain ⟨h1, h2⟩ := firE2_z (show firE [rngE s 400 1100, rngE d 0 30000] = 0 from h.out)
    obtain ⟨k1, k2⟩ := rngE_z h1
    obtain ⟨k3, k4⟩ := rngE_z h2
    have hp : Hid (plP s d = s + d) := if_pos h.out
    have he : Hid (plE s d = 0) := h.out
    rw [hp.out, he.out]
    unfold plE at hb
    clear h1 h2 h
    go_enter Try.func78, Try.ntmps78
    go_wp2_with (first | (go_at_call 100; ((with_reducible refine (checkSurface_any _ _).mono ?_)); rintro e w' ⟨rfl, rfl⟩) | (go_at_call 101; ((with_reducible refine (checkDepth_any _ _).mono ?_)); rintro e w' ⟨rfl, rfl⟩) | (go_at_call 99; ((with_reducible refine (firstOf2c (rngE s 400 1100) (rngE d 0 30000) _ _ (by simp [go_sem]) (by simp [go_sem])).mono ?_)); rintro e w' ⟨rfl, rfl⟩))
    go_ret2
    exact ⟨rfl, (by (repeat (first | (with_reducible refine Below.drew ?_) | (with_reducible refine below_drewN ?_ _) | (with_reducible refine Below.alloc ?_ (by first | omega | (simp; done) | (simp; omega) | (simp at *; omega)) _) | (with_reducible refine Below.setCell ?_ (by first | omega | (simp; done) | (simp; omega) | (simp at *; omega)) _) | (with_reducible exact Below.refl _ _) | (with_reducible assumption) | (with_reducible refine Below.trans ?_ (Below.mono (by assumption) (by first | omega | (simp; done) | (simp; omega) | (simp at *; omega)))))))⟩
  · have hp : Hid (plP s d = 0) := if_neg h.out
    rw [hp.out]
    unfold plE at hb ⊢
    clear h
    go_enter Try.func78, Try.ntmps78
    go_wp2_with (first | (go_at_call 100; ((with_reducible refine (checkSurface_any _ _).mono ?_)); rintro e w' ⟨rfl, rfl⟩) | (go_at_call 101; ((with_reducible refine (checkDepth_any _ _).mono ?_)); rintro e w' ⟨rfl, rfl⟩) | (go_at_call 99; ((with_reducible refine (firstOf2c (rngE s 400 1100) (rngE d 0 30000) _ _ (by simp [go_sem]) (by simp [go_sem])).mono ?_)); rintro e w' ⟨rfl, rfl⟩))
    go_ret2
    exact ⟨rfl, (by (repeat (first | (with_reducible refine Below.drew ?_) | (with_reducible refine below_drewN ?_ _) | (with_reducible refine Below.alloc ?_ (by first | omega | (simp; done) | (simp; omega) | (simp at *; omega)) _) | (with_reducible refine Below.setCell ?_ (by first | omega | (simp; done) | (simp; omega) | (simp at *; omega)) _) | (with_reducible exact Below.refl _ _) | (with_reducible assumption) | (with_reducible refine Below.trans ?_ (Below.mono (by assumption) (by first | omega | (simp; done) | (simp; omega) | (simp at *; omega)))))))⟩
def paE (o h p : Int) : Int := firE [gasE o h, rngE p 0 100000]
def paV (o h p x : Int) : Int := if paE o h p = 0 then x * p else 0
end Go.Proofs.Ytbdiljbjddppcaa
