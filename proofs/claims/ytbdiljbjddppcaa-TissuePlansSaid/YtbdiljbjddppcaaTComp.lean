/- What tissue.checkCompartment and the specification's CheckCompartment return. -/
import Derived.Test.YtbdiljbjddppcaaTFirst
import Derived.Outline
namespace Go.Proofs.Ytbdiljbjddppcaa
open Go.ChangeShapes Go.WideShapes Go.ChangeAt Go.RowKit
set_option linter.unusedVariables false
set_option linter.unusedSimpArgs false

/-- The error of a compartment: half times of nitrogen and helium, base, slope. -/
def cmpE (n h b s : Int) : Int := firE [rngE n 1 100000, rngE h 1 100000, rngE b 0 10000, rngE s 1000 10000]
set_option maxHeartbeats 1000000 in
theorem checkCompartment_any (n h b s : Int) (w : World) :
    Calls Try.prog 64 #[.agg #[.int .i64 n, .int .i64 h, .int .i64 b, .int .i64 s]] w fun e w' => e = .returned (.int .i64 (cmpE n h b s)) ∧ Below w.heap.size w w' := by
  go_enter Try.func64, Try.ntmps64
  go_wp2
  go_region_held3 (fun w' => w'.cell? ⟨w.heap.size, 0, none⟩ = some (.int .i64 n) ∧ w'.cell? ⟨w.heap.size, 1, none⟩ = some (.int .i64 h) ∧ w'.cell? ⟨w.heap.size, 2, none⟩ = some (.int .i64 b) ∧ w'.cell? ⟨w.heap.size, 3, none⟩ = some (.int .i64 s)) (simp [go_sem, World.cell?_alloc_past])
    (first
      | (go_at_call 59; ((with_reducible refine (cRange_any _ _ _ _).mono ?_)); rintro e w' ⟨rfl, rfl⟩)
      | (go_at_call 50; ((with_reducible refine (cFirst4c (rngE n 1 100000) (rngE h 1 100000) (rngE b 0 10000) (rngE s 1000 10000) _ _ (by simp [go_sem]) (by simp [go_sem]) (by simp [go_sem]) (by simp [go_sem])).mono ?_)); rintro e w' ⟨rfl, rfl⟩))
  go_wp2
  go_ret
  exact ⟨rfl, (by (repeat (first | (with_reducible refine Below.drew ?_) | (with_reducible refine below_drewN ?_ _) | (with_reducible refine Below.alloc ?_ (by first | omega | (simp; done) | (simp; omega) | (simp at *; omega)) _) | (with_reducible refine Below.setCell ?_ (by first | omega | (simp; done) | (simp; omega) | (simp at *; omega)) _) | (with_reducible exact Below.refl _ _) | (with_reducible assumption) | (with_reducible refine Below.trans ?_ (Below.mono (by assumption) (by first | omega | (simp; done) | (simp; omega) | (simp at *; omega)))))))⟩
end Go.Proofs.Ytbdiljbjddppcaa
