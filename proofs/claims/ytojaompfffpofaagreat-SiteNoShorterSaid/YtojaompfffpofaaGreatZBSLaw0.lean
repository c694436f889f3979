import Derived.Test.YtojaompfffpofaaGreatZBSLat
import Derived.Outline
namespace Go.Proofs.YtojaompfffpofaaGreat
open Go.ChangeShapes Go.WideShapes Go.ChangeAt Go.RowKit
set_option linter.unusedVariables false
set_option linter.unusedSimpArgs false
attribute [local go_sem ↓] Go.wp_at_zero Go.wp_at_succ
/-- The table of the example. -/
def exL : List Wv := [⟨100, 4096, 0⟩]
def TideP (w : World) (e : Ending) (w' : World) : Prop := ∃ b, e = .returned (.agg #[.int .i64 200, .slice (some ⟨b, 0, none⟩) 1 1]) ∧ SlRows wvV 3 w' (some ⟨b, 0, none⟩) exL ∧ Below w.heap.size w w'
theorem Tide_any (w : World) : Calls Tryz.prog 62 #[] w (TideP w) := by
  go_enter Tryz.func62, Tryz.ntmps62
  go_wp2
  refine bodyPost_ret (v := .agg #[.int .i64 200, .slice (some ⟨w.heap.size + 1, 0, none⟩) 1 1]) (by simp [results, Tryz.results62, go_sem, *]) rfl ⟨_, rfl, Or.inr ⟨_, 0, rfl, by simp, ?_⟩, ?_⟩
  · intro k hk i hi
    obtain rfl : k = 0 := by simp [exL] at hk; omega
    rcases (show i = 0 ∨ i = 1 ∨ i = 2 by omega) with rfl | rfl | rfl <;> simp [go_sem, exL, wvV]
  · (repeat (first | (with_reducible refine Below.drew ?_) | (with_reducible refine below_drewN ?_ _) | (with_reducible refine Below.alloc ?_ (by first | omega | (simp; done) | (simp; omega) | (simp at *; omega)) _) | (with_reducible refine Below.setCell ?_ (by first | omega | (simp; done) | (simp; omega) | (simp at *; omega)) _) | (with_reducible exact Below.refl _ _) | (with_reducible assumption) | (with_reducible refine Below.trans ?_ (Below.mono (by assumption) (by first | omega | (simp; done) | (simp; omega) | (simp at *; omega))))))
theorem ex_lvl : levLo 200 exL 512 = 270 ∧ levHi 200 exL 512 = 271 ∧ lvlE 200 exL 512 = 0 := by decide +kernel
end Go.Proofs.YtojaompfffpofaaGreat
