import Derived.Test.YtgidmmmdpmophaaRSFECpP
import Derived.Test.YtgidmmmdpmophaaRSFCol
import Derived.Test.YtgidmmmdpmophaaRSFEFx
import Derived.Test.YtgidmmmdpmophaaRSFERule
import Derived.Outline
namespace Go.Proofs.Ytgidmmmdpmophaa
open Go.ChangeShapes Go.WideShapes Go.ChangeAt Go.RowKit
set_option linter.unusedVariables false
set_option linter.unusedSimpArgs false
attribute [local go_sem ↓] Go.wp_at_zero Go.wp_at_succ
theorem sl_intA {w : World} {b o : Nat} {L : List Int} (h : SlRows inV 1 w (some ⟨b, o, none⟩) L) {k : Nat} {v : Int} (hk : k < L.length) (hv : L[k] = v) : w.cell? ⟨b, o + k, none⟩ = some (.int .i64 v) := by
  rcases h with h | ⟨b', o', e, _, hR⟩
  · rw [h] at hk; simp at hk
  · cases e
    have := hR k hk 0 (by omega)
    rw [show o + k * 1 + 0 = o + k by omega] at this
    rw [this, ← hv]
    rfl
end Go.Proofs.Ytgidmmmdpmophaa
