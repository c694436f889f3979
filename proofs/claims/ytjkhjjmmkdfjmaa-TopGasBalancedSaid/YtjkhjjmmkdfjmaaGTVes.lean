import Derived.Test.YtjkhjjmmkdfjmaaGTNm
import Derived.Test.YtjkhjjmmkdfjmaaGTFNamed
import Derived.Outline
namespace Go.Proofs.Ytjkhjjmmkdfjmaa
open Go.ChangeShapes Go.WideShapes Go.ChangeAt Go.RowKit
set_option linter.unusedVariables false
set_option linter.unusedSimpArgs false
attribute [local go_sem ↓] Go.wp_at_zero Go.wp_at_succ
theorem ve_at {w : World} {b off : Nat} {L : List Ve} (h : RowsAt veV 3 w b off L) {k : Nat} (hk : k < L.length) : w.cell? ⟨b, off + k * 3, none⟩ = some (.string L[k].nm) ∧ w.cell? ⟨b, off + k * 3 + 1, none⟩ = some (.int .i64 L[k].v) ∧ w.cell? ⟨b, off + k * 3 + 2, none⟩ = some (.int .i64 L[k].m) := veV_at h hk
/-- The error of vessels behind names. -/
def vesE : List ByteArray → List Ve → Int
  | _, [] => 0
  | K, g :: r => if nameB g.nm = true then (if inN g.nm K = true then 5 else if veE g = 0 then vesE (K ++ [g.nm]) r else veE g) else 4
def ctV (L : List Ve) : Int := if 20 < L.length then 8 else vesE [] L
theorem vesE_at {K : List ByteArray} {L : List Ve} {k : Nat} (hk : k < L.length) : vesE K (L.drop k) = if nameB L[k].nm = true then (if inN L[k].nm K = true then 5 else if veE L[k] = 0 then vesE (K ++ [L[k].nm]) (L.drop (k + 1)) else veE L[k]) else 4 := by
  rw [List.drop_eq_getElem_cons hk]; rfl
theorem lst_ves : ∀ (L : List Ve) (K : List ByteArray), lst_MixVessel K L = vesE K L
  | [], _ => rfl
  | g :: r, K => by
    have ih := lst_ves r
    unfold lst_MixVessel vesE
    rw [firE_two]
    by_cases h1 : nameB g.nm = true
    · by_cases h2 : inN g.nm K = true
      · have e : nmsE K g.nm = 5 := by unfold nmsE; rw [if_pos h1, if_pos h2]
        rw [e, if_pos h1, if_pos h2]; rfl
      · have e : nmsE K g.nm = 0 := by unfold nmsE; rw [if_pos h1, if_neg h2]
        have e2 : nmsK K g.nm = K ++ [g.nm] := by unfold nmsK; rw [if_pos e]
        rw [e, e2, if_pos h1, if_neg h2, if_pos rfl]
        by_cases h3 : veE g = 0
        · rw [if_pos h3, if_pos h3]; exact ih _
        · rw [if_neg h3, if_neg h3]
    · have e : nmsE K g.nm = 4 := by unfold nmsE; rw [if_neg h1]
      rw [e, if_neg h1]; rfl
end Go.Proofs.Ytjkhjjmmkdfjmaa
