import Derived.Test.YtijdphlejokijaaESPERfP
import Derived.Test.YtijdphlejokijaaESPELeg
import Derived.Test.YtijdphlejokijaaESPECta
import Derived.Test.YtijdphlejokijaaESPEClk
import Derived.Outline
namespace Go.Proofs.Ytijdphlejokijaa
open Go.ChangeShapes Go.WideShapes Go.ChangeAt Go.RowKit
set_option linter.unusedVariables false
set_option linter.unusedSimpArgs false
attribute [local go_sem ↓] Go.wp_at_zero Go.wp_at_succ

theorem BlkF.lower {u : World} {B C b : Nat} {vs : List Value} (h : BlkF u B b vs) (hC : C ≤ B) : BlkF u C b vs := ⟨Nat.le_trans hC h.ge, h.lt, h.at', h.fz⟩
end Go.Proofs.Ytijdphlejokijaa

namespace Go.Proofs.Ytijdphlejokijaa
open Go.ChangeShapes Go.WideShapes Go.ChangeAt Go.RowKit
set_option linter.unusedVariables false
set_option linter.unusedSimpArgs false
attribute [local go_sem ↓] Go.wp_at_zero Go.wp_at_succ

theorem upE_spec {n d : Int} (d0 : 0 < d) : n ≤ d * upE n d ∧ d * (upE n d - 1) < n := by
  unfold upE
  have h := Int.emod_add_mul_ediv (n + d - 1) d
  have r0 := Int.emod_nonneg (n + d - 1) (show d ≠ 0 by omega)
  have r1 := Int.emod_lt_of_pos (n + d - 1) d0
  rw [Int.mul_sub]
  omega
theorem upE_uniq {n d q : Int} (d0 : 0 < d) (h1 : n ≤ d * q) (h2 : d * (q - 1) < n) : upE n d = q := by
  refine Int.le_antisymm (upE_le d0 h1) ?_
  unfold upE
  refine Int.le_ediv_of_mul_le d0 ?_
  rw [Int.mul_sub] at h2
  rw [Int.mul_comm]
  omega
theorem upE_cancel {n d s : Int} (d0 : 0 < d) (s0 : 0 < s) : upE (n * s) (d * s) = upE n d := by
  obtain ⟨h1, h2⟩ := upE_spec (n := n) d0
  obtain ⟨q, hq⟩ : ∃ q, upE n d = q := ⟨_, rfl⟩
  rw [hq] at h1 h2 ⊢
  refine upE_uniq (Int.mul_pos d0 s0) ?_ ?_
  · have := Int.mul_le_mul_of_nonneg_right h1 (show 0 ≤ s by omega)
    rw [show d * s * q = d * q * s by rw [Int.mul_assoc, Int.mul_comm s q, ← Int.mul_assoc]]
    exact this
  · have := Int.mul_lt_mul_of_pos_right h2 s0
    rw [show d * s * (q - 1) = d * (q - 1) * s by rw [Int.mul_assoc, Int.mul_comm s (q - 1), ← Int.mul_assoc]]
    exact this
end Go.Proofs.Ytijdphlejokijaa
