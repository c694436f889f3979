import Derived.Test.YtijdphlejokijaaGreatERSEEnds
import Derived.Test.YtijdphlejokijaaGreatERSECta
import Derived.Test.YtijdphlejokijaaGreatERSEClk
import Derived.Outline
namespace Go.Proofs.YtijdphlejokijaaGreat
open Go.ChangeShapes Go.WideShapes Go.ChangeAt Go.RowKit
set_option linter.unusedVariables false
set_option linter.unusedSimpArgs false
attribute [local go_sem ↓] Go.wp_at_zero Go.wp_at_succ

theorem floorB (n d q : Int) (w : World) (h0 : 0 ≤ n) (h1 : n ≤ 1000000000000000000) (h2 : 0 < d) (h3 : d ≤ 1000000000000000000) (hq : Hid (n / d = q)) : Calls Tryz.prog 108 #[.int .i64 n, .int .i64 d] w fun e w' => e = .returned (.int .i64 q) ∧ Below w.heap.size w w' := (baseFloor_nn n d w h0 h1 h2 h3).mono fun e w' h => ⟨by rw [h.1, hq.out], by rw [← h.2]; exact Below.refl _ _⟩
theorem ceilB (n d q : Int) (w : World) (h0 : 0 ≤ n) (h1 : n ≤ 1000000000000000000) (h2 : 0 < d) (h3 : d ≤ 1000000000000000000) (hq : Hid (upE n d = q)) : Calls Tryz.prog 90 #[.int .i64 n, .int .i64 d] w fun e w' => e = .returned (.int .i64 q) ∧ Below w.heap.size w w' := (baseCeil_e n d q w h0 h1 h2 h3 hq).mono fun e w' h => ⟨h.1, by rw [← h.2]; exact Below.refl _ _⟩
end Go.Proofs.YtijdphlejokijaaGreat

namespace Go.Proofs.YtijdphlejokijaaGreat
open Go.ChangeShapes Go.WideShapes Go.ChangeAt Go.RowKit
set_option linter.unusedVariables false
set_option linter.unusedSimpArgs false
attribute [local go_sem ↓] Go.wp_at_zero Go.wp_at_succ
theorem baseFloor_big (n d : Int) (w : World) (h0 : 0 ≤ n) (h1 : n ≤ 9000000000000000000) (h2 : 0 < d) (h3 : d ≤ 1000000000000000000) :
    Calls Tryz.prog 108 #[.int .i64 (-n), .int .i64 d] w fun e w' => e = .returned (.int .i64 (-((n + d - 1) / d))) ∧ w = w' := by
  have a1 : 0 ≤ n / d := Int.ediv_nonneg h0 (by omega)
  have a2 : n / d ≤ n := Int.ediv_le_self _ h0
  have hd : ¬ d = 0 := by omega
  have k1 : 1 ≤ d := by omega
  have hr0 : 0 ≤ n % d := Int.emod_nonneg _ (by omega)
  have hrl : n % d < d := Int.emod_lt_of_pos n h2
  have hm : (-n).tmod d = -(n % d) := by rw [Int.neg_tmod, Int.tmod_eq_emod_of_nonneg h0]
  have hq : (-n).tdiv d = -(n / d) := by rw [Int.neg_tdiv, Int.tdiv_eq_ediv_of_nonneg h0]
  obtain ⟨x, hx⟩ : ∃ x, Hid (-n = x) := ⟨-n, rfl⟩
  rw [hx.out] at hm hq ⊢
  obtain ⟨q, HQ⟩ : ∃ q, Hid (n / d = q) := ⟨n / d, rfl⟩
  obtain ⟨r, HR⟩ : ∃ r, Hid (n % d = r) := ⟨n % d, rfl⟩
  rw [HQ.out] at a1 a2 hq
  rw [HR.out] at hr0 hrl hm
  have w1 : IntKind.i64.wrap (x.tdiv d) = -q := by rw [hq]; exact IntWalk.i64_in _ (by omega)
  have w2 : IntKind.i64.wrap (-q - 1) = -q - 1 := IntWalk.i64_in _ (by omega)
  by_cases hz : r = 0
  · have e : Hid (-((n + d - 1) / d) = -q) := by show _ = _; rw [ceil_z h0 h2 (by rw [HR.out]; exact hz), HQ.out]
    rw [e.out]
    have hm0 : x.tmod d = 0 := by omega
    clear hm hz hr0 hrl
    go_enter Tryz.func108, Tryz.ntmps108
    go_wp2
    go_ret
    exact ⟨rfl, rfl⟩
  · have e : Hid (-((n + d - 1) / d) = -q - 1) := by show _ = _; rw [ceil_s h0 h2 (by rw [HR.out]; omega), HQ.out]; omega
    rw [e.out]
    have hp : 0 < r := by omega
    go_enter Tryz.func108, Tryz.ntmps108
    go_wp2
    go_ret
    exact ⟨rfl, rfl⟩
theorem baseCeil_big (n d : Int) (w : World) (h0 : 0 ≤ n) (h1 : n ≤ 9000000000000000000) (h2 : 0 < d) (h3 : d ≤ 1000000000000000000) :
    Calls Tryz.prog 90 #[.int .i64 n, .int .i64 d] w fun e w' => e = .returned (.int .i64 ((n + d - 1) / d)) ∧ w = w' := by
  have b1 : 0 ≤ (n + d - 1) / d := Int.ediv_nonneg (by omega) (by omega)
  have b2 : (n + d - 1) / d ≤ n := (upE_bd (n := n) (d := d) h0 (by omega)).2
  have hF := Lib.hid fun w => baseFloor_big n d w h0 h1 h2 h3
  obtain ⟨c, hc⟩ : ∃ c, Hid ((n + d - 1) / d = c) := ⟨_, rfl⟩
  rw [hc.out] at b1 b2 ⊢
  have hF2 := Lib.hid fun w => (by have := hF.out w; rw [hc.out] at this; exact this : Calls Tryz.prog 108 #[.int .i64 (-n), .int .i64 d] w fun e w' => e = .returned (.int .i64 (-c)) ∧ w = w')
  go_enter Tryz.func90, Tryz.ntmps90
  go_wp2_with ((go_at_call 108; ((with_reducible refine (hF2.out _).mono ?_)); rintro e w' ⟨rfl, rfl⟩))
  go_ret
  exact ⟨ret_int (by simp), rfl⟩
theorem ceilU (n d q : Int) (w : World) (h0 : 0 ≤ n) (h1 : n ≤ 9000000000000000000) (h2 : 0 < d) (h3 : d ≤ 1000000000000000000) (hq : Hid (upE n d = q)) : Calls Tryz.prog 90 #[.int .i64 n, .int .i64 d] w fun e w' => e = .returned (.int .i64 q) ∧ w = w' := by
  rw [← hq.out]; exact baseCeil_big n d w h0 h1 h2 h3
end Go.Proofs.YtijdphlejokijaaGreat
