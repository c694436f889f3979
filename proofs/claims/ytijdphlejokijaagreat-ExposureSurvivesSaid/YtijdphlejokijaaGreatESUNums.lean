import Derived.Test.YtijdphlejokijaaGreatESULeaf
import Derived.Outline
namespace Go.Proofs.YtijdphlejokijaaGreat
open Go.ChangeShapes Go.WideShapes Go.ChangeAt Go.RowKit
set_option linter.unusedVariables false

theorem ceil_z {n d : Int} (h0 : 0 ≤ n) (h2 : 0 < d) (hr : n % d = 0) : (n + d - 1) / d = n / d := by
  have h := Int.emod_add_mul_ediv n d
  rw [hr, Int.zero_add] at h
  rw [← h, show d * (n / d) + d - 1 = (d - 1) + d * (n / d) by omega, Int.add_mul_ediv_left _ _ (by omega), Int.ediv_eq_zero_of_lt (by omega) (by omega), Int.mul_ediv_cancel_left _ (by omega)]
  omega
theorem ceil_s {n d : Int} (h0 : 0 ≤ n) (h2 : 0 < d) (hr : 0 < n % d) : (n + d - 1) / d = n / d + 1 := by
  have h := Int.emod_add_mul_ediv n d
  have hl := Int.emod_lt_of_pos n h2
  have e : n + d - 1 = (n % d - 1) + d * (n / d + 1) := by rw [Int.mul_add]; omega
  rw [e, Int.add_mul_ediv_left _ _ (by omega), Int.ediv_eq_zero_of_lt (by omega) (by omega)]
  omega
theorem baseFloor_nn (n d : Int) (w : World) (h0 : 0 ≤ n) (h1 : n ≤ 1000000000000000000) (h2 : 0 < d) (h3 : d ≤ 1000000000000000000) :
    Calls Tryz.prog 108 #[.int .i64 n, .int .i64 d] w fun e w' => e = .returned (.int .i64 (n / d)) ∧ w = w' := by
  have hq := quo_in n d h0 (by omega) h2
  have hd : ¬ d = 0 := by omega
  have k1 : 1 ≤ d := by omega
  have hr0 : 0 ≤ n % d := Int.emod_nonneg _ (by omega)
  have hrl : n % d < d := Int.emod_lt_of_pos n h2
  have hm : n.tmod d = n % d := Int.tmod_eq_emod_of_nonneg h0
  go_enter Tryz.func108, Tryz.ntmps108
  go_wp2
  go_ret
  exact ⟨rfl, rfl⟩
theorem baseFloor_neg (n d : Int) (w : World) (h0 : 0 ≤ n) (h1 : n ≤ 1000000000000000000) (h2 : 0 < d) (h3 : d ≤ 1000000000000000000) :
    Calls Tryz.prog 108 #[.int .i64 (-n), .int .i64 d] w fun e w' => e = .returned (.int .i64 (-((n + d - 1) / d))) ∧ w = w' := by
  have a1 : 0 ≤ n / d := Int.ediv_nonneg h0 (by omega)
  have a2 : n / d ≤ n := Int.ediv_le_self _ h0
  have hd : ¬ d = 0 := by omega
  have k1 : 1 ≤ d := by omega
  have hr0 : 0 ≤ n % d := Int.emod_nonneg _ (by omega)
  have hrl : n % d < d := Int.emod_lt_of_pos n h2
  have hm : (-n).tmod d = -(n % d) := by rw [Int.neg_tmod, Int.tmod_eq_emod_of_nonneg h0]
  have hq : (-n).tdiv d = -(n / d) := by rw [Int.neg_tdiv, Int.tdiv_eq_ediv_of_nonneg h0]
  obtain ⟨x, hx⟩ : ∃ x, Hid (-n = x) := ⟨-n, rfl⟩
  rw [hx.out] at hm hq ⊢
  obtain ⟨q, HQ⟩ : ∃ q, Hid (n / d = q) := ⟨n / d, rfl⟩
  obtain ⟨r, HR⟩ : ∃ r, Hid (n % d = r) := ⟨n % d, rfl⟩
  rw [HQ.out] at a1 a2 hq
  rw [HR.out] at hr0 hrl hm
  have w1 : IntKind.i64.wrap (x.tdiv d) = -q := by rw [hq]; exact IntWalk.i64_in _ (by omega)
  have w2 : IntKind.i64.wrap (-q - 1) = -q - 1 := IntWalk.i64_in _ (by omega)
  by_cases hz : r = 0
  · have e : Hid (-((n + d - 1) / d) = -q) := by show _ = _; rw [ceil_z h0 h2 (by rw [HR.out]; exact hz), HQ.out]
    rw [e.out]
    have hm0 : x.tmod d = 0 := by omega
    clear hm hz hr0 hrl
    go_enter Tryz.func108, Tryz.ntmps108
    go_wp2
    go_ret
    exact ⟨rfl, rfl⟩
  · have e : Hid (-((n + d - 1) / d) = -q - 1) := by show _ = _; rw [ceil_s h0 h2 (by rw [HR.out]; omega), HQ.out]; omega
    rw [e.out]
    have hp : 0 < r := by omega
    go_enter Tryz.func108, Tryz.ntmps108
    go_wp2
    go_ret
    exact ⟨rfl, rfl⟩
theorem baseCeil_nn (n d : Int) (w : World) (h0 : 0 ≤ n) (h1 : n ≤ 1000000000000000000) (h2 : 0 < d) (h3 : d ≤ 1000000000000000000) :
    Calls Tryz.prog 90 #[.int .i64 n, .int .i64 d] w fun e w' => e = .returned (.int .i64 ((n + d - 1) / d)) ∧ w = w' := by
  have b1 : 0 ≤ (n + d - 1) / d := Int.ediv_nonneg (by omega) (by omega)
  have b2 : (n + d - 1) / d ≤ n + d - 1 := Int.ediv_le_self _ (by omega)
  have hF := Lib.hid fun w => baseFloor_neg n d w h0 h1 h2 h3
  obtain ⟨c, hc⟩ : ∃ c, Hid ((n + d - 1) / d = c) := ⟨_, rfl⟩
  rw [hc.out] at b1 b2 ⊢
  have hF2 := Lib.hid fun w => (by have := hF.out w; rw [hc.out] at this; exact this : Calls Tryz.prog 108 #[.int .i64 (-n), .int .i64 d] w fun e w' => e = .returned (.int .i64 (-c)) ∧ w = w')
  go_enter Tryz.func90, Tryz.ntmps90
  go_wp2_with ((go_at_call 108; ((with_reducible refine (hF2.out _).mono ?_)); rintro e w' ⟨rfl, rfl⟩))
  go_ret
  exact ⟨ret_int (by simp), rfl⟩
end Go.Proofs.YtijdphlejokijaaGreat
