import Derived.Test.YtojaompfffpofaaGreatZCSqrt
import Derived.Test.YtojaompfffpofaaGreatZCSLev
import Derived.Outline
namespace Go.Proofs.YtojaompfffpofaaGreat
open Go.ChangeShapes Go.WideShapes Go.ChangeAt Go.RowKit
set_option linter.unusedVariables false
set_option linter.unusedSimpArgs false
theorem half_any (n : Int) (w : World) (h0 : 0 ≤ n) (h1 : n ≤ 1000000000) :
    Calls Tryz.prog 139 #[.int .i64 n] w fun e w' => e = .returned (.int .i64 (n * 50000000)) ∧ w = w' := by
  have e1 : IntKind.i64.wrap (n * 50000000) = n * 50000000 := IntWalk.i64_in _ (by omega)
  go_enter Tryz.func139, Tryz.ntmps139
  go_wp2
  go_ret
  exact ⟨rfl, rfl⟩
theorem down_any (n : Int) (w : World) (h0 : -4000000000000000000 ≤ n) (h1 : n ≤ 4000000000000000000) :
    Calls Tryz.prog 112 #[.int .i64 n] w fun e w' => e = .returned (.int .i64 (dnO n)) ∧ w = w' := by
  obtain ⟨E, hE⟩ : ∃ E, Hid (dnO n = E) := ⟨_, rfl⟩
  rw [hE.out]
  obtain ⟨q, hq⟩ : ∃ q, Hid (n.tdiv 100000000 = q) := ⟨_, rfl⟩
  obtain ⟨r, hr⟩ : ∃ r, Hid (n.tmod 100000000 = r) := ⟨_, rfl⟩
  have key : n = 100000000 * q + r ∧ (0 ≤ n → 0 ≤ r ∧ r < 100000000 ∧ 0 ≤ q) ∧ (n < 0 → -100000000 < r ∧ r ≤ 0 ∧ q ≤ 0) := by
    rw [← hq.out, ← hr.out]
    refine ⟨(Int.mul_tdiv_add_tmod n 100000000).symm, fun h => ?_, fun h => ?_⟩
    · rw [Int.tdiv_eq_ediv_of_nonneg h, Int.tmod_eq_emod_of_nonneg h]; omega
    · obtain ⟨m, rfl⟩ : ∃ m, n = -m := ⟨-n, by omega⟩
      rw [Int.neg_tdiv, Int.neg_tmod, Int.tdiv_eq_ediv_of_nonneg (by omega), Int.tmod_eq_emod_of_nonneg (by omega)]; omega
  obtain ⟨k1, k2, k3⟩ := key
  have hd : E = if r < 0 then q - 1 else q := by
    rw [← hE.out]; unfold dnO
    rcases Int.lt_or_le n 0 with h | h
    · have := k3 h; split <;> omega
    · have := k2 h; split <;> omega
  have b1 : -4000000000000000000 ≤ q ∧ q ≤ 4000000000000000000 ∧ -100000000 < r ∧ r < 100000000 := by
    rcases Int.lt_or_le n 0 with h | h
    · have := k3 h; omega
    · have := k2 h; omega
  obtain ⟨b2, b3, b4, b5⟩ := b1
  have m1 : n.tdiv 100000000 = q := hq.out
  have m2 : n.tmod 100000000 = r := hr.out
  have w1 : IntKind.i64.wrap q = q := IntWalk.i64_in _ (by omega)
  have w2 : IntKind.i64.wrap r = r := IntWalk.i64_in _ (by omega)
  have w3 : IntKind.i64.wrap (q - 1) = q - 1 := IntWalk.i64_in _ (by omega)
  have HK := Lib.hid k1
  by_cases hc : r < 0
  · have HE : Hid (E = q - 1) := Lib.hid (by rw [hd, if_pos hc])
    have hn0 : n < 0 := by rcases Int.lt_or_le n 0 with h | h; · exact h
                           · have := k2 h; omega
    clear hd k1 k2 k3 hE hq hr
    go_enter Tryz.func112, Tryz.ntmps112
    go_wp2
    go_ret
    exact ⟨ret_int HE.out.symm, rfl⟩
  · have HE : Hid (E = q) := Lib.hid (by rw [hd, if_neg hc])
    have d1 : 0 ≤ n → n / 100000000 = q := fun h => by rw [← m1, Int.tdiv_eq_ediv_of_nonneg h]
    have d2 : 0 ≤ n → n % 100000000 = r := fun h => by rw [← m2, Int.tmod_eq_emod_of_nonneg h]
    rcases Int.lt_or_le n 0 with hs | hs
    · clear hd k1 k2 k3 hE hq hr d1 d2
      go_enter Tryz.func112, Tryz.ntmps112
      go_wp2
      go_ret
      exact ⟨ret_int HE.out.symm, rfl⟩
    · have d3 := d1 hs
      have d4 := d2 hs
      clear hd k1 k2 k3 hE hq hr d1 d2
      go_enter Tryz.func112, Tryz.ntmps112
      go_wp2
      go_ret
      exact ⟨ret_int HE.out.symm, rfl⟩
theorem up_any (n : Int) (w : World) (h0 : -4000000000000000000 ≤ n) (h1 : n ≤ 4000000000000000000) :
    Calls Tryz.prog 113 #[.int .i64 n] w fun e w' => e = .returned (.int .i64 (upO n)) ∧ w = w' := by
  have e1 : IntKind.i64.wrap (-n) = -n := IntWalk.i64_in _ (by omega)
  have e2 : -4000000000000000000 ≤ dnO (-n) ∧ dnO (-n) ≤ 4000000000000000000 := by unfold dnO; omega
  obtain ⟨E, hE⟩ : ∃ E, Hid (dnO (-n) = E) := ⟨_, rfl⟩
  have hu : Hid (upO n = -E) := Lib.hid (by rw [← hE.out]; rfl)
  rw [hu.out]
  rw [hE.out] at e2
  obtain ⟨e3, e4⟩ := e2
  have e5 : IntKind.i64.wrap (-E) = -E := IntWalk.i64_in _ (by omega)
  have C : Hid (∀ w, Calls Tryz.prog 112 #[.int .i64 (-n)] w fun e w' => e = .returned (.int .i64 E) ∧ w = w') := fun w => by
    have := down_any (-n) w (by omega) (by omega)
    rw [hE.out] at this; exact this
  go_enter Tryz.func113, Tryz.ntmps113
  go_wp2_with ((go_at_call 112; ((with_reducible refine (C.out _).mono ?_)); rintro e w' ⟨rfl, rfl⟩))
  go_ret
  exact ⟨rfl, rfl⟩
end Go.Proofs.YtojaompfffpofaaGreat
