/- What the base's Root returns: the square root, rounded down. -/
import Derived.Test.YtojaompfffpofaaGreatSqrt
import Derived.Outline
namespace Go.Proofs.YtojaompfffpofaaGreat
open Go.ChangeShapes Go.WideShapes Go.ChangeAt Go.RowKit
set_option linter.unusedVariables false
set_option linter.unusedSimpArgs false

set_option maxHeartbeats 1000000 in
theorem baseRoot_any (n : Nat) (w : World) (hn : n ≤ 1000000000000000000) :
    Calls Tryz.prog 186 #[.int .i64 n] w fun e w' => e = .returned (.int .i64 (isq n)) ∧ w = w' := by
  obtain ⟨s, hs⟩ : ∃ s, Hid (isq n = s) := ⟨_, rfl⟩
  rw [hs.out]
  go_enter Tryz.func186, Tryz.ntmps186
  go_wp2
  go_loop [3, 4] (fun x y => ∃ (r b : Nat), x = .int .i64 r ∧ y = .int .i64 b ∧ r < 2000000000 ∧ b ≤ 1073741824 ∧ Hid (r * r ≤ n ∧ ((b = 0 ∧ n < (r + 1) * (r + 1)) ∨ (∃ j, b = 2 ^ j ∧ n < (r + 2 * b) * (r + 2 * b))))) (fun _ y => (intOf y).toNat)
  case atStart => exact ⟨0, 1073741824, rfl, rfl, by omega, by omega, ⟨by omega, Or.inr ⟨30, by decide, by omega⟩⟩⟩
  case round =>
    obtain ⟨r, b, rfl, rfl, hr, hb, hh⟩ := hrel
    by_cases hb0 : b = 0
    · have he : Hid (s = r) := by
        show _ = _
        rw [← hs.out]
        rcases hh.out with ⟨h1, ⟨_, h2⟩ | ⟨j, h2, _⟩⟩
        · exact isq_one h1 h2
        · have := Nat.two_pow_pos j; omega
      subst hb0
      clear hs hh
      go_wp2
      go_ret
      exact ⟨by rw [he.out]; first | rfl | (simp; done), rfl⟩
    · obtain ⟨h1, h2⟩ := hh.out
      have h3 : ∃ j, b = 2 ^ j ∧ n < (r + 2 * b) * (r + 2 * b) := by
        rcases h2 with ⟨h, _⟩ | h
        · exact absurd h hb0
        · exact h
      obtain ⟨j, hj, h4⟩ := h3
      obtain ⟨c, hc⟩ : ∃ c : Nat, Hid (b / 2 = c) := ⟨_, rfl⟩
      have c1 : c < b := by rw [← hc.out]; omega
      have c2 : (c = 0 ∧ b = 1) ∨ (b = 2 * c ∧ ∃ i, c = 2 ^ i) := by
        rw [← hc.out, hj]
        rcases j with _ | i
        · left; decide
        · right
          have : (2 : Nat) ^ (i + 1) / 2 = 2 ^ i := by rw [Nat.pow_succ]; omega
          rw [this]
          exact ⟨by rw [Nat.pow_succ]; omega, i, rfl⟩
      have rB : r ≤ 1000000000 := by
        rcases Nat.lt_or_ge 1000000000 r with h | h
        · have := sq_mono (show 1000000001 ≤ r by omega); omega
        · exact h
      obtain ⟨m, hm⟩ : ∃ m : Nat, Hid ((r + b) * (r + b) = m) := ⟨_, rfl⟩
      have m0 : ((r : Int) + b) * ((r : Int) + b) = m := by rw [← hm.out]; simp
      have m1 : m ≤ 9223372036854775807 := by rw [← hm.out]; exact Nat.le_trans (sq_mono (show r + b ≤ 3037000499 by omega)) (by omega)
      have m2 : IntKind.i64.wrap (((r : Int) + b) * ((r : Int) + b)) = m := by rw [m0]; exact IntWalk.i64_in _ (by omega)
      have e1 : IntKind.i64.wrap ((r : Int) + b) = (r : Int) + b := IntWalk.i64_in _ (by omega)
      have d1 : (b : Int).tdiv 2 = c := by rw [Int.tdiv_eq_ediv_of_nonneg (by omega), ← hc.out]; omega
      have d2 : (b : Int) / 2 = c := by rw [← hc.out]; omega
      have d3 : IntKind.i64.wrap (c : Int) = c := IntWalk.i64_in _ (by omega)
      have b1 : (1 : Int) ≤ b := by omega
      have b0 : (0 : Int) < b := by omega
      by_cases hmn : m ≤ n
      · have x1 : (m : Int) ≤ n := by omega
        have r2 : r + b < 2000000000 := by
          rcases Nat.lt_or_ge (r + b) 2000000000 with h | h
          · exact h
          · have := sq_mono h; rw [hm.out] at this; omega
        have HH : Hid ((r + b) * (r + b) ≤ n ∧ ((c = 0 ∧ n < (r + b + 1) * (r + b + 1)) ∨ (∃ j, c = 2 ^ j ∧ n < (r + b + 2 * c) * (r + b + 2 * c)))) := by
          refine ⟨by rw [hm.out]; exact hmn, ?_⟩
          rcases c2 with ⟨q1, q2⟩ | ⟨q1, i, q2⟩
          · left; refine ⟨q1, ?_⟩; rw [q2] at h4 ⊢; exact h4
          · right; refine ⟨i, q2, ?_⟩; rw [show r + b + 2 * c = r + 2 * b by omega]; exact h4
        clear hh h1 h2 h4 hj hm hc c2
        go_wp2
        go_round
        case rel => exact ⟨r + b, c, by go_num, rfl, r2, by omega, HH⟩
        case measure => (simp [intOf]) <;> omega
      · have x1 : ¬ (m : Int) ≤ n := by omega
        have HH : Hid (r * r ≤ n ∧ ((c = 0 ∧ n < (r + 1) * (r + 1)) ∨ (∃ j, c = 2 ^ j ∧ n < (r + 2 * c) * (r + 2 * c)))) := by
          have h5 : n < (r + b) * (r + b) := by rw [hm.out]; omega
          refine ⟨h1, ?_⟩
          rcases c2 with ⟨q1, q2⟩ | ⟨q1, i, q2⟩
          · left; refine ⟨q1, ?_⟩; rw [q2] at h5; exact h5
          · right; refine ⟨i, q2, ?_⟩; rw [← q1]; exact h5
        clear hh h1 h2 h4 hj hm hc c2
        go_wp2
        go_round
        case rel => exact ⟨r, c, rfl, rfl, hr, by omega, HH⟩
        case measure => (simp [intOf]) <;> omega
end Go.Proofs.YtojaompfffpofaaGreat
