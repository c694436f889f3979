/- Square roots, rounded down: what tissue.squareRoot and the base's Root return. -/
import Derived.Test.YtbdiljbjddppcaaLeaf
import Derived.Outline
namespace Go.Proofs.Ytbdiljbjddppcaa
open Go.ChangeShapes Go.WideShapes Go.ChangeAt Go.RowKit
set_option linter.unusedVariables false
set_option linter.unusedSimpArgs false

theorem isq_ex (n : Nat) : ∃ r, r * r ≤ n ∧ n < (r + 1) * (r + 1) := by
  induction n with
  | zero => exact ⟨0, by omega, by omega⟩
  | succ n ih =>
    obtain ⟨r, h1, h2⟩ := ih
    by_cases h : n + 1 < (r + 1) * (r + 1)
    · exact ⟨r, by omega, h⟩
    · refine ⟨r + 1, by omega, ?_⟩
      have : (r + 1 + 1) * (r + 1 + 1) = (r + 1) * (r + 1) + 2 * (r + 1) + 1 := by grind
      omega
/-- The square root, rounded down. -/
noncomputable def isq (n : Nat) : Nat := Classical.choose (isq_ex n)
theorem isq_le (n : Nat) : isq n * isq n ≤ n := (Classical.choose_spec (isq_ex n)).1
theorem isq_lt (n : Nat) : n < (isq n + 1) * (isq n + 1) := (Classical.choose_spec (isq_ex n)).2
theorem sq_mono {a b : Nat} (h : a ≤ b) : a * a ≤ b * b := Nat.mul_le_mul h h
theorem isq_one {n r : Nat} (h1 : r * r ≤ n) (h2 : n < (r + 1) * (r + 1)) : isq n = r := by
  have h3 := isq_le n
  have h4 := isq_lt n
  rcases Nat.lt_trichotomy (isq n) r with h | h | h
  · have := sq_mono (show isq n + 1 ≤ r by omega); omega
  · exact h
  · have := sq_mono (show r + 1 ≤ isq n by omega); omega
/-- A step from above comes nearer, and stays at or above the root. -/
theorem newton {n r : Nat} (hr : 0 < r) : n < ((r + n / r) / 2 + 1) * ((r + n / r) / 2 + 1) := by
  have h1 : n < r * (n / r + 1) := by
    have := Nat.div_add_mod n r
    have := Nat.mod_lt n hr
    rw [Nat.mul_add, Nat.mul_one]
    omega
  generalize n / r = q at h1
  have h2 : r + q + 1 ≤ 2 * ((r + q) / 2 + 1) := by omega
  generalize (r + q) / 2 + 1 = m at h2
  have h3 := sq_mono h2
  have h4 : 4 * (r * (q + 1)) ≤ (r + q + 1) * (r + q + 1) := by
    rcases Nat.le_total r (q + 1) with h | h
    · obtain ⟨d, hd⟩ := Nat.exists_eq_add_of_le h
      have : r + q + 1 = 2 * r + d := by omega
      rw [this, hd]; grind
    · obtain ⟨d, hd⟩ := Nat.exists_eq_add_of_le h
      have : r + q + 1 = 2 * (q + 1) + d := by omega
      rw [this, hd]; grind
  have h5 : 2 * m * (2 * m) = 4 * (m * m) := by grind
  omega
theorem newton_lt {n r : Nat} (hr : 0 < r) (h : n < r * r) : (r + n / r) / 2 < r := by
  have : n / r < r := (Nat.div_lt_iff_lt_mul hr).2 h
  omega
set_option maxHeartbeats 1000000 in
theorem squareRoot_any (n : Nat) (w : World) (hn : n ≤ 1000000000000000000) :
    Calls Try.prog 94 #[.int .i64 n] w fun e w' => e = .returned (.int .i64 (isq n)) ∧ w = w' := by
  obtain ⟨s, hs⟩ : ∃ s, Hid (isq n = s) := ⟨_, rfl⟩
  rw [hs.out]
  go_enter Try.func94, Try.ntmps94
  go_wp2
  go_loop [3] (fun x => ∃ r : Nat, x = .int .i64 r ∧ r ≤ 1000000000 ∧ Hid (n < (r + 1) * (r + 1))) (fun x => (intOf x).toNat)
  case atStart => exact ⟨1000000000, rfl, by omega, by show _ < _; omega⟩
  case round =>
    obtain ⟨r, rfl, hr, hlt⟩ := hrel
    obtain ⟨m, hm⟩ : ∃ m : Nat, Hid (r * r = m) := ⟨_, rfl⟩
    have m0 : (r : Int) * r = m := by rw [← hm.out]; simp
    have m1 : m ≤ 1000000000000000000 := by rw [← hm.out]; exact Nat.le_trans (sq_mono hr) (by omega)
    have m2 : IntKind.i64.wrap ((r : Int) * r) = m := by rw [m0]; exact IntWalk.i64_in _ (by omega)
    by_cases hc : m ≤ n
    · have he : Hid (s = r) := by
        show _ = _
        rw [← hs.out]
        exact isq_one (by rw [hm.out]; exact hc) hlt.out
      have hc2 : ¬ (n : Int) < m := by omega
      clear hs hlt hm
      go_wp2
      go_ret
      exact ⟨by rw [he.out]; first | rfl | (simp; done), rfl⟩
    · have hr0 : 0 < r := by
        rcases r with _ | r
        · have := hm.out; omega
        · omega
      obtain ⟨q, hq⟩ : ∃ q : Nat, Hid ((r + n / r) / 2 = q) := ⟨_, rfl⟩
      obtain ⟨t, ht⟩ : ∃ t : Nat, Hid (n / r = t) := ⟨_, rfl⟩
      have q1 : q < r := by rw [← hq.out]; exact newton_lt hr0 (by rw [hm.out]; omega)
      have q2 : Hid (n < (q + 1) * (q + 1)) := by show _ < _; rw [← hq.out]; exact newton hr0
      have t1 : t ≤ 1000000000000000000 := by rw [← ht.out]; exact Nat.le_trans (Nat.div_le_self _ _) hn
      have d1 : (n : Int).tdiv r = t := by rw [Int.tdiv_eq_ediv_of_nonneg (by omega), ← ht.out]; simp
      have d2 : IntKind.i64.wrap ((n : Int).tdiv r) = t := by rw [d1]; exact IntWalk.i64_in _ (by omega)
      have d3 : (n : Int) / r = t := by rw [← ht.out]; simp
      have d4 : IntKind.i64.wrap (t : Int) = t := IntWalk.i64_in _ (by omega)
      have d5 : IntKind.i64.wrap ((r : Int) + t) = (r : Int) + t := IntWalk.i64_in _ (by omega)
      have d6 : ((r : Int) + t).tdiv 2 = q := by
        rw [Int.tdiv_eq_ediv_of_nonneg (by omega), ← hq.out, ht.out]
        omega
      have d7 : ((r : Int) + t) / 2 = q := by
        rw [← hq.out, ht.out]
        omega
      have d8 : IntKind.i64.wrap (q : Int) = q := IntWalk.i64_in _ (by omega)
      have r1 : (1 : Int) ≤ r := by omega
      have r2 : ¬ (r : Int) = 0 := by omega
      have r3 : (0 : Int) ≤ n := by omega
      have r4 : (0 : Int) ≤ (r : Int) + t := by omega
      have c1 : (n : Int) < m := by omega
      clear hm hlt hq ht
      go_wp2
      go_round
      case rel => exact ⟨q, rfl, by omega, q2⟩
      case measure => (simp [intOf]) <;> omega
end Go.Proofs.Ytbdiljbjddppcaa
