/- What the specification's root of a level returns: the same as the program's. -/
import Derived.Test.YtbdiljbjddppcaaRoots
import Derived.Test.YtbdiljbjddppcaaRootB
import Derived.Outline
namespace Go.Proofs.Ytbdiljbjddppcaa
open Go.ChangeShapes Go.WideShapes Go.ChangeAt Go.RowKit
set_option linter.unusedVariables false
set_option linter.unusedSimpArgs false

theorem isq_up {n : Nat} (hn : 1 ≤ n) : isq (n - 1) + 1 = if isq n * isq n < n then isq n + 1 else isq n := by
  have h1 := isq_le n
  have h2 := isq_lt n
  split
  · rw [isq_one (n := n - 1) (r := isq n) (by omega) (by omega)]
  · have h3 : isq n * isq n = n := by omega
    have h4 := isq_pos hn
    obtain ⟨t, ht⟩ : ∃ t, isq n = t + 1 := ⟨isq n - 1, by omega⟩
    rw [ht] at h3 ⊢
    have h5 : (t + 1) * (t + 1) = t * t + 2 * t + 1 := by grind
    rw [isq_one (n := n - 1) (r := t) (by omega) (by omega)]
theorem baseRoot_is (n : Int) (k r : Nat) (w : World) (hk : n = (k : Int)) (hn : k ≤ 1000000000000000000) (hr : Hid (isq k = r)) :
    Calls Try.prog 61 #[.int .i64 n] w fun e w' => e = .returned (.int .i64 r) ∧ w = w' := by
  subst hk
  rw [← hr.out]
  exact baseRoot_any k w hn
set_option maxRecDepth 100000 in
set_option maxHeartbeats 2000000 in
theorem refRootOf_any (L : Nat) (w : World) (hL : L ≤ 40) :
    Calls Try.prog 24 #[.int .i64 L] w fun e w' => e = .returned (.agg #[.int .i64 (rootP L).1, .int .i64 (rootP L).2]) ∧ Below w.heap.size w w' := by
  go_enter Try.func24, Try.ntmps24
  go_wp2
  go_loopw [4] (fun i wr => ∃ (k : Nat), i = .int .i64 k ∧ k ≤ L ∧ wr.cell? ⟨w.heap.size + 1, 0, none⟩ = some (.int .i64 (rootP k).1) ∧ wr.cell? ⟨w.heap.size + 1, 1, none⟩ = some (.int .i64 (rootP k).2) ∧ (∀ j, wr.frozen? ⟨w.heap.size + 1, j, none⟩ = false) ∧ wr.cell? ⟨w.heap.size, 0, none⟩ = some (.int .i64 0) ∧ wr.cell? ⟨w.heap.size, 1, none⟩ = some (.int .i64 0) ∧ (∀ j, wr.frozen? ⟨w.heap.size, j, none⟩ = false) ∧ w.heap.size + 2 ≤ wr.heap.size ∧ Below w.heap.size w wr) (fun i _ => L - (intOf i).toNat)
  case atStart =>
    exact ⟨0, rfl, by omega, by simp [go_sem, World.cell?_alloc_past, rootP], by simp [go_sem, World.cell?_alloc_past, rootP], by intro j; simp [go_sem], by simp [go_sem, World.cell?_alloc_past], by simp [go_sem, World.cell?_alloc_past], by intro j; simp [go_sem], by simp, (by (repeat (first | (with_reducible refine Below.drew ?_) | (with_reducible refine below_drewN ?_ _) | (with_reducible refine Below.alloc ?_ (by first | omega | (simp; done) | (simp; omega) | (simp at *; omega)) _) | (with_reducible refine Below.setCell ?_ (by first | omega | (simp; done) | (simp; omega) | (simp at *; omega)) _) | (with_reducible exact Below.refl _ _) | (with_reducible assumption) | (with_reducible refine Below.trans ?_ (Below.mono (by assumption) (by first | omega | (simp; done) | (simp; omega) | (simp at *; omega)))))))⟩
  case round =>
    obtain ⟨k, rfl, hk, c0, c1, fz, r0, r1, fr, sz, hB⟩ := hrel
    have n1 : w.heap.size + 1 < wr.heap.size := by omega
    have n2 : w.heap.size < wr.heap.size := by omega
    by_cases hkl : k < L
    · obtain ⟨b1, b2, b3, b4⟩ := rootP_bd k
      obtain ⟨x, hx⟩ : ∃ x, Hid ((rootP k).1 = x) := ⟨_, rfl⟩
      obtain ⟨y, hy⟩ : ∃ x, Hid ((rootP k).2 = x) := ⟨_, rfl⟩
      obtain ⟨x', hx'⟩ : ∃ r, Hid (isq (1000000000 * x) = r) := ⟨_, rfl⟩
      obtain ⟨y', hy'⟩ : ∃ r, Hid (isq (1000000000 * y) = r) := ⟨_, rfl⟩
      rw [hx.out] at c0 b1 b2
      rw [hy.out] at c1 b3 b4
      have e1 : IntKind.i64.wrap (1000000000 * (x : Int)) = 1000000000 * x := IntWalk.i64_in _ (by omega)
      have e2 : IntKind.i64.wrap (1000000000 * (y : Int)) = 1000000000 * y := IntWalk.i64_in _ (by omega)
      have y9 : y' ≤ 1000000000 := by
        rcases Nat.lt_or_ge 1000000000 y' with h | h
        · have h1 := isq_le (1000000000 * y)
          rw [hy'.out] at h1
          have := sq_mono (show 1000000001 ≤ y' by omega)
          omega
        · exact h
      obtain ⟨m, hm⟩ : ∃ m : Nat, Hid (y' * y' = m) := ⟨_, rfl⟩
      have m0 : (y' : Int) * y' = m := by rw [← hm.out]; simp
      have m1 : m ≤ 1000000000000000000 := by rw [← hm.out]; exact Nat.le_trans (sq_mono y9) (by omega)
      have m2 : IntKind.i64.wrap ((y' : Int) * y') = m := by rw [m0]; exact IntWalk.i64_in _ (by omega)
      have e4 : IntKind.i64.wrap ((y' : Int) + 1) = y' + 1 := IntWalk.i64_in _ (by omega)
      have QX : Hid (∀ w, Calls Try.prog 61 #[.int .i64 (1000000000 * (x : Int))] w fun e w' => e = .returned (.int .i64 x') ∧ w' = w) := fun w => (baseRoot_is (1000000000 * (x : Int)) (1000000000 * x) x' w (by omega) (by omega) hx').mono fun _ _ h => ⟨h.1, h.2.symm⟩
      have QY : Hid (∀ w, Calls Try.prog 61 #[.int .i64 (1000000000 * (y : Int))] w fun e w' => e = .returned (.int .i64 y') ∧ w' = w) := fun w => (baseRoot_is (1000000000 * (y : Int)) (1000000000 * y) y' w (by omega) (by omega) hy').mono fun _ _ h => ⟨h.1, h.2.symm⟩
      have HX1 : Hid ((rootP (k + 1)).1 = x') := by show _ = _; rw [rootP, hx.out, hx'.out]
      by_cases hc : m < 1000000000 * y
      · have HX2 : Hid ((rootP (k + 1)).2 = y' + 1) := by
          show _ = _
          rw [rootP, hy.out]
          show isq (1000000000 * y - 1) + 1 = _
          rw [isq_up (by omega), hy'.out, hm.out, if_pos hc]
        have x1 : (m : Int) < 1000000000 * y := by omega
        go_wp2
        go_big_quiet (first
          | (go_at_call 61; with_reducible exact Calls.quiet_of_same (QX.out _))
          | (go_at_call 61; with_reducible exact Calls.quiet_of_same (QY.out _)))
        go_wp2
        go_roundw
        case rel => exact ⟨k + 1, by go_num, by omega, by rw [HX1.out]; simp [go_sem, c0, c1], by rw [HX2.out]; simp [go_sem, c0, c1], by intro j; simp [go_sem, fz], by simp [go_sem, r0], by simp [go_sem, r1], by intro j; simp [go_sem, fr], by simp; omega, (by (repeat (first | (with_reducible refine Below.drew ?_) | (with_reducible refine below_drewN ?_ _) | (with_reducible refine Below.alloc ?_ (by first | omega | (simp; done) | (simp; omega) | (simp at *; omega)) _) | (with_reducible refine Below.setCell ?_ (by first | omega | (simp; done) | (simp; omega) | (simp at *; omega)) _) | (with_reducible exact Below.refl _ _) | (with_reducible assumption) | (with_reducible refine Below.trans ?_ (Below.mono (by assumption) (by first | omega | (simp; done) | (simp; omega) | (simp at *; omega)))))))⟩
        case measure => (simp [intOf]) <;> omega
      · have HX2 : Hid ((rootP (k + 1)).2 = y') := by
          show _ = _
          rw [rootP, hy.out]
          show isq (1000000000 * y - 1) + 1 = _
          rw [isq_up (by omega), hy'.out, hm.out, if_neg hc]
        have x1 : ¬ (m : Int) < 1000000000 * y := by omega
        go_wp2
        go_big_quiet (first
          | (go_at_call 61; with_reducible exact Calls.quiet_of_same (QX.out _))
          | (go_at_call 61; with_reducible exact Calls.quiet_of_same (QY.out _)))
        go_wp2
        go_roundw
        case rel => exact ⟨k + 1, by go_num, by omega, by rw [HX1.out]; simp [go_sem, c0, c1], by rw [HX2.out]; simp [go_sem, c0, c1], by intro j; simp [go_sem, fz], by simp [go_sem, r0], by simp [go_sem, r1], by intro j; simp [go_sem, fr], by simp; omega, (by (repeat (first | (with_reducible refine Below.drew ?_) | (with_reducible refine below_drewN ?_ _) | (with_reducible refine Below.alloc ?_ (by first | omega | (simp; done) | (simp; omega) | (simp at *; omega)) _) | (with_reducible refine Below.setCell ?_ (by first | omega | (simp; done) | (simp; omega) | (simp at *; omega)) _) | (with_reducible exact Below.refl _ _) | (with_reducible assumption) | (with_reducible refine Below.trans ?_ (Below.mono (by assumption) (by first | omega | (simp; done) | (simp; omega) | (simp at *; omega)))))))⟩
        case measure => (simp [intOf]) <;> omega
    · have hkk : k = L := by omega
      subst hkk
      go_wp2
      refine bodyPost_ret (v := .agg #[.int .i64 (rootP k).1, .int .i64 (rootP k).2]) (by simp [results, Try.results24, go_sem, *]) rfl ⟨rfl, ?_⟩
      (repeat (first | (with_reducible refine Below.drew ?_) | (with_reducible refine below_drewN ?_ _) | (with_reducible refine Below.alloc ?_ (by first | omega | (simp; done) | (simp; omega) | (simp at *; omega)) _) | (with_reducible refine Below.setCell ?_ (by first | omega | (simp; done) | (simp; omega) | (simp at *; omega)) _) | (with_reducible exact Below.refl _ _) | (with_reducible assumption) | (with_reducible refine Below.trans ?_ (Below.mono (by assumption) (by first | omega | (simp; done) | (simp; omega) | (simp at *; omega))))))
end Go.Proofs.Ytbdiljbjddppcaa
