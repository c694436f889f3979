import Derived.Test.YtchfhhmmjioajaaZRMRoots
import Derived.Outline
import Derived.Maps.AppendAt
import Derived.OwnWalk
/- What the base's Root returns: the square root, rounded down. -/
namespace Go.Proofs.Ytchfhhmmjioajaa
open Go.ChangeShapes Go.WideShapes Go.ChangeAt Go.RowKit
set_option linter.unusedVariables false
set_option linter.unusedSimpArgs false

set_option maxHeartbeats 1000000 in
theorem baseRoot_any (n : Nat) (w : World) (hn : n ≤ 1000000000000000000) :
    Calls Try.prog 76 #[.int .i64 n] w fun e w' => e = .returned (.int .i64 (isq n)) ∧ w = w' := by
  obtain ⟨s, hs⟩ : ∃ s, Hid (isq n = s) := ⟨_, rfl⟩
  rw [hs.out]
  go_enter Try.func76, Try.ntmps76
  go_wp2
  go_loop [3, 4] (fun x y => ∃ (r b : Nat), x = .int .i64 r ∧ y = .int .i64 b ∧ r < 2000000000 ∧ b ≤ 1073741824 ∧ Hid (r * r ≤ n ∧ ((b = 0 ∧ n < (r + 1) * (r + 1)) ∨ (∃ j, b = 2 ^ j ∧ n < (r + 2 * b) * (r + 2 * b))))) (fun _ y => (intOf y).toNat)
  case atStart => exact ⟨0, 1073741824, rfl, rfl, by omega, by omega, ⟨by omega, Or.inr ⟨30, by decide, by omega⟩⟩⟩
  case round =>
    obtain ⟨r, b, rfl, rfl, hr, hb, hh⟩ := hrel
    by_cases hb0 : b = 0
    · have he : Hid (s = r) := by
        show _ = _
        rw [← hs.out]
        rcases hh.out with ⟨h1, ⟨_, h2⟩ | ⟨j, h2, _⟩⟩
        · exact isq_one h1 h2
        · have := Nat.two_pow_pos j; omega
      subst hb0
      clear hs hh
      go_wp2
      go_ret
      exact ⟨by rw [he.out]; first | rfl | (simp; done), rfl⟩
    · obtain ⟨h1, h2⟩ := hh.out
      have h3 : ∃ j, b = 2 ^ j ∧ n < (r + 2 * b) * (r + 2 * b) := by
        rcases h2 with ⟨h, _⟩ | h
        · exact absurd h hb0
        · exact h
      obtain ⟨j, hj, h4⟩ := h3
      obtain ⟨c, hc⟩ : ∃ c : Nat, Hid (b / 2 = c) := ⟨_, rfl⟩
      have c1 : c < b := by rw [← hc.out]; omega
      have c2 : (c = 0 ∧ b = 1) ∨ (b = 2 * c ∧ ∃ i, c = 2 ^ i) := by
        rw [← hc.out, hj]
        rcases j with _ | i
        · left; decide
        · right
          have : (2 : Nat) ^ (i + 1) / 2 = 2 ^ i := by rw [Nat.pow_succ]; omega
          rw [this]
          exact ⟨by rw [Nat.pow_succ]; omega, i, rfl⟩
      have rB : r ≤ 1000000000 := by
        rcases Nat.lt_or_ge 1000000000 r with h | h
        · have := sq_mono (show 1000000001 ≤ r by omega); omega
        · exact h
      obtain ⟨m, hm⟩ : ∃ m : Nat, Hid ((r + b) * (r + b) = m) := ⟨_, rfl⟩
      have m0 : ((r : Int) + b) * ((r : Int) + b) = m := by rw [← hm.out]; simp
      have m1 : m ≤ 9223372036854775807 := by rw [← hm.out]; exact Nat.le_trans (sq_mono (show r + b ≤ 3037000499 by omega)) (by omega)
      have m2 : IntKind.i64.wrap (((r : Int) + b) * ((r : Int) + b)) = m := by rw [m0]; exact IntWalk.i64_in _ (by omega)
      have e1 : IntKind.i64.wrap ((r : Int) + b) = (r : Int) + b := IntWalk.i64_in _ (by omega)
      have d1 : (b : Int).tdiv 2 = c := by rw [Int.tdiv_eq_ediv_of_nonneg (by omega), ← hc.out]; omega
      have d2 : (b : Int) / 2 = c := by rw [← hc.out]; omega
      have d3 : IntKind.i64.wrap (c : Int) = c := IntWalk.i64_in _ (by omega)
      have b1 : (1 : Int) ≤ b := by omega
      have b0 : (0 : Int) < b := by omega
      by_cases hmn : m ≤ n
      · have x1 : (m : Int) ≤ n := by omega
        have r2 : r + b < 2000000000 := by
          rcases Nat.lt_or_ge (r + b) 2000000000 with h | h
          · exact h
          · have := sq_mono h; rw [hm.out] at this; omega
        have HH : Hid ((r + b) * (r + b) ≤ n ∧ ((c = 0 ∧ n < (r + b + 1) * (r + b + 1)) ∨ (∃ j, c = 2 ^ j ∧ n < (r + b + 2 * c) * (r + b + 2 * c)))) := by
          refine ⟨by rw [hm.out]; exact hmn, ?_⟩
          rcases c2 with ⟨q1, q2⟩ | ⟨q1, i, q2⟩
          · left; refine ⟨q1, ?_⟩; rw [q2] at h4 ⊢; exact h4
          · right; refine ⟨i, q2, ?_⟩; rw [show r + b + 2 * c = r + 2 * b by omega]; exact h4
        clear hh h1 h2 h4 hj hm hc c2
        go_wp2
        go_round
        case rel => exact ⟨r + b, c, by go_num, rfl, r2, by omega, HH⟩
        case measure => (simp [intOf]) <;> omega
      · have x1 : ¬ (m : Int) ≤ n := by omega
        have HH : Hid (r * r ≤ n ∧ ((c = 0 ∧ n < (r + 1) * (r + 1)) ∨ (∃ j, c = 2 ^ j ∧ n < (r + 2 * c) * (r + 2 * c)))) := by
          have h5 : n < (r + b) * (r + b) := by rw [hm.out]; omega
          refine ⟨h1, ?_⟩
          rcases c2 with ⟨q1, q2⟩ | ⟨q1, i, q2⟩
          · left; refine ⟨q1, ?_⟩; rw [q2] at h5; exact h5
          · right; refine ⟨i, q2, ?_⟩; rw [← q1]; exact h5
        clear hh h1 h2 h4 hj hm hc c2
        go_wp2
        go_round
        case rel => exact ⟨r, c, rfl, rfl, hr, by omega, HH⟩
        case measure => (simp [intOf]) <;> omega
end Go.Proofs.Ytchfhhmmjioajaa

/- What the specification's root of a level returns: the same as the program's. -/
namespace Go.Proofs.Ytchfhhmmjioajaa
open Go.ChangeShapes Go.WideShapes Go.ChangeAt Go.RowKit
set_option linter.unusedVariables false
set_option linter.unusedSimpArgs false

theorem isq_up {n : Nat} (hn : 1 ≤ n) : isq (n - 1) + 1 = if isq n * isq n < n then isq n + 1 else isq n := by
  have h1 := isq_le n
  have h2 := isq_lt n
  split
  · rw [isq_one (n := n - 1) (r := isq n) (by omega) (by omega)]
  · have h3 : isq n * isq n = n := by omega
    have h4 := isq_pos hn
    obtain ⟨t, ht⟩ : ∃ t, isq n = t + 1 := ⟨isq n - 1, by omega⟩
    rw [ht] at h3 ⊢
    have h5 : (t + 1) * (t + 1) = t * t + 2 * t + 1 := by grind
    rw [isq_one (n := n - 1) (r := t) (by omega) (by omega)]
theorem baseRoot_is (n : Int) (k r : Nat) (w : World) (hk : n = (k : Int)) (hn : k ≤ 1000000000000000000) (hr : Hid (isq k = r)) :
    Calls Try.prog 76 #[.int .i64 n] w fun e w' => e = .returned (.int .i64 r) ∧ w = w' := by
  subst hk
  rw [← hr.out]
  exact baseRoot_any k w hn
set_option maxRecDepth 100000 in
set_option maxHeartbeats 2000000 in
theorem refRootOf_any (L : Nat) (w : World) (hL : L ≤ 40) :
    Calls Try.prog 19 #[.int .i64 L] w fun e w' => e = .returned (.agg #[.int .i64 (rootP L).1, .int .i64 (rootP L).2]) ∧ Below w.heap.size w w' := by
  go_enter Try.func19, Try.ntmps19
  go_wp2
  go_loopw [4] (fun i wr => ∃ (k : Nat), i = .int .i64 k ∧ k ≤ L ∧ wr.cell? ⟨w.heap.size + 1, 0, none⟩ = some (.int .i64 (rootP k).1) ∧ wr.cell? ⟨w.heap.size + 1, 1, none⟩ = some (.int .i64 (rootP k).2) ∧ (∀ j, wr.frozen? ⟨w.heap.size + 1, j, none⟩ = false) ∧ wr.cell? ⟨w.heap.size, 0, none⟩ = some (.int .i64 0) ∧ wr.cell? ⟨w.heap.size, 1, none⟩ = some (.int .i64 0) ∧ (∀ j, wr.frozen? ⟨w.heap.size, j, none⟩ = false) ∧ w.heap.size + 2 ≤ wr.heap.size ∧ Below w.heap.size w wr) (fun i _ => L - (intOf i).toNat)
  case atStart =>
    exact ⟨0, rfl, by omega, by simp [go_sem, World.cell?_alloc_past, rootP], by simp [go_sem, World.cell?_alloc_past, rootP], by intro j; simp [go_sem], by simp [go_sem, World.cell?_alloc_past], by simp [go_sem, World.cell?_alloc_past], by intro j; simp [go_sem], by simp, (by (repeat (first | (with_reducible refine Below.drew ?_) | (with_reducible refine below_drewN ?_ _) | (with_reducible refine Below.alloc ?_ (by first | omega | (simp; done) | (simp; omega) | (simp at *; omega)) _) | (with_reducible refine Below.setCell ?_ (by first | omega | (simp; done) | (simp; omega) | (simp at *; omega)) _) | (with_reducible exact Below.refl _ _) | (with_reducible assumption) | (with_reducible refine Below.trans ?_ (Below.mono (by assumption) (by first | omega | (simp; done) | (simp; omega) | (simp at *; omega)))))))⟩
  case round =>
    obtain ⟨k, rfl, hk, c0, c1, fz, r0, r1, fr, sz, hB⟩ := hrel
    have n1 : w.heap.size + 1 < wr.heap.size := by omega
    have n2 : w.heap.size < wr.heap.size := by omega
    by_cases hkl : k < L
    · obtain ⟨b1, b2, b3, b4⟩ := rootP_bd k
      obtain ⟨x, hx⟩ : ∃ x, Hid ((rootP k).1 = x) := ⟨_, rfl⟩
      obtain ⟨y, hy⟩ : ∃ x, Hid ((rootP k).2 = x) := ⟨_, rfl⟩
      obtain ⟨x', hx'⟩ : ∃ r, Hid (isq (1000000000 * x) = r) := ⟨_, rfl⟩
      obtain ⟨y', hy'⟩ : ∃ r, Hid (isq (1000000000 * y) = r) := ⟨_, rfl⟩
      rw [hx.out] at c0 b1 b2
      rw [hy.out] at c1 b3 b4
      have e1 : IntKind.i64.wrap (1000000000 * (x : Int)) = 1000000000 * x := IntWalk.i64_in _ (by omega)
      have e2 : IntKind.i64.wrap (1000000000 * (y : Int)) = 1000000000 * y := IntWalk.i64_in _ (by omega)
      have y9 : y' ≤ 1000000000 := by
        rcases Nat.lt_or_ge 1000000000 y' with h | h
        · have h1 := isq_le (1000000000 * y)
          rw [hy'.out] at h1
          have := sq_mono (show 1000000001 ≤ y' by omega)
          omega
        · exact h
      obtain ⟨m, hm⟩ : ∃ m : Nat, Hid (y' * y' = m) := ⟨_, rfl⟩
      have m0 : (y' : Int) * y' = m := by rw [← hm.out]; simp
      have m1 : m ≤ 1000000000000000000 := by rw [← hm.out]; exact Nat.le_trans (sq_mono y9) (by omega)
      have m2 : IntKind.i64.wrap ((y' : Int) * y') = m := by rw [m0]; exact IntWalk.i64_in _ (by omega)
      have e4 : IntKind.i64.wrap ((y' : Int) + 1) = y' + 1 := IntWalk.i64_in _ (by omega)
      have QX : Hid (∀ w, Calls Try.prog 76 #[.int .i64 (1000000000 * (x : Int))] w fun e w' => e = .returned (.int .i64 x') ∧ w' = w) := fun w => (baseRoot_is (1000000000 * (x : Int)) (1000000000 * x) x' w (by omega) (by omega) hx').mono fun _ _ h => ⟨h.1, h.2.symm⟩
      have QY : Hid (∀ w, Calls Try.prog 76 #[.int .i64 (1000000000 * (y : Int))] w fun e w' => e = .returned (.int .i64 y') ∧ w' = w) := fun w => (baseRoot_is (1000000000 * (y : Int)) (1000000000 * y) y' w (by omega) (by omega) hy').mono fun _ _ h => ⟨h.1, h.2.symm⟩
      have HX1 : Hid ((rootP (k + 1)).1 = x') := by show _ = _; rw [rootP, hx.out, hx'.out]
      by_cases hc : m < 1000000000 * y
      · have HX2 : Hid ((rootP (k + 1)).2 = y' + 1) := by
          show _ = _
          rw [rootP, hy.out]
          show isq (1000000000 * y - 1) + 1 = _
          rw [isq_up (by omega), hy'.out, hm.out, if_pos hc]
        have x1 : (m : Int) < 1000000000 * y := by omega
        go_wp2
        go_big_quiet (first
          | (go_at_call 76; with_reducible exact Calls.quiet_of_same (QX.out _))
          | (go_at_call 76; with_reducible exact Calls.quiet_of_same (QY.out _)))
        go_wp2
        go_roundw
        case rel => exact ⟨k + 1, by go_num, by omega, by rw [HX1.out]; simp [go_sem, c0, c1], by rw [HX2.out]; simp [go_sem, c0, c1], by intro j; simp [go_sem, fz], by simp [go_sem, r0], by simp [go_sem, r1], by intro j; simp [go_sem, fr], by simp; omega, (by (repeat (first | (with_reducible refine Below.drew ?_) | (with_reducible refine below_drewN ?_ _) | (with_reducible refine Below.alloc ?_ (by first | omega | (simp; done) | (simp; omega) | (simp at *; omega)) _) | (with_reducible refine Below.setCell ?_ (by first | omega | (simp; done) | (simp; omega) | (simp at *; omega)) _) | (with_reducible exact Below.refl _ _) | (with_reducible assumption) | (with_reducible refine Below.trans ?_ (Below.mono (by assumption) (by first | omega | (simp; done) | (simp; omega) | (simp at *; omega)))))))⟩
        case measure => (simp [intOf]) <;> omega
      · have HX2 : Hid ((rootP (k + 1)).2 = y') := by
          show _ = _
          rw [rootP, hy.out]
          show isq (1000000000 * y - 1) + 1 = _
          rw [isq_up (by omega), hy'.out, hm.out, if_neg hc]
        have x1 : ¬ (m : Int) < 1000000000 * y := by omega
        go_wp2
        go_big_quiet (first
          | (go_at_call 76; with_reducible exact Calls.quiet_of_same (QX.out _))
          | (go_at_call 76; with_reducible exact Calls.quiet_of_same (QY.out _)))
        go_wp2
        go_roundw
        case rel => exact ⟨k + 1, by go_num, by omega, by rw [HX1.out]; simp [go_sem, c0, c1], by rw [HX2.out]; simp [go_sem, c0, c1], by intro j; simp [go_sem, fz], by simp [go_sem, r0], by simp [go_sem, r1], by intro j; simp [go_sem, fr], by simp; omega, (by (repeat (first | (with_reducible refine Below.drew ?_) | (with_reducible refine below_drewN ?_ _) | (with_reducible refine Below.alloc ?_ (by first | omega | (simp; done) | (simp; omega) | (simp at *; omega)) _) | (with_reducible refine Below.setCell ?_ (by first | omega | (simp; done) | (simp; omega) | (simp at *; omega)) _) | (with_reducible exact Below.refl _ _) | (with_reducible assumption) | (with_reducible refine Below.trans ?_ (Below.mono (by assumption) (by first | omega | (simp; done) | (simp; omega) | (simp at *; omega)))))))⟩
        case measure => (simp [intOf]) <;> omega
    · have hkk : k = L := by omega
      subst hkk
      go_wp2
      refine bodyPost_ret (v := .agg #[.int .i64 (rootP k).1, .int .i64 (rootP k).2]) (by simp [results, Try.results19, go_sem, *]) rfl ⟨rfl, ?_⟩
      (repeat (first | (with_reducible refine Below.drew ?_) | (with_reducible refine below_drewN ?_ _) | (with_reducible refine Below.alloc ?_ (by first | omega | (simp; done) | (simp; omega) | (simp at *; omega)) _) | (with_reducible refine Below.setCell ?_ (by first | omega | (simp; done) | (simp; omega) | (simp at *; omega)) _) | (with_reducible exact Below.refl _ _) | (with_reducible assumption) | (with_reducible refine Below.trans ?_ (Below.mono (by assumption) (by first | omega | (simp; done) | (simp; omega) | (simp at *; omega))))))
end Go.Proofs.Ytchfhhmmjioajaa

/- The specification's roots of the levels up to one. -/
namespace Go.Proofs.Ytchfhhmmjioajaa
open Go.ChangeShapes Go.WideShapes Go.ChangeAt Go.RowKit
set_option linter.unusedVariables false
set_option linter.unusedSimpArgs false

theorem own_below {w w' : World} {base N : Nat} {e : TypeId} {s n : Nat} {v : Value} {xs : List Value} (h : w.ownsRow base e s v n xs) (hb : Below N w w') (hN : w.heap.size ≤ N) : w'.ownsRow base e s v n xs := by
  refine ⟨h.1, ?_⟩
  rcases h.2 with hn | ⟨g, cap, cur, rfl, hg, hgg, rest⟩
  · exact .inl hn
  · refine .inr ⟨g, cap, cur, rfl, hg, ?_, rest⟩
    rw [hb.block g (Nat.lt_of_lt_of_le (Array.getElem?_eq_some_iff.1 hgg).1 hN)]
    exact hgg
theorem roots_own' {w : World} {base L : Nat} {e : TypeId} {v : Value} (h : w.ownsRow base e 2 v (L + 1) (rcs (L + 1))) : RootsAt w v L base := by
  rcases h.2 with ⟨_, h0⟩ | ⟨g, cap, cur, rfl, hb, hg, hle, hmx, _⟩
  · omega
  · refine ⟨g, cap, rfl, (Array.getElem?_eq_some_iff.1 hg).1, by omega, hle, hmx, fun k u hk => ?_⟩
    have c := World.ownsRow.cells h (g := g) rfl k u hk
    unfold Addr.add at c
    split at c
    · rename_i hz; subst hz; exact c
    · simpa using c
set_option maxRecDepth 100000 in
set_option maxHeartbeats 1000000 in
theorem refRoots_any (L : Nat) (w : World) (hL : L ≤ 40) :
    Calls Try.prog 78 #[.int .i64 L] w fun e w' => ∃ v, e = .returned v ∧ RootsAt w' v L w.heap.size ∧ Below w.heap.size w w' := by
  obtain ⟨i0, hi, hz0, hz1, hz2⟩ := info_parts infoRange
  have HI := Lib.hid hi
  have HZ0 := Lib.hid hz0
  have HZ1 := Lib.hid hz1
  have HZ2 := Lib.hid hz2
  clear hi hz0 hz1 hz2
  go_enter Try.func78, Try.ntmps78
  go_wp2
  go_loopw [3, 4] (fun v i wr => ∃ (k : Nat), i = .int .i64 k ∧ k ≤ L + 1 ∧ Hid (wr.ownsRow w.heap.size 24 2 v k (rcs k)) ∧ Below w.heap.size w wr) (fun _ i _ => L + 1 - (intOf i).toNat)
  case atStart => exact ⟨0, rfl, by omega, World.ownsRow_nil _ _ _ _, (by (repeat (first | (with_reducible refine Below.drew ?_) | (with_reducible refine below_drewN ?_ _) | (with_reducible refine Below.alloc ?_ (by first | omega | (simp; done) | (simp; omega) | (simp at *; omega)) _) | (with_reducible refine Below.setCell ?_ (by first | omega | (simp; done) | (simp; omega) | (simp at *; omega)) _) | (with_reducible exact Below.refl _ _) | (with_reducible assumption) | (with_reducible refine Below.trans ?_ (Below.mono (by assumption) (by first | omega | (simp; done) | (simp; omega) | (simp at *; omega)))))))⟩
  case round =>
    obtain ⟨k, rfl, hk, HO, hB⟩ := hrel
    have sz := hB.size
    by_cases hkl : k ≤ L
    · obtain ⟨x, hx⟩ : ∃ x, Hid ((rootP k).1 = x) := ⟨_, rfl⟩
      obtain ⟨y, hy⟩ : ∃ x, Hid ((rootP k).2 = x) := ⟨_, rfl⟩
      have HQ : Hid (∀ w, Calls Try.prog 19 #[.int .i64 k] w fun e w' => e = .returned (.agg #[.int .i64 x, .int .i64 y]) ∧ Below w.heap.size w w') := fun w => by
        rw [← hx.out, ← hy.out]; exact refRootOf_any k w (by omega)
      have HN : Hid (rcs (k + 1) = rcs k ++ [.int .i64 x, .int .i64 y]) := by show _ = _; rw [rcs_succ, hx.out, hy.out]
      have hk1 : (k : Int) ≤ L := by omega
      clear hx hy
      go_wp2_with fail
      refine (HQ.out _).mono ?_
      rintro e w1 ⟨rfl, hb1⟩
      have HO1 := Lib.hid (own_below HO.out hb1 (by simp))
      have sz1 := hb1.size
      have hB1 : Below w.heap.size w w1 := (by (repeat (first | (with_reducible refine Below.drew ?_) | (with_reducible refine below_drewN ?_ _) | (with_reducible refine Below.alloc ?_ (by first | omega | (simp; done) | (simp; omega) | (simp at *; omega)) _) | (with_reducible refine Below.setCell ?_ (by first | omega | (simp; done) | (simp; omega) | (simp at *; omega)) _) | (with_reducible exact Below.refl _ _) | (with_reducible assumption) | (with_reducible refine Below.trans ?_ (Below.mono (by assumption) (by first | omega | (simp; done) | (simp; omega) | (simp at *; omega)))))))
      clear hb1 hB
      go_wp2_with (at_builtin; refine wpList_append_own_at _ rfl _ _ 117 rfl w.heap.size 24 i0 (.agg #[.int .i64 0, .int .i64 0]) 2 16 Try.underlying117 HI.out HZ0.out HZ1.out HZ2.out rfl (by decide) _ _ _ rfl (HO1.out.alloc _) ⟨w1.heap.size, 0, none⟩ 1 1 [.int .i64 x, .int .i64 y] rfl rfl ?c0 ?c1 ?c2 ?c3 ?c4 ?_)
      case c0 =>
        intro j u hj
        match j, hj with
        | 0, hj => simp at hj; subst hj; simp [Addr.add, go_sem]
        | 1, hj => simp at hj; subst hj; simp [Addr.add, go_sem]
      case c1 => intro u hu; simp at hu; rcases hu with rfl | rfl <;> rfl
      case c2 => unfold maxLen; omega
      case c3 => omega
      case c4 => simp; omega
      intro v' w5 hown hgrow hnn hblk
      have hB5 : Below w.heap.size w w5 := hB1.trans (((Below.refl w.heap.size w1).alloc (by omega) _).grown hgrow (by simp; omega) (own_block1 HO.out))
      have HOW : Hid (w5.ownsRow w.heap.size 24 2 v' (k + 1) (rcs (k + 1))) := by
        show World.ownsRow _ _ _ _ _ _ _
        rw [HN.out]
        exact hown
      clear hown hgrow hnn hblk HO HO1
      go_wp2
      go_roundw
      case rel => exact ⟨k + 1, by go_num, by omega, HOW, hB5⟩
      case measure => (simp [intOf]) <;> omega
    · have hkk : k = L + 1 := by omega
      subst hkk
      have hk1 : ¬ ((L + 1 : Nat) : Int) ≤ L := by omega
      go_wp2
      go_ret
      exact ⟨_, rfl, roots_own' HO.out, hB⟩
end Go.Proofs.Ytchfhhmmjioajaa
