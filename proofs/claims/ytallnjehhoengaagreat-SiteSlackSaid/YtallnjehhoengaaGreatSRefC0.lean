/- Quotients of any sign, rounded down and up; remainders; squares. -/
import Derived.Test.YtallnjehhoengaaGreatSLaw0
import Derived.Test.YtallnjehhoengaaGreatSAt
import Derived.Test.YtallnjehhoengaaGreatSCosM
import Derived.Outline
namespace Go.Proofs.YtallnjehhoengaaGreat
open Go.ChangeShapes Go.WideShapes Go.ChangeAt Go.RowKit
set_option linter.unusedVariables false
set_option linter.unusedSimpArgs false
attribute [local go_sem ↓] Go.wp_at_zero Go.wp_at_succ
theorem bFl_is (n E : Int) (w : World) (h0 : -4000000000000000000 ≤ n) (h1 : n ≤ 4000000000000000000) (hE : Hid (dnO n = E)) :
    Calls Tryz.prog 74 #[.int .i64 n, .int .i64 100000000] w fun e w' => e = .returned (.int .i64 E) ∧ w = w' := by
  obtain ⟨q, hq⟩ : ∃ q, Hid (n.tdiv 100000000 = q) := ⟨_, rfl⟩
  obtain ⟨r, hr⟩ : ∃ r, Hid (n.tmod 100000000 = r) := ⟨_, rfl⟩
  have key : n = 100000000 * q + r ∧ (0 ≤ n → 0 ≤ r ∧ r < 100000000 ∧ 0 ≤ q) ∧ (n < 0 → -100000000 < r ∧ r ≤ 0 ∧ q ≤ 0) := by
    rw [← hq.out, ← hr.out]
    refine ⟨(Int.mul_tdiv_add_tmod n 100000000).symm, fun h => ?_, fun h => ?_⟩
    · rw [Int.tdiv_eq_ediv_of_nonneg h, Int.tmod_eq_emod_of_nonneg h]; omega
    · obtain ⟨m, rfl⟩ : ∃ m, n = -m := ⟨-n, by omega⟩
      rw [Int.neg_tdiv, Int.neg_tmod, Int.tdiv_eq_ediv_of_nonneg (by omega), Int.tmod_eq_emod_of_nonneg (by omega)]; omega
  obtain ⟨k1, k2, k3⟩ := key
  have hd : E = if r < 0 then q - 1 else q := by
    rw [← hE.out]; unfold dnO
    rcases Int.lt_or_le n 0 with h | h
    · have := k3 h; split <;> omega
    · have := k2 h; split <;> omega
  have b1 : -4000000000000000000 ≤ q ∧ q ≤ 4000000000000000000 ∧ -100000000 < r ∧ r < 100000000 := by
    rcases Int.lt_or_le n 0 with h | h
    · have := k3 h; omega
    · have := k2 h; omega
  obtain ⟨b2, b3, b4, b5⟩ := b1
  have m1 : n.tdiv 100000000 = q := hq.out
  have m2 : n.tmod 100000000 = r := hr.out
  have w1 : IntKind.i64.wrap q = q := IntWalk.i64_in _ (by omega)
  have w2 : IntKind.i64.wrap r = r := IntWalk.i64_in _ (by omega)
  have w3 : IntKind.i64.wrap (q - 1) = q - 1 := IntWalk.i64_in _ (by omega)
  by_cases hc : r < 0
  · have HE : Hid (E = q - 1) := Lib.hid (by rw [hd, if_pos hc])
    have hn0 : n < 0 := by rcases Int.lt_or_le n 0 with h | h; · exact h
                           · have := k2 h; omega
    clear hd k1 k2 k3 hE hq hr
    go_enter Tryz.func74, Tryz.ntmps74
    go_wp2
    go_ret
    exact ⟨ret_int HE.out.symm, rfl⟩
  · have HE : Hid (E = q) := Lib.hid (by rw [hd, if_neg hc])
    have d1 : 0 ≤ n → n / 100000000 = q := fun h => by rw [← m1, Int.tdiv_eq_ediv_of_nonneg h]
    have d2 : 0 ≤ n → n % 100000000 = r := fun h => by rw [← m2, Int.tmod_eq_emod_of_nonneg h]
    rcases Int.lt_or_le n 0 with hs | hs
    · clear hd k1 k2 k3 hE hq hr d1 d2
      go_enter Tryz.func74, Tryz.ntmps74
      go_wp2
      go_ret
      exact ⟨ret_int HE.out.symm, rfl⟩
    · have d3 := d1 hs
      have d4 := d2 hs
      clear hd k1 k2 k3 hE hq hr d1 d2
      go_enter Tryz.func74, Tryz.ntmps74
      go_wp2
      go_ret
      exact ⟨ret_int HE.out.symm, rfl⟩
theorem bCe_is (n E : Int) (w : World) (h0 : -4000000000000000000 ≤ n) (h1 : n ≤ 4000000000000000000) (hE : Hid (upO n = E)) :
    Calls Tryz.prog 75 #[.int .i64 n, .int .i64 100000000] w fun e w' => e = .returned (.int .i64 E) ∧ w = w' := by
  have e1 : IntKind.i64.wrap (-n) = -n := IntWalk.i64_in _ (by omega)
  have e2 : -4000000000000000000 ≤ dnO (-n) ∧ dnO (-n) ≤ 4000000000000000000 := by unfold dnO; omega
  obtain ⟨F, hF⟩ : ∃ F, Hid (dnO (-n) = F) := ⟨_, rfl⟩
  have hu : Hid (E = -F) := Lib.hid (by rw [← hE.out, ← hF.out]; rfl)
  rw [hu.out]
  rw [hF.out] at e2
  obtain ⟨e3, e4⟩ := e2
  have e5 : IntKind.i64.wrap (-F) = -F := IntWalk.i64_in _ (by omega)
  have C : Hid (∀ w, Calls Tryz.prog 74 #[.int .i64 (-n), .int .i64 100000000] w fun e w' => e = .returned (.int .i64 F) ∧ w = w') := fun w => bFl_is (-n) F w (by omega) (by omega) hF
  clear hE hu hF
  go_enter Tryz.func75, Tryz.ntmps75
  go_wp2_with ((go_at_call 74; ((with_reducible refine (C.out _).mono ?_)); rintro e w' ⟨rfl, rfl⟩))
  go_ret
  exact ⟨rfl, rfl⟩
theorem bMod_is (p r : Int) (w : World) (h0 : -4096 < p) (h1 : p < 4096) (hr : Hid (p % 4096 = r)) :
    Calls Tryz.prog 18 #[.int .i64 p, .int .i64 4096] w fun e w' => e = .returned (.int .i64 r) ∧ w = w' := by
  have hr2 := hr.out
  rcases Int.lt_or_le p 0 with h | h
  · have d1 : p.tmod 4096 = p := by
      obtain ⟨m, rfl⟩ : ∃ m, p = -m := ⟨-p, by omega⟩
      rw [Int.neg_tmod, Int.tmod_eq_emod_of_nonneg (by omega)]; omega
    have d2 : IntKind.i64.wrap p = p := IntWalk.i64_in _ (by omega)
    have d3 : IntKind.i64.wrap (p + 4096) = p + 4096 := IntWalk.i64_in _ (by omega)
    have HE : Hid (r = p + 4096) := Lib.hid (by omega)
    clear hr hr2
    go_enter Tryz.func18, Tryz.ntmps18
    go_wp2
    go_ret
    exact ⟨ret_int HE.out.symm, rfl⟩
  · have d1 : p.tmod 4096 = p := by rw [Int.tmod_eq_emod_of_nonneg h]; omega
    have d2 : IntKind.i64.wrap p = p := IntWalk.i64_in _ (by omega)
    have d4 : p % 4096 = p := by omega
    have HE : Hid (r = p) := Lib.hid (by omega)
    clear hr hr2
    go_enter Tryz.func18, Tryz.ntmps18
    go_wp2
    go_ret
    exact ⟨ret_int HE.out.symm, rfl⟩
theorem sq_bd {x : Int} (h0 : -100000000 ≤ x) (h1 : x ≤ 100000000) : 0 ≤ x * x ∧ x * x ≤ 10000000000000000 := by
  rcases Int.lt_or_le x 0 with h | h
  · have e : x * x = (-x) * (-x) := by rw [Int.neg_mul_neg]
    rw [e]
    exact ⟨Int.mul_nonneg (by omega) (by omega), Int.mul_le_mul (show -x ≤ 100000000 by omega) (show -x ≤ 100000000 by omega) (by omega) (by omega)⟩
  · exact ⟨Int.mul_nonneg h h, Int.mul_le_mul (show x ≤ 100000000 by omega) (show x ≤ 100000000 by omega) h (by omega)⟩
set_option maxRecDepth 100000 in
set_option maxHeartbeats 1000000 in
theorem least_is (a b z : Int) (w : World) (a0 : -100000000 ≤ a) (a1 : a ≤ 100000000) (b0 : -100000000 ≤ b) (b1 : b ≤ 100000000) (hz : Hid (lsq a b = z)) :
    Calls Tryz.prog 19 #[.agg #[.int .i64 a, .int .i64 b]] w fun e w' => e = .returned (.int .i64 z) ∧ Below w.heap.size w w' := by
  obtain ⟨p, hp⟩ : ∃ p, Hid (a * a = p) := ⟨_, rfl⟩
  obtain ⟨q, hq⟩ : ∃ q, Hid (b * b = q) := ⟨_, rfl⟩
  have p1 := sq_bd a0 a1
  have q1 := sq_bd b0 b1
  rw [hp.out] at p1
  rw [hq.out] at q1
  have e1 : IntKind.i64.wrap (a * a) = p := by rw [hp.out]; exact IntWalk.i64_in _ (by omega)
  have e2 : IntKind.i64.wrap (b * b) = q := by rw [hq.out]; exact IntWalk.i64_in _ (by omega)
  have hz2 := hz.out
  unfold lsq at hz2
  rw [hp.out, hq.out] at hz2
  by_cases c1 : a ≤ 0
  · by_cases c2 : 0 ≤ b
    · have HE : Hid (z = 0) := Lib.hid (by rw [← hz2, if_pos ⟨c1, c2⟩])
      clear hz hz2 hp hq
      go_enter Tryz.func19, Tryz.ntmps19
      go_wp2
      go_ret
      all_goals exact ⟨ret_int HE.out.symm, (by (repeat (first | (with_reducible refine Below.drew ?_) | (with_reducible refine below_drewN ?_ _) | (with_reducible refine Below.alloc ?_ (by first | omega | (simp; done) | (simp; omega) | (simp at *; omega)) _) | (with_reducible refine Below.setCell ?_ (by first | omega | (simp; done) | (simp; omega) | (simp at *; omega)) _) | (with_reducible exact Below.refl _ _) | (with_reducible assumption) | (with_reducible refine Below.trans ?_ (Below.mono (by assumption) (by first | omega | (simp; done) | (simp; omega) | (simp at *; omega)))))))⟩
    · have HE : Hid (min p q = z) := Lib.hid (by rw [← hz2, if_neg (fun h => c2 h.2)])
      clear hz hz2 hp hq
      go_enter Tryz.func19, Tryz.ntmps19
      go_wp2
      all_goals
        go_ret
        exact ⟨ret_int (by rw [← HE.out] <;> omega), (by (repeat (first | (with_reducible refine Below.drew ?_) | (with_reducible refine below_drewN ?_ _) | (with_reducible refine Below.alloc ?_ (by first | omega | (simp; done) | (simp; omega) | (simp at *; omega)) _) | (with_reducible refine Below.setCell ?_ (by first | omega | (simp; done) | (simp; omega) | (simp at *; omega)) _) | (with_reducible exact Below.refl _ _) | (with_reducible assumption) | (with_reducible refine Below.trans ?_ (Below.mono (by assumption) (by first | omega | (simp; done) | (simp; omega) | (simp at *; omega)))))))⟩
  · have HE : Hid (min p q = z) := Lib.hid (by rw [← hz2, if_neg (fun h => c1 h.1)])
    clear hz hz2 hp hq
    go_enter Tryz.func19, Tryz.ntmps19
    go_wp2
    all_goals
      go_ret
      exact ⟨ret_int (by rw [← HE.out] <;> omega), (by (repeat (first | (with_reducible refine Below.drew ?_) | (with_reducible refine below_drewN ?_ _) | (with_reducible refine Below.alloc ?_ (by first | omega | (simp; done) | (simp; omega) | (simp at *; omega)) _) | (with_reducible refine Below.setCell ?_ (by first | omega | (simp; done) | (simp; omega) | (simp at *; omega)) _) | (with_reducible exact Below.refl _ _) | (with_reducible assumption) | (with_reducible refine Below.trans ?_ (Below.mono (by assumption) (by first | omega | (simp; done) | (simp; omega) | (simp at *; omega)))))))⟩
set_option maxRecDepth 100000 in
set_option maxHeartbeats 1000000 in
theorem most_is (a b z : Int) (w : World) (a0 : -100000000 ≤ a) (a1 : a ≤ 100000000) (b0 : -100000000 ≤ b) (b1 : b ≤ 100000000) (hz : Hid (msq a b = z)) :
    Calls Tryz.prog 20 #[.agg #[.int .i64 a, .int .i64 b]] w fun e w' => e = .returned (.int .i64 z) ∧ Below w.heap.size w w' := by
  obtain ⟨p, hp⟩ : ∃ p, Hid (a * a = p) := ⟨_, rfl⟩
  obtain ⟨q, hq⟩ : ∃ q, Hid (b * b = q) := ⟨_, rfl⟩
  have p1 := sq_bd a0 a1
  have q1 := sq_bd b0 b1
  rw [hp.out] at p1
  rw [hq.out] at q1
  have e1 : IntKind.i64.wrap (a * a) = p := by rw [hp.out]; exact IntWalk.i64_in _ (by omega)
  have e2 : IntKind.i64.wrap (b * b) = q := by rw [hq.out]; exact IntWalk.i64_in _ (by omega)
  have HE : Hid (max p q = z) := Lib.hid (by rw [← hz.out]; unfold msq; rw [hp.out, hq.out])
  clear hz hp hq
  go_enter Tryz.func20, Tryz.ntmps20
  go_wp2
  all_goals
    go_ret
    exact ⟨ret_int (by rw [← HE.out] <;> omega), (by (repeat (first | (with_reducible refine Below.drew ?_) | (with_reducible refine below_drewN ?_ _) | (with_reducible refine Below.alloc ?_ (by first | omega | (simp; done) | (simp; omega) | (simp at *; omega)) _) | (with_reducible refine Below.setCell ?_ (by first | omega | (simp; done) | (simp; omega) | (simp at *; omega)) _) | (with_reducible exact Below.refl _ _) | (with_reducible assumption) | (with_reducible refine Below.trans ?_ (Below.mono (by assumption) (by first | omega | (simp; done) | (simp; omega) | (simp at *; omega)))))))⟩
end Go.Proofs.YtallnjehhoengaaGreat
