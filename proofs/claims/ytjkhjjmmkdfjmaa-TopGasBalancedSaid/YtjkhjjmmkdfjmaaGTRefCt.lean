import Derived.Test.YtjkhjjmmkdfjmaaGTFRefSh
import Derived.Test.YtjkhjjmmkdfjmaaGTVes2
import Derived.Test.YtjkhjjmmkdfjmaaGTFRoom3
import Derived.Test.YtjkhjjmmkdfjmaaGTFLeaf
import Derived.Outline
namespace Go.Proofs.Ytjkhjjmmkdfjmaa
open Go.ChangeShapes Go.WideShapes Go.ChangeAt Go.RowKit
set_option linter.unusedVariables false
set_option linter.unusedSimpArgs false
attribute [local go_sem ↓] Go.wp_at_zero Go.wp_at_succ
theorem refPlus_any (a b c x y z p q r : Int) (w : World) (a0 : 0 ≤ a) (a1 : a ≤ 1000000000000) (b0 : 0 ≤ b) (b1 : b ≤ 1000000000000) (c0 : 0 ≤ c) (c1 : c ≤ 1000000000000) (x0 : 0 ≤ x) (x1 : x ≤ 1000000000000) (y0 : 0 ≤ y) (y1 : y ≤ 1000000000000) (z0 : 0 ≤ z) (z1 : z ≤ 1000000000000) (hp : Hid (a + x = p ∧ b + y = q ∧ c + z = r)) :
    Calls Try.prog 34 #[.agg #[.int .i64 a, .int .i64 b, .int .i64 c], .agg #[.int .i64 x, .int .i64 y, .int .i64 z]] w fun e w' => e = .returned (.agg #[.int .i64 p, .int .i64 q, .int .i64 r]) ∧ Below w.heap.size w w' := by
  have e1 : a + x = p := hp.out.1
  have e2 : b + y = q := hp.out.2.1
  have e3 : c + z = r := hp.out.2.2
  clear hp
  go_enter Try.func34, Try.ntmps34
  go_wp2
  refine bodyPost_ret (v := .agg #[.int .i64 p, .int .i64 q, .int .i64 r]) (by simp [results, Try.results34, go_sem]) rfl ⟨rfl, ?_⟩
  exact belA
theorem refMinus_any (a b c x y z A B C : Int) (w : World) (a0 : 0 ≤ a) (a1 : a ≤ 1000000000) (b0 : 0 ≤ b) (b1 : b ≤ 1000000000) (c0 : 0 ≤ c) (c1 : c ≤ 1000000000) (x0 : 0 ≤ x) (x1 : x ≤ 1000000000) (y0 : 0 ≤ y) (y1 : y ≤ 1000000000) (z0 : 0 ≤ z) (z1 : z ≤ 1000000000) (h : Hid (a - x = A ∧ b - y = B ∧ c - z = C)) :
    Calls Try.prog 37 #[.agg #[.int .i64 a, .int .i64 b, .int .i64 c], .agg #[.int .i64 x, .int .i64 y, .int .i64 z]] w fun e w' => e = .returned (.agg #[.int .i64 A, .int .i64 B, .int .i64 C]) ∧ Below w.heap.size w w' := by
  have e1 : IntKind.i64.wrap (a - x) = A := by rw [← h.out.1]; exact IntWalk.i64_in _ (by omega)
  have e2 : IntKind.i64.wrap (b - y) = B := by rw [← h.out.2.1]; exact IntWalk.i64_in _ (by omega)
  have e3 : IntKind.i64.wrap (c - z) = C := by rw [← h.out.2.2]; exact IntWalk.i64_in _ (by omega)
  have f1 : a - x = A := h.out.1
  have f2 : b - y = B := h.out.2.1
  have f3 : c - z = C := h.out.2.2
  go_enter Try.func37, Try.ntmps37
  go_wp2
  refine bodyPost_ret (v := .agg #[.int .i64 A, .int .i64 B, .int .i64 C]) (by simp [results, Try.results37, go_sem, *]) rfl ⟨rfl, ?_⟩
  exact belA
theorem refShare_zero (m : Int) (w : World) : Calls Try.prog 36 #[.agg #[.int .i64 0, .int .i64 0, .int .i64 0], .int .i64 m] w fun e w' => e = .returned (.agg #[.int .i64 0, .int .i64 0, .int .i64 0]) ∧ Below w.heap.size w w' := by
  have hc : Hid (conB 0 0 0 = true) := Lib.hid (by decide)
  have hS : Hid ((0 : Int) + 0 + 0 = 0) := Lib.hid (by decide)
  go_enter Try.func36, Try.ntmps36
  go_wp2_with ((go_at_call 30; ((with_reducible refine (refSum_ok 0 0 0 0 _ hc hS).mono ?_)); rintro e w1 ⟨rfl, hbw⟩; obtain ⟨hbc, hbf⟩ := bcell hbw; have hbs := hbw.size))
  refine bodyPost_ret (v := .agg #[.int .i64 0, .int .i64 0, .int .i64 0]) (by simp [results, Try.results36, go_sem, cP, *]) rfl ⟨rfl, ?_⟩
  exact belA
theorem refShare_any (a b c m X Y Z : Int) (w : World) (hc : Hid (conB a b c = true)) (m0 : 0 ≤ m) (m1 : Hid (m ≤ a + b + c)) (hX : Hid (shareR a b c m = (X, Y, Z))) :
    Calls Try.prog 36 #[.agg #[.int .i64 a, .int .i64 b, .int .i64 c], .int .i64 m] w fun e w' => e = .returned (.agg #[.int .i64 X, .int .i64 Y, .int .i64 Z]) ∧ Below w.heap.size w w' := by
  obtain ⟨a0, b0, c0, _⟩ := conB_iff.1 hc.out
  have hx := hX.out
  have m1' := m1.out
  unfold shareR at hx
  by_cases hz : a + b + c = 0
  · rw [if_pos hz] at hx
    obtain rfl : a = 0 := by omega
    obtain rfl : b = 0 := by omega
    obtain rfl : c = 0 := by omega
    obtain ⟨rfl, rfl, rfl⟩ : 0 = X ∧ 0 = Y ∧ 0 = Z := by simpa using hx
    exact refShare_zero m w
  · rw [if_neg hz] at hx
    have s0 : 0 < a + b + c := by omega
    obtain ⟨k0, k1, k2⟩ := miss_bd a0 b0 c0 s0 m0
    obtain ⟨K, hK⟩ := Int.eq_ofNat_of_zero_le k0
    rw [hK] at hx k1 k2
    have ea := emod_bd (a * m) s0
    have eb := emod_bd (b * m) s0
    have ec := emod_bd (c * m) s0
    have hq := shq_shr (a * m / (a + b + c)) (b * m / (a + b + c)) (c * m / (a + b + c)) (show K ≤ 2 by omega) ea.1 ea.2 eb.1 eb.2 ec.1 ec.2 k2
    exact refShare_pos a b c m (a + b + c) _ _ _ _ _ _ _ _ _ X Y Z K w hc (Lib.hid rfl) s0 m0 m1' (Lib.hid ⟨rfl, rfl, rfl⟩) (Lib.hid ⟨rfl, rfl, rfl⟩) (Lib.hid ⟨rfl, rfl, rfl⟩) (Lib.hid hK) (by omega) (Lib.hid (by rw [hq]; simpa using hx))
theorem refFind_b (L : List Ve) (A : Option Addr) (cap n : Nat) (s : ByteArray) (E : Int) (w : World) (hn : Hid (n = L.length)) (hl : n ≤ 1000000) (hL : SlRows veV 3 w A L) (hE : Hid (fndV s L = E)) :
    Calls Try.prog 28 #[.slice A n cap, .string s] w fun e w' => e = .returned (.int .i64 E) ∧ Below w.heap.size w w' :=
  (refFind_any L A cap n s E w hn hl hL hE).mono fun e w' h => ⟨h.1, by rw [← h.2]; exact Below.refl _ _⟩
set_option maxHeartbeats 1000000 in
theorem refPure_any (o h am X Y Z : Int) (w : World) (hG : Hid (gasE o h = 0)) (am1 : 1 ≤ am) (am2 : am ≤ 1000000000) (hX : Hid (am * o / 1000 = X)) (hY : Hid (am * h / 1000 = Y)) (hZ : Hid (am - (X + Y) = Z)) : Calls Try.prog 53 #[.agg #[.int .i64 o, .int .i64 h], .int .i64 am] w fun e w' => e = .returned (.agg #[.int .i64 X, .int .i64 Y, .int .i64 Z]) ∧ Below w.heap.size w w' := by
  obtain ⟨a1, a2, a3, a4, c1, c2, e1, x0, y0, z0, x1, y1, z1⟩ := bri_math hG.out am1 am2 hX.out hY.out hZ.out
  clear c1 c2
  obtain ⟨P, hP⟩ : ∃ P, Hid (am * o = P) := ⟨_, Lib.hid rfl⟩
  obtain ⟨Q, hQ⟩ : ∃ Q, Hid (am * h = Q) := ⟨_, Lib.hid rfl⟩
  rw [hP.out] at a1 a2
  rw [hQ.out] at a3 a4
  have hX' := hX.out
  have hY' := hY.out
  rw [hP.out] at hX'
  rw [hQ.out] at hY'
  have w1 : IntKind.i64.wrap (am * o) = P := by rw [hP.out]; exact IntWalk.i64_in _ (by omega)
  have w2 : IntKind.i64.wrap (am * h) = Q := by rw [hQ.out]; exact IntWalk.i64_in _ (by omega)
  have q1 : IntKind.i64.wrap (P.tdiv 1000) = X := by rw [Int.tdiv_eq_ediv_of_nonneg a1, hX']; exact IntWalk.i64_in _ (by omega)
  have q2 : IntKind.i64.wrap (Q.tdiv 1000) = Y := by rw [Int.tdiv_eq_ediv_of_nonneg a3, hY']; exact IntWalk.i64_in _ (by omega)
  have w3 : IntKind.i64.wrap (am - X) = am - X := IntWalk.i64_in _ (by omega)
  have w4 : IntKind.i64.wrap (am - X - Y) = Z := by rw [show am - X - Y = Z by have := hZ.out; omega]; exact IntWalk.i64_in _ (by omega)
  clear hX' hY' e1
  go_enter Try.func53, Try.ntmps53
  go_upto_region 1 with (fail)
  refine wp_region_held_drew (S := (fun w' => w'.cell? ⟨w.heap.size, 0, none⟩ = some (.int .i64 o) ∧ w'.cell? ⟨w.heap.size, 1, none⟩ = some (.int .i64 h))) (by kernel_rfl) (by simp [go_sem, cP, *]) (fun hHeld => ?_)
  refine tkA 0 7 rfl ?_
  refine tkA 1 8 rfl ?_
  refine tkA 2 9 rfl ?_
  refine tkA 3 10 rfl ?_
  refine tkA 4 11 rfl ?_
  refine tkA 5 12 rfl ?_
  refine tkA 6 13 rfl ?_
  refine tkA 7 14 rfl ?_
  refine tkA 8 15 rfl ?_
  refine tkA 9 16 rfl ?_
  refine tkA 10 5 rfl ?_
  refine tkA 11 6 rfl ?_
  refine wpAnyH_done (by kernel_rfl) ?_ _
  go_wp2
  refine bodyPost_ret (v := .agg #[.int .i64 X, .int .i64 Y, .int .i64 Z]) (by simp [results, Try.results53, go_sem, *]) rfl ⟨rfl, ?_⟩
  exact belA
end Go.Proofs.Ytjkhjjmmkdfjmaa
