import Derived.Test.YtijdphlejokijaaERERest
import Derived.Outline
namespace Go.Proofs.Ytijdphlejokijaa
open Go.ChangeShapes Go.WideShapes Go.ChangeAt Go.RowKit
set_option linter.unusedVariables false
set_option linter.unusedSimpArgs false
attribute [local go_sem ↓] Go.wp_at_zero Go.wp_at_succ
theorem bW_r (n a b : Int) (r : Bool) (w : World) (h : Hid (inB n a b = r)) : Calls Try.prog 20 #[.int .i64 n, .int .i64 a, .int .i64 b] w fun e w' => e = .returned (.bool r) ∧ w = w' := by rw [← h.out]; exact baseWithin_any n a b w
theorem fir_bad {x y : Int} (hx : x = 0 ∨ x = 2) (hy : y = 0 ∨ y = 2) (h : ¬ (x = 0 ∧ y = 0)) : firE [x, y] = 2 := by
  rcases hx with rfl | rfl <;> rcases hy with rfl | rfl <;> first | rfl | exact absurd ⟨rfl, rfl⟩ h
theorem rng02 (n a b : Int) : rngE n a b = 0 ∨ rngE n a b = 2 := by
  cases h : inB n a b with
  | true => exact Or.inl (rngE_t h)
  | false => exact Or.inr (by unfold rngE; rw [h]; rfl)
set_option maxRecDepth 100000 in
set_option maxHeartbeats 2000000 in
theorem rests_bad (c s : Int) (a b : Bool) (w : World) (ha : Hid (inB c 0 1000000000000 = a)) (hb : Hid (inB s 0 10000000 = b)) (hab : ¬ (a = true ∧ b = true)) :
    Calls Try.prog 6 #[.int .i64 c, .int .i64 s] w fun e w' => e = .returned (.bool true) ∧ Below w.heap.size w w' := by
  have HR : Hid (∀ X : World, Calls Try.prog 32 #[.int .i64 c, .int .i64 s] X fun e w' => e = .returned (.tuple #[.int .i64 0, .int .i64 2]) ∧ Below X.heap.size X w') := Lib.hid fun X => by
    have hE : firE [rngE c 0 1000000000000, rngE s 0 10000000] = 2 := fir_bad (rng02 _ _ _) (rng02 _ _ _) (fun h => by
      have h1 := rngE_bd h.1
      have h2 := rngE_bd h.2
      exact hab ⟨by rw [← ha.out]; exact inB_true h1.1 h1.2, by rw [← hb.out]; exact inB_true h2.1 h2.2⟩)
    refine (Rested_any c s _ _ 2 X (Lib.hid rfl) (Lib.hid rfl) (Lib.hid hE)).mono ?_
    rintro e w' (⟨_, rfl, h⟩ | ⟨h, _⟩)
    · exact ⟨rfl, h⟩
    · exact absurd h (by decide)
  go_enter Try.func6, Try.ntmps6
  go_wp2_with fail
  refine (awake_any _).mono ?_
  rintro e w1 ⟨rfl, hB1⟩
  go_wp2_with fail
  refine (HR.out w1).mono ?_
  rintro e w2 ⟨rfl, hb2⟩
  have hB2 : Below w.heap.size w w2 := hB1.trans (hb2.mono hB1.size)
  clear hb2 hB1 HR
  cases a with
  | false =>
    go_wp2_with fail
    refine (bW_r c 0 1000000000000 false _ ha).mono ?_
    rintro e w3 ⟨rfl, rfl⟩
    go_wp2
    go_ret
    exact ⟨rfl, hB2⟩
  | true =>
    cases b with
    | true => exact absurd ⟨rfl, rfl⟩ hab
    | false =>
      go_wp2_with fail
      refine (bW_r c 0 1000000000000 true _ ha).mono ?_
      rintro e w3 ⟨rfl, rfl⟩
      go_wp2_with fail
      refine (bW_r s 0 10000000 false _ hb).mono ?_
      rintro e w3 ⟨rfl, rfl⟩
      go_wp2
      go_ret
      exact ⟨rfl, hB2⟩
set_option maxRecDepth 100000 in
set_option maxHeartbeats 2000000 in
theorem rests_good (c s m : Int) (w : World) (c0 : 0 ≤ c) (c1 : c ≤ 1000000000000) (s0 : 0 ≤ s) (s1 : s ≤ 10000000) (hm : (s + 5400 ≤ 10000000 ∧ m = s + 5400) ∨ (10000000 < s + 5400 ∧ m = 10000000)) :
    Calls Try.prog 6 #[.int .i64 c, .int .i64 s] w fun e w' => e = .returned (.bool true) ∧ Below w.heap.size w w' := by
  have ok : ∀ (t : Int), 0 ≤ t → t ≤ 10000000 → ∀ X : World, Calls Try.prog 32 #[.int .i64 c, .int .i64 t] X fun e w' => e = .returned (.tuple #[.int .i64 (rstI c (t / 5400).toNat), .int .i64 0]) ∧ Below X.heap.size X w' := fun t t0 t1 X => by
    refine (Rested_any c t 0 0 0 X (Lib.hid (rngE_t (inB_true c0 c1))) (Lib.hid (rngE_t (inB_true t0 t1))) (Lib.hid rfl)).mono ?_
    rintro e w' (⟨h, _⟩ | ⟨_, rfl, h⟩)
    · exact absurd rfl h
    · exact ⟨rfl, h⟩
  have m0 : 0 ≤ m := by omega
  have m1 : m ≤ 10000000 := by omega
  obtain ⟨a9, ha9⟩ : ∃ z, Hid (rstI c (s / 5400).toNat = z) := ⟨_, Lib.hid rfl⟩
  obtain ⟨b9, hb9⟩ : ∃ z, Hid (rstI c (m / 5400).toNat = z) := ⟨_, Lib.hid rfl⟩
  have hle : b9 ≤ a9 := by
    rw [← ha9.out, ← hb9.out]
    have hj : (m / 5400).toNat = (s / 5400).toNat + ((m / 5400).toNat - (s / 5400).toNat) := by omega
    rw [hj]
    exact rstI_mono c0 _ _
  have H1 := Lib.hid (ok s s0 s1)
  have H2 := Lib.hid (ok m m0 m1)
  have H3 := Lib.hid (fun X => refRested_is c s X c0 c1 s0 s1)
  rw [ha9.out] at H1 H3
  rw [hb9.out] at H2
  clear ok ha9 hb9
  have hw : IntKind.i64.wrap (s + 5400) = s + 5400 := IntWalk.i64_in _ (by omega)
  have hi1 := Lib.hid (inB_true c0 c1)
  have hi2 := Lib.hid (inB_true s0 s1)
  have walk : ∀ (hmin : (s + 5400 ≤ 10000000 ∧ m = s + 5400) ∨ (10000000 < s + 5400 ∧ m = 10000000)), True := fun _ => trivial
  clear walk
  go_enter Try.func6, Try.ntmps6
  go_wp2_with fail
  refine (awake_any _).mono ?_
  rintro e w1 ⟨rfl, hB1⟩
  go_wp2_with fail
  refine (H1.out w1).mono ?_
  rintro e w2 ⟨rfl, hb2⟩
  have hB2 : Below w.heap.size w w2 := hB1.trans (hb2.mono hB1.size)
  clear hb2 hB1
  go_wp2_with fail
  refine (bW_r c 0 1000000000000 true _ hi1).mono ?_
  rintro e w3 ⟨rfl, rfl⟩
  go_wp2_with fail
  refine (bW_r s 0 10000000 true _ hi2).mono ?_
  rintro e w3 ⟨rfl, rfl⟩
  rcases hm with ⟨h5, rfl⟩ | ⟨h5, rfl⟩
  · have h6 : ¬ (10000000 : Int) < s + 5400 := by omega
    go_wp2_with fail
    refine (H2.out w2).mono ?_
    rintro e w4 ⟨rfl, hb4⟩
    have hB4 : Below w.heap.size w w4 := hB2.trans (hb4.mono hB2.size)
    clear hb4 hB2
    go_wp2_with fail
    refine (H3.out w4).mono ?_
    rintro e w5 ⟨rfl, rfl⟩
    go_wp2
    go_ret
    exact ⟨rfl, hB4⟩
  · have h6 : ¬ s + 5400 ≤ 10000000 := by omega
    go_wp2_with fail
    refine (H2.out w2).mono ?_
    rintro e w4 ⟨rfl, hb4⟩
    have hB4 : Below w.heap.size w w4 := hB2.trans (hb4.mono hB2.size)
    clear hb4 hB2
    go_wp2_with fail
    refine (H3.out w4).mono ?_
    rintro e w5 ⟨rfl, rfl⟩
    go_wp2
    go_ret
    exact ⟨rfl, hB4⟩
theorem exposureRests_any (c s : Int) (w : World) :
    Calls Try.prog 6 #[.int .i64 c, .int .i64 s] w fun e w' => e = .returned (.bool true) ∧ Below w.heap.size w w' := by
  cases ha : inB c 0 1000000000000 with
  | false => exact rests_bad c s false _ w (Lib.hid ha) (Lib.hid rfl) (fun h => by cases h.1)
  | true =>
    cases hb : inB s 0 10000000 with
    | false => exact rests_bad c s true false w (Lib.hid ha) (Lib.hid hb) (fun h => by cases h.2)
    | true =>
      have h1 := inB_iff.1 ha
      have h2 := inB_iff.1 hb
      by_cases h5 : s + 5400 ≤ 10000000
      · exact rests_good c s (s + 5400) w h1.1 h1.2 h2.1 h2.2 (Or.inl ⟨h5, rfl⟩)
      · exact rests_good c s 10000000 w h1.1 h1.2 h2.1 h2.2 (Or.inr ⟨by omega, rfl⟩)
end Go.Proofs.Ytijdphlejokijaa
