import Derived.Test.YtijdphlejokijaaEREAwk
import Derived.Outline
namespace Go.Proofs.Ytijdphlejokijaa
open Go.ChangeShapes Go.WideShapes Go.ChangeAt Go.RowKit
set_option linter.unusedVariables false
set_option linter.unusedSimpArgs false
attribute [local go_sem ↓] Go.wp_at_zero Go.wp_at_succ
/-- A clock behind k halvings. -/
def rstI (c : Int) : Nat → Int
  | 0 => c
  | k + 1 => upE (rstI c k) 2
theorem rstI_bd {c : Int} (h : 0 ≤ c) : ∀ k, 0 ≤ rstI c k ∧ rstI c k ≤ c
  | 0 => ⟨h, Int.le_refl _⟩
  | k + 1 => by
    have ih := rstI_bd h k
    have := upE_bd (d := 2) ih.1 (by decide)
    show 0 ≤ upE (rstI c k) 2 ∧ upE (rstI c k) 2 ≤ c
    omega
theorem rstI_mono {c : Int} (h : 0 ≤ c) : ∀ k j, rstI c (k + j) ≤ rstI c k
  | k, 0 => Int.le_refl _
  | k, j + 1 => by
    have ih := rstI_mono h k j
    have := upE_bd (d := 2) (rstI_bd h (k + j)).1 (by decide)
    show upE (rstI c (k + j)) 2 ≤ rstI c k
    omega
theorem rstI_low {c : Int} (h : 0 ≤ c) {k : Nat} (h1 : rstI c k ≤ 1) : ∀ j, rstI c (k + j) = rstI c k
  | 0 => rfl
  | j + 1 => by
    have ih := rstI_low h h1 j
    have b := (rstI_bd h k).1
    show upE (rstI c (k + j)) 2 = _
    rw [ih]
    have : rstI c k = 0 ∨ rstI c k = 1 := by omega
    rcases this with e | e <;> rw [e] <;> decide
set_option maxHeartbeats 1000000 in
theorem Rested_any (c s E1 E2 E : Int) (w : World) (h1 : Hid (rngE c 0 1000000000000 = E1)) (h2 : Hid (rngE s 0 10000000 = E2)) (hE : Hid (firE [E1, E2] = E)) :
    Calls Try.prog 32 #[.int .i64 c, .int .i64 s] w fun e w' => (¬ E = 0 ∧ e = .returned (.tuple #[.int .i64 0, .int .i64 E]) ∧ Below w.heap.size w w') ∨ (E = 0 ∧ e = .returned (.tuple #[.int .i64 (rstI c (s / 5400).toNat), .int .i64 0]) ∧ Below w.heap.size w w') := by
  go_enter Try.func32, Try.ntmps32
  go_wp2_with fail
  refine (cRange_is c 0 1000000000000 E1 _ h1).mono ?_
  rintro e x1 ⟨rfl, rfl⟩
  go_wp2_with fail
  refine (cRange_is s 0 10000000 E2 _ h2).mono ?_
  rintro e x1 ⟨rfl, rfl⟩
  go_wp2_with fail
  have Z5 := BlkF.made (B := w.heap.size) w [.int .i64 E1, .int .i64 E2] 29 (Nat.le_refl _)
  refine (cFirstB [E1, E2] _ 0 2 _ rfl (by simp) (by simp) (blk_ints (l := [E1, E2]) Z5)).mono ?_
  rintro e x3 ⟨rfl, hb3⟩
  rw [hE.out]
  have hB3 : Below w.heap.size w x3 := ((Below.refl _ _).alloc (Nat.le_refl _) _).trans (hb3.mono (by simp))
  clear hb3 Z5
  by_cases hEE : ¬ E = 0
  · have hE3 : (E != 0) = true := by simpa using hEE
    go_wp2
    go_ret2
    exact Or.inl ⟨hEE, rfl, hB3⟩
  obtain rfl : E = 0 := by omega
  obtain ⟨rfl, rfl⟩ : E1 = 0 ∧ E2 = 0 := by
    have := firE_all hE.out
    exact ⟨this _ (by simp), this _ (by simp)⟩
  have bc := rngE_bd h1.out
  have bs := rngE_bd h2.out
  obtain ⟨n9, hn9⟩ : ∃ z : Nat, Hid ((s / 5400).toNat = z) := ⟨_, Lib.hid rfl⟩
  have hd1 : s / 5400 = (n9 : Int) := by have := hn9.out; omega
  have hd2 : s.tdiv 5400 = (n9 : Int) := by rw [Int.tdiv_eq_ediv_of_nonneg (by omega)]; exact hd1
  have hn : n9 ≤ 1852 := by omega
  have hd3 : IntKind.i64.wrap (s.tdiv 5400) = (n9 : Int) := by rw [hd2]; exact IntWalk.i64_in _ (by omega)
  have hd4 : IntKind.i64.wrap (n9 : Int) = (n9 : Int) := IntWalk.i64_in _ (by omega)
  clear hE h1 h2 hd1
  go_wp2
  go_loopw [0, 18] (fun x i wr => ∃ k : Nat, k ≤ n9 ∧ x = .int .i64 (rstI c k) ∧ i = .int .i64 k ∧ Below w.heap.size w wr) (fun _ i _ => n9 - (intOf i).toNat)
  case atStart => exact ⟨0, by omega, rfl, rfl, hB3⟩
  case round =>
    obtain ⟨k, hk, rfl, rfl, hB⟩ := hrel
    by_cases hkn : k < n9
    · have kn : (k : Int) < (n9 : Int) := by omega
      have hw : IntKind.i64.wrap ((k : Int) + 1) = (k : Int) + 1 := IntWalk.i64_in _ (by omega)
      have hr := rstI_bd bc.1 k
      go_wp2_with fail
      refine (dividedUp_is (rstI c k) 2 (rstI c (k + 1)) _ hr.1 (by omega) (by decide) (by decide) (Lib.hid rfl)).mono ?_
      rintro e x4 ⟨rfl, rfl⟩
      go_wp2
      go_roundw
      case rel => exact ⟨k + 1, by omega, rfl, by go_num, hB⟩
      case measure => simp [intOf]; omega
    · have kn : ¬ (k : Int) < (n9 : Int) := by omega
      obtain rfl : k = n9 := by omega
      go_wp2
      go_ret2
      first | exact Or.inr ⟨rfl, by rw [hn9.out]; rfl, hB⟩ | exact ⟨by rw [hn9.out]; rfl, hB⟩
theorem baseCeil_u (n d q : Int) (w : World) (h0 : 0 ≤ n) (h1 : n ≤ 1000000000000000000) (h2 : 0 < d) (h3 : d ≤ 1000000000000000000) (hq : Hid (upE n d = q)) : Calls Try.prog 78 #[.int .i64 n, .int .i64 d] w fun e w' => e = .returned (.int .i64 q) ∧ w = w' := by
  rw [← hq.out]; exact baseCeil_nn n d w h0 h1 h2 h3
set_option maxHeartbeats 1000000 in
theorem refRested_is (c s : Int) (w : World) (c0 : 0 ≤ c) (c1 : c ≤ 1000000000000) (s0 : 0 ≤ s) (s1 : s ≤ 10000000) :
    Calls Try.prog 33 #[.int .i64 c, .int .i64 s] w fun e w' => e = .returned (.int .i64 (rstI c (s / 5400).toNat)) ∧ w = w' := by
  go_enter Try.func33, Try.ntmps33
  go_wp2
  go_loop [0, 5] (fun x i => ∃ k : Nat, 5400 * (k : Int) ≤ s ∧ x = .int .i64 (rstI c k) ∧ i = .int .i64 (s - 5400 * k)) (fun _ i => (intOf i).toNat)
  case atStart => exact ⟨0, by omega, rfl, by simp⟩
  case round =>
    obtain ⟨k, hk, rfl, rfl⟩ := hrel
    have hr := rstI_bd c0 k
    obtain ⟨v, hv⟩ : ∃ z, Hid (rstI c k = z) := ⟨_, Lib.hid rfl⟩
    obtain ⟨i9, hi⟩ : ∃ z, Hid (s - 5400 * (k : Int) = z) := ⟨_, Lib.hid rfl⟩
    have hi' := hi.out
    rw [hv.out] at hr ⊢
    rw [hi.out]
    have hw : IntKind.i64.wrap (i9 - 5400) = i9 - 5400 := IntWalk.i64_in _ (by omega)
    by_cases h5 : 5400 ≤ i9
    · by_cases hv1 : 1 < v
      · have hu : Hid (upE v 2 = rstI c (k + 1)) := Lib.hid (by rw [← hv.out]; rfl)
        go_wp2_with fail
        refine (baseCeil_u v 2 _ _ (by omega) (by omega) (by omega) (by omega) hu).mono ?_
        rintro e x4 ⟨rfl, rfl⟩
        go_wp2
        go_round
        case rel => exact ⟨k + 1, by omega, rfl, by congr 1; omega⟩
        case measure => simp [intOf]; omega
      · have hv2 : v ≤ 1 := by omega
        have hR : Hid (rstI c (s / 5400).toNat = v) := Lib.hid (by
          have hj : (s / 5400).toNat = k + ((s / 5400).toNat - k) := by omega
          rw [hj, rstI_low c0 (by rw [hv.out]; exact hv2)]
          exact hv.out)
        go_wp2
        go_ret
        exact ⟨ret_int hR.out.symm, rfl⟩
    · have h6 : i9 < 5400 := by omega
      have hR : Hid (rstI c (s / 5400).toNat = v) := Lib.hid (by
        rw [show (s / 5400).toNat = k by omega]
        exact hv.out)
      go_wp2
      go_ret
      exact ⟨ret_int hR.out.symm, rfl⟩
end Go.Proofs.Ytijdphlejokijaa
