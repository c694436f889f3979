/- The specification's tables of factors: CheckFactors, FactorAt, RealAmount. -/
import Derived.Test.YtjkhjjmmkdfjmaaFFac3
import Derived.Test.YtjkhjjmmkdfjmaaFFlo
import Derived.Deep.CutBlock
import Derived.Outline
namespace Go.Proofs.Ytjkhjjmmkdfjmaa
open Go.ChangeShapes Go.WideShapes Go.ChangeAt Go.RowKit
set_option linter.unusedVariables false
set_option linter.unusedSimpArgs false
attribute [local go_sem ↓] Go.wp_at_zero Go.wp_at_succ
set_option maxHeartbeats 4000000 in
set_option maxRecDepth 100000 in
theorem refCheckFactors_some (L : List Fc) (b off cap n : Nat) (E : Int) (w : World) (hn : Hid (n = L.length)) (n0 : 0 < n) (n1 : n ≤ 20) (hlt : b < w.heap.size) (hL : RowsAt fcV 3 w b off L) (hE : Hid (facE (-1) L = E)) :
    Calls Try.prog 47 #[.slice (some ⟨b, off, none⟩) n cap] w fun e w' => e = .returned (.int .i64 E) ∧ Below w.heap.size w w' := by
  have HP := Lib.hid hL
  have g0 : ¬ ((n : Nat) : Int) = 0 := by omega
  have g1 : ¬ (20 : Int) < ((n : Nat) : Int) := by omega
  have g0b : (((n : Nat) : Int) == 0) = false := by simpa using g0
  clear hL
  go_enter Try.func47, Try.ntmps47
  go_wp2
  go_loopw [3] (fun i wr => ∃ (k : Nat) (c : Int), k ≤ n ∧ i = .int .i64 k ∧ Hid (facE c (L.drop k) = E) ∧ Hid (k = 0 ∧ c = -1 ∨ ∃ (hk : 0 < k) (h2 : k - 1 < L.length), c = (L[k - 1]).p) ∧ Below w.heap.size w wr) (fun i _ => n - (intOf i).toNat)
  case atStart => exact ⟨0, -1, by omega, rfl, by rw [List.drop_zero]; exact hE, Lib.hid (Or.inl ⟨rfl, rfl⟩), Below.refl _ _⟩
  case round =>
    clear hE
    obtain ⟨k, c, hk, rfl, hz, hc, hB⟩ := hrel
    have hsz := hB.size
    by_cases hkn : k < n
    · have hkl : k < L.length := by have := hn.out; omega
      have kn : (k : Int) < (n : Int) := by omega
      have lb : b < wr.heap.size := by omega
      have nb : b ≠ wr.heap.size := by omega
      obtain ⟨c0, c1, c2⟩ := fc_at (HP.out.below hB hlt) hkl
      have he := hz.out
      rw [facE_at hkl] at he
      obtain ⟨p0, h0⟩ : ∃ x, Hid (L[k].p = x) := ⟨L[k].p, Lib.hid rfl⟩
      obtain ⟨p1, h1⟩ : ∃ x, Hid (L[k].l = x) := ⟨L[k].l, Lib.hid rfl⟩
      obtain ⟨p2, h2⟩ : ∃ x, Hid (L[k].u = x) := ⟨L[k].u, Lib.hid rfl⟩
      rw [h0.out] at c0
      rw [h1.out] at c1
      rw [h2.out] at c2
      have hg : L[k] = ⟨p0, p1, p2⟩ := by rw [← h0.out, ← h1.out, ← h2.out]
      rw [hg] at he
      rcases inB_cases p0 0 400000 with i1 | i1
      · rcases inB_cases p1 500 2000 with i2 | i2
        · rcases inB_cases p2 500 2000 with i3 | i3
          · skip
            by_cases h4 : p2 < p1
            · have hv : rowE c ⟨p0, p1, p2⟩ = 9 := by unfold rowE; simp only [i1, i2, i3, if_true]; exact if_pos (Or.inl h4)
              have hr : Hid (E = 9) := Lib.hid (by rw [hv, if_neg (by omega)] at he; exact he.symm)
              clear hv
              have h4d : decide (p2 < p1) = true := by simpa using h4
              clear he hz hg hc
              go_upto_region 11 with ((go_at_call 33; ((with_reducible refine (baseWithin_any _ _ _ _).mono ?_)); rintro e w' ⟨rfl, rfl⟩))
              refine wp_region_held_drew (S := (fun w' => w'.cell? ⟨wr.heap.size, 0, none⟩ = some (.int .i64 p1) ∧ w'.cell? ⟨wr.heap.size, 1, none⟩ = some (.int .i64 p2))) (by kernel_rfl) (by simp [go_sem, World.cell?_alloc_past, *]) (fun hHeld => ?_)
              refine tkH 0 ⟨some 41, _, _, _, _, _⟩ ?_ rfl ?_ (by assumption) ?_
              rotate_left
              · (intro w hSw; (try dsimp only at hSw); go_simp; all_goals with_reducible rfl)
              try simp only [Act.put, sA, sB, sC]
              refine tkH 1 ⟨some 42, _, _, _, _, _⟩ ?_ rfl ?_ (by assumption) ?_
              rotate_left
              · (intro w hSw; (try dsimp only at hSw); go_simp; all_goals with_reducible rfl)
              try simp only [Act.put, sA, sB, sC]
              refine tkH 2 ⟨some 43, _, _, _, _, _⟩ ?_ rfl ?_ (by assumption) ?_
              rotate_left
              · (intro w hSw; (try dsimp only at hSw); go_simp; all_goals with_reducible rfl)
              try simp only [Act.put, sA, sB, sC]
              refine tkH 3 ⟨some 44, _, _, _, _, _⟩ ?_ rfl ?_ (by assumption) ?_
              rotate_left
              · (intro w hSw; (try dsimp only at hSw); go_simp; all_goals with_reducible rfl)
              try simp only [Act.put, sA, sB, sC]
              refine tkH 4 ⟨some 45, _, _, _, _, _⟩ ?_ rfl ?_ (by assumption) ?_
              rotate_left
              · (intro w hSw; (try dsimp only at hSw); go_simp; all_goals with_reducible rfl)
              try simp only [Act.put, sA, sB, sC]
              refine tkH 5 ⟨some 46, _, _, _, _, _⟩ ?_ rfl ?_ (by assumption) ?_
              rotate_left
              · (intro w hSw; (try dsimp only at hSw); go_simp; all_goals with_reducible rfl)
              try simp only [Act.put, sA, sB, sC]
              refine skH 6 ⟨some 47, _, _, _, _, _⟩ rfl (by assumption) ?_
              try simp only [Act.put, sA, sB, sC]
              refine skH 7 ⟨some 48, _, _, _, _, _⟩ rfl (by assumption) ?_
              try simp only [Act.put, sA, sB, sC]
              refine skH 8 ⟨some 49, _, _, _, _, _⟩ rfl (by assumption) ?_
              try simp only [Act.put, sA, sB, sC]
              refine skH 9 ⟨some 50, _, _, _, _, _⟩ rfl (by assumption) ?_
              try simp only [Act.put, sA, sB, sC]
              refine skH 10 ⟨some 51, _, _, _, _, _⟩ rfl (by assumption) ?_
              try simp only [Act.put, sA, sB, sC]
              refine skH 11 ⟨some 52, _, _, _, _, _⟩ rfl (by assumption) ?_
              try simp only [Act.put, sA, sB, sC]
              refine skH 12 ⟨some 53, _, _, _, _, _⟩ rfl (by assumption) ?_
              try simp only [Act.put, sA, sB, sC]
              refine skH 13 ⟨some 54, _, _, _, _, _⟩ rfl (by assumption) ?_
              try simp only [Act.put, sA, sB, sC]
              refine skH 14 ⟨some 55, _, _, _, _, _⟩ rfl (by assumption) ?_
              try simp only [Act.put, sA, sB, sC]
              refine skH 15 ⟨some 56, _, _, _, _, _⟩ rfl (by assumption) ?_
              try simp only [Act.put, sA, sB, sC]
              refine skH 16 ⟨some 57, _, _, _, _, _⟩ rfl (by assumption) ?_
              try simp only [Act.put, sA, sB, sC]
              refine skH 17 ⟨some 58, _, _, _, _, _⟩ rfl (by assumption) ?_
              try simp only [Act.put, sA, sB, sC]
              refine skH 18 ⟨some 59, _, _, _, _, _⟩ rfl (by assumption) ?_
              try simp only [Act.put, sA, sB, sC]
              refine skH 19 ⟨some 60, _, _, _, _, _⟩ rfl (by assumption) ?_
              try simp only [Act.put, sA, sB, sC]
              refine skH 20 ⟨some 61, _, _, _, _, _⟩ rfl (by assumption) ?_
              try simp only [Act.put, sA, sB, sC]
              refine skH 21 ⟨some 62, _, _, _, _, _⟩ rfl (by assumption) ?_
              try simp only [Act.put, sA, sB, sC]
              refine tkH 22 ⟨some 63, _, _, _, _, _⟩ ?_ rfl ?_ (by assumption) ?_
              rotate_left
              · (intro w hSw; (try dsimp only at hSw); go_simp; all_goals with_reducible rfl)
              try simp only [Act.put, sA, sB, sC]
              refine wpAnyH_done (by kernel_rfl) ?_ _
              go_wp2
              go_ret
              exact ⟨ret_int hr.out.symm, (by (repeat (first | (with_reducible refine Below.drew ?_) | (with_reducible refine below_drewN ?_ _) | (with_reducible refine Below.alloc ?_ (by first | omega | (simp; done) | (simp; omega) | (simp at *; omega)) _) | (with_reducible refine Below.setCell ?_ (by first | omega | (simp; done) | (simp; omega) | (simp at *; omega)) _) | (with_reducible exact Below.refl _ _) | (with_reducible assumption) | (with_reducible refine Below.trans ?_ (Below.mono (by assumption) (by first | omega | (simp; done) | (simp; omega) | (simp at *; omega)))))))⟩
            · have h4d : decide (p2 < p1) = false := by simpa using h4
              rcases hc.out with ⟨k0, cm⟩ | ⟨kp, kl, cm⟩
              · subst k0
                subst cm
                have i1' := inB_iff.1 i1
                have hv : rowE (-1) ⟨p0, p1, p2⟩ = 0 := by unfold rowE; simp only [i1, i2, i3, if_true]; exact if_neg (by omega)
                have hz2 : Hid (facE p0 (L.drop (0 + 1)) = E) := Lib.hid (by rw [hv, if_pos rfl] at he; exact he)
                simp only [Nat.zero_mul, Nat.add_zero] at c0 c1 c2
                clear hv
                have HC2 : Hid ((0 : Nat) + 1 = 0 ∧ p0 = -1 ∨ ∃ (hk : 0 < 0 + 1) (h2 : 0 + 1 - 1 < L.length), p0 = (L[0 + 1 - 1]).p) := Lib.hid (Or.inr ⟨by omega, hkl, h0.out.symm⟩)
                have d0 : decide ((0 : Int) < 0) = false := by decide
                clear he hz hg hc
                go_upto_region 11 with ((go_at_call 33; ((with_reducible refine (baseWithin_any _ _ _ _).mono ?_)); rintro e w' ⟨rfl, rfl⟩))
                refine wp_region_held_drew (S := (fun w' => w'.cell? ⟨wr.heap.size, 0, none⟩ = some (.int .i64 p1) ∧ w'.cell? ⟨wr.heap.size, 1, none⟩ = some (.int .i64 p2))) (by kernel_rfl) (by simp [go_sem, World.cell?_alloc_past, *]) (fun hHeld => ?_)
                refine tkH 0 ⟨some 41, _, _, _, _, _⟩ ?_ rfl ?_ (by assumption) ?_
                rotate_left
                · (intro w hSw; (try dsimp only at hSw); go_simp; all_goals with_reducible rfl)
                try simp only [Act.put, sA, sB, sC]
                refine tkH 1 ⟨some 42, _, _, _, _, _⟩ ?_ rfl ?_ (by assumption) ?_
                rotate_left
                · (intro w hSw; (try dsimp only at hSw); go_simp; all_goals with_reducible rfl)
                try simp only [Act.put, sA, sB, sC]
                refine tkH 2 ⟨some 43, _, _, _, _, _⟩ ?_ rfl ?_ (by assumption) ?_
                rotate_left
                · (intro w hSw; (try dsimp only at hSw); go_simp; all_goals with_reducible rfl)
                try simp only [Act.put, sA, sB, sC]
                refine tkH 3 ⟨some 44, _, _, _, _, _⟩ ?_ rfl ?_ (by assumption) ?_
                rotate_left
                · (intro w hSw; (try dsimp only at hSw); go_simp; all_goals with_reducible rfl)
                try simp only [Act.put, sA, sB, sC]
                refine tkH 4 ⟨some 45, _, _, _, _, _⟩ ?_ rfl ?_ (by assumption) ?_
                rotate_left
                · (intro w hSw; (try dsimp only at hSw); go_simp; all_goals with_reducible rfl)
                try simp only [Act.put, sA, sB, sC]
                refine tkH 5 ⟨some 46, _, _, _, _, _⟩ ?_ rfl ?_ (by assumption) ?_
                rotate_left
                · (intro w hSw; (try dsimp only at hSw); go_simp; all_goals with_reducible rfl)
                try simp only [Act.put, sA, sB, sC]
                refine tkH 6 ⟨some 47, _, _, _, _, _⟩ ?_ rfl ?_ (by assumption) ?_
                rotate_left
                · (intro w hSw; (try dsimp only at hSw); go_simp; all_goals with_reducible rfl)
                try simp only [Act.put, sA, sB, sC]
                refine tkH 7 ⟨some 48, _, _, _, _, _⟩ ?_ rfl ?_ (by assumption) ?_
                rotate_left
                · (intro w hSw; (try dsimp only at hSw); go_simp; all_goals with_reducible rfl)
                try simp only [Act.put, sA, sB, sC]
                refine tkH 8 ⟨some 49, _, _, _, _, _⟩ ?_ rfl ?_ (by assumption) ?_
                rotate_left
                · (intro w hSw; (try dsimp only at hSw); go_simp; all_goals with_reducible rfl)
                try simp only [Act.put, sA, sB, sC]
                refine skH 9 ⟨some 50, _, _, _, _, _⟩ rfl (by assumption) ?_
                try simp only [Act.put, sA, sB, sC]
                refine skH 10 ⟨some 51, _, _, _, _, _⟩ rfl (by assumption) ?_
                try simp only [Act.put, sA, sB, sC]
                refine skH 11 ⟨some 52, _, _, _, _, _⟩ rfl (by assumption) ?_
                try simp only [Act.put, sA, sB, sC]
                refine skH 12 ⟨some 53, _, _, _, _, _⟩ rfl (by assumption) ?_
                try simp only [Act.put, sA, sB, sC]
                refine skH 13 ⟨some 54, _, _, _, _, _⟩ rfl (by assumption) ?_
                try simp only [Act.put, sA, sB, sC]
                refine skH 14 ⟨some 55, _, _, _, _, _⟩ rfl (by assumption) ?_
                try simp only [Act.put, sA, sB, sC]
                refine skH 15 ⟨some 56, _, _, _, _, _⟩ rfl (by assumption) ?_
                try simp only [Act.put, sA, sB, sC]
                refine skH 16 ⟨some 57, _, _, _, _, _⟩ rfl (by assumption) ?_
                try simp only [Act.put, sA, sB, sC]
                refine skH 17 ⟨some 58, _, _, _, _, _⟩ rfl (by assumption) ?_
                try simp only [Act.put, sA, sB, sC]
                refine skH 18 ⟨some 59, _, _, _, _, _⟩ rfl (by assumption) ?_
                try simp only [Act.put, sA, sB, sC]
                refine skH 19 ⟨some 60, _, _, _, _, _⟩ rfl (by assumption) ?_
                try simp only [Act.put, sA, sB, sC]
                refine skH 20 ⟨some 61, _, _, _, _, _⟩ rfl (by assumption) ?_
                try simp only [Act.put, sA, sB, sC]
                refine tkH 21 ⟨some 62, _, _, _, _, _⟩ ?_ rfl ?_ (by assumption) ?_
                rotate_left
                · (intro w hSw; (try dsimp only at hSw); go_simp; all_goals with_reducible rfl)
                try simp only [Act.put, sA, sB, sC]
                refine tkH 22 ⟨some 63, _, _, _, _, _⟩ ?_ rfl ?_ (by assumption) ?_
                rotate_left
                · (intro w hSw; (try dsimp only at hSw); go_simp; all_goals with_reducible rfl)
                try simp only [Act.put, sA, sB, sC]
                refine wpAnyH_done (by kernel_rfl) ?_ _
                go_wp2
                go_roundw
                case rel => exact ⟨0 + 1, p0, by omega, by go_num, hz2, HC2, (by (repeat (first | (with_reducible refine Below.drew ?_) | (with_reducible refine below_drewN ?_ _) | (with_reducible refine Below.alloc ?_ (by first | omega | (simp; done) | (simp; omega) | (simp at *; omega)) _) | (with_reducible refine Below.setCell ?_ (by first | omega | (simp; done) | (simp; omega) | (simp at *; omega)) _) | (with_reducible exact Below.refl _ _) | (with_reducible assumption) | (with_reducible refine Below.trans ?_ (Below.mono (by assumption) (by first | omega | (simp; done) | (simp; omega) | (simp at *; omega)))))))⟩
                case measure => (simp [intOf]; omega)
              · obtain ⟨j, rfl⟩ : ∃ j, k = j + 1 := ⟨k - 1, by omega⟩
                obtain ⟨b0, _, _⟩ := fc_at (HP.out.below hB hlt) (show j < L.length by omega)
                simp only [Nat.add_sub_cancel] at cm
                rw [← cm] at b0
                have eJ : ((j + 1 : Nat) : Int) = (j : Int) + 1 := by omega
                have wJ : IntKind.i64.wrap ((j : Int) + 1 - 1) = (j : Int) := by rw [show (j : Int) + 1 - 1 = (j : Int) by omega]; exact IntWalk.i64_in _ (by omega)
                have wJ2 : IntKind.i64.wrap (j : Int) = (j : Int) := IntWalk.i64_in _ (by omega)
                have jp : (0 : Int) < (j : Int) + 1 := by omega
                have jp1 : (0 : Int) ≤ (j : Int) + 1 := by omega
                have jp2 : (0 : Int) ≤ (j : Int) := by omega
                have jn : (j : Int) + 1 < (n : Int) := by omega
                have jn2 : (j : Int) < (n : Int) := by omega
                by_cases h5 : p0 ≤ c
                · have hv : rowE c ⟨p0, p1, p2⟩ = 9 := by unfold rowE; simp only [i1, i2, i3, if_true]; exact if_pos (Or.inr h5)
                  have hr : Hid (E = 9) := Lib.hid (by rw [hv, if_neg (by omega)] at he; exact he.symm)
                  clear hv
                  have h5d : decide (p0 ≤ c) = true := by simpa using h5
                  clear he hz hg hc cm
                  go_upto_region 11 with ((go_at_call 33; ((with_reducible refine (baseWithin_any _ _ _ _).mono ?_)); rintro e w' ⟨rfl, rfl⟩))
                  refine wp_region_held_drew (S := (fun w' => w'.cell? ⟨wr.heap.size, 0, none⟩ = some (.int .i64 p1) ∧ w'.cell? ⟨wr.heap.size, 1, none⟩ = some (.int .i64 p2) ∧ w'.cell? ⟨b, off + (j + 1) * 3, none⟩ = some (.int .i64 p0) ∧ w'.cell? ⟨b, off + j * 3, none⟩ = some (.int .i64 c))) (by kernel_rfl) (by simp [go_sem, World.cell?_alloc_past, *]) (fun hHeld => ?_)
                  refine tkH 0 ⟨some 41, _, _, _, _, _⟩ ?_ rfl ?_ (by assumption) ?_
                  rotate_left
                  · (intro w hSw; (try dsimp only at hSw); go_simp; all_goals with_reducible rfl)
                  try simp only [Act.put, sA, sB, sC]
                  refine tkH 1 ⟨some 42, _, _, _, _, _⟩ ?_ rfl ?_ (by assumption) ?_
                  rotate_left
                  · (intro w hSw; (try dsimp only at hSw); go_simp; all_goals with_reducible rfl)
                  try simp only [Act.put, sA, sB, sC]
                  refine tkH 2 ⟨some 43, _, _, _, _, _⟩ ?_ rfl ?_ (by assumption) ?_
                  rotate_left
                  · (intro w hSw; (try dsimp only at hSw); go_simp; all_goals with_reducible rfl)
                  try simp only [Act.put, sA, sB, sC]
                  refine tkH 3 ⟨some 44, _, _, _, _, _⟩ ?_ rfl ?_ (by assumption) ?_
                  rotate_left
                  · (intro w hSw; (try dsimp only at hSw); go_simp; all_goals with_reducible rfl)
                  try simp only [Act.put, sA, sB, sC]
                  refine tkH 4 ⟨some 45, _, _, _, _, _⟩ ?_ rfl ?_ (by assumption) ?_
                  rotate_left
                  · (intro w hSw; (try dsimp only at hSw); go_simp; all_goals with_reducible rfl)
                  try simp only [Act.put, sA, sB, sC]
                  refine tkH 5 ⟨some 46, _, _, _, _, _⟩ ?_ rfl ?_ (by assumption) ?_
                  rotate_left
                  · (intro w hSw; (try dsimp only at hSw); go_simp; all_goals with_reducible rfl)
                  try simp only [Act.put, sA, sB, sC]
                  refine tkH 6 ⟨some 47, _, _, _, _, _⟩ ?_ rfl ?_ (by assumption) ?_
                  rotate_left
                  · (intro w hSw; (try dsimp only at hSw); go_simp; all_goals with_reducible rfl)
                  try simp only [Act.put, sA, sB, sC]
                  refine tkH 7 ⟨some 48, _, _, _, _, _⟩ ?_ rfl ?_ (by assumption) ?_
                  rotate_left
                  · (intro w hSw; (try dsimp only at hSw); go_simp; all_goals with_reducible rfl)
                  try simp only [Act.put, sA, sB, sC]
                  refine tkH 8 ⟨some 49, _, _, _, _, _⟩ ?_ rfl ?_ (by assumption) ?_
                  rotate_left
                  · (intro w hSw; (try dsimp only at hSw); go_simp; all_goals with_reducible rfl)
                  try simp only [Act.put, sA, sB, sC]
                  refine tkH 9 ⟨some 50, _, _, _, _, _⟩ ?_ rfl ?_ (by assumption) ?_
                  rotate_left
                  · (intro w hSw; (try dsimp only at hSw); go_simp; all_goals with_reducible rfl)
                  try simp only [Act.put, sA, sB, sC]
                  refine tkH 10 ⟨some 51, _, _, _, _, _⟩ ?_ rfl ?_ (by assumption) ?_
                  rotate_left
                  · (intro w hSw; (try dsimp only at hSw); go_simp; all_goals with_reducible rfl)
                  try simp only [Act.put, sA, sB, sC]
                  refine tkH 11 ⟨some 52, _, _, _, _, _⟩ ?_ rfl ?_ (by assumption) ?_
                  rotate_left
                  · (intro w hSw; (try dsimp only at hSw); go_simp; all_goals with_reducible rfl)
                  try simp only [Act.put, sA, sB, sC]
                  refine tkH 12 ⟨some 53, _, _, _, _, _⟩ ?_ rfl ?_ (by assumption) ?_
                  rotate_left
                  · (intro w hSw; (try dsimp only at hSw); go_simp; all_goals with_reducible rfl)
                  try simp only [Act.put, sA, sB, sC]
                  refine tkH 13 ⟨some 54, _, _, _, _, _⟩ ?_ rfl ?_ (by assumption) ?_
                  rotate_left
                  · (intro w hSw; (try dsimp only at hSw); go_simp; all_goals with_reducible rfl)
                  try simp only [Act.put, sA, sB, sC]
                  refine tkH 14 ⟨some 55, _, _, _, _, _⟩ ?_ rfl ?_ (by assumption) ?_
                  rotate_left
                  · (intro w hSw; (try dsimp only at hSw); go_simp; all_goals with_reducible rfl)
                  try simp only [Act.put, sA, sB, sC]
                  refine tkH 15 ⟨some 56, _, _, _, _, _⟩ ?_ rfl ?_ (by assumption) ?_
                  rotate_left
                  · (intro w hSw; (try dsimp only at hSw); go_simp; all_goals with_reducible rfl)
                  try simp only [Act.put, sA, sB, sC]
                  refine tkH 16 ⟨some 57, _, _, _, _, _⟩ ?_ rfl ?_ (by assumption) ?_
                  rotate_left
                  · (intro w hSw; (try dsimp only at hSw); go_simp; all_goals with_reducible rfl)
                  try simp only [Act.put, sA, sB, sC]
                  refine tkH 17 ⟨some 58, _, _, _, _, _⟩ ?_ rfl ?_ (by assumption) ?_
                  rotate_left
                  · (intro w hSw; (try dsimp only at hSw); go_simp; all_goals with_reducible rfl)
                  try simp only [Act.put, sA, sB, sC]
                  refine tkH 18 ⟨some 59, _, _, _, _, _⟩ ?_ rfl ?_ (by assumption) ?_
                  rotate_left
                  · (intro w hSw; (try dsimp only at hSw); go_simp; all_goals with_reducible rfl)
                  try simp only [Act.put, sA, sB, sC]
                  refine tkH 19 ⟨some 60, _, _, _, _, _⟩ ?_ rfl ?_ (by assumption) ?_
                  rotate_left
                  · (intro w hSw; (try dsimp only at hSw); go_simp; all_goals with_reducible rfl)
                  try simp only [Act.put, sA, sB, sC]
                  refine tkH 20 ⟨some 61, _, _, _, _, _⟩ ?_ rfl ?_ (by assumption) ?_
                  rotate_left
                  · (intro w hSw; (try dsimp only at hSw); go_simp; all_goals with_reducible rfl)
                  try simp only [Act.put, sA, sB, sC]
                  refine tkH 21 ⟨some 62, _, _, _, _, _⟩ ?_ rfl ?_ (by assumption) ?_
                  rotate_left
                  · (intro w hSw; (try dsimp only at hSw); go_simp; all_goals with_reducible rfl)
                  try simp only [Act.put, sA, sB, sC]
                  refine tkH 22 ⟨some 63, _, _, _, _, _⟩ ?_ rfl ?_ (by assumption) ?_
                  rotate_left
                  · (intro w hSw; (try dsimp only at hSw); go_simp; all_goals with_reducible rfl)
                  try simp only [Act.put, sA, sB, sC]
                  refine wpAnyH_done (by kernel_rfl) ?_ _
                  go_wp2
                  go_ret
                  exact ⟨ret_int hr.out.symm, (by (repeat (first | (with_reducible refine Below.drew ?_) | (with_reducible refine below_drewN ?_ _) | (with_reducible refine Below.alloc ?_ (by first | omega | (simp; done) | (simp; omega) | (simp at *; omega)) _) | (with_reducible refine Below.setCell ?_ (by first | omega | (simp; done) | (simp; omega) | (simp at *; omega)) _) | (with_reducible exact Below.refl _ _) | (with_reducible assumption) | (with_reducible refine Below.trans ?_ (Below.mono (by assumption) (by first | omega | (simp; done) | (simp; omega) | (simp at *; omega)))))))⟩
                · have hv : rowE c ⟨p0, p1, p2⟩ = 0 := by unfold rowE; simp only [i1, i2, i3, if_true]; exact if_neg (by omega)
                  have hz2 : Hid (facE p0 (L.drop (j + 1 + 1)) = E) := Lib.hid (by rw [hv, if_pos rfl] at he; exact he)
                  clear hv
                  have h5d : decide (p0 ≤ c) = false := by simpa using h5
                  have HC2 : Hid (j + 1 + 1 = 0 ∧ p0 = -1 ∨ ∃ (hk : 0 < j + 1 + 1) (h2 : j + 1 + 1 - 1 < L.length), p0 = (L[j + 1 + 1 - 1]).p) := Lib.hid (Or.inr ⟨by omega, hkl, h0.out.symm⟩)
                  clear he hz hg hc cm
                  go_upto_region 11 with ((go_at_call 33; ((with_reducible refine (baseWithin_any _ _ _ _).mono ?_)); rintro e w' ⟨rfl, rfl⟩))
                  refine wp_region_held_drew (S := (fun w' => w'.cell? ⟨wr.heap.size, 0, none⟩ = some (.int .i64 p1) ∧ w'.cell? ⟨wr.heap.size, 1, none⟩ = some (.int .i64 p2) ∧ w'.cell? ⟨b, off + (j + 1) * 3, none⟩ = some (.int .i64 p0) ∧ w'.cell? ⟨b, off + j * 3, none⟩ = some (.int .i64 c))) (by kernel_rfl) (by simp [go_sem, World.cell?_alloc_past, *]) (fun hHeld => ?_)
                  refine tkH 0 ⟨some 41, _, _, _, _, _⟩ ?_ rfl ?_ (by assumption) ?_
                  rotate_left
                  · (intro w hSw; (try dsimp only at hSw); go_simp; all_goals with_reducible rfl)
                  try simp only [Act.put, sA, sB, sC]
                  refine tkH 1 ⟨some 42, _, _, _, _, _⟩ ?_ rfl ?_ (by assumption) ?_
                  rotate_left
                  · (intro w hSw; (try dsimp only at hSw); go_simp; all_goals with_reducible rfl)
                  try simp only [Act.put, sA, sB, sC]
                  refine tkH 2 ⟨some 43, _, _, _, _, _⟩ ?_ rfl ?_ (by assumption) ?_
                  rotate_left
                  · (intro w hSw; (try dsimp only at hSw); go_simp; all_goals with_reducible rfl)
                  try simp only [Act.put, sA, sB, sC]
                  refine tkH 3 ⟨some 44, _, _, _, _, _⟩ ?_ rfl ?_ (by assumption) ?_
                  rotate_left
                  · (intro w hSw; (try dsimp only at hSw); go_simp; all_goals with_reducible rfl)
                  try simp only [Act.put, sA, sB, sC]
                  refine tkH 4 ⟨some 45, _, _, _, _, _⟩ ?_ rfl ?_ (by assumption) ?_
                  rotate_left
                  · (intro w hSw; (try dsimp only at hSw); go_simp; all_goals with_reducible rfl)
                  try simp only [Act.put, sA, sB, sC]
                  refine tkH 5 ⟨some 46, _, _, _, _, _⟩ ?_ rfl ?_ (by assumption) ?_
                  rotate_left
                  · (intro w hSw; (try dsimp only at hSw); go_simp; all_goals with_reducible rfl)
                  try simp only [Act.put, sA, sB, sC]
                  refine tkH 6 ⟨some 47, _, _, _, _, _⟩ ?_ rfl ?_ (by assumption) ?_
                  rotate_left
                  · (intro w hSw; (try dsimp only at hSw); go_simp; all_goals with_reducible rfl)
                  try simp only [Act.put, sA, sB, sC]
                  refine tkH 7 ⟨some 48, _, _, _, _, _⟩ ?_ rfl ?_ (by assumption) ?_
                  rotate_left
                  · (intro w hSw; (try dsimp only at hSw); go_simp; all_goals with_reducible rfl)
                  try simp only [Act.put, sA, sB, sC]
                  refine tkH 8 ⟨some 49, _, _, _, _, _⟩ ?_ rfl ?_ (by assumption) ?_
                  rotate_left
                  · (intro w hSw; (try dsimp only at hSw); go_simp; all_goals with_reducible rfl)
                  try simp only [Act.put, sA, sB, sC]
                  refine tkH 9 ⟨some 50, _, _, _, _, _⟩ ?_ rfl ?_ (by assumption) ?_
                  rotate_left
                  · (intro w hSw; (try dsimp only at hSw); go_simp; all_goals with_reducible rfl)
                  try simp only [Act.put, sA, sB, sC]
                  refine tkH 10 ⟨some 51, _, _, _, _, _⟩ ?_ rfl ?_ (by assumption) ?_
                  rotate_left
                  · (intro w hSw; (try dsimp only at hSw); go_simp; all_goals with_reducible rfl)
                  try simp only [Act.put, sA, sB, sC]
                  refine tkH 11 ⟨some 52, _, _, _, _, _⟩ ?_ rfl ?_ (by assumption) ?_
                  rotate_left
                  · (intro w hSw; (try dsimp only at hSw); go_simp; all_goals with_reducible rfl)
                  try simp only [Act.put, sA, sB, sC]
                  refine tkH 12 ⟨some 53, _, _, _, _, _⟩ ?_ rfl ?_ (by assumption) ?_
                  rotate_left
                  · (intro w hSw; (try dsimp only at hSw); go_simp; all_goals with_reducible rfl)
                  try simp only [Act.put, sA, sB, sC]
                  refine tkH 13 ⟨some 54, _, _, _, _, _⟩ ?_ rfl ?_ (by assumption) ?_
                  rotate_left
                  · (intro w hSw; (try dsimp only at hSw); go_simp; all_goals with_reducible rfl)
                  try simp only [Act.put, sA, sB, sC]
                  refine tkH 14 ⟨some 55, _, _, _, _, _⟩ ?_ rfl ?_ (by assumption) ?_
                  rotate_left
                  · (intro w hSw; (try dsimp only at hSw); go_simp; all_goals with_reducible rfl)
                  try simp only [Act.put, sA, sB, sC]
                  refine tkH 15 ⟨some 56, _, _, _, _, _⟩ ?_ rfl ?_ (by assumption) ?_
                  rotate_left
                  · (intro w hSw; (try dsimp only at hSw); go_simp; all_goals with_reducible rfl)
                  try simp only [Act.put, sA, sB, sC]
                  refine tkH 16 ⟨some 57, _, _, _, _, _⟩ ?_ rfl ?_ (by assumption) ?_
                  rotate_left
                  · (intro w hSw; (try dsimp only at hSw); go_simp; all_goals with_reducible rfl)
                  try simp only [Act.put, sA, sB, sC]
                  refine tkH 17 ⟨some 58, _, _, _, _, _⟩ ?_ rfl ?_ (by assumption) ?_
                  rotate_left
                  · (intro w hSw; (try dsimp only at hSw); go_simp; all_goals with_reducible rfl)
                  try simp only [Act.put, sA, sB, sC]
                  refine tkH 18 ⟨some 59, _, _, _, _, _⟩ ?_ rfl ?_ (by assumption) ?_
                  rotate_left
                  · (intro w hSw; (try dsimp only at hSw); go_simp; all_goals with_reducible rfl)
                  try simp only [Act.put, sA, sB, sC]
                  refine tkH 19 ⟨some 60, _, _, _, _, _⟩ ?_ rfl ?_ (by assumption) ?_
                  rotate_left
                  · (intro w hSw; (try dsimp only at hSw); go_simp; all_goals with_reducible rfl)
                  try simp only [Act.put, sA, sB, sC]
                  refine tkH 20 ⟨some 61, _, _, _, _, _⟩ ?_ rfl ?_ (by assumption) ?_
                  rotate_left
                  · (intro w hSw; (try dsimp only at hSw); go_simp; all_goals with_reducible rfl)
                  try simp only [Act.put, sA, sB, sC]
                  refine tkH 21 ⟨some 62, _, _, _, _, _⟩ ?_ rfl ?_ (by assumption) ?_
                  rotate_left
                  · (intro w hSw; (try dsimp only at hSw); go_simp; all_goals with_reducible rfl)
                  try simp only [Act.put, sA, sB, sC]
                  refine tkH 22 ⟨some 63, _, _, _, _, _⟩ ?_ rfl ?_ (by assumption) ?_
                  rotate_left
                  · (intro w hSw; (try dsimp only at hSw); go_simp; all_goals with_reducible rfl)
                  try simp only [Act.put, sA, sB, sC]
                  refine wpAnyH_done (by kernel_rfl) ?_ _
                  go_wp2
                  go_roundw
                  case rel => exact ⟨(j + 1) + 1, p0, by omega, by go_num, hz2, HC2, (by (repeat (first | (with_reducible refine Below.drew ?_) | (with_reducible refine below_drewN ?_ _) | (with_reducible refine Below.alloc ?_ (by first | omega | (simp; done) | (simp; omega) | (simp at *; omega)) _) | (with_reducible refine Below.setCell ?_ (by first | omega | (simp; done) | (simp; omega) | (simp at *; omega)) _) | (with_reducible exact Below.refl _ _) | (with_reducible assumption) | (with_reducible refine Below.trans ?_ (Below.mono (by assumption) (by first | omega | (simp; done) | (simp; omega) | (simp at *; omega)))))))⟩
                  case measure => (simp [intOf]; omega)
          · have hr : Hid (E = 2) := Lib.hid (by rw [show rowE c ⟨p0, p1, p2⟩ = 2 by unfold rowE; simp [i1, i2, i3], if_neg (by omega)] at he; exact he.symm)
            clear he hz hg hc
            go_wp2_with ((go_at_call 33; ((with_reducible refine (baseWithin_any _ _ _ _).mono ?_)); rintro e w' ⟨rfl, rfl⟩))
            go_ret
            exact ⟨ret_int hr.out.symm, (by (repeat (first | (with_reducible refine Below.drew ?_) | (with_reducible refine below_drewN ?_ _) | (with_reducible refine Below.alloc ?_ (by first | omega | (simp; done) | (simp; omega) | (simp at *; omega)) _) | (with_reducible refine Below.setCell ?_ (by first | omega | (simp; done) | (simp; omega) | (simp at *; omega)) _) | (with_reducible exact Below.refl _ _) | (with_reducible assumption) | (with_reducible refine Below.trans ?_ (Below.mono (by assumption) (by first | omega | (simp; done) | (simp; omega) | (simp at *; omega)))))))⟩
        · have hr : Hid (E = 2) := Lib.hid (by rw [show rowE c ⟨p0, p1, p2⟩ = 2 by unfold rowE; simp [i1, i2], if_neg (by omega)] at he; exact he.symm)
          clear he hz hg hc
          go_wp2_with ((go_at_call 33; ((with_reducible refine (baseWithin_any _ _ _ _).mono ?_)); rintro e w' ⟨rfl, rfl⟩))
          go_ret
          exact ⟨ret_int hr.out.symm, (by (repeat (first | (with_reducible refine Below.drew ?_) | (with_reducible refine below_drewN ?_ _) | (with_reducible refine Below.alloc ?_ (by first | omega | (simp; done) | (simp; omega) | (simp at *; omega)) _) | (with_reducible refine Below.setCell ?_ (by first | omega | (simp; done) | (simp; omega) | (simp at *; omega)) _) | (with_reducible exact Below.refl _ _) | (with_reducible assumption) | (with_reducible refine Below.trans ?_ (Below.mono (by assumption) (by first | omega | (simp; done) | (simp; omega) | (simp at *; omega)))))))⟩
      · have hr : Hid (E = 2) := Lib.hid (by rw [show rowE c ⟨p0, p1, p2⟩ = 2 by unfold rowE; simp [i1], if_neg (by omega)] at he; exact he.symm)
        clear he hz hg hc
        go_wp2_with ((go_at_call 33; ((with_reducible refine (baseWithin_any _ _ _ _).mono ?_)); rintro e w' ⟨rfl, rfl⟩))
        go_ret
        exact ⟨ret_int hr.out.symm, (by (repeat (first | (with_reducible refine Below.drew ?_) | (with_reducible refine below_drewN ?_ _) | (with_reducible refine Below.alloc ?_ (by first | omega | (simp; done) | (simp; omega) | (simp at *; omega)) _) | (with_reducible refine Below.setCell ?_ (by first | omega | (simp; done) | (simp; omega) | (simp at *; omega)) _) | (with_reducible exact Below.refl _ _) | (with_reducible assumption) | (with_reducible refine Below.trans ?_ (Below.mono (by assumption) (by first | omega | (simp; done) | (simp; omega) | (simp at *; omega)))))))⟩
    · have hkk : k = L.length := by have := hn.out; omega
      have hr : Hid (E = 0) := by
        show E = 0
        rw [← hz.out, hkk, List.drop_length]; rfl
      have kn : ¬ (k : Int) < (n : Int) := by omega
      clear hz hkk hc
      go_wp2
      go_ret
      exact ⟨ret_int hr.out.symm, hB⟩
set_option maxHeartbeats 1000000 in
theorem refCheckFactors_any (L : List Fc) (A : Option Addr) (cap : Nat) (E : Int) (w : World) (hl : L.length ≤ 1000000) (hL : SlRows fcV 3 w A L) (hE : Hid (ctE L = E)) :
    Calls Try.prog 47 #[.slice A L.length cap] w fun e w' => e = .returned (.int .i64 E) ∧ Below w.heap.size w w' := by
  have he := hE.out
  unfold ctE at he
  by_cases h0 : L.length = 0
  · rw [if_pos h0] at he
    subst he
    have hi : ((L.length : Nat) : Int) = 0 := by omega
    clear hE hL
    go_enter Try.func47, Try.ntmps47
    go_wp2
    go_ret
    exact ⟨rfl, (by (repeat (first | (with_reducible refine Below.drew ?_) | (with_reducible refine below_drewN ?_ _) | (with_reducible refine Below.alloc ?_ (by first | omega | (simp; done) | (simp; omega) | (simp at *; omega)) _) | (with_reducible refine Below.setCell ?_ (by first | omega | (simp; done) | (simp; omega) | (simp at *; omega)) _) | (with_reducible exact Below.refl _ _) | (with_reducible assumption) | (with_reducible refine Below.trans ?_ (Below.mono (by assumption) (by first | omega | (simp; done) | (simp; omega) | (simp at *; omega)))))))⟩
  · rw [if_neg h0] at he
    by_cases h1 : 20 < L.length
    · rw [if_pos h1] at he
      subst he
      have hib : (((L.length : Nat) : Int) == 0) = false := by simpa using h0
      have hi : ¬ ((L.length : Nat) : Int) = 0 := by omega
      have hi2 : (20 : Int) < ((L.length : Nat) : Int) := by omega
      clear hE hL
      go_enter Try.func47, Try.ntmps47
      go_wp2
      go_ret
      exact ⟨rfl, (by (repeat (first | (with_reducible refine Below.drew ?_) | (with_reducible refine below_drewN ?_ _) | (with_reducible refine Below.alloc ?_ (by first | omega | (simp; done) | (simp; omega) | (simp at *; omega)) _) | (with_reducible refine Below.setCell ?_ (by first | omega | (simp; done) | (simp; omega) | (simp at *; omega)) _) | (with_reducible exact Below.refl _ _) | (with_reducible assumption) | (with_reducible refine Below.trans ?_ (Below.mono (by assumption) (by first | omega | (simp; done) | (simp; omega) | (simp at *; omega)))))))⟩
    · rw [if_neg h1] at he
      rcases hL with rfl | ⟨b, off, rfl, hlt, hL⟩
      · simp at h0
      exact refCheckFactors_some L b off cap L.length E w (Lib.hid rfl) (by omega) (by omega) hlt hL (Lib.hid he)
end Go.Proofs.Ytjkhjjmmkdfjmaa
