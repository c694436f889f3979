/- What the specification of the best gas returns: the gas that gas.BestGas returns. -/
import Derived.Test.YtebieflnlmdllaaDoorRefB
import Derived.Outline
namespace Go.Proofs.YtebieflnlmdllaaDoor
open Go.ChangeShapes Go.WideShapes Go.ChangeAt Go.RowKit
set_option linter.unusedVariables false
set_option linter.unusedSimpArgs false
attribute [local go_sem ↓] Go.wp_at_zero Go.wp_at_succ

set_option maxHeartbeats 4000000 in
theorem refBestGas_m (s d a b n : Int) (m : Bool) (w : World) (k1 : 400 ≤ s) (k2 : s ≤ 1100) (k3 : 0 ≤ n) (k4 : n ≤ 30000) (k5 : 1 ≤ a) (k6 : a ≤ 4000) (k7 : 1 ≤ b) (k8 : b ≤ 4000) (k9 : 0 ≤ d) (k10 : d ≤ 30000)
    (HM : Hid (metB (bestOx s (s + d) n b) (bestHe s (s + d) n) s a b n (s + d) = m)) :
    Calls Tryd.prog 41 #[.agg #[.int .i64 s, .int .i64 d, .int .i64 a, .int .i64 b, .int .i64 n]] w fun e w' => e = .returned (.tuple #[.agg #[.int .i64 (if m = true then bestOx s (s + d) n b else 0), .int .i64 (if m = true then bestHe s (s + d) n else 0)], .bool m]) ∧ Below w.heap.size w w' := by
  have p0 : 0 < s + d := by omega
  have p1 : 0 ≤ s + n := by omega
  have p2 : 0 ≤ b := by omega
  have p3 : s + d ≤ 40000 := by omega
  go_enter Tryd.func41, Tryd.ntmps41
  go_wp2
  go_loopw [4] (fun i wr => ∃ k : Int, 0 ≤ k ∧ k ≤ 1001 ∧ i = .int .i64 k ∧ Hid (NoneTo k s a b n (s + d)) ∧ Below w.heap.size w wr ∧ w.heap.size + 2 ≤ wr.heap.size
      ∧ wr.cell? ⟨w.heap.size, 0, none⟩ = some (.int .i64 s) ∧ wr.cell? ⟨w.heap.size, 1, none⟩ = some (.int .i64 d) ∧ wr.cell? ⟨w.heap.size, 2, none⟩ = some (.int .i64 a) ∧ wr.cell? ⟨w.heap.size, 3, none⟩ = some (.int .i64 b) ∧ wr.cell? ⟨w.heap.size, 4, none⟩ = some (.int .i64 n)
      ∧ wr.cell? ⟨w.heap.size + 1, 0, none⟩ = some (.int .i64 0) ∧ wr.cell? ⟨w.heap.size + 1, 1, none⟩ = some (.int .i64 0) ∧ (∀ j, wr.frozen? ⟨w.heap.size + 1, j, none⟩ = false)) (fun i _ => (1001 - intOf i).toNat)
  case atStart =>
    exact ⟨0, by omega, by omega, rfl, fun h o h1 h2 => by omega, (by (repeat (first | (with_reducible refine Below.drew ?_) | (with_reducible refine below_drewN ?_ _) | (with_reducible refine Below.alloc ?_ (by first | omega | (simp; done) | (simp; omega) | (simp at *; omega)) _) | (with_reducible refine Below.setCell ?_ (by first | omega | (simp; done) | (simp; omega) | (simp at *; omega)) _) | (with_reducible exact Below.refl _ _) | (with_reducible assumption) | (with_reducible refine Below.trans ?_ (Below.mono (by assumption) (by first | omega | (simp; done) | (simp; omega) | (simp at *; omega))))))), by simp, by simp [go_sem, World.cell?_alloc_past], by simp [go_sem, World.cell?_alloc_past], by simp [go_sem, World.cell?_alloc_past], by simp [go_sem, World.cell?_alloc_past], by simp [go_sem, World.cell?_alloc_past], by simp [go_sem], by simp [go_sem], by intro j; simp [go_sem]⟩
  case round =>
    obtain ⟨k, q1, q2, rfl, hN, hB, hsz, a0, a1, a2, a3, a4, r0, r1, hf⟩ := hrel
    obtain ⟨wo, rfl⟩ : ∃ wo : World, wo = wr := ⟨_, rfl⟩
    by_cases hk : k ≤ 1000
    · go_wp2
      go_loopw [5] (fun t wr => ∃ o : Int, -1 ≤ o ∧ o ≤ 1000 - k ∧ t = .int .i64 o ∧ Hid (NoneOver o k s a b n (s + d)) ∧ Below w.heap.size w wr ∧ w.heap.size + 2 ≤ wr.heap.size
          ∧ wr.cell? ⟨w.heap.size, 0, none⟩ = some (.int .i64 s) ∧ wr.cell? ⟨w.heap.size, 1, none⟩ = some (.int .i64 d) ∧ wr.cell? ⟨w.heap.size, 2, none⟩ = some (.int .i64 a) ∧ wr.cell? ⟨w.heap.size, 3, none⟩ = some (.int .i64 b) ∧ wr.cell? ⟨w.heap.size, 4, none⟩ = some (.int .i64 n)
          ∧ wr.cell? ⟨w.heap.size + 1, 0, none⟩ = some (.int .i64 0) ∧ wr.cell? ⟨w.heap.size + 1, 1, none⟩ = some (.int .i64 0) ∧ (∀ j, wr.frozen? ⟨w.heap.size + 1, j, none⟩ = false)) (fun t _ => (intOf t + 1).toNat)
      case atStart => exact ⟨1000 - k, by omega, by omega, rfl, fun x h1 h2 => by omega, hB, hsz, a0, a1, a2, a3, a4, r0, r1, hf⟩
      case round =>
        clear a0 a1 a2 a3 a4 r0 r1 hf hB hsz
        obtain ⟨o, o1, o2, rfl, hO, hB, hsz, a0, a1, a2, a3, a4, r0, r1, hf⟩ := hrel
        by_cases ho : 0 ≤ o
        · obtain ⟨x, hx⟩ : ∃ x, Hid (metB o k s a b n (s + d) = x) := ⟨_, rfl⟩
          have n1 : w.heap.size < wr.heap.size := by omega
          have n2 : w.heap.size + 1 < wr.heap.size := by omega
          have n3 : wr.heap.size ≠ w.heap.size := by omega
          have n4 : wr.heap.size ≠ w.heap.size + 1 := by omega
          go_wp2_with fail
          refine (Meets_b o k s d a b n x _ k1 k2 k3 k4 k5 k6 k7 k8 ho (by omega) q1 hk k9 k10 hx).mono ?_
          rintro e w1 ⟨rfl, hbw1⟩
          obtain ⟨hbc1, hbf1⟩ := bcell hbw1
          have z1 := hbw1.size
          simp at z1
          have ya0 : w1.cell? ⟨w.heap.size, 0, none⟩ = some (.int .i64 s) := by rw [hbc1 _ _ (by simp; omega)]; simp [go_sem, World.cell?_alloc_past, *]
          have ya1 : w1.cell? ⟨w.heap.size, 1, none⟩ = some (.int .i64 d) := by rw [hbc1 _ _ (by simp; omega)]; simp [go_sem, World.cell?_alloc_past, *]
          have ya2 : w1.cell? ⟨w.heap.size, 2, none⟩ = some (.int .i64 a) := by rw [hbc1 _ _ (by simp; omega)]; simp [go_sem, World.cell?_alloc_past, *]
          have ya3 : w1.cell? ⟨w.heap.size, 3, none⟩ = some (.int .i64 b) := by rw [hbc1 _ _ (by simp; omega)]; simp [go_sem, World.cell?_alloc_past, *]
          have ya4 : w1.cell? ⟨w.heap.size, 4, none⟩ = some (.int .i64 n) := by rw [hbc1 _ _ (by simp; omega)]; simp [go_sem, World.cell?_alloc_past, *]
          have yr0 : w1.cell? ⟨w.heap.size + 1, 0, none⟩ = some (.int .i64 0) := by rw [hbc1 _ _ (by simp; omega)]; simp [go_sem, World.cell?_alloc_past, *]
          have yr1 : w1.cell? ⟨w.heap.size + 1, 1, none⟩ = some (.int .i64 0) := by rw [hbc1 _ _ (by simp; omega)]; simp [go_sem, World.cell?_alloc_past, *]
          have yf : ∀ j, w1.frozen? ⟨w.heap.size + 1, j, none⟩ = false := by intro j; rw [hbf1 _ _ (by simp; omega)]; simp [go_sem, World.cell?_alloc_past, *]
          have yg0 : w1.cell? ⟨wr.heap.size, 0, none⟩ = some (.int .i64 o) := by rw [hbc1 _ _ (by simp)]; simp [go_sem]
          have yg1 : w1.cell? ⟨wr.heap.size, 1, none⟩ = some (.int .i64 k) := by rw [hbc1 _ _ (by simp)]; simp [go_sem]
          have hB1 : Below w.heap.size w w1 := (by (repeat (first | (with_reducible refine Below.drew ?_) | (with_reducible refine below_drewN ?_ _) | (with_reducible refine Below.alloc ?_ (by first | omega | (simp; done) | (simp; omega) | (simp at *; omega)) _) | (with_reducible refine Below.setCell ?_ (by first | omega | (simp; done) | (simp; omega) | (simp at *; omega)) _) | (with_reducible exact Below.refl _ _) | (with_reducible assumption) | (with_reducible refine Below.trans ?_ (Below.mono (by assumption) (by first | omega | (simp; done) | (simp; omega) | (simp at *; omega)))))))
          have n5 : w.heap.size < w1.heap.size := by omega
          have n6 : w.heap.size + 1 < w1.heap.size := by omega
          have n7 : w.heap.size + 2 ≤ w1.heap.size := by omega
          clear a0 a1 a2 a3 a4 r0 r1 hf hbc1 hbf1 hbw1 hB
          cases x
          · have hO2 := Lib.hid (noneOver_step hO.out hx.out)
            obtain ⟨q, hq⟩ : ∃ q, Hid (o * (s + d) = q) := ⟨_, rfl⟩
            obtain ⟨r, hr⟩ : ∃ r, Hid ((1000 - k) * (s + d) = r) := ⟨_, rfl⟩
            have m1 : 0 ≤ q := by rw [← hq.out]; exact Int.mul_nonneg ho (by omega)
            have m2 : q ≤ 1000 * 40000 := by rw [← hq.out]; exact Int.mul_le_mul (by omega) p3 (by omega) (by omega)
            have m3 : 0 ≤ r := by rw [← hr.out]; exact Int.mul_nonneg (by omega) (by omega)
            have m4 : r ≤ 1000 * 40000 := by rw [← hr.out]; exact Int.mul_le_mul (by omega) p3 (by omega) (by omega)
            have u1 : IntKind.i64.wrap (o * (s + d)) = q := by rw [hq.out]; exact IntWalk.i64_in _ (by omega)
            have u2 : IntKind.i64.wrap ((1000 - k) * (s + d)) = r := by rw [hr.out]; exact IntWalk.i64_in _ (by omega)
            have u3 : IntKind.i64.wrap (1000 * a) = 1000 * a := IntWalk.i64_in _ (by omega)
            have u4 : IntKind.i64.wrap (1000 * (s + n)) = 1000 * (s + n) := IntWalk.i64_in _ (by omega)
            by_cases c1 : q < 1000 * a
            · have hN2 := Lib.hid (noneTo_succ hN.out (fun x _ h2 => none_low p0 (Or.inl (by rw [hq.out]; exact c1)) hO.out x h2))
              go_wp2
              go_roundw
              case rel => exact ⟨k + 1, by omega, by omega, rfl, hN2, hB1, n7, ya0, ya1, ya2, ya3, ya4, yr0, yr1, yf⟩
              case measure => simp [intOf]; omega
            · by_cases c2 : 1000 * (s + n) < r
              · have hN2 := Lib.hid (noneTo_succ hN.out (fun x _ h2 => none_low p0 (Or.inr (by rw [hr.out]; exact c2)) hO.out x h2))
                go_wp2
                go_roundw
                case rel => exact ⟨k + 1, by omega, by omega, rfl, hN2, hB1, n7, ya0, ya1, ya2, ya3, ya4, yr0, yr1, yf⟩
                case measure => simp [intOf]; omega
              · go_wp2
                go_roundw
                case rel => exact ⟨o - 1, by omega, by omega, rfl, hO2, hB1, n7, ya0, ya1, ya2, ya3, ya4, yr0, yr1, yf⟩
                case measure => simp [intOf]; omega
          · obtain ⟨e1, e2, e3⟩ := first_is p0 p1 p2 q1 ho (by omega) hx.out hN.out hO.out
            have hmt : m = true := by rw [← HM.out]; exact e3
            subst hmt
            have E1 := Lib.hid e1
            have E2 := Lib.hid e2
            clear e1 e2 e3
            go_wp2
            refine bodyPost_ret (v := .tuple #[.agg #[.int .i64 o, .int .i64 k], .bool true]) (by simp [results, Tryd.results41, go_sem, *]) rfl ⟨by rw [← E1.out, ← E2.out], ?_⟩
            (repeat (first | (with_reducible refine Below.drew ?_) | (with_reducible refine below_drewN ?_ _) | (with_reducible refine Below.alloc ?_ (by first | omega | (simp; done) | (simp; omega) | (simp at *; omega)) _) | (with_reducible refine Below.setCell ?_ (by first | omega | (simp; done) | (simp; omega) | (simp at *; omega)) _) | (with_reducible exact Below.refl _ _) | (with_reducible assumption) | (with_reducible refine Below.trans ?_ (Below.mono (by assumption) (by first | omega | (simp; done) | (simp; omega) | (simp at *; omega))))))
        · have hN2 := Lib.hid (noneTo_succ hN.out (fun x hx0 hs => hO.out x (by omega) hs))
          go_wp2
          go_roundw
          case rel => exact ⟨k + 1, by omega, by omega, rfl, hN2, hB, hsz, a0, a1, a2, a3, a4, r0, r1, hf⟩
          case measure => simp [intOf]; omega
    · have hk2 : k = 1001 := by omega
      have hmf : m = false := by
        rw [← HM.out]
        exact none_is p0 p1 p2 (by rw [← hk2]; exact hN.out)
      subst hmf
      clear hk2
      go_wp2
      refine bodyPost_ret (v := .tuple #[.agg #[.int .i64 0, .int .i64 0], .bool false]) (by simp [results, Tryd.results41, go_sem, *]) rfl ⟨rfl, ?_⟩
      (repeat (first | (with_reducible refine Below.drew ?_) | (with_reducible refine below_drewN ?_ _) | (with_reducible refine Below.alloc ?_ (by first | omega | (simp; done) | (simp; omega) | (simp at *; omega)) _) | (with_reducible refine Below.setCell ?_ (by first | omega | (simp; done) | (simp; omega) | (simp at *; omega)) _) | (with_reducible exact Below.refl _ _) | (with_reducible assumption) | (with_reducible refine Below.trans ?_ (Below.mono (by assumption) (by first | omega | (simp; done) | (simp; omega) | (simp at *; omega))))))
end Go.Proofs.YtebieflnlmdllaaDoor
