import Derived.Test.YtchfhhmmjioajaaZRDecM
import Derived.Test.YtchfhhmmjioajaaZRLastReg
import Derived.Test.YtchfhhmmjioajaaZRMSmall
import Derived.Test.YtchfhhmmjioajaaZRMRefRoots
import Derived.Deep.DrawnRows
import Derived.Outline
namespace Go.Proofs.Ytchfhhmmjioajaa
open Go.ChangeShapes Go.WideShapes Go.ChangeAt Go.RowKit
set_option linter.unusedVariables false
set_option linter.unusedSimpArgs false
attribute [local go_sem ↓] Go.wp_at_zero Go.wp_at_succ
theorem hv_lo : ∀ k, k < 30 → (hv k).1 ≠ 0 := by decide +kernel
set_option maxRecDepth 100000 in
theorem hv_thirty : hv 30 = (0, 1) := by decide +kernel
theorem floor_is (n d q : Int) (w : World) (h0 : 0 ≤ n) (h1 : n ≤ 1000000000000000000) (h2 : 0 < d) (h3 : d ≤ 1000000000000000000) (hq : n / d = q) :
    Calls Try.prog 105 #[.int .i64 n, .int .i64 d] w fun e w' => e = .returned (.int .i64 q) ∧ w = w' := by rw [← hq]; exact baseFloor_nn n d w h0 h1 h2 h3
theorem ceil_is (n d q : Int) (w : World) (h0 : 0 ≤ n) (h1 : n ≤ 1000000000000000000) (h2 : 0 < d) (h3 : d ≤ 1000000000000000000) (hq : (n + d - 1) / d = q) :
    Calls Try.prog 106 #[.int .i64 n, .int .i64 d] w fun e w' => e = .returned (.int .i64 q) ∧ w = w' := by rw [← hq]; exact baseCeil_nn n d w h0 h1 h2 h3
theorem mul_bd {x a : Int} (x0 : 0 ≤ x) (x1 : x ≤ 1000000000) (a0 : 0 ≤ a) (a1 : a ≤ 1000000000) : 0 ≤ x * a ∧ x * a ≤ 1000000000000000000 := ⟨Int.mul_nonneg x0 a0, Int.le_trans (Int.mul_le_mul x1 a1 a0 (by omega)) (by omega)⟩
/-- The halvings: what is left, and how many there were. -/
theorem halv_end {s t r : Int} {k : Nat} (s0 : 0 ≤ s) (t0 : 1 ≤ t) (hr : r < t) (h : 0 ≤ r ∧ ((k < 30 ∧ r + k * t = s) ∨ (k = 30 ∧ r = s % t ∧ 30 ≤ s / t))) : dst s t 0 = (r, (hv k).1, (hv k).2) := by
  obtain ⟨r0, ⟨hk, h1⟩ | ⟨hk, h1, h2⟩⟩ := h
  · have e1 : s / t = k := by rw [← h1, Int.add_mul_ediv_right _ _ (by omega), Int.ediv_eq_zero_of_lt r0 hr]; omega
    have e2 : s % t = r := by rw [← h1, Int.add_mul_emod_self_right, Int.emod_eq_of_lt r0 hr]
    rw [dst, e1, e2, Int.min_eq_left (by omega)]
    simp
  · subst hk
    rw [dst, ← h1, Int.min_eq_right h2]
    rfl
set_option maxRecDepth 100000 in
set_option maxHeartbeats 4000000 in
theorem refDecay_any (s t : Int) (L b cap : Nat) (w : World) (s0 : 0 ≤ s) (s1 : s ≤ 1000000) (t0 : 1 ≤ t) (t1 : t ≤ 100000) (hL : L ≤ 40) (hlt : b < w.heap.size) (hcap : L + 1 ≤ cap) (hcap2 : cap ≤ maxLen) (hR : RtAt w b L) :
    Calls Try.prog 77 #[.int .i64 s, .int .i64 t, .slice (some ⟨b, 0, none⟩) (L + 1) cap] w fun e w' => e = .returned (.agg #[.int .i64 (decL s t L), .int .i64 (decH s t L)]) ∧ Below w.heap.size w w' := by
  have HR := Lib.hid hR
  clear hR hcap2
  obtain ⟨EL, HEl⟩ : ∃ x, Hid (decL s t L = x) := ⟨decL s t L, rfl⟩
  obtain ⟨EH, HEh⟩ : ∃ x, Hid (decH s t L = x) := ⟨decH s t L, rfl⟩
  rw [HEl.out, HEh.out]
  have hne : ¬ t = 0 := by omega
  go_enter Try.func77, Try.ntmps77
  go_wp2
  go_loopw [8] (fun i wr => ∃ (k : Nat) (r : Int), i = .int .i64 r ∧ r ≤ 1000000 ∧ Hid (0 ≤ r ∧ ((k < 30 ∧ r + k * t = s) ∨ (k = 30 ∧ r = s % t ∧ 30 ≤ s / t))) ∧ wr.cell? ⟨w.heap.size + 1, 0, none⟩ = some (.int .i64 (hv k).1) ∧ wr.cell? ⟨w.heap.size + 1, 1, none⟩ = some (.int .i64 (hv k).2) ∧ (∀ j, wr.frozen? ⟨w.heap.size + 1, j, none⟩ = false) ∧ wr.cell? ⟨w.heap.size, 0, none⟩ = some (.int .i64 0) ∧ wr.cell? ⟨w.heap.size, 1, none⟩ = some (.int .i64 0) ∧ (∀ j, wr.frozen? ⟨w.heap.size, j, none⟩ = false) ∧ w.heap.size + 2 ≤ wr.heap.size ∧ Below w.heap.size w wr) (fun i _ => (intOf i).toNat)
  case atStart => exact ⟨0, s, rfl, s1, ⟨s0, Or.inl ⟨by omega, by omega⟩⟩, by simp [go_sem, hv, World.cell?_alloc_past], by simp [go_sem, hv, World.cell?_alloc_past], by intro j; simp [go_sem], by simp [go_sem, World.cell?_alloc_past], by simp [go_sem, World.cell?_alloc_past], by intro j; simp [go_sem], by simp, (by (repeat (first | (with_reducible refine Below.drew ?_) | (with_reducible refine below_drewN ?_ _) | (with_reducible refine Below.alloc ?_ (by first | omega | (simp; done) | (simp; omega) | (simp at *; omega)) _) | (with_reducible refine Below.setCell ?_ (by first | omega | (simp; done) | (simp; omega) | (simp at *; omega)) _) | (with_reducible exact Below.refl _ _) | (with_reducible assumption) | (with_reducible refine Below.trans ?_ (Below.mono (by assumption) (by first | omega | (simp; done) | (simp; omega) | (simp at *; omega)))))))⟩
  case round =>
    obtain ⟨k, r, rfl, r9, hst, c0, c1, fz, d0, d1, fz0, sz, hB⟩ := hrel
    have n1 : w.heap.size + 1 < wr.heap.size := by omega
    have n2 : wr.heap.size ≠ w.heap.size + 1 := by omega
    have n3 : w.heap.size < wr.heap.size := by omega
    have n4 : wr.heap.size ≠ w.heap.size := by omega
    have r0 := hst.out.1
    obtain ⟨b1, b2, b3, b4⟩ := hv_bd k
    by_cases hc : t ≤ r
    · have hk : Hid (k < 30 ∧ r + k * t = s) := by
        rcases hst.out.2 with h | ⟨h1, h2, h3⟩
        · exact h
        · have := Int.emod_lt_of_pos s (show 0 < t by omega); omega
      obtain ⟨x, hx⟩ : ∃ x, Hid ((hv k).1 = x) := ⟨(hv k).1, rfl⟩
      obtain ⟨y, hy⟩ : ∃ x, Hid ((hv k).2 = x) := ⟨(hv k).2, rfl⟩
      have HN : Hid (hv (k + 1) = (x / 2, (y + 2 - 1) / 2)) := by show _ = _; rw [hv, hx.out, hy.out]
      rw [hx.out] at c0 b1 b2
      rw [hy.out] at c1 b3 b4
      obtain ⟨x', hx'⟩ : ∃ z, Hid (x / 2 = z) := ⟨x / 2, rfl⟩
      obtain ⟨y', hy'⟩ : ∃ z, Hid ((y + 2 - 1) / 2 = z) := ⟨_, rfl⟩
      have HN0 : Hid ((hv (k + 1)).1 = x') := by show _ = _; rw [HN.out, ← hx'.out]
      have HN1 : Hid ((hv (k + 1)).2 = y') := by show _ = _; rw [HN.out, ← hy'.out]
      have q1 : x.tdiv 2 = x' := by rw [Int.tdiv_eq_ediv_of_nonneg b1]; exact hx'.out
      have q2 : x / 2 = x' := hx'.out
      have q3 : 0 ≤ x' ∧ x' ≤ 1000000000 := by rw [← q2]; omega
      have q4 : IntKind.i64.wrap x' = x' := IntWalk.i64_in _ (by omega)
      have e9 : IntKind.i64.wrap (r - t) = r - t := IntWalk.i64_in _ (by omega)
      have HC := Lib.hid (fun w => ceil_is y 2 y' w b3 (by omega) (by omega) (by omega) hy'.out)
      have hk9 := hk.out
      by_cases hk2 : k = 29
      · have hx9 : x' = 0 ∧ y' = 1 := by
          rw [← HN0.out, ← HN1.out, hk2, hv_thirty]; exact ⟨rfl, rfl⟩
        have HE : Hid ((r - t) % t = s % t ∧ 30 ≤ s / t) := by
          have : (r - t) + 30 * t = s := by rw [← hk9.2, hk2]; omega
          constructor
          · rw [← this, Int.add_mul_emod_self_right]
          · rw [← this, Int.add_mul_ediv_right _ _ (by omega)]
            have := Int.ediv_nonneg (show 0 ≤ r - t by omega) (show 0 ≤ t by omega)
            omega
        obtain ⟨g1, g2⟩ := hx9
        obtain ⟨m, hm⟩ : ∃ m, Hid ((r - t) % t = m) := ⟨_, rfl⟩
        have hm0 : 0 ≤ m ∧ m < t := by rw [← hm.out]; exact ⟨Int.emod_nonneg _ (by omega), Int.emod_lt_of_pos _ (by omega)⟩
        have hm1 : (r - t).tmod t = m := by rw [Int.tmod_eq_emod_of_nonneg (by omega)]; exact hm.out
        have hm2 : IntKind.i64.wrap m = m := IntWalk.i64_in _ (by omega)
        have hm3 : IntKind.i64.wrap ((r - t).tmod t) = m := by rw [hm1, hm2]
        have hm4 : (r - t) % t = m := hm.out
        have HE2 : Hid (m = s % t ∧ 30 ≤ s / t) := ⟨by rw [← hm.out]; exact HE.out.1, HE.out.2⟩
        subst g1 g2
        clear hk9 hst hx hy HN HE hx' hy' hm
        go_wp2
        go_region_with ((go_at_call 106; ((with_reducible refine (HC.out _).mono ?_)); rintro e w' ⟨rfl, rfl⟩))
        all_goals
          go_wp2
          go_roundw
          case rel => exact ⟨k + 1, m, by first | rfl | go_num, by omega, ⟨hm0.1, Or.inr ⟨by omega, HE2.out⟩⟩, by rw [HN0.out]; simp [go_sem, World.cell?_alloc_past, *], by rw [HN1.out]; simp [go_sem, World.cell?_alloc_past, *], by intro j; simp [go_sem, *], by simp [go_sem, World.cell?_alloc_past, *], by simp [go_sem, World.cell?_alloc_past, *], by intro j; simp [go_sem, *], by first | omega | (simp; omega), (by (repeat (first | (with_reducible refine Below.drew ?_) | (with_reducible refine below_drewN ?_ _) | (with_reducible refine Below.alloc ?_ (by first | omega | (simp; done) | (simp; omega) | (simp at *; omega)) _) | (with_reducible refine Below.setCell ?_ (by first | omega | (simp; done) | (simp; omega) | (simp at *; omega)) _) | (with_reducible exact Below.refl _ _) | (with_reducible assumption) | (with_reducible refine Below.trans ?_ (Below.mono (by assumption) (by first | omega | (simp; done) | (simp; omega) | (simp at *; omega)))))))⟩
          case measure => (simp [intOf]) <;> omega
      · have hx9 : x' ≠ 0 := by rw [← HN0.out]; exact hv_lo _ (by omega)
        have HE : Hid (r - t + (k + 1 : Nat) * t = s) := by
          show _ = _
          rw [← hk9.2, show ((k + 1 : Nat) : Int) = k + 1 by omega, Int.add_mul]; omega
        have g3 : (x' == 0) = false := by simpa using hx9
        have hk8 : k + 1 < 30 := by omega
        clear hk9 hst hx hy HN hx' hy'
        go_wp2
        go_region_with ((go_at_call 106; ((with_reducible refine (HC.out _).mono ?_)); rintro e w' ⟨rfl, rfl⟩))
        all_goals
          go_wp2
          go_roundw
          case rel => exact ⟨k + 1, r - t, by first | rfl | go_num, by omega, ⟨by omega, Or.inl ⟨hk8, HE.out⟩⟩, by rw [HN0.out]; simp [go_sem, World.cell?_alloc_past, *], by rw [HN1.out]; simp [go_sem, World.cell?_alloc_past, *], by intro j; simp [go_sem, *], by simp [go_sem, World.cell?_alloc_past, *], by simp [go_sem, World.cell?_alloc_past, *], by intro j; simp [go_sem, *], by first | omega | (simp; omega), (by (repeat (first | (with_reducible refine Below.drew ?_) | (with_reducible refine below_drewN ?_ _) | (with_reducible refine Below.alloc ?_ (by first | omega | (simp; done) | (simp; omega) | (simp at *; omega)) _) | (with_reducible refine Below.setCell ?_ (by first | omega | (simp; done) | (simp; omega) | (simp at *; omega)) _) | (with_reducible exact Below.refl _ _) | (with_reducible assumption) | (with_reducible refine Below.trans ?_ (Below.mono (by assumption) (by first | omega | (simp; done) | (simp; omega) | (simp at *; omega)))))))⟩
          case measure => (simp [intOf]) <;> omega
    · obtain ⟨X0, hX0⟩ : ∃ x, Hid ((hv k).1 = x) := ⟨(hv k).1, rfl⟩
      obtain ⟨Y0, hY0⟩ : ∃ x, Hid ((hv k).2 = x) := ⟨(hv k).2, rfl⟩
      have HD0 : Hid (dst s t 0 = (r, X0, Y0)) := by
        show _ = _
        rw [halv_end s0 t0 (by omega) hst.out, ← hX0.out, ← hY0.out]
      rw [hX0.out] at c0
      rw [hY0.out] at c1
      clear hX0 hY0 hst b1 b2 b3 b4
      go_wp2
      go_loopw [9, 8] (fun i rest wq => ∃ (j : Nat) (r x y : Int), j ≤ L ∧ i = .int .i64 (j + 1 : Nat) ∧ rest = .int .i64 r ∧ Hid (dst s t j = (r, x, y)) ∧ wq.cell? ⟨w.heap.size + 1, 0, none⟩ = some (.int .i64 x) ∧ wq.cell? ⟨w.heap.size + 1, 1, none⟩ = some (.int .i64 y) ∧ (∀ j, wq.frozen? ⟨w.heap.size + 1, j, none⟩ = false) ∧ wq.cell? ⟨w.heap.size, 0, none⟩ = some (.int .i64 0) ∧ wq.cell? ⟨w.heap.size, 1, none⟩ = some (.int .i64 0) ∧ (∀ j, wq.frozen? ⟨w.heap.size, j, none⟩ = false) ∧ w.heap.size + 2 ≤ wq.heap.size ∧ Below w.heap.size w wq) (fun i _ _ => L + 1 - (intOf i).toNat)
      case atStart => exact ⟨0, r, X0, Y0, by omega, rfl, rfl, HD0, c0, c1, fz, d0, d1, fz0, sz, hB⟩
      case round =>
        clear c0 c1 fz d0 d1 fz0 sz hB n1 n2 n3 n4 HD0 hc r0 r9
        obtain ⟨k, r, x, y, hk, rfl, rfl, hd, c0, c1, fz, d0, d1, fz0, sz, hB⟩ := hrel
        have n1 : w.heap.size + 1 < wr.heap.size := by omega
        have n2 : wr.heap.size ≠ w.heap.size + 1 := by omega
        have n3 : w.heap.size < wr.heap.size := by omega
        have n4 : wr.heap.size ≠ w.heap.size := by omega
        have n5 : b < wr.heap.size := by omega
        have n6 : w.heap.size ≠ b := by omega
        have n7 : w.heap.size + 1 ≠ b := by omega
        have n8 : b ≠ w.heap.size := by omega
        have n9 : b ≠ w.heap.size + 1 := by omega
        obtain ⟨r0, r1, b1, b2, b3, b4⟩ := dst_bd (s := s) (h := t) (by omega) k
        rw [hd.out] at r0 r1 b1 b2 b3 b4
        dsimp only at r0 r1 b1 b2 b3 b4
        have ew : IntKind.i64.wrap (2 * r) = 2 * r := IntWalk.i64_in _ (by omega)
        by_cases hkl : k < L
        · obtain ⟨u1, u2, u3, u4⟩ := rootP_bd (k + 1)
          obtain ⟨e0, e1⟩ := (HR.out.below hB hlt).at (show k + 1 < L + 1 by omega)
          obtain ⟨a, ha⟩ : ∃ a : Int, Hid ((((rootP (k + 1)).1 : Nat) : Int) = a) := ⟨_, rfl⟩
          obtain ⟨b', hb⟩ : ∃ a : Int, Hid ((((rootP (k + 1)).2 : Nat) : Int) = a) := ⟨_, rfl⟩
          have a0 : 0 ≤ a ∧ a ≤ 1000000000 := by rw [← ha.out]; omega
          have b0 : 0 ≤ b' ∧ b' ≤ 1000000000 := by rw [← hb.out]; omega
          obtain ⟨a0, a1⟩ := a0
          obtain ⟨b0, b00⟩ := b0
          rw [ha.out] at e0
          rw [hb.out] at e1
          clear u1 u2 u3 u4
          have hi1 : k + 1 < L + 1 := by omega
          have hi2 : ((k + 1 : Nat) : Int) < ((L + 1 : Nat) : Int) := by omega
          have hi3 : (k : Int) + 1 < (L : Int) + 1 := by omega
          have hi4 : (k : Int) < L := by omega
          have hi5 : (0 : Int) ≤ (k : Int) + 1 := by omega
          by_cases hc : t ≤ r * 2
          · have HN : Hid (dst s t (k + 1) = (r * 2 - t, shLo x a, shHi y b')) := dst_yes hd.out ha.out hb.out hc
            have hc2 : t ≤ 2 * r := by omega
            have ew2 : IntKind.i64.wrap (2 * r - t) = 2 * r - t := IntWalk.i64_in _ (by omega)
            obtain ⟨m1, hm1⟩ : ∃ m, Hid (x * a = m) := ⟨_, rfl⟩
            obtain ⟨m2, hm2⟩ : ∃ m, Hid (y * b' = m) := ⟨_, rfl⟩
            have z1 := mul_bd b1 b2 a0 a1
            have z2 := mul_bd b3 b4 b0 b00
            rw [hm1.out] at z1
            rw [hm2.out] at z2
            have f1 : x * a = m1 := hm1.out
            have f2 : y * b' = m2 := hm2.out
            have f3 : IntKind.i64.wrap (x * a) = m1 := by rw [f1]; exact IntWalk.i64_in _ (by omega)
            have f4 : IntKind.i64.wrap (y * b') = m2 := by rw [f2]; exact IntWalk.i64_in _ (by omega)
            have f5 : IntKind.i64.wrap m1 = m1 := IntWalk.i64_in _ (by omega)
            have f6 : IntKind.i64.wrap m2 = m2 := IntWalk.i64_in _ (by omega)
            obtain ⟨x2, hx2⟩ : ∃ m, Hid (shLo x a = m) := ⟨_, rfl⟩
            obtain ⟨y2, hy2⟩ : ∃ m, Hid (shHi y b' = m) := ⟨_, rfl⟩
            rw [hx2.out, hy2.out] at HN
            have HF := Lib.hid (fun w => floor_is m1 1000000000 x2 w z1.1 z1.2 (by omega) (by omega) (by rw [← hx2.out, shLo, f1]))
            have HC := Lib.hid (fun w => ceil_is m2 1000000000 y2 w z2.1 z2.2 (by omega) (by omega) (by rw [← hy2.out, shHi, f2]))
            have HN2 : Hid (dst s t (k + 1) = (2 * r - t, x2, y2)) := by show _ = _; rw [HN.out, Int.mul_comm]
            clear hd ha hb hc HN hm1 hm2 hx2 hy2 z1 z2
            go_wp2
            refine wp_region_Z (S := (fun w' => w'.cell? ⟨w.heap.size + 1, 0, none⟩ = some (.int .i64 x) ∧ w'.cell? ⟨w.heap.size + 1, 1, none⟩ = some (.int .i64 y) ∧ w'.cell? ⟨b, (k + 1) * 2, none⟩ = some (.int .i64 a) ∧ w'.cell? ⟨b, (k + 1) * 2 + 1, none⟩ = some (.int .i64 b'))) 19 (by kernel_rfl) (by kernel_rfl) (by kernel_rfl) (by simp [go_sem, World.cell?_alloc_past, *]) (fun hHeld => ?_)
            refine wpAnyZ_take (i := 0) (oi := ⟨some 50, _, _, _, _, _⟩) (v := ?_) (by kernel_rfl) (by kernel_rfl) rfl rfl (by kernel_rfl) (by kernel_rfl) (by kernel_rfl) (fun _ _ _ h => h) (Or.inl ⟨by kernel_rfl, ?_⟩) (by assumption) ?_
            rotate_left
            · (intro w hSw; (try dsimp only at hSw); go_simp; all_goals with_reducible rfl)
            try simp only [Act.put, List.setIfInBounds_toArray, List.set_cons_zero, List.set_cons_succ]
            refine wpAnyZ_take (i := 1) (oi := ⟨some 51, _, _, _, _, _⟩) (v := ?_) (by kernel_rfl) (by kernel_rfl) rfl rfl (by kernel_rfl) (by kernel_rfl) (by kernel_rfl) (fun _ _ _ h => h) (Or.inl ⟨by kernel_rfl, ?_⟩) (by assumption) ?_
            rotate_left
            · (intro w hSw; (try dsimp only at hSw); go_simp; all_goals with_reducible rfl)
            try simp only [Act.put, List.setIfInBounds_toArray, List.set_cons_zero, List.set_cons_succ]
            refine wpAnyZ_take (i := 2) (oi := ⟨some 52, _, _, _, _, _⟩) (v := ?_) (by kernel_rfl) (by kernel_rfl) rfl rfl (by kernel_rfl) (by kernel_rfl) (by kernel_rfl) (fun _ _ _ h => h) (Or.inl ⟨by kernel_rfl, ?_⟩) (by assumption) ?_
            rotate_left
            · (intro w hSw; (try dsimp only at hSw); go_simp; all_goals with_reducible rfl)
            try simp only [Act.put, List.setIfInBounds_toArray, List.set_cons_zero, List.set_cons_succ]
            refine wpAnyZ_take (i := 3) (oi := ⟨some 53, _, _, _, _, _⟩) (v := ?_) (by kernel_rfl) (by kernel_rfl) rfl rfl (by kernel_rfl) (by kernel_rfl) (by kernel_rfl) (fun _ _ _ h => h) (Or.inl ⟨by kernel_rfl, ?_⟩) (by assumption) ?_
            rotate_left
            · (intro w hSw; (try dsimp only at hSw); go_simp; all_goals with_reducible rfl)
            try simp only [Act.put, List.setIfInBounds_toArray, List.set_cons_zero, List.set_cons_succ]
            refine wpAnyZ_take (i := 4) (oi := ⟨some 54, _, _, _, _, _⟩) (v := ?_) (by kernel_rfl) (by kernel_rfl) rfl rfl (by kernel_rfl) (by kernel_rfl) (by kernel_rfl) (fun _ _ _ h => h) (Or.inl ⟨by kernel_rfl, ?_⟩) (by assumption) ?_
            rotate_left
            · (intro w hSw; (try dsimp only at hSw); go_simp; all_goals with_reducible rfl)
            try simp only [Act.put, List.setIfInBounds_toArray, List.set_cons_zero, List.set_cons_succ]
            refine wpAnyZ_take (i := 5) (oi := ⟨some 55, _, _, _, _, _⟩) (v := ?_) (by kernel_rfl) (by kernel_rfl) rfl rfl (by kernel_rfl) (by kernel_rfl) (by kernel_rfl) (fun _ _ _ h => h) (Or.inl ⟨by kernel_rfl, ?_⟩) (by assumption) ?_
            rotate_left
            · (intro w hSw; (try dsimp only at hSw); go_simp; all_goals with_reducible rfl)
            try simp only [Act.put, List.setIfInBounds_toArray, List.set_cons_zero, List.set_cons_succ]
            refine wpAnyZ_take (i := 6) (oi := ⟨some 56, _, _, _, _, _⟩) (v := ?_) (by kernel_rfl) (by kernel_rfl) rfl rfl (by kernel_rfl) (by kernel_rfl) (by kernel_rfl) (fun _ _ _ h => h) (Or.inl ⟨by kernel_rfl, ?_⟩) (by assumption) ?_
            rotate_left
            · (intro w hSw; (try dsimp only at hSw); go_simp; all_goals with_reducible rfl)
            try simp only [Act.put, List.setIfInBounds_toArray, List.set_cons_zero, List.set_cons_succ]
            refine wpAnyZ_take (i := 7) (oi := ⟨some 57, _, _, _, _, _⟩) (v := ?_) (by kernel_rfl) (by kernel_rfl) rfl rfl (by kernel_rfl) (by kernel_rfl) (by kernel_rfl) (fun _ _ _ h => h) (Or.inl ⟨by kernel_rfl, ?_⟩) (by assumption) ?_
            rotate_left
            · (intro w hSw; (try dsimp only at hSw); go_simp; all_goals with_reducible rfl)
            try simp only [Act.put, List.setIfInBounds_toArray, List.set_cons_zero, List.set_cons_succ]
            refine wpAnyZ_take (i := 9) (oi := ⟨some 59, _, _, _, _, _⟩) (v := ?_) (by kernel_rfl) (by kernel_rfl) rfl rfl (by kernel_rfl) (by kernel_rfl) (by kernel_rfl) (fun _ _ _ h => h) (Or.inl ⟨by kernel_rfl, ?_⟩) (by assumption) ?_
            rotate_left
            · (intro w hSw; (try dsimp only at hSw); go_simp; all_goals with_reducible rfl)
            try simp only [Act.put, List.setIfInBounds_toArray, List.set_cons_zero, List.set_cons_succ]
            refine wpAnyZ_take (i := 10) (oi := ⟨some 60, _, _, _, _, _⟩) (v := ?_) (by kernel_rfl) (by kernel_rfl) rfl rfl (by kernel_rfl) (by kernel_rfl) (by kernel_rfl) (fun _ _ _ h => h) (Or.inl ⟨by kernel_rfl, ?_⟩) (by assumption) ?_
            rotate_left
            · (intro w hSw; (try dsimp only at hSw); go_simp; all_goals with_reducible rfl)
            try simp only [Act.put, List.setIfInBounds_toArray, List.set_cons_zero, List.set_cons_succ]
            refine wpAnyZ_take (i := 11) (oi := ⟨some 61, _, _, _, _, _⟩) (v := ?_) (by kernel_rfl) (by kernel_rfl) rfl rfl (by kernel_rfl) (by kernel_rfl) (by kernel_rfl) (fun _ _ _ h => h) (Or.inl ⟨by kernel_rfl, ?_⟩) (by assumption) ?_
            rotate_left
            · (intro w hSw; (try dsimp only at hSw); go_simp; all_goals with_reducible rfl)
            try simp only [Act.put, List.setIfInBounds_toArray, List.set_cons_zero, List.set_cons_succ]
            refine wpAnyZ_take (i := 12) (oi := ⟨some 62, _, _, _, _, _⟩) (v := ?_) (by kernel_rfl) (by kernel_rfl) rfl rfl (by kernel_rfl) (by kernel_rfl) (by kernel_rfl) (fun _ _ _ h => h) (Or.inl ⟨by kernel_rfl, ?_⟩) (by assumption) ?_
            rotate_left
            · (intro w hSw; (try dsimp only at hSw); go_simp; all_goals with_reducible rfl)
            try simp only [Act.put, List.setIfInBounds_toArray, List.set_cons_zero, List.set_cons_succ]
            refine wpAnyZ_take (i := 13) (oi := ⟨some 63, _, _, _, _, _⟩) (v := ?_) (by kernel_rfl) (by kernel_rfl) rfl rfl (by kernel_rfl) (by kernel_rfl) (by kernel_rfl) (fun _ _ _ h => h) (Or.inl ⟨by kernel_rfl, ?_⟩) (by assumption) ?_
            rotate_left
            · (intro w hSw; (try dsimp only at hSw); go_simp; all_goals with_reducible rfl)
            try simp only [Act.put, List.setIfInBounds_toArray, List.set_cons_zero, List.set_cons_succ]
            refine wpAnyZ_take (i := 14) (oi := ⟨some 64, _, _, _, _, _⟩) (v := ?_) (by kernel_rfl) (by kernel_rfl) rfl rfl (by kernel_rfl) (by kernel_rfl) (by kernel_rfl) (fun _ _ _ h => h) (Or.inl ⟨by kernel_rfl, ?_⟩) (by assumption) ?_
            rotate_left
            · (intro w hSw; (try dsimp only at hSw); go_simp; all_goals with_reducible rfl)
            try simp only [Act.put, List.setIfInBounds_toArray, List.set_cons_zero, List.set_cons_succ]
            refine wpAnyZ_take (i := 15) (oi := ⟨some 65, _, _, _, _, _⟩) (v := ?_) (by kernel_rfl) (by kernel_rfl) rfl rfl (by kernel_rfl) (by kernel_rfl) (by kernel_rfl) (fun _ _ _ h => h) (Or.inl ⟨by kernel_rfl, ?_⟩) (by assumption) ?_
            rotate_left
            · (intro w hSw; (try dsimp only at hSw); go_simp; all_goals with_reducible rfl)
            try simp only [Act.put, List.setIfInBounds_toArray, List.set_cons_zero, List.set_cons_succ]
            refine wpAnyZ_take (i := 16) (oi := ⟨some 66, _, _, _, _, _⟩) (v := ?_) (by kernel_rfl) (by kernel_rfl) rfl rfl (by kernel_rfl) (by kernel_rfl) (by kernel_rfl) (fun _ _ _ h => h) (Or.inl ⟨by kernel_rfl, ?_⟩) (by assumption) ?_
            rotate_left
            · (intro w hSw; (try dsimp only at hSw); go_simp; all_goals with_reducible rfl)
            try simp only [Act.put, List.setIfInBounds_toArray, List.set_cons_zero, List.set_cons_succ]
            refine wpAnyZ_call (q := 8) (by kernel_rfl) rfl rfl (fun K hK => ?_)
            go_simp
            refine (HF.out _).mono ?_
            rintro e v1 ⟨rfl, rfl⟩
            go_wp2_with fail
            refine hK.out _ _ (by simp [go_sem, World.cell?_alloc_past, *]) (fun hHeld => ?_)
            clear hK K
            try simp only [Act.put, List.setIfInBounds_toArray, List.set_cons_zero, List.set_cons_succ]
            refine wpAnyZ_call (q := 17) (by kernel_rfl) rfl rfl (fun K hK => ?_)
            go_simp
            refine (HC.out _).mono ?_
            rintro e v2 ⟨rfl, rfl⟩
            go_wp2_with fail
            refine hK.out _ _ (by simp [go_sem, World.cell?_alloc_past, *]) (fun hHeld => ?_)
            clear hK K
            try simp only [Act.put, List.setIfInBounds_toArray, List.set_cons_zero, List.set_cons_succ]
            refine wpAnyZ_take (i := 18) (oi := ⟨some 68, _, _, _, _, _⟩) (v := ?_) (by kernel_rfl) (by kernel_rfl) rfl rfl (by kernel_rfl) (by kernel_rfl) (by kernel_rfl) (fun _ _ _ h => h) (Or.inl ⟨by kernel_rfl, ?_⟩) (by assumption) ?_
            rotate_left
            · (intro w hSw; (try dsimp only at hSw); go_simp; all_goals with_reducible rfl)
            try simp only [Act.put, List.setIfInBounds_toArray, List.set_cons_zero, List.set_cons_succ]
            refine wpAnyZ_last (by kernel_rfl) rfl (fun K hK => ?_)
            go_simp
            go_wp2_with fail
            refine hK.out _ _ ?_
            clear hK K
            try simp only [Act.put, List.setIfInBounds_toArray, List.set_cons_zero, List.set_cons_succ]
            go_wp2
            go_roundw
            case rel => exact ⟨k + 1, _, _, _, by omega, by go_num, rfl, HN2, by simp [go_sem, World.cell?_alloc_past, *], by simp [go_sem, World.cell?_alloc_past, *], by intro j; simp [go_sem, *], by simp [go_sem, World.cell?_alloc_past, *], by simp [go_sem, World.cell?_alloc_past, *], by intro j; simp [go_sem, *], by first | omega | (simp; omega), (by (repeat (first | (with_reducible refine Below.drew ?_) | (with_reducible refine below_drewN ?_ _) | (with_reducible refine Below.alloc ?_ (by first | omega | (simp; done) | (simp; omega) | (simp at *; omega)) _) | (with_reducible refine Below.setCell ?_ (by first | omega | (simp; done) | (simp; omega) | (simp at *; omega)) _) | (with_reducible exact Below.refl _ _) | (with_reducible assumption) | (with_reducible refine Below.trans ?_ (Below.mono (by assumption) (by first | omega | (simp; done) | (simp; omega) | (simp at *; omega)))))))⟩
            case measure => (simp [intOf]) <;> omega
          · have HN : Hid (dst s t (k + 1) = (2 * r, x, y)) := by show _ = _; rw [dst_no hd.out hc, Int.mul_comm]
            have hc' : ¬ t ≤ 2 * r := by omega
            clear hd ha hb hc
            go_wp2
            go_roundw
            case rel => exact ⟨k + 1, _, _, _, by omega, by go_num, rfl, HN, by simp [go_sem, World.cell?_alloc_past, *], by simp [go_sem, World.cell?_alloc_past, *], by intro j; simp [go_sem, *], by simp [go_sem, World.cell?_alloc_past, *], by simp [go_sem, World.cell?_alloc_past, *], by intro j; simp [go_sem, *], by first | omega | (simp; omega), (by (repeat (first | (with_reducible refine Below.drew ?_) | (with_reducible refine below_drewN ?_ _) | (with_reducible refine Below.alloc ?_ (by first | omega | (simp; done) | (simp; omega) | (simp at *; omega)) _) | (with_reducible refine Below.setCell ?_ (by first | omega | (simp; done) | (simp; omega) | (simp at *; omega)) _) | (with_reducible exact Below.refl _ _) | (with_reducible assumption) | (with_reducible refine Below.trans ?_ (Below.mono (by assumption) (by first | omega | (simp; done) | (simp; omega) | (simp at *; omega)))))))⟩
            case measure => (simp [intOf]) <;> omega
        · obtain rfl : k = L := by omega
          obtain ⟨u1, u2, u3, u4⟩ := rootP_bd k
          obtain ⟨p, hp⟩ : ∃ p : Int, Hid ((((rootP k).1 : Nat) : Int) = p) := ⟨_, rfl⟩
          have p0 : 0 ≤ p := by rw [← hp.out]; omega
          have p1 : p ≤ 1000000000 := by rw [← hp.out]; omega
          have hp0 := ((HR.out.below hB hlt).at (show k < k + 1 by omega)).1
          rw [hp.out] at hp0
          have HF : Hid ((EL = if r = 0 then x else shLo x p) ∧ EH = y) := by
            constructor
            · rw [← HEl.out, decL, hd.out, hp.out]
            · rw [← HEh.out, decH, hd.out]
          clear u1 u2 u3 u4 hk hkl hd hp
          by_cases hz : r = 0
          · have hz2 : (r != 0) = false := by simp [hz]
            have HX : Hid (EL = x ∧ EH = y) := by have := HF.out; rw [if_pos hz] at this; exact this
            clear hz HF
            go_wp2
            refine bodyPost_ret (v := .agg #[.int .i64 x, .int .i64 y]) (by simp [results, Try.results77, go_sem, World.cell?_alloc_past, *]) rfl ⟨by rw [HX.out.1, HX.out.2], ?_⟩
            (repeat (first | (with_reducible refine Below.drew ?_) | (with_reducible refine below_drewN ?_ _) | (with_reducible refine Below.alloc ?_ (by first | omega | (simp; done) | (simp; omega) | (simp at *; omega)) _) | (with_reducible refine Below.setCell ?_ (by first | omega | (simp; done) | (simp; omega) | (simp at *; omega)) _) | (with_reducible exact Below.refl _ _) | (with_reducible assumption) | (with_reducible refine Below.trans ?_ (Below.mono (by assumption) (by first | omega | (simp; done) | (simp; omega) | (simp at *; omega))))))
          · have hz2 : (r != 0) = true := by simp [hz]
            have HX : Hid (EL = shLo x p ∧ EH = y) := by have := HF.out; rw [if_neg hz] at this; exact this
            have e1 : IntKind.i64.wrap ((k : Int) + 1 - 1) = k := by rw [show (k : Int) + 1 - 1 = k by omega]; exact IntWalk.i64_in _ (by omega)
            have e2 : IntKind.i64.wrap ((k : Int) + 1) = k + 1 := IntWalk.i64_in _ (by omega)
            have e3 : IntKind.i64.wrap (k : Int) = k := IntWalk.i64_in _ (by omega)
            have e4 : (k : Int) + 1 - 1 = k := by omega
            have e5 : (k : Int) < k + 1 := by omega
            obtain ⟨m1, hm1⟩ : ∃ m, Hid (x * p = m) := ⟨_, rfl⟩
            have z1 := mul_bd b1 b2 p0 p1
            rw [hm1.out] at z1
            have f1 : x * p = m1 := hm1.out
            have f3 : IntKind.i64.wrap (x * p) = m1 := by rw [f1]; exact IntWalk.i64_in _ (by omega)
            have f5 : IntKind.i64.wrap m1 = m1 := IntWalk.i64_in _ (by omega)
            obtain ⟨x2, hx2⟩ : ∃ m, Hid (shLo x p = m) := ⟨_, rfl⟩
            have HFl := Lib.hid (fun w => floor_is m1 1000000000 x2 w z1.1 z1.2 (by omega) (by omega) (by rw [← hx2.out, shLo, f1]))
            rw [hx2.out] at HX
            clear hz HF hm1 hx2 z1
            go_wp2
            refine wp_region_Z (S := (fun w' => w'.cell? ⟨w.heap.size + 1, 0, none⟩ = some (.int .i64 x) ∧ w'.cell? ⟨b, k * 2, none⟩ = some (.int .i64 p))) 12 (by kernel_rfl) (by kernel_rfl) (by kernel_rfl) (by simp [go_sem, World.cell?_alloc_past, *]) (fun hHeld => ?_)
            refine wpAnyZ_take (i := 0) (oi := ⟨some 71, _, _, _, _, _⟩) (v := ?_) (by kernel_rfl) (by kernel_rfl) rfl rfl (by kernel_rfl) (by kernel_rfl) (by kernel_rfl) (fun _ _ _ h => h) (Or.inl ⟨by kernel_rfl, ?_⟩) (by assumption) ?_
            rotate_left
            · (intro w hSw; (try dsimp only at hSw); go_simp; all_goals with_reducible rfl)
            try simp only [Act.put, List.setIfInBounds_toArray, List.set_cons_zero, List.set_cons_succ]
            refine wpAnyZ_take (i := 1) (oi := ⟨some 72, _, _, _, _, _⟩) (v := ?_) (by kernel_rfl) (by kernel_rfl) rfl rfl (by kernel_rfl) (by kernel_rfl) (by kernel_rfl) (fun _ _ _ h => h) (Or.inl ⟨by kernel_rfl, ?_⟩) (by assumption) ?_
            rotate_left
            · (intro w hSw; (try dsimp only at hSw); go_simp; all_goals with_reducible rfl)
            try simp only [Act.put, List.setIfInBounds_toArray, List.set_cons_zero, List.set_cons_succ]
            refine wpAnyZ_take (i := 2) (oi := ⟨some 73, _, _, _, _, _⟩) (v := ?_) (by kernel_rfl) (by kernel_rfl) rfl rfl (by kernel_rfl) (by kernel_rfl) (by kernel_rfl) (fun _ _ _ h => h) (Or.inl ⟨by kernel_rfl, ?_⟩) (by assumption) ?_
            rotate_left
            · (intro w hSw; (try dsimp only at hSw); go_simp; all_goals with_reducible rfl)
            try simp only [Act.put, List.setIfInBounds_toArray, List.set_cons_zero, List.set_cons_succ]
            refine wpAnyZ_take (i := 3) (oi := ⟨some 74, _, _, _, _, _⟩) (v := ?_) (by kernel_rfl) (by kernel_rfl) rfl rfl (by kernel_rfl) (by kernel_rfl) (by kernel_rfl) (fun _ _ _ h => h) (Or.inl ⟨by kernel_rfl, ?_⟩) (by assumption) ?_
            rotate_left
            · (intro w hSw; (try dsimp only at hSw); go_simp; all_goals with_reducible rfl)
            try simp only [Act.put, List.setIfInBounds_toArray, List.set_cons_zero, List.set_cons_succ]
            refine wpAnyZ_take (i := 4) (oi := ⟨some 75, _, _, _, _, _⟩) (v := ?_) (by kernel_rfl) (by kernel_rfl) rfl rfl (by kernel_rfl) (by kernel_rfl) (by kernel_rfl) (fun _ _ _ h => h) (Or.inl ⟨by kernel_rfl, ?_⟩) (by assumption) ?_
            rotate_left
            · (intro w hSw; (try dsimp only at hSw); go_simp; all_goals with_reducible rfl)
            try simp only [Act.put, List.setIfInBounds_toArray, List.set_cons_zero, List.set_cons_succ]
            refine wpAnyZ_take (i := 5) (oi := ⟨some 76, _, _, _, _, _⟩) (v := ?_) (by kernel_rfl) (by kernel_rfl) rfl rfl (by kernel_rfl) (by kernel_rfl) (by kernel_rfl) (fun _ _ _ h => h) (Or.inl ⟨by kernel_rfl, ?_⟩) (by assumption) ?_
            rotate_left
            · (intro w hSw; (try dsimp only at hSw); go_simp; all_goals with_reducible rfl)
            try simp only [Act.put, List.setIfInBounds_toArray, List.set_cons_zero, List.set_cons_succ]
            refine wpAnyZ_take (i := 6) (oi := ⟨some 77, _, _, _, _, _⟩) (v := ?_) (by kernel_rfl) (by kernel_rfl) rfl rfl (by kernel_rfl) (by kernel_rfl) (by kernel_rfl) (fun _ _ _ h => h) (Or.inl ⟨by kernel_rfl, ?_⟩) (by assumption) ?_
            rotate_left
            · (intro w hSw; (try dsimp only at hSw); go_simp; all_goals with_reducible rfl)
            try simp only [Act.put, List.setIfInBounds_toArray, List.set_cons_zero, List.set_cons_succ]
            refine wpAnyZ_take (i := 7) (oi := ⟨some 78, _, _, _, _, _⟩) (v := ?_) (by kernel_rfl) (by kernel_rfl) rfl rfl (by kernel_rfl) (by kernel_rfl) (by kernel_rfl) (fun _ _ _ h => h) (Or.inl ⟨by kernel_rfl, ?_⟩) (by assumption) ?_
            rotate_left
            · (intro w hSw; (try dsimp only at hSw); go_simp; all_goals with_reducible rfl)
            try simp only [Act.put, List.setIfInBounds_toArray, List.set_cons_zero, List.set_cons_succ]
            refine wpAnyZ_take (i := 8) (oi := ⟨some 79, _, _, _, _, _⟩) (v := ?_) (by kernel_rfl) (by kernel_rfl) rfl rfl (by kernel_rfl) (by kernel_rfl) (by kernel_rfl) (fun _ _ _ h => h) (Or.inl ⟨by kernel_rfl, ?_⟩) (by assumption) ?_
            rotate_left
            · (intro w hSw; (try dsimp only at hSw); go_simp; all_goals with_reducible rfl)
            try simp only [Act.put, List.setIfInBounds_toArray, List.set_cons_zero, List.set_cons_succ]
            refine wpAnyZ_take (i := 9) (oi := ⟨some 80, _, _, _, _, _⟩) (v := ?_) (by kernel_rfl) (by kernel_rfl) rfl rfl (by kernel_rfl) (by kernel_rfl) (by kernel_rfl) (fun _ _ _ h => h) (Or.inl ⟨by kernel_rfl, ?_⟩) (by assumption) ?_
            rotate_left
            · (intro w hSw; (try dsimp only at hSw); go_simp; all_goals with_reducible rfl)
            try simp only [Act.put, List.setIfInBounds_toArray, List.set_cons_zero, List.set_cons_succ]
            refine wpAnyZ_call (q := 10) (by kernel_rfl) rfl rfl (fun K hK => ?_)
            go_simp
            refine (HFl.out _).mono ?_
            rintro e v1 ⟨rfl, rfl⟩
            go_wp2_with fail
            refine hK.out _ _ (by simp [go_sem, World.cell?_alloc_past, *]) (fun hHeld => ?_)
            clear hK K
            try simp only [Act.put, List.setIfInBounds_toArray, List.set_cons_zero, List.set_cons_succ]
            refine wpAnyZ_take (i := 11) (oi := ⟨some 82, _, _, _, _, _⟩) (v := ?_) (by kernel_rfl) (by kernel_rfl) rfl rfl (by kernel_rfl) (by kernel_rfl) (by kernel_rfl) (fun _ _ _ h => h) (Or.inl ⟨by kernel_rfl, ?_⟩) (by assumption) ?_
            rotate_left
            · (intro w hSw; (try dsimp only at hSw); go_simp; all_goals with_reducible rfl)
            try simp only [Act.put, List.setIfInBounds_toArray, List.set_cons_zero, List.set_cons_succ]
            refine wpAnyZ_last (by kernel_rfl) rfl (fun K hK => ?_)
            go_simp
            go_wp2_with fail
            refine hK.out _ _ ?_
            clear hK K
            try simp only [Act.put, List.setIfInBounds_toArray, List.set_cons_zero, List.set_cons_succ]
            go_wp2
            refine bodyPost_ret (v := .agg #[.int .i64 x2, .int .i64 y]) (by simp [results, Try.results77, go_sem, World.cell?_alloc_past, *]) rfl ⟨by rw [HX.out.1, HX.out.2], ?_⟩
            (repeat (first | (with_reducible refine Below.drew ?_) | (with_reducible refine below_drewN ?_ _) | (with_reducible refine Below.alloc ?_ (by first | omega | (simp; done) | (simp; omega) | (simp at *; omega)) _) | (with_reducible refine Below.setCell ?_ (by first | omega | (simp; done) | (simp; omega) | (simp at *; omega)) _) | (with_reducible exact Below.refl _ _) | (with_reducible assumption) | (with_reducible refine Below.trans ?_ (Below.mono (by assumption) (by first | omega | (simp; done) | (simp; omega) | (simp at *; omega))))))
end Go.Proofs.Ytchfhhmmjioajaa
