import Derived.Test.YtchfhhmmjioajaaZLTRefStep2
import Derived.Test.YtchfhhmmjioajaaZLMMarks
import Derived.Outline
namespace Go.Proofs.Ytchfhhmmjioajaa
open Go.ChangeShapes Go.WideShapes Go.ChangeAt Go.RowKit
set_option linter.unusedVariables false
set_option linter.unusedSimpArgs false
attribute [local go_sem ↓] Go.wp_at_zero Go.wp_at_succ
theorem refAround_any (a c d a' c' d' : Int) (w : World) :
    Calls Try.prog 92 #[.agg #[.int .i64 a, .int .i64 c, .int .i64 d], .agg #[.int .i64 a', .int .i64 c', .int .i64 d']] w fun e w' => e = .returned (.agg #[.int .i64 (min c c'), .int .i64 (max d d')]) ∧ Below w.heap.size w w' := by
  by_cases h1 : c' < c <;> by_cases h2 : d < d'
  · have e1 : min c c' = c' := by omega
    have e2 : max d d' = d' := by omega
    go_enter Try.func92, Try.ntmps92
    go_wp2
    all_goals
      refine bodyPost_ret (v := .agg #[.int .i64 c', .int .i64 d']) (by simp [results, Try.results92, go_sem, World.cell?_alloc_past]) rfl ⟨by first | rfl | rw [e1, e2], ?_⟩
      (repeat (first | (with_reducible refine Below.drew ?_) | (with_reducible refine below_drewN ?_ _) | (with_reducible refine Below.alloc ?_ (by first | omega | (simp; done) | (simp; omega) | (simp at *; omega)) _) | (with_reducible refine Below.setCell ?_ (by first | omega | (simp; done) | (simp; omega) | (simp at *; omega)) _) | (with_reducible exact Below.refl _ _) | (with_reducible assumption) | (with_reducible refine Below.trans ?_ (Below.mono (by assumption) (by first | omega | (simp; done) | (simp; omega) | (simp at *; omega))))))
  · have e1 : min c c' = c' := by omega
    have e2 : max d d' = d := by omega
    go_enter Try.func92, Try.ntmps92
    go_wp2
    all_goals
      refine bodyPost_ret (v := .agg #[.int .i64 c', .int .i64 d]) (by simp [results, Try.results92, go_sem, World.cell?_alloc_past]) rfl ⟨by first | rfl | rw [e1, e2], ?_⟩
      (repeat (first | (with_reducible refine Below.drew ?_) | (with_reducible refine below_drewN ?_ _) | (with_reducible refine Below.alloc ?_ (by first | omega | (simp; done) | (simp; omega) | (simp at *; omega)) _) | (with_reducible refine Below.setCell ?_ (by first | omega | (simp; done) | (simp; omega) | (simp at *; omega)) _) | (with_reducible exact Below.refl _ _) | (with_reducible assumption) | (with_reducible refine Below.trans ?_ (Below.mono (by assumption) (by first | omega | (simp; done) | (simp; omega) | (simp at *; omega))))))
  · have e1 : min c c' = c := by omega
    have e2 : max d d' = d' := by omega
    go_enter Try.func92, Try.ntmps92
    go_wp2
    all_goals
      refine bodyPost_ret (v := .agg #[.int .i64 c, .int .i64 d']) (by simp [results, Try.results92, go_sem, World.cell?_alloc_past]) rfl ⟨by first | rfl | rw [e1, e2], ?_⟩
      (repeat (first | (with_reducible refine Below.drew ?_) | (with_reducible refine below_drewN ?_ _) | (with_reducible refine Below.alloc ?_ (by first | omega | (simp; done) | (simp; omega) | (simp at *; omega)) _) | (with_reducible refine Below.setCell ?_ (by first | omega | (simp; done) | (simp; omega) | (simp at *; omega)) _) | (with_reducible exact Below.refl _ _) | (with_reducible assumption) | (with_reducible refine Below.trans ?_ (Below.mono (by assumption) (by first | omega | (simp; done) | (simp; omega) | (simp at *; omega))))))
  · have e1 : min c c' = c := by omega
    have e2 : max d d' = d := by omega
    go_enter Try.func92, Try.ntmps92
    go_wp2
    all_goals
      refine bodyPost_ret (v := .agg #[.int .i64 c, .int .i64 d]) (by simp [results, Try.results92, go_sem, World.cell?_alloc_past]) rfl ⟨by first | rfl | rw [e1, e2], ?_⟩
      (repeat (first | (with_reducible refine Below.drew ?_) | (with_reducible refine below_drewN ?_ _) | (with_reducible refine Below.alloc ?_ (by first | omega | (simp; done) | (simp; omega) | (simp at *; omega)) _) | (with_reducible refine Below.setCell ?_ (by first | omega | (simp; done) | (simp; omega) | (simp at *; omega)) _) | (with_reducible exact Below.refl _ _) | (with_reducible assumption) | (with_reducible refine Below.trans ?_ (Below.mono (by assumption) (by first | omega | (simp; done) | (simp; omega) | (simp at *; omega))))))
/-- The k-th mark: its second, the least and the greatest pressure. -/
def markR (f t s : Int) (n k : Nat) : Dl := ⟨mkS s n k, mkLo f t s n k, mkHi f t s n k⟩
theorem dlc_map (f : Nat → Dl) (k : Nat) : dlc ((List.range (k + 1)).map f) = dlc ((List.range k).map f) ++ [.int .i64 (f k).s, .int .i64 (f k).d, .int .i64 (f k).g] := by
  rw [List.range_succ, List.map_append]
  unfold dlc
  rw [List.flatMap_append]
  rfl
theorem infoMk : (Try.prog.info? 135).map (fun i => (i.zero, i.size, i.bytes)) = some (some (.agg #[.int .i64 0, .int .i64 0, .int .i64 0]), 3, 24) := by kernel_rfl
def MarksL (f t s : Int) (n : Nat) (w : World) (e : Ending) (w' : World) : Prop := ∃ A cap, e = .returned (.slice A (stK s n + 1) cap) ∧ SlDl w' A ((List.range (stK s n + 1)).map (markR f t s n)) ∧ Below w.heap.size w w'
set_option maxRecDepth 100000 in
set_option maxHeartbeats 4000000 in
theorem refMarks_any (f t s o h : Int) (n : Nat) (w : World) (f0 : 400 ≤ f) (f1 : f ≤ 31100) (t0 : 400 ≤ t) (t1 : t ≤ 31100) (s0 : 0 ≤ s) (s1 : s ≤ 100000) (hn : n ≤ 6) :
    Calls Try.prog 90 #[.agg #[.int .i64 f, .int .i64 t, .int .i64 s, .int .i64 o, .int .i64 h], .int .i64 n] w (MarksL f t s n w) := by
  by_cases hs : s = 0
  · have hk : stK s n = 0 := if_pos hs
    have hm : markR f t s n 0 = ⟨0, f, f⟩ := by unfold markR mkS mkLo mkHi; rw [if_pos hs, if_pos hs, if_pos hs]
    have hP : MarksL f t s n w = fun e w' => ∃ A cap, e = .returned (.slice A 1 cap) ∧ SlDl w' A [⟨0, f, f⟩] ∧ Below w.heap.size w w' := by
      unfold MarksL
      rw [hk]
      have : (List.range (0 + 1)).map (markR f t s n) = [⟨0, f, f⟩] := by simp [hm]
      rw [this]
    rw [hP]
    subst hs
    clear hP hm hk
    go_enter Try.func90, Try.ntmps90
    go_wp2
    go_ret
    refine ⟨_, _, rfl, Or.inr ⟨_, 0, rfl, by simp, ?_⟩, (by (repeat (first | (with_reducible refine Below.drew ?_) | (with_reducible refine below_drewN ?_ _) | (with_reducible refine Below.alloc ?_ (by first | omega | (simp; done) | (simp; omega) | (simp at *; omega)) _) | (with_reducible refine Below.setCell ?_ (by first | omega | (simp; done) | (simp; omega) | (simp at *; omega)) _) | (with_reducible exact Below.refl _ _) | (with_reducible assumption) | (with_reducible refine Below.trans ?_ (Below.mono (by assumption) (by first | omega | (simp; done) | (simp; omega) | (simp at *; omega)))))))⟩
    intro k hk
    obtain rfl : k = 0 := by simp at hk; omega
    refine ⟨by simp [go_sem], by simp [go_sem], by simp [go_sem]⟩
  have hsk : Hid (stK s n = 2 ^ n) := if_neg hs
  obtain ⟨M, hM⟩ : ∃ z : Nat, Hid (2 ^ n = z) := ⟨_, rfl⟩
  have hMb : 1 ≤ M ∧ M ≤ 64 := by
    rw [← hM.out]
    exact ⟨Nat.one_le_two_pow, Nat.le_trans (Nat.pow_le_pow_right (by omega) hn) (by decide)⟩
  have hs1 : 1 ≤ s := by omega
  have k0 : (s == 0) = false := by simp [hs]
  obtain ⟨i0, hi, hz0, hz1, hz2⟩ := info_parts infoMk
  have HI := Lib.hid hi
  have HZ0 := Lib.hid hz0
  have HZ1 := Lib.hid hz1
  have HZ2 := Lib.hid hz2
  have hkM : Hid (stK s n = M) := hsk.out.trans hM.out
  have HPost : Hid (∀ A cap w', SlDl w' A ((List.range (M + 1)).map (markR f t s n)) → Below w.heap.size w w' → MarksL f t s n w (.returned (.slice A (M + 1) cap)) w') := by
    intro A cap w' h1 h2
    unfold MarksL
    rw [hkM.out]
    exact ⟨A, cap, rfl, h1, h2⟩
  clear hi hz0 hz1 hz2 hsk hkM
  go_enter Try.func90, Try.ntmps90
  go_wp2
  go_loop [5, 6] (fun p i => ∃ (k c : Nat), k ≤ n ∧ i = .int .i64 k ∧ p = .int .i64 c ∧ Hid (2 ^ k = c)) (fun _ i => n - (intOf i).toNat)
  case atStart => exact ⟨0, 1, by omega, rfl, rfl, rfl⟩
  case round =>
    obtain ⟨k, c, hk, rfl, rfl, hc⟩ := hrel
    have hcb : c ≤ 64 := by
      rw [← hc.out]; exact Nat.le_trans (Nat.pow_le_pow_right (by omega) (Nat.le_trans hk hn)) (by decide)
    by_cases hkl : k < n
    · have hkl2 : (k : Int) < n := by omega
      have hc2 : Hid (2 ^ (k + 1) = 2 * c) := by show _ = _; rw [Nat.pow_succ, hc.out]; omega
      go_wp2
      go_round
      case rel => exact ⟨k + 1, 2 * c, by omega, by go_num, by go_num, hc2⟩
      case measure => (simp [intOf]) <;> omega
    · have hkl2 : ¬ (k : Int) < n := by omega
      have hkk : k = n := by omega
      have hcM : c = M := by rw [← hc.out, ← hM.out, hkk]
      subst hcM
      clear hkk hc
      go_wp2
      have cf : (w.alloc (.cells #[.int .i64 f, .int .i64 t, .int .i64 s, .int .i64 o, .int .i64 h] 55)).cell? ⟨w.heap.size, 0, none⟩ = some (.int .i64 f) := by simp [go_sem, World.cell?_alloc_past]
      have ct : (w.alloc (.cells #[.int .i64 f, .int .i64 t, .int .i64 s, .int .i64 o, .int .i64 h] 55)).cell? ⟨w.heap.size, 1, none⟩ = some (.int .i64 t) := by simp [go_sem, World.cell?_alloc_past]
      have cs : (w.alloc (.cells #[.int .i64 f, .int .i64 t, .int .i64 s, .int .i64 o, .int .i64 h] 55)).cell? ⟨w.heap.size, 2, none⟩ = some (.int .i64 s) := by simp [go_sem, World.cell?_alloc_past]
      have lw1 : w.heap.size < (w.alloc (.cells #[.int .i64 f, .int .i64 t, .int .i64 s, .int .i64 o, .int .i64 h] 55)).heap.size := by simp
      have hb1 : Below w.heap.size w (w.alloc (.cells #[.int .i64 f, .int .i64 t, .int .i64 s, .int .i64 o, .int .i64 h] 55)) := (by (repeat (first | (with_reducible refine Below.drew ?_) | (with_reducible refine below_drewN ?_ _) | (with_reducible refine Below.alloc ?_ (by first | omega | (simp; done) | (simp; omega) | (simp at *; omega)) _) | (with_reducible refine Below.setCell ?_ (by first | omega | (simp; done) | (simp; omega) | (simp at *; omega)) _) | (with_reducible exact Below.refl _ _) | (with_reducible assumption) | (with_reducible refine Below.trans ?_ (Below.mono (by assumption) (by first | omega | (simp; done) | (simp; omega) | (simp at *; omega)))))))
      generalize hm : w.alloc (.cells #[.int .i64 f, .int .i64 t, .int .i64 s, .int .i64 o, .int .i64 h] 55) = w1 at *
      clear hm
      go_loopw [7, 8] (fun v i wr => ∃ k : Nat, k ≤ c + 1 ∧ i = .int .i64 k ∧ Hid (wr.ownsRow w1.heap.size 135 3 v k (dlc ((List.range k).map (markR f t s n)))) ∧ Below w1.heap.size w1 wr) (fun _ i _ => c + 1 - (intOf i).toNat)
      case atStart => exact ⟨0, by omega, rfl, World.ownsRow_nil _ _ _ _, Below.refl _ _⟩
      case round =>
        obtain ⟨k, hk, rfl, HO, hB⟩ := hrel
        have sz := hB.size
        have hBw : Below w.heap.size w wr := hb1.trans (hB.mono hb1.size)
        by_cases hkl : k ≤ c
        · have hkl2 : (k : Int) ≤ c := by omega
          have cf' := (hB.cell (p := ⟨w.heap.size, 0, none⟩) lw1).trans cf
          have ct' := (hB.cell (p := ⟨w.heap.size, 1, none⟩) lw1).trans ct
          have cs' := (hB.cell (p := ⟨w.heap.size, 2, none⟩) lw1).trans cs
          obtain ⟨K1, hK1⟩ : ∃ z, Hid ((k : Int) * s = z) := ⟨_, rfl⟩
          have bK1 : 0 ≤ K1 ∧ K1 ≤ 6400000 := by
            rw [← hK1.out]; exact ⟨Int.mul_nonneg (by omega) (by omega), Int.le_trans (Int.mul_le_mul (show (k : Int) ≤ 64 by omega) s1 (by omega) (by omega)) (by omega)⟩
          obtain ⟨q, hq⟩ : ∃ z, Hid (K1 / (c : Int) = z) := ⟨_, rfl⟩
          have hqs : Hid (mkS s n k = q) := by show _ = _; unfold mkS; rw [if_neg hs, hM.out, hK1.out, hq.out]
          obtain ⟨bq0, bq1⟩ := mkS_bd (s := s) (j := (k : Int)) (n := n) s0 hn (by omega) (by rw [hM.out]; omega)
          rw [hqs.out] at bq0 bq1
          obtain ⟨Q, hQ⟩ : ∃ z, Hid (mkP f t s q = z) := ⟨_, rfl⟩
          obtain ⟨bQ0, bQ1⟩ := mkP_bd f0 f1 t0 t1 bq0 bq1
          rw [hQ.out] at bQ0 bQ1
          obtain ⟨F1, hF1⟩ : ∃ z, Hid (f * s = z) := ⟨_, rfl⟩
          obtain ⟨F2, hF2⟩ : ∃ z, Hid ((t - f) * q = z) := ⟨_, rfl⟩
          have bF1 : 0 ≤ F1 ∧ F1 ≤ 3110000000 := by
            rw [← hF1.out]; exact ⟨Int.mul_nonneg (by omega) (by omega), Int.le_trans (Int.mul_le_mul f1 s1 (by omega) (by omega)) (by omega)⟩
          have hsum : F1 + F2 = Q := by
            rw [← hF1.out, ← hF2.out, ← hQ.out]; unfold mkP
            rw [Int.mul_sub, Int.sub_mul]; omega
          have e1 : IntKind.i64.wrap ((k : Int) * s) = K1 := mul_wrap hK1.out bK1.1 (by omega)
          have e2 : IntKind.i64.wrap (K1.tdiv (c : Int)) = q := by rw [quo_in K1 c bK1.1 (by omega) (by omega)]; exact hq.out
          have e3 : IntKind.i64.wrap (f * s) = F1 := mul_wrap hF1.out bF1.1 (by omega)
          have e4 : IntKind.i64.wrap ((t - f) * q) = F2 := by rw [hF2.out]; exact IntWalk.i64_in _ (by omega)
          have e5 : IntKind.i64.wrap (F1 + F2) = Q := by rw [hsum]; exact IntWalk.i64_in _ (by omega)
          obtain ⟨x1, hx1⟩ : ∃ z, Hid (Q / s = z) := ⟨_, rfl⟩
          obtain ⟨x2, hx2⟩ : ∃ z, Hid ((Q + s - 1) / s = z) := ⟨_, rfl⟩
          have HFl : Hid (∀ w, Calls Try.prog 105 #[.int .i64 Q, .int .i64 s] w fun e w' => e = .returned (.int .i64 x1) ∧ w = w') := fun w => by rw [← hx1.out]; exact baseFloor_nn Q s w (by omega) (by omega) (by omega) (by omega)
          have HCl : Hid (∀ w, Calls Try.prog 106 #[.int .i64 Q, .int .i64 s] w fun e w' => e = .returned (.int .i64 x2) ∧ w = w') := fun w => by rw [← hx2.out]; exact baseCeil_nn Q s w (by omega) (by omega) (by omega) (by omega)
          have hda : markR f t s n k = ⟨q, x1, x2⟩ := by unfold markR mkLo mkHi; rw [if_neg hs, if_neg hs, hqs.out, hQ.out, hx1.out, hx2.out]
          have HN := Lib.hid (dlc_map (markR f t s n) k)
          rw [hda] at HN
          dsimp only at HN
          have hc0 : (c : Int) ≠ 0 := by omega
          clear hK1 hq hqs hQ hF1 hF2 hx1 hx2 hda hsum
          go_upto_region 14 with (fail)
          have HS : Hid (∀ w', Below w1.heap.size w1 w' → w'.cell? ⟨w.heap.size, 2, none⟩ = some (.int .i64 s)) := fun w' hb => (hb.cell (p := ⟨w.heap.size, 2, none⟩) lw1).trans cs
          have hBd : Below w1.heap.size w1 wr.drew := hB.drew
          have hB0 : Below wr.heap.size wr wr.drew := (Below.refl wr.heap.size wr).drew
          refine wp_region_held_drew (S := (fun w' => w'.cell? ⟨w.heap.size, 2, none⟩ = some (.int .i64 s))) (by kernel_rfl) (by exact HS.out _ hBd) (fun hHeld => ?_)
          generalize hdr : wr.drew = u0 at *
          clear hdr
          refine wpAnyH_take (i := 0) (oi := ⟨some 52, _, _, _, _, _⟩) (v := ?_) rfl (by kernel_rfl) (by kernel_rfl) (by kernel_rfl) (fun _ _ _ h => h) (Or.inl ⟨by kernel_rfl, ?_⟩) (by assumption) ?_
          rotate_left
          · (intro w hSw; (try dsimp only at hSw); go_simp; all_goals with_reducible rfl)
          try simp only [Act.put, List.setIfInBounds_toArray, List.set_cons_zero, List.set_cons_succ]
          refine wpAnyH_take (i := 1) (oi := ⟨some 53, _, _, _, _, _⟩) (v := ?_) rfl (by kernel_rfl) (by kernel_rfl) (by kernel_rfl) (fun _ _ _ h => h) (Or.inl ⟨by kernel_rfl, ?_⟩) (by assumption) ?_
          rotate_left
          · (intro w hSw; (try dsimp only at hSw); go_simp; all_goals with_reducible rfl)
          try simp only [Act.put, List.setIfInBounds_toArray, List.set_cons_zero, List.set_cons_succ]
          refine wpAnyH_take (i := 2) (oi := ⟨some 54, _, _, _, _, _⟩) (v := ?_) rfl (by kernel_rfl) (by kernel_rfl) (by kernel_rfl) (fun _ _ _ h => h) (Or.inl ⟨by kernel_rfl, ?_⟩) (by assumption) ?_
          rotate_left
          · (intro w hSw; (try dsimp only at hSw); go_simp; all_goals with_reducible rfl)
          try simp only [Act.put, List.setIfInBounds_toArray, List.set_cons_zero, List.set_cons_succ]
          refine wpAnyH_take (i := 3) (oi := ⟨some 55, _, _, _, _, _⟩) (v := ?_) rfl (by kernel_rfl) (by kernel_rfl) (by kernel_rfl) (fun _ _ _ h => h) (Or.inl ⟨by kernel_rfl, ?_⟩) (by assumption) ?_
          rotate_left
          · (intro w hSw; (try dsimp only at hSw); go_simp; all_goals with_reducible rfl)
          try simp only [Act.put, List.setIfInBounds_toArray, List.set_cons_zero, List.set_cons_succ]
          refine wpAnyH_take (i := 4) (oi := ⟨some 56, _, _, _, _, _⟩) (v := ?_) rfl (by kernel_rfl) (by kernel_rfl) (by kernel_rfl) (fun _ _ _ h => h) (Or.inl ⟨by kernel_rfl, ?_⟩) (by assumption) ?_
          rotate_left
          · (intro w hSw; (try dsimp only at hSw); go_simp; all_goals with_reducible rfl)
          try simp only [Act.put, List.setIfInBounds_toArray, List.set_cons_zero, List.set_cons_succ]
          refine wpAnyH_take (i := 6) (oi := ⟨some 58, _, _, _, _, _⟩) (v := ?_) rfl (by kernel_rfl) (by kernel_rfl) (by kernel_rfl) (fun _ _ _ h => h) (Or.inl ⟨by kernel_rfl, ?_⟩) (by assumption) ?_
          rotate_left
          · (intro w hSw; (try dsimp only at hSw); go_simp; all_goals with_reducible rfl)
          try simp only [Act.put, List.setIfInBounds_toArray, List.set_cons_zero, List.set_cons_succ]
          refine wpAnyH_take (i := 7) (oi := ⟨some 59, _, _, _, _, _⟩) (v := ?_) rfl (by kernel_rfl) (by kernel_rfl) (by kernel_rfl) (fun _ _ _ h => h) (Or.inl ⟨by kernel_rfl, ?_⟩) (by assumption) ?_
          rotate_left
          · (intro w hSw; (try dsimp only at hSw); go_simp; all_goals with_reducible rfl)
          try simp only [Act.put, List.setIfInBounds_toArray, List.set_cons_zero, List.set_cons_succ]
          refine wpAnyH_take (i := 8) (oi := ⟨some 60, _, _, _, _, _⟩) (v := ?_) rfl (by kernel_rfl) (by kernel_rfl) (by kernel_rfl) (fun _ _ _ h => h) (Or.inl ⟨by kernel_rfl, ?_⟩) (by assumption) ?_
          rotate_left
          · (intro w hSw; (try dsimp only at hSw); go_simp; all_goals with_reducible rfl)
          try simp only [Act.put, List.setIfInBounds_toArray, List.set_cons_zero, List.set_cons_succ]
          refine wpAnyH_ready (rs := [5]) (by kernel_rfl) (by simp) ?_
          refine AllReadyH.cons rfl (fun K hK => ?_) AllReadyH.nil
          go_simp
          refine (HFl.out _).mono ?_
          rintro e w2 ⟨rfl, rfl⟩
          go_wp2_with fail
          refine hK.out _ _ (by exact HS.out _ hBd) (fun hHeld => ?_)
          clear hK K
          try simp only [Act.put, List.setIfInBounds_toArray, List.set_cons_zero, List.set_cons_succ]
          refine wpAnyH_ready (rs := [9]) (by kernel_rfl) (by simp) ?_
          refine AllReadyH.cons rfl (fun K hK => ?_) AllReadyH.nil
          go_simp
          refine (HCl.out _).mono ?_
          rintro e w2 ⟨rfl, rfl⟩
          go_wp2_with fail
          refine hK.out _ _ (by exact HS.out _ hBd) (fun hHeld => ?_)
          clear hK K
          try simp only [Act.put, List.setIfInBounds_toArray, List.set_cons_zero, List.set_cons_succ]
          refine wpAnyH_take (i := 10) (oi := ⟨some 62, _, _, _, _, _⟩) (v := ?_) rfl (by kernel_rfl) (by kernel_rfl) (by kernel_rfl) (fun _ _ _ h => h) (Or.inl ⟨by kernel_rfl, ?_⟩) (by assumption) ?_
          rotate_left
          · (intro w hSw; (try dsimp only at hSw); go_simp; all_goals with_reducible rfl)
          try simp only [Act.put, List.setIfInBounds_toArray, List.set_cons_zero, List.set_cons_succ]
          refine wpAnyH_take (i := 11) (oi := ⟨some 63, _, _, _, _, _⟩) (v := ?_) rfl (by kernel_rfl) (by kernel_rfl) (by kernel_rfl) (fun _ _ _ h => h) (Or.inl ⟨by kernel_rfl, ?_⟩) (by assumption) ?_
          rotate_left
          · (intro w hSw; (try dsimp only at hSw); go_simp; all_goals with_reducible rfl)
          try simp only [Act.put, List.setIfInBounds_toArray, List.set_cons_zero, List.set_cons_succ]
          refine wpAnyH_ready (rs := [12]) (by kernel_rfl) (by simp) ?_
          refine AllReadyH.cons rfl (fun K hK => ?_) AllReadyH.nil
          go_simp
          go_wp2_with fail
          refine hK.out _ _ (HS.out _ (hBd.alloc hBd.size _)) (fun hHeld => ?_)
          clear hK K
          try simp only [Act.put, List.setIfInBounds_toArray, List.set_cons_zero, List.set_cons_succ]
          refine wpAnyH_ready (rs := [13]) (by kernel_rfl) (by simp) ?_
          refine AllReadyH.cons rfl (fun K hK => ?_) AllReadyH.nil
          rw [if_pos (by kernel_rfl)]
          have su5 := hBd.size
          have HO5 := Lib.hid (own_below HO.out hB0 (Nat.le_refl _))
          refine oper_append_own_at _ _ 131 rfl w1.heap.size 135 i0 (.agg #[.int .i64 0, .int .i64 0, .int .i64 0]) 3 24 Try.underlying131 HI.out HZ0.out HZ1.out HZ2.out rfl (by decide) _ _ _ rfl (HO5.out.alloc _) ⟨u0.heap.size, 0, none⟩ 1 1 [.int .i64 q, .int .i64 x1, .int .i64 x2] rfl rfl ?c0 ?c1 ?c2 ?c3 ?c4 ?_
          case c0 =>
            intro j u hj
            match j, hj with
            | 0, hj => simp at hj; subst hj; simp [Addr.add, go_sem]
            | 1, hj => simp at hj; subst hj; simp [Addr.add, go_sem]
            | 2, hj => simp at hj; subst hj; simp [Addr.add, go_sem]
          case c1 => intro u hu; simp at hu; rcases hu with rfl | rfl | rfl <;> rfl
          case c2 => unfold maxLen; omega
          case c3 => omega
          case c4 => simp; omega
          intro v' w5 hown hgrow
          have ob := HO.out.lt
          have hB5 : Below w1.heap.size w1 w5 := (hBd.alloc hBd.size _).grown hgrow (by simp; omega) (fun k hk => (ob k hk).1)
          have HOW : Hid (w5.ownsRow w1.heap.size 135 3 v' (k + 1) (dlc ((List.range (k + 1)).map (markR f t s n)))) := by
            show World.ownsRow _ _ _ _ _ _ _
            rw [HN.out]
            exact hown
          clear hown hgrow ob HO HO5 HN
          refine hK.out _ _ (HS.out _ hB5) (fun hHeld => ?_)
          clear hK K
          try simp only [Act.put, List.setIfInBounds_toArray, List.set_cons_zero, List.set_cons_succ]
          refine wpAnyH_take (i := 14) (oi := ⟨some 7, _, _, _, _, _⟩) (v := ?_) rfl (by kernel_rfl) (by kernel_rfl) (by kernel_rfl) (fun _ _ _ h => h) (Or.inl ⟨by kernel_rfl, ?_⟩) (by assumption) ?_
          rotate_left
          · (intro w hSw; (try dsimp only at hSw); go_simp; all_goals with_reducible rfl)
          try simp only [Act.put, List.setIfInBounds_toArray, List.set_cons_zero, List.set_cons_succ]
          refine wpAnyH_done (by kernel_rfl) ?_ _
          go_wp2
          go_roundw
          case rel => exact ⟨k + 1, by omega, by go_num, HOW, hB5⟩
          case measure => (simp [intOf]) <;> omega
        · have hkl2 : ¬ (k : Int) ≤ c := by omega
          have hkk : k = c + 1 := by omega
          have HO2 := HO.out
          rw [hkk] at HO2
          have hle : ((List.range (c + 1)).map (markR f t s n)).length = c + 1 := by simp
          obtain ⟨A', cap2, rfl, hS, _⟩ := SlDl_own (P := (List.range (c + 1)).map (markR f t s n)) (by rw [hle]; exact HO2)
          rw [hle]
          have HSS := Lib.hid hS
          clear HO HO2 hS hkk hle
          go_wp2
          go_ret
          exact HPost.out _ _ _ HSS.out hBw
end Go.Proofs.Ytchfhhmmjioajaa
