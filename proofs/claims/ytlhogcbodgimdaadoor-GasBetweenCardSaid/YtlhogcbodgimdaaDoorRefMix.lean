/- What the reference's greatest common divisor, its fractions in lowest terms and its look at small parts return. -/
import Derived.Test.YtlhogcbodgimdaaDoorRefParts
import Derived.Outline
namespace Go.Proofs.YtlhogcbodgimdaaDoor
open Go.ChangeShapes Go.WideShapes Go.ChangeAt Go.RowKit
set_option linter.unusedVariables false
set_option linter.unusedSimpArgs false
attribute [local go_sem ↓] Go.wp_at_zero Go.wp_at_succ

theorem sumF_cons (f : Part → Int) (p : Part) (r : List Part) : sumF f (p :: r) = f p + sumF f r := by simp [sumF]
theorem sumN_eq (P : List Part) : sumF pN P = 1000 * sumF pA P - sumF pO P - sumF pH P := by
  induction P with
  | nil => rfl
  | cons p r ih =>
    rw [sumF_cons, sumF_cons, sumF_cons, sumF_cons, ih]
    have : pN p = 1000 * pA p - pO p - pH p := by
      unfold pN pA pO pH
      rw [Int.mul_sub, Int.mul_sub, Int.mul_comm p.a 1000]
    omega
theorem prt_le {P : List Part} (hl : P.length ≤ 12) (hR : ∀ p ∈ P, p.Right) (i : Nat) : prt P i ≤ all3 P := by
  have h0 : 0 ≤ sumF pO P := (prt_bd hl hR 0).1
  have h1 : 0 ≤ sumF pH P := (prt_bd hl hR 1).1
  have h2 : 0 ≤ sumF pN P := (prt_bd hl hR 2).1
  have h3 := sumN_eq P
  unfold all3
  match i with
  | 0 => show sumF pO P ≤ _; omega
  | 1 => show sumF pH P ≤ _; omega
  | i + 2 => show sumF pN P ≤ _; omega
theorem mix_bd {P : List Part} (hl : P.length ≤ 12) (hR : ∀ p ∈ P, p.Right) (hn : noneB P = false) (i : Nat) : 0 ≤ mixN P i ∧ mixN P i ≤ mixD P i ∧ 1 ≤ mixD P i := by
  have h1 := (prt_bd hl hR i).1
  have h2 := prt_le hl hR i
  have h3 : 0 < all3 P := by have := sumA_pos hR hn; unfold all3; omega
  have g1 := gcdI_pos (prt P i) (all3 P) h3
  have g2 := gcdI_le (prt P i) (all3 P) h3
  refine ⟨Int.ediv_nonneg h1 (by omega), Int.ediv_le_ediv g1 h2, ?_⟩
  exact (Int.le_ediv_iff_mul_le g1).2 (by omega)
theorem baseSize_nn (n : Int) (w : World) (h0 : 0 ≤ n) (h1 : n ≤ 2000000000000000000) :
    Calls Tryd.prog 21 #[.int .i64 n] w fun e w' => e = .returned (.int .i64 n) ∧ w = w' := by
  have e1 : IntKind.i64.wrap (-n) = -n := IntWalk.i64_in _ (by omega)
  have d1 : ¬ n < -n := by omega
  have d2 : decide (n < -n) = false := by simpa using d1
  have d3 : -n ≤ n := by omega
  go_enter Tryd.func21, Tryd.ntmps21
  go_wp2
  go_ret
  exact ⟨rfl, rfl⟩
theorem baseGcd_any (n d : Int) (w : World) (h0 : 0 ≤ n) (h1 : n ≤ 2000000000000000000) (z0 : 0 ≤ d) (h3 : d ≤ 2000000000000000000) :
    Calls Tryd.prog 13 #[.int .i64 n, .int .i64 d] w fun e w' => e = .returned (.int .i64 (gcdI n d)) ∧ Below w.heap.size w w' := by
  obtain ⟨g, hg⟩ : ∃ g, Hid (gcdI n d = g) := ⟨_, rfl⟩
  rw [hg.out]
  go_enter Tryd.func13, Tryd.ntmps13
  go_wp2
  go_loopw [0, 1] (fun a b wr => ∃ x y : Nat, a = .int .i64 x ∧ b = .int .i64 y ∧ x ≤ 2000000000000000000 ∧ y ≤ 2000000000000000000 ∧ Hid (((Nat.gcd x y : Nat) : Int) = g) ∧ Below w.heap.size w wr) (fun _ b _ => (intOf b).toNat)
  case atStart =>
    refine ⟨n.toNat, d.toNat, by rw [Int.toNat_of_nonneg h0], by rw [Int.toNat_of_nonneg z0], by omega, by omega, ?_, Below.refl _ _⟩
    rw [← hg.out]
    unfold gcdI Hid Int.gcd
    congr 1
    congr 1 <;> omega
  case round =>
    obtain ⟨x, y, rfl, rfl, hx, hy, hgc, hB⟩ := hrel
    by_cases hyz : y = 0
    · subst hyz
      have hxg : (x : Int) = g := by have := hgc.out; simpa using this
      have hr : Hid ((x : Int) = g) := hxg
      clear hgc hxg
      go_wp2_with ((go_at_call 21; ((with_reducible refine (baseSize_nn _ _ (by omega) (by omega)).mono ?_)); rintro e w' ⟨rfl, rfl⟩))
      go_ret
      exact ⟨ret_int hr.out, (by (repeat (first | (with_reducible refine Below.drew ?_) | (with_reducible refine below_drewN ?_ _) | (with_reducible refine Below.alloc ?_ (by first | omega | (simp; done) | (simp; omega) | (simp at *; omega)) _) | (with_reducible refine Below.setCell ?_ (by first | omega | (simp; done) | (simp; omega) | (simp at *; omega)) _) | (with_reducible exact Below.refl _ _) | (with_reducible assumption) | (with_reducible refine Below.trans ?_ (Below.mono (by assumption) (by first | omega | (simp; done) | (simp; omega) | (simp at *; omega)))))))⟩
    · have y0 : 1 ≤ (y : Int) := by omega
      have y2 : ¬ (y : Int) = 0 := by omega
      have m1 : x % y < y := Nat.mod_lt _ (by omega)
      have hgc2 : Hid (((Nat.gcd y (x % y) : Nat) : Int) = g) := by
        have := hgc.out
        rw [Nat.gcd_comm, Nat.gcd_rec] at this
        rw [Nat.gcd_comm]; exact this
      have e1 : (x : Int).tmod y = ((x % y : Nat) : Int) := by
        rw [Int.tmod_eq_emod_of_nonneg (by omega), ← Int.natCast_emod]
      have y3 : ((y : Int) != 0) = true := by simpa using hyz
      obtain ⟨z, HZ⟩ : ∃ z : Nat, Hid (x % y = z) := ⟨_, rfl⟩
      rw [HZ.out] at e1 m1 hgc2
      go_wp2
      go_region_held3 (fun w' => True) (trivial) (fail)
      go_roundw
      case rel => exact ⟨_, _, _, _, _, _, _, _, ⟨y, z, rfl, rfl, hy, by omega, hgc2, (by (repeat (first | (with_reducible refine Below.drew ?_) | (with_reducible refine below_drewN ?_ _) | (with_reducible refine Below.alloc ?_ (by first | omega | (simp; done) | (simp; omega) | (simp at *; omega)) _) | (with_reducible refine Below.setCell ?_ (by first | omega | (simp; done) | (simp; omega) | (simp at *; omega)) _) | (with_reducible exact Below.refl _ _) | (with_reducible assumption) | (with_reducible refine Below.trans ?_ (Below.mono (by assumption) (by first | omega | (simp; done) | (simp; omega) | (simp at *; omega)))))))⟩, rfl⟩
      case measure => simp [intOf]; omega
theorem baseGcd_is (n d g : Int) (w : World) (h0 : 0 ≤ n) (h1 : n ≤ 2000000000000000000) (z0 : 0 ≤ d) (h3 : d ≤ 2000000000000000000) (hg : Hid (gcdI n d = g)) :
    Calls Tryd.prog 13 #[.int .i64 n, .int .i64 d] w fun e w' => e = .returned (.int .i64 g) ∧ Below w.heap.size w w' := by
  have := baseGcd_any n d w h0 h1 z0 h3
  rw [hg.out] at this
  exact this
theorem baseLowest_any (n d : Int) (w : World) (h0 : 0 ≤ n) (h1 : n ≤ 2000000000000000000) (h2 : 0 < d) (h3 : d ≤ 2000000000000000000) :
    Calls Tryd.prog 11 #[.int .i64 n, .int .i64 d] w fun e w' => e = .returned (.agg #[.int .i64 (n / gcdI n d), .int .i64 (d / gcdI n d)]) ∧ Below w.heap.size w w' := by
  have g1 := gcdI_pos n d h2
  have g2 := gcdI_le n d h2
  obtain ⟨g, hg⟩ : ∃ g, Hid (gcdI n d = g) := ⟨_, rfl⟩
  rw [hg.out] at g1 g2
  rw [hg.out]
  have q1 := quo_in n g h0 (by omega) g1
  have q2 := quo_in d g (by omega) (by omega) g1
  have g3 : ¬ g = 0 := by omega
  have g4 : 1 ≤ g := by omega
  have z0 : 0 ≤ d := by omega
  go_enter Tryd.func11, Tryd.ntmps11
  go_wp2_with fail
  refine (baseGcd_is n d g _ h0 h1 z0 h3 hg).mono ?_
  rintro e w1 ⟨rfl, hbw⟩
  obtain ⟨hbc, hbf⟩ := bcell hbw
  have hbs := hbw.size
  simp at hbs
  have c0 : w1.cell? ⟨w.heap.size, 0, none⟩ = some (.int .i64 0) := by rw [hbc _ _ (by simp)]; simp [go_sem]
  have c1 : w1.cell? ⟨w.heap.size, 1, none⟩ = some (.int .i64 0) := by rw [hbc _ _ (by simp)]; simp [go_sem]
  have f0 : w1.frozen? ⟨w.heap.size, 0, none⟩ = false := by rw [hbf _ _ (by simp)]; simp [go_sem]
  have f1 : w1.frozen? ⟨w.heap.size, 1, none⟩ = false := by rw [hbf _ _ (by simp)]; simp [go_sem]
  have hB1 : Below w.heap.size w w1 := (by (repeat (first | (with_reducible refine Below.drew ?_) | (with_reducible refine below_drewN ?_ _) | (with_reducible refine Below.alloc ?_ (by first | omega | (simp; done) | (simp; omega) | (simp at *; omega)) _) | (with_reducible refine Below.setCell ?_ (by first | omega | (simp; done) | (simp; omega) | (simp at *; omega)) _) | (with_reducible exact Below.refl _ _) | (with_reducible assumption) | (with_reducible refine Below.trans ?_ (Below.mono (by assumption) (by first | omega | (simp; done) | (simp; omega) | (simp at *; omega)))))))
  have lt : w.heap.size < w1.heap.size := by omega
  clear hbc hbf hbw
  go_wp2
  go_region_held3 (fun w' => True) (trivial) (fail)
  go_wp2
  refine bodyPost_ret (v := .agg #[.int .i64 (n / g), .int .i64 (d / g)]) (by simp [results, Tryd.results11, go_sem, *]) rfl ⟨rfl, ?_⟩
  (repeat (first | (with_reducible refine Below.drew ?_) | (with_reducible refine below_drewN ?_ _) | (with_reducible refine Below.alloc ?_ (by first | omega | (simp; done) | (simp; omega) | (simp at *; omega)) _) | (with_reducible refine Below.setCell ?_ (by first | omega | (simp; done) | (simp; omega) | (simp at *; omega)) _) | (with_reducible exact Below.refl _ _) | (with_reducible assumption) | (with_reducible refine Below.trans ?_ (Below.mono (by assumption) (by first | omega | (simp; done) | (simp; omega) | (simp at *; omega))))))
theorem baseIsSmall_any (n d : Int) (w : World) :
    Calls Tryd.prog 10 #[.agg #[.int .i64 n, .int .i64 d]] w fun e w' => e = .returned (.bool (inB n (-1000000000) 1000000000 && inB d 1 1000000000)) ∧ Below w.heap.size w w' := by
  obtain ⟨x, hx⟩ : ∃ x, Hid (inB n (-1000000000) 1000000000 = x) := ⟨_, rfl⟩
  obtain ⟨y, hy⟩ : ∃ y, Hid (inB d 1 1000000000 = y) := ⟨_, rfl⟩
  rw [hx.out, hy.out]
  cases x <;> cases y
  all_goals
    go_enter Tryd.func10, Tryd.ntmps10
    go_wp2_with (first | (go_at_call 12; ((with_reducible refine (baseWithin_b n (-1000000000) 1000000000 _ _ hx).mono ?_)); rintro e w' ⟨rfl, rfl⟩) | (go_at_call 12; ((with_reducible refine (baseWithin_b d 1 1000000000 _ _ hy).mono ?_)); rintro e w' ⟨rfl, rfl⟩))
    go_ret
    exact ⟨rfl, (by (repeat (first | (with_reducible refine Below.drew ?_) | (with_reducible refine below_drewN ?_ _) | (with_reducible refine Below.alloc ?_ (by first | omega | (simp; done) | (simp; omega) | (simp at *; omega)) _) | (with_reducible refine Below.setCell ?_ (by first | omega | (simp; done) | (simp; omega) | (simp at *; omega)) _) | (with_reducible exact Below.refl _ _) | (with_reducible assumption) | (with_reducible refine Below.trans ?_ (Below.mono (by assumption) (by first | omega | (simp; done) | (simp; omega) | (simp at *; omega)))))))⟩
theorem baseFloor_q (n d q : Int) (w : World) (h0 : 0 ≤ n) (h1 : n ≤ 1000000000000000000) (h2 : 0 < d) (h3 : d ≤ 1000000000000000000) (hq : Hid (n / d = q)) :
    Calls Tryd.prog 29 #[.int .i64 n, .int .i64 d] w fun e w' => e = .returned (.int .i64 q) ∧ w = w' := by
  have := baseFloor_nn n d w h0 h1 h2 h3
  rw [hq.out] at this
  exact this
set_option maxHeartbeats 2000000 in
theorem refNearest_any (P : List Part) (b off cap : Nat) (w : World) (hl : P.length ≤ 12) (hlt : b < w.heap.size) (hP : PartsAt w b off P) (hR : ∀ p ∈ P, p.Right) (hn : noneB P = false) :
    Calls Tryd.prog 16 #[.slice (some ⟨b, off, none⟩) P.length cap] w fun e w' => e = .returned (.agg #[.int .i64 (nearO P), .int .i64 (nearH P)]) ∧ Below w.heap.size w w' := by
  have HP : Hid (PartsAt w b off P) := hP
  clear hP
  have A0 := sumA_pos hR hn
  obtain ⟨_, A1⟩ := sumA_bd hl hR
  obtain ⟨T0, T1⟩ : 0 ≤ sumF pO P ∧ sumF pO P ≤ 12000000000000 := prt_bd hl hR 0
  obtain ⟨U0, U1⟩ : 0 ≤ sumF pH P ∧ sumF pH P ≤ 12000000000000 := prt_bd hl hR 1
  have HR : Hid (∀ p ∈ P, p.Right) := hR
  clear hR hn
  obtain ⟨x, hx⟩ : ∃ x, Hid (rndQ (sumF pO P) (sumF pA P) = x) := ⟨_, rfl⟩
  obtain ⟨y, hy⟩ : ∃ x, Hid (rndQ (sumF pH P) (sumF pA P) = x) := ⟨_, rfl⟩
  have x0 := rndQ_bd T0 T1 A0 A1
  have y0 := rndQ_bd U0 U1 A0 A1
  rw [hx.out] at x0
  rw [hy.out] at y0
  obtain ⟨x0, x1⟩ := x0
  obtain ⟨y0, y1⟩ := y0
  have HO : Hid (nearO P = x) := hx.out
  have HH : Hid (nearH P = if y ≤ 1000 - x then y else 1000 - x) := by show _ = _; unfold nearH nearO; rw [hx.out, hy.out]
  have e1 : IntKind.i64.wrap (1000 - x) = 1000 - x := IntWalk.i64_in _ (by omega)
  obtain ⟨z, hz⟩ : ∃ z, Hid ((if y ≤ 1000 - x then y else 1000 - x) = z) := ⟨_, rfl⟩
  rw [HO.out, HH.out, hz.out]
  clear HO HH
  have hx2 : Hid ((2 * sumF pO P + sumF pA P) / (2 * sumF pA P) = x) := hx
  have hy2 : Hid ((2 * sumF pH P + sumF pA P) / (2 * sumF pA P) = y) := hy
  clear hx hy
  have w1 : IntKind.i64.wrap (2 * sumF pO P) = 2 * sumF pO P := IntWalk.i64_in _ (by omega)
  have w2 : IntKind.i64.wrap (2 * sumF pH P) = 2 * sumF pH P := IntWalk.i64_in _ (by omega)
  have w3 : IntKind.i64.wrap (2 * sumF pA P) = 2 * sumF pA P := IntWalk.i64_in _ (by omega)
  have w4 : IntKind.i64.wrap (2 * sumF pO P + sumF pA P) = 2 * sumF pO P + sumF pA P := IntWalk.i64_in _ (by omega)
  have w5 : IntKind.i64.wrap (2 * sumF pH P + sumF pA P) = 2 * sumF pH P + sumF pA P := IntWalk.i64_in _ (by omega)
  go_enter Tryd.func16, Tryd.ntmps16
  go_wp2_with fail
  refine (refSums_any P b off cap _ hl (by simp; omega) (HP.out.below (by (repeat (first | (with_reducible refine Below.drew ?_) | (with_reducible refine below_drewN ?_ _) | (with_reducible refine Below.alloc ?_ (by first | omega | (simp; done) | (simp; omega) | (simp at *; omega)) _) | (with_reducible refine Below.setCell ?_ (by first | omega | (simp; done) | (simp; omega) | (simp at *; omega)) _) | (with_reducible exact Below.refl _ _) | (with_reducible assumption) | (with_reducible refine Below.trans ?_ (Below.mono (by assumption) (by first | omega | (simp; done) | (simp; omega) | (simp at *; omega))))))) hlt) HR.out).mono ?_
  rintro e v1 ⟨rfl, hbw⟩
  obtain ⟨hbc, hbf⟩ := bcell hbw
  have hbs := hbw.size
  simp at hbs
  have c0 : v1.cell? ⟨w.heap.size, 0, none⟩ = some (.int .i64 0) := by rw [hbc _ _ (by simp)]; simp [go_sem]
  have c1 : v1.cell? ⟨w.heap.size, 1, none⟩ = some (.int .i64 0) := by rw [hbc _ _ (by simp)]; simp [go_sem]
  have f0 : v1.frozen? ⟨w.heap.size, 0, none⟩ = false := by rw [hbf _ _ (by simp)]; simp [go_sem]
  have f1 : v1.frozen? ⟨w.heap.size, 1, none⟩ = false := by rw [hbf _ _ (by simp)]; simp [go_sem]
  have hB1 : Below w.heap.size w v1 := (by (repeat (first | (with_reducible refine Below.drew ?_) | (with_reducible refine below_drewN ?_ _) | (with_reducible refine Below.alloc ?_ (by first | omega | (simp; done) | (simp; omega) | (simp at *; omega)) _) | (with_reducible refine Below.setCell ?_ (by first | omega | (simp; done) | (simp; omega) | (simp at *; omega)) _) | (with_reducible exact Below.refl _ _) | (with_reducible assumption) | (with_reducible refine Below.trans ?_ (Below.mono (by assumption) (by first | omega | (simp; done) | (simp; omega) | (simp at *; omega)))))))
  have lt : w.heap.size < v1.heap.size := by omega
  have ne : v1.heap.size ≠ w.heap.size := by omega
  clear hbc hbf hbw
  by_cases c : y ≤ 1000 - x
  · have hzz : Hid (z = y) := by have := hz.out; rw [if_pos c] at this; exact this.symm
    clear hz
    go_wp2_with (first
      | (go_at_call 29; ((with_reducible refine (baseFloor_q (2 * sumF pO P + sumF pA P) (2 * sumF pA P) x _ (by omega) (by omega) (by omega) (by omega) hx2).mono ?_)); rintro e w' ⟨rfl, rfl⟩)
      | (go_at_call 29; ((with_reducible refine (baseFloor_q (2 * sumF pH P + sumF pA P) (2 * sumF pA P) y _ (by omega) (by omega) (by omega) (by omega) hy2).mono ?_)); rintro e w' ⟨rfl, rfl⟩))
    refine bodyPost_ret (v := .agg #[.int .i64 x, .int .i64 y]) (by simp [results, Tryd.results16, go_sem, *]) rfl ⟨by rw [hzz.out], ?_⟩
    (repeat (first | (with_reducible refine Below.drew ?_) | (with_reducible refine below_drewN ?_ _) | (with_reducible refine Below.alloc ?_ (by first | omega | (simp; done) | (simp; omega) | (simp at *; omega)) _) | (with_reducible refine Below.setCell ?_ (by first | omega | (simp; done) | (simp; omega) | (simp at *; omega)) _) | (with_reducible exact Below.refl _ _) | (with_reducible assumption) | (with_reducible refine Below.trans ?_ (Below.mono (by assumption) (by first | omega | (simp; done) | (simp; omega) | (simp at *; omega))))))
  · have hzz : Hid (z = 1000 - x) := by have := hz.out; rw [if_neg c] at this; exact this.symm
    clear hz
    go_wp2_with (first
      | (go_at_call 29; ((with_reducible refine (baseFloor_q (2 * sumF pO P + sumF pA P) (2 * sumF pA P) x _ (by omega) (by omega) (by omega) (by omega) hx2).mono ?_)); rintro e w' ⟨rfl, rfl⟩)
      | (go_at_call 29; ((with_reducible refine (baseFloor_q (2 * sumF pH P + sumF pA P) (2 * sumF pA P) y _ (by omega) (by omega) (by omega) (by omega) hy2).mono ?_)); rintro e w' ⟨rfl, rfl⟩))
    refine bodyPost_ret (v := .agg #[.int .i64 x, .int .i64 (1000 - x)]) (by simp [results, Tryd.results16, go_sem, *]) rfl ⟨by rw [hzz.out], ?_⟩
    (repeat (first | (with_reducible refine Below.drew ?_) | (with_reducible refine below_drewN ?_ _) | (with_reducible refine Below.alloc ?_ (by first | omega | (simp; done) | (simp; omega) | (simp at *; omega)) _) | (with_reducible refine Below.setCell ?_ (by first | omega | (simp; done) | (simp; omega) | (simp at *; omega)) _) | (with_reducible exact Below.refl _ _) | (with_reducible assumption) | (with_reducible refine Below.trans ?_ (Below.mono (by assumption) (by first | omega | (simp; done) | (simp; omega) | (simp at *; omega))))))
end Go.Proofs.YtlhogcbodgimdaaDoor
