/- Small contracts for TopNearer: enclosed, drawn, apart. -/
import Derived.Test.YtfaodlcfjhnhbaaTLoaded
import Derived.Test.YtfaodlcfjhnhbaaTRestG
import Derived.Test.YtfaodlcfjhnhbaaTMeetL
import Derived.Test.YtfaodlcfjhnhbaaTNear
import Derived.Deep.DrawnRows
import Derived.Outline
namespace Go.Proofs.Ytfaodlcfjhnhbaa
open Go.ChangeShapes Go.WideShapes Go.ChangeAt Go.RowKit
set_option linter.unusedVariables false
set_option linter.unusedSimpArgs false
attribute [local go_sem ↓] Go.wp_at_zero Go.wp_at_succ
theorem nOne_is (w : World) : Calls Try.prog 18 #[] w (Row4 w 600 240 500 1500) := by
  go_enter Try.func18, Try.ntmps18
  go_wp2
  go_ret
  exact ⟨w.heap.size, rfl, Nat.le_refl _, by simp, by simp [go_sem], by simp [go_sem], by simp [go_sem], by simp [go_sem], (Below.refl _ _).alloc (Nat.le_refl _) _⟩
theorem nFresh_is (w : World) : Calls Try.prog 19 #[] w (Row4 w 740230 740230 0 0) := by
  go_enter Try.func19, Try.ntmps19
  go_wp2
  go_ret
  exact ⟨w.heap.size, rfl, Nat.le_refl _, by simp, by simp [go_sem], by simp [go_sem], by simp [go_sem], by simp [go_sem], (Below.refl _ _).alloc (Nat.le_refl _) _⟩
theorem nDown_is (w : World) : Calls Try.prog 20 #[] w fun e w' => e = .returned (.agg #[.int .i64 1000, .int .i64 4000, .int .i64 600, .int .i64 210, .int .i64 0]) ∧ Below w.heap.size w w' := by
  go_enter Try.func20, Try.ntmps20
  go_wp2
  refine bodyPost_ret (v := .agg #[.int .i64 1000, .int .i64 4000, .int .i64 600, .int .i64 210, .int .i64 0]) (by simp [results, Try.results20, go_sem]) rfl ⟨rfl, ?_⟩
  (repeat (first | (with_reducible refine Below.drew ?_) | (with_reducible refine below_drewN ?_ _) | (with_reducible refine Below.alloc ?_ (by first | omega | (simp; done) | (simp; omega) | (simp at *; omega)) _) | (with_reducible refine Below.setCell ?_ (by first | omega | (simp; done) | (simp; omega) | (simp at *; omega)) _) | (with_reducible exact Below.refl _ _) | (with_reducible assumption) | (with_reducible refine Below.trans ?_ (Below.mono (by assumption) (by first | omega | (simp; done) | (simp; omega) | (simp at *; omega))))))
theorem nLift {w w' : World} (h : Below w.heap.size w w') : ∀ {b i : Nat} {v : Value}, b < w.heap.size → w.cell? ⟨b, i, none⟩ = some v → w'.cell? ⟨b, i, none⟩ = some v := fun {b i v} hb e => (h.cell (p := ⟨b, i, none⟩) hb).trans e
set_option maxRecDepth 100000 in
set_option maxHeartbeats 4000000 in
theorem enclosed_any (w : World) :
    Calls Try.prog 5 #[] w fun e w' => e = .returned (.bool true) ∧ Below w.heap.size w w' := by
  go_enter Try.func5, Try.ntmps5
  go_wp2_with fail
  refine (nOne_is _).mono ?_
  rintro e w2 ⟨tb, rfl, lt1, lt2, g0, g1, g2, g3, hb2⟩
  have hX2 : Below w.heap.size w w2 := hb2
  clear lt1 hb2
  go_wp2_with fail
  refine (nFresh_is _).mono ?_
  rintro e w3 ⟨q0, rfl, lq1, lq2, p0, p1, p2, p3, hb3⟩
  replace g0 := nLift hb3 lt2 g0
  replace g1 := nLift hb3 lt2 g1
  replace g2 := nLift hb3 lt2 g2
  replace g3 := nLift hb3 lt2 g3
  have lt3 : tb < w3.heap.size := Nat.lt_of_lt_of_le lt2 hb3.size
  have hX3 : Below w.heap.size w w3 := hX2.trans (hb3.mono hX2.size)
  clear hb3 lt2 hX2 lq1
  go_wp2_with fail
  refine (nDown_is _).mono ?_
  rintro e w4 ⟨rfl, hb4⟩
  replace g0 := nLift hb4 lt3 g0
  replace g1 := nLift hb4 lt3 g1
  replace g2 := nLift hb4 lt3 g2
  replace g3 := nLift hb4 lt3 g3
  replace p0 := nLift hb4 lq2 p0
  replace p1 := nLift hb4 lq2 p1
  replace p2 := nLift hb4 lq2 p2
  replace p3 := nLift hb4 lq2 p3
  have lt4 : tb < w4.heap.size := Nat.lt_of_lt_of_le lt3 hb4.size
  have lq4 : q0 < w4.heap.size := Nat.lt_of_lt_of_le lq2 hb4.size
  have hX4 : Below w.heap.size w w4 := hX3.trans (hb4.mono hX3.size)
  clear hb4 lt3 lq2 hX3
  have HLD := Lib.hid (Loaded_ex tb 0 1 q0 0 1 w4 lt4 lq4 g0 g1 g2 g3 p0 p1 p2 p3)
  clear g0 g1 g2 g3 p0 p1 p2 p3
  go_wp2_with fail
  refine HLD.out.mono ?_
  rintro e w5 ⟨q, rfl, e1, e2, e3, e4, e5, e6, hb5⟩
  have hX5 : Below w.heap.size w w5 := hX4.trans (hb5.mono hX4.size)
  clear hb5 lt4 lq4 hX4 HLD e1
  go_wp2
  go_ret
  exact ⟨by first | rfl | simp, hX5⟩
theorem drawn_is (x y l n : Int) (w : World) (h1 : x ≤ y) (h2 : min l n ≤ x) (h3 : y ≤ max l n) :
    Calls Try.prog 15 #[.agg #[.int .i64 x, .int .i64 y], .int .i64 l, .int .i64 n] w fun e w' => e = .returned (.bool true) ∧ Below w.heap.size w w' := by
  by_cases k : l < n
  · have k1 : l ≤ n := by omega
    have k2 : ¬ n ≤ l := by omega
    have k3 : ¬ n < l := by omega
    have e1 : min l n = l := by omega
    have e2 : max l n = n := by omega
    rw [e1] at h2
    rw [e2] at h3
    go_enter Try.func15, Try.ntmps15
    go_wp2
    all_goals (go_ret; exact ⟨by first | rfl | simp | (simp; omega), (by (repeat (first | (with_reducible refine Below.drew ?_) | (with_reducible refine below_drewN ?_ _) | (with_reducible refine Below.alloc ?_ (by first | omega | (simp; done) | (simp; omega) | (simp at *; omega)) _) | (with_reducible refine Below.setCell ?_ (by first | omega | (simp; done) | (simp; omega) | (simp at *; omega)) _) | (with_reducible exact Below.refl _ _) | (with_reducible assumption) | (with_reducible refine Below.trans ?_ (Below.mono (by assumption) (by first | omega | (simp; done) | (simp; omega) | (simp at *; omega)))))))⟩)
  · have k1 : n ≤ l := by omega
    have e1 : min l n = n := by omega
    have e2 : max l n = l := by omega
    rw [e1] at h2
    rw [e2] at h3
    go_enter Try.func15, Try.ntmps15
    go_wp2
    all_goals (go_ret; exact ⟨by first | rfl | simp | (simp; omega), (by (repeat (first | (with_reducible refine Below.drew ?_) | (with_reducible refine below_drewN ?_ _) | (with_reducible refine Below.alloc ?_ (by first | omega | (simp; done) | (simp; omega) | (simp at *; omega)) _) | (with_reducible refine Below.setCell ?_ (by first | omega | (simp; done) | (simp; omega) | (simp at *; omega)) _) | (with_reducible exact Below.refl _ _) | (with_reducible assumption) | (with_reducible refine Below.trans ?_ (Below.mono (by assumption) (by first | omega | (simp; done) | (simp; omega) | (simp at *; omega)))))))⟩)
set_option maxRecDepth 100000 in
set_option maxHeartbeats 4000000 in
theorem apart_f (P Q : List Ld) (n : Nat) (A B : Option Addr) (cap cap' : Nat) (w : World) (hp : Hid (P.length = n)) (hq : Hid (Q.length = n)) (hl : n ≤ 1000) (hM : Hid (MeetL P Q)) (hP : SlLd w A P) (hR : SlLd w B Q) :
    Calls Try.prog 11 #[.slice A n cap, .slice B n cap'] w fun e w' => e = .returned (.bool false) ∧ Below w.heap.size w w' := by
  have HP := Lib.hid hP
  have HR := Lib.hid hR
  clear hP hR
  go_enter Try.func11, Try.ntmps11
  go_wp2
  go_loopw [5] (fun i wr => ∃ k : Nat, k ≤ n ∧ i = .int .i64 k ∧ Below w.heap.size w wr) (fun i _ => n - (intOf i).toNat)
  case atStart => exact ⟨0, by omega, rfl, (by (repeat (first | (with_reducible refine Below.drew ?_) | (with_reducible refine below_drewN ?_ _) | (with_reducible refine Below.alloc ?_ (by first | omega | (simp; done) | (simp; omega) | (simp at *; omega)) _) | (with_reducible refine Below.setCell ?_ (by first | omega | (simp; done) | (simp; omega) | (simp at *; omega)) _) | (with_reducible exact Below.refl _ _) | (with_reducible assumption) | (with_reducible refine Below.trans ?_ (Below.mono (by assumption) (by first | omega | (simp; done) | (simp; omega) | (simp at *; omega)))))))⟩
  case round =>
    obtain ⟨k, hk, rfl, hB⟩ := hrel
    by_cases hkl : k < n
    · have hkl2 : (k : Int) < n := by omega
      have kp : k < P.length := by rw [hp.out]; exact hkl
      have kq : k < Q.length := by rw [hq.out]; exact hkl
      rcases (HP.out.below hB : SlLd wr A P) with hnil | ⟨pb, po, hAA, plt, PL⟩
      · rw [hnil] at kp; simp at kp
      rcases (HR.out.below hB : SlLd wr B Q) with hnil | ⟨rb, ro, hBB, rlt, RL⟩
      · rw [hnil] at kq; simp at kq
      subst hAA hBB
      obtain ⟨c0, c1, c2, c3⟩ := PL k kp
      obtain ⟨d0, d1, d2, d3⟩ := RL k kq
      obtain ⟨m0, m1, m2, m3⟩ := hM.out k kp kq
      obtain ⟨p0, hp0⟩ : ∃ x, Hid (P[k].a = x) := ⟨P[k].a, Lib.hid rfl⟩
      obtain ⟨p1, hp1⟩ : ∃ x, Hid (P[k].b = x) := ⟨P[k].b, Lib.hid rfl⟩
      obtain ⟨p2, hp2⟩ : ∃ x, Hid (P[k].c = x) := ⟨P[k].c, Lib.hid rfl⟩
      obtain ⟨p3, hp3⟩ : ∃ x, Hid (P[k].d = x) := ⟨P[k].d, Lib.hid rfl⟩
      obtain ⟨r0, hr0⟩ : ∃ x, Hid (Q[k].a = x) := ⟨Q[k].a, Lib.hid rfl⟩
      obtain ⟨r1, hr1⟩ : ∃ x, Hid (Q[k].b = x) := ⟨Q[k].b, Lib.hid rfl⟩
      obtain ⟨r2, hr2⟩ : ∃ x, Hid (Q[k].c = x) := ⟨Q[k].c, Lib.hid rfl⟩
      obtain ⟨r3, hr3⟩ : ∃ x, Hid (Q[k].d = x) := ⟨Q[k].d, Lib.hid rfl⟩
      rw [hp0.out] at c0 m0; rw [hp1.out] at c1 m1; rw [hp2.out] at c2 m2; rw [hp3.out] at c3 m3
      rw [hr0.out] at d0 m1; rw [hr1.out] at d1 m0; rw [hr2.out] at d2 m3; rw [hr3.out] at d3 m2
      have g0 : ¬ r1 < p0 := by omega
      have g1 : ¬ p1 < r0 := by omega
      have g2 : ¬ r3 < p2 := by omega
      have g3 : ¬ p3 < r2 := by omega
      clear PL RL hp0 hp1 hp2 hp3 hr0 hr1 hr2 hr3 m0 m1 m2 m3 kp kq
      go_upto_region 6 with (fail)
      go_region_held3 (fun w' => w'.cell? ⟨pb, po + k * 4, none⟩ = some (.int .i64 p0) ∧ w'.cell? ⟨pb, po + k * 4 + 1, none⟩ = some (.int .i64 p1) ∧ w'.cell? ⟨pb, po + k * 4 + 2, none⟩ = some (.int .i64 p2) ∧ w'.cell? ⟨pb, po + k * 4 + 3, none⟩ = some (.int .i64 p3) ∧ w'.cell? ⟨rb, ro + k * 4, none⟩ = some (.int .i64 r0) ∧ w'.cell? ⟨rb, ro + k * 4 + 1, none⟩ = some (.int .i64 r1) ∧ w'.cell? ⟨rb, ro + k * 4 + 2, none⟩ = some (.int .i64 r2) ∧ w'.cell? ⟨rb, ro + k * 4 + 3, none⟩ = some (.int .i64 r3)) (simp [go_sem, *]) (fail)
      go_wp2
      go_roundw
      case rel => exact ⟨k + 1, by omega, by go_num, (by (repeat (first | (with_reducible refine Below.drew ?_) | (with_reducible refine below_drewN ?_ _) | (with_reducible refine Below.alloc ?_ (by first | omega | (simp; done) | (simp; omega) | (simp at *; omega)) _) | (with_reducible refine Below.setCell ?_ (by first | omega | (simp; done) | (simp; omega) | (simp at *; omega)) _) | (with_reducible exact Below.refl _ _) | (with_reducible assumption) | (with_reducible refine Below.trans ?_ (Below.mono (by assumption) (by first | omega | (simp; done) | (simp; omega) | (simp at *; omega)))))))⟩
      case measure => (simp [intOf]) <;> omega
    · have hkl2 : ¬ (k : Int) < n := by omega
      go_wp2
      go_ret
      exact ⟨rfl, hB⟩
end Go.Proofs.Ytfaodlcfjhnhbaa
