import Derived.Test.YtchfhhmmjioajaaZRTLoadN
import Derived.Deep.DrawnRows
import Derived.Outline
namespace Go.Proofs.Ytchfhhmmjioajaa
open Go.ChangeShapes Go.WideShapes Go.ChangeAt Go.RowKit
set_option linter.unusedVariables false
set_option linter.unusedSimpArgs false
attribute [local go_sem ↓] Go.wp_at_zero Go.wp_at_succ
/-- Loads that meet. -/
def MeetL (P Q : List Ld) : Prop := ∀ k, (h1 : k < P.length) → (h2 : k < Q.length) → P[k].a ≤ Q[k].b ∧ Q[k].a ≤ P[k].b ∧ P[k].c ≤ Q[k].d ∧ Q[k].c ≤ P[k].d
set_option maxRecDepth 100000 in
set_option maxHeartbeats 4000000 in
theorem meet_t (P Q : List Ld) (n : Nat) (A B : Option Addr) (cap cap' : Nat) (w : World) (hp : Hid (P.length = n)) (hq : Hid (Q.length = n)) (hl : n ≤ 1000) (hM : Hid (MeetL P Q)) (hP : SlLd w A P) (hR : SlLd w B Q) :
    Calls Try.prog 39 #[.slice A n cap, .slice B n cap'] w fun e w' => e = .returned (.bool true) ∧ Below w.heap.size w w' := by
  have HP := Lib.hid hP
  have HR := Lib.hid hR
  clear hP hR
  go_enter Try.func39, Try.ntmps39
  go_wp2
  go_loopw [5] (fun i wr => ∃ k : Nat, k ≤ n ∧ i = .int .i64 k ∧ Below w.heap.size w wr) (fun i _ => n - (intOf i).toNat)
  case atStart => exact ⟨0, by omega, rfl, (by (repeat (first | (with_reducible refine Below.drew ?_) | (with_reducible refine below_drewN ?_ _) | (with_reducible refine Below.alloc ?_ (by first | omega | (simp; done) | (simp; omega) | (simp at *; omega)) _) | (with_reducible refine Below.setCell ?_ (by first | omega | (simp; done) | (simp; omega) | (simp at *; omega)) _) | (with_reducible exact Below.refl _ _) | (with_reducible assumption) | (with_reducible refine Below.trans ?_ (Below.mono (by assumption) (by first | omega | (simp; done) | (simp; omega) | (simp at *; omega)))))))⟩
  case round =>
    obtain ⟨k, hk, rfl, hB⟩ := hrel
    by_cases hkl : k < n
    · have hkl2 : (k : Int) < n := by omega
      have kp : k < P.length := by rw [hp.out]; exact hkl
      have kq : k < Q.length := by rw [hq.out]; exact hkl
      rcases (HP.out.below hB : SlLd wr A P) with hnil | ⟨pb, po, hAA, plt, PL⟩
      · rw [hnil] at kp; simp at kp
      rcases (HR.out.below hB : SlLd wr B Q) with hnil | ⟨rb, ro, hBB, rlt, RL⟩
      · rw [hnil] at kq; simp at kq
      subst hAA hBB
      obtain ⟨c0, c1, c2, c3⟩ := PL k kp
      obtain ⟨d0, d1, d2, d3⟩ := RL k kq
      obtain ⟨m0, m1, m2, m3⟩ := hM.out k kp kq
      obtain ⟨p0, hp0⟩ : ∃ x, Hid (P[k].a = x) := ⟨P[k].a, Lib.hid rfl⟩
      obtain ⟨p1, hp1⟩ : ∃ x, Hid (P[k].b = x) := ⟨P[k].b, Lib.hid rfl⟩
      obtain ⟨p2, hp2⟩ : ∃ x, Hid (P[k].c = x) := ⟨P[k].c, Lib.hid rfl⟩
      obtain ⟨p3, hp3⟩ : ∃ x, Hid (P[k].d = x) := ⟨P[k].d, Lib.hid rfl⟩
      obtain ⟨r0, hr0⟩ : ∃ x, Hid (Q[k].a = x) := ⟨Q[k].a, Lib.hid rfl⟩
      obtain ⟨r1, hr1⟩ : ∃ x, Hid (Q[k].b = x) := ⟨Q[k].b, Lib.hid rfl⟩
      obtain ⟨r2, hr2⟩ : ∃ x, Hid (Q[k].c = x) := ⟨Q[k].c, Lib.hid rfl⟩
      obtain ⟨r3, hr3⟩ : ∃ x, Hid (Q[k].d = x) := ⟨Q[k].d, Lib.hid rfl⟩
      rw [hp0.out] at c0 m0; rw [hp1.out] at c1 m1; rw [hp2.out] at c2 m2; rw [hp3.out] at c3 m3
      rw [hr0.out] at d0 m1; rw [hr1.out] at d1 m0; rw [hr2.out] at d2 m3; rw [hr3.out] at d3 m2
      have g0 : ¬ r1 < p0 := by omega
      have g1 : ¬ p1 < r0 := by omega
      have g2 : ¬ r3 < p2 := by omega
      have g3 : ¬ p3 < r2 := by omega
      clear PL RL hp0 hp1 hp2 hp3 hr0 hr1 hr2 hr3 m0 m1 m2 m3 kp kq
      go_upto_region 6 with (fail)
      go_region_held3 (fun w' => w'.cell? ⟨pb, po + k * 4, none⟩ = some (.int .i64 p0) ∧ w'.cell? ⟨pb, po + k * 4 + 1, none⟩ = some (.int .i64 p1) ∧ w'.cell? ⟨pb, po + k * 4 + 2, none⟩ = some (.int .i64 p2) ∧ w'.cell? ⟨pb, po + k * 4 + 3, none⟩ = some (.int .i64 p3) ∧ w'.cell? ⟨rb, ro + k * 4, none⟩ = some (.int .i64 r0) ∧ w'.cell? ⟨rb, ro + k * 4 + 1, none⟩ = some (.int .i64 r1) ∧ w'.cell? ⟨rb, ro + k * 4 + 2, none⟩ = some (.int .i64 r2) ∧ w'.cell? ⟨rb, ro + k * 4 + 3, none⟩ = some (.int .i64 r3)) (simp [go_sem, *]) (fail)
      go_wp2
      go_roundw
      case rel => exact ⟨k + 1, by omega, by go_num, (by (repeat (first | (with_reducible refine Below.drew ?_) | (with_reducible refine below_drewN ?_ _) | (with_reducible refine Below.alloc ?_ (by first | omega | (simp; done) | (simp; omega) | (simp at *; omega)) _) | (with_reducible refine Below.setCell ?_ (by first | omega | (simp; done) | (simp; omega) | (simp at *; omega)) _) | (with_reducible exact Below.refl _ _) | (with_reducible assumption) | (with_reducible refine Below.trans ?_ (Below.mono (by assumption) (by first | omega | (simp; done) | (simp; omega) | (simp at *; omega)))))))⟩
      case measure => (simp [intOf]) <;> omega
    · have hkl2 : ¬ (k : Int) < n := by omega
      go_wp2
      go_ret
      exact ⟨rfl, hB⟩
end Go.Proofs.Ytchfhhmmjioajaa
