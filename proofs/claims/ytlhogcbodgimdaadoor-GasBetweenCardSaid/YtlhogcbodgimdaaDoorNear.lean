/- What gas.Nearest returns. -/
import Derived.Test.YtlhogcbodgimdaaDoorMixed
import Derived.Outline
namespace Go.Proofs.YtlhogcbodgimdaaDoor
open Go.ChangeShapes Go.WideShapes Go.ChangeAt Go.RowKit
set_option linter.unusedVariables false
set_option linter.unusedSimpArgs false

def rndQ (x a : Int) : Int := (2 * x + a) / (2 * a)
theorem rndQ_bd {x a : Int} (x0 : 0 ≤ x) (x1 : x ≤ 12000000000000) (a0 : 0 < a) (a1 : a ≤ 12000000000) : 0 ≤ rndQ x a ∧ rndQ x a ≤ 100000000000000 := by
  unfold rndQ
  have h1 : 0 ≤ (2 * x + a) / (2 * a) := Int.ediv_nonneg (by omega) (by omega)
  have h2 : (2 * x + a) / (2 * a) ≤ 2 * x + a := Int.ediv_le_self _ (by omega)
  omega
def nearO (P : List Part) : Int := rndQ (sumF pO P) (sumF pA P)
def nearH (P : List Part) : Int := if rndQ (sumF pH P) (sumF pA P) ≤ 1000 - nearO P then rndQ (sumF pH P) (sumF pA P) else 1000 - nearO P
theorem rounded_any (x a q : Int) (b : Nat) (w : World) (hc : w.cell? ⟨b, 3, none⟩ = some (.int .i64 a)) (x0 : 0 ≤ x) (x1 : x ≤ 12000000000000) (a0 : 0 < a) (a1 : a ≤ 12000000000) (hq : Hid (rndQ x a = q)) :
    Calls Tryd.prog 30 #[.int .i64 x, .pointer (some ⟨b, 0, none⟩)] w fun e w' => e = .returned (.int .i64 q) ∧ w = w' := by
  have e1 : IntKind.i64.wrap (2 * x) = 2 * x := IntWalk.i64_in _ (by omega)
  have e2 : IntKind.i64.wrap (2 * x + a) = 2 * x + a := IntWalk.i64_in _ (by omega)
  have e3 : IntKind.i64.wrap (2 * a) = 2 * a := IntWalk.i64_in _ (by omega)
  have e4 : IntKind.i64.wrap ((2 * x + a).tdiv (2 * a)) = q := by rw [← hq.out]; exact quo_in _ _ (by omega) (by omega) (by omega)
  have d0 : ¬ 2 * a = 0 := by omega
  have d1 : 1 ≤ 2 * a := by omega
  have d2 : (2 * x + a) / (2 * a) = q := hq.out
  clear hq
  go_enter Tryd.func30, Tryd.ntmps30
  go_wp2
  go_ret
  exact ⟨rfl, rfl⟩
theorem Nearest_t1 (P : List Part) (b off cap : Nat) (w : World) (hl : P.length ≤ 1000) (hlt : b < w.heap.size) (hP : PartsAt w b off P) (hb : (checkPartsE P != 0) = true) :
    Calls Tryd.prog 17 #[.slice (some ⟨b, off, none⟩) P.length cap] w fun e w' => e = .returned (.tuple #[.agg #[.int .i64 0, .int .i64 0], .int .i64 (checkPartsE P)]) ∧ Below w.heap.size w w' := by
  have HP : Hid (PartsAt w b off P) := hP
  clear hP
  go_enter Tryd.func17, Tryd.ntmps17
  go_wp2_with ((go_at_call 25; ((with_reducible refine (CheckParts_any P b off cap _ hl (by simp; omega) (HP.out.below (by (repeat (first | (with_reducible refine Below.drew ?_) | (with_reducible refine below_drewN ?_ _) | (with_reducible refine Below.alloc ?_ (by first | omega | (simp; done) | (simp; omega) | (simp at *; omega)) _) | (with_reducible refine Below.setCell ?_ (by first | omega | (simp; done) | (simp; omega) | (simp at *; omega)) _) | (with_reducible exact Below.refl _ _) | (with_reducible assumption) | (with_reducible refine Below.trans ?_ (Below.mono (by assumption) (by first | omega | (simp; done) | (simp; omega) | (simp at *; omega))))))) hlt)).mono ?_)); rintro e w1 ⟨rfl, hbw⟩; obtain ⟨hbc, hbf⟩ := bcell hbw; have hbs := hbw.size))
  have c0 : ∀ j, j < 2 → w1.cell? ⟨w.heap.size, j, none⟩ = some (.int .i64 0) := by
    intro j hj
    rw [hbc _ _ (by simp)]
    have hj6 : j = 0 ∨ j = 1 := by omega
    rcases hj6 with rfl | rfl <;> simp [go_sem]
  have q0 := c0 0 (by omega)
  have q1 := c0 1 (by omega)
  clear c0
  refine bodyPost_ret (v := .tuple #[.agg #[.int .i64 0, .int .i64 0], .int .i64 (checkPartsE P)]) (by simp [results, Tryd.results17, go_sem, q0, q1]) rfl ⟨rfl, ?_⟩
  (repeat (first | (with_reducible refine Below.drew ?_) | (with_reducible refine below_drewN ?_ _) | (with_reducible refine Below.alloc ?_ (by first | omega | (simp; done) | (simp; omega) | (simp at *; omega)) _) | (with_reducible refine Below.setCell ?_ (by first | omega | (simp; done) | (simp; omega) | (simp at *; omega)) _) | (with_reducible exact Below.refl _ _) | (with_reducible assumption) | (with_reducible refine Below.trans ?_ (Below.mono (by assumption) (by first | omega | (simp; done) | (simp; omega) | (simp at *; omega))))))
set_option maxHeartbeats 2000000 in
theorem Nearest_t2 (P : List Part) (b off cap : Nat) (w : World) (hl : P.length ≤ 1000) (hlt : b < w.heap.size) (hP : PartsAt w b off P) (hb : (checkPartsE P != 0) = false) :
    Calls Tryd.prog 17 #[.slice (some ⟨b, off, none⟩) P.length cap] w fun e w' => e = .returned (.tuple #[.agg #[.int .i64 (nearO P), .int .i64 (nearH P)], .int .i64 0]) ∧ Below w.heap.size w w' := by
  have HP : Hid (PartsAt w b off P) := hP
  clear hP
  obtain ⟨l12, hR, hn⟩ := checkPartsE_z (show checkPartsE P = 0 by simpa using hb)
  have A0 := sumA_pos hR hn
  obtain ⟨_, A1⟩ := sumA_bd l12 hR
  obtain ⟨T0, T1⟩ : 0 ≤ sumF pO P ∧ sumF pO P ≤ 12000000000000 := prt_bd l12 hR 0
  obtain ⟨U0, U1⟩ : 0 ≤ sumF pH P ∧ sumF pH P ≤ 12000000000000 := prt_bd l12 hR 1
  have HR : Hid (∀ p ∈ P, p.Right) := hR
  clear hR hn
  obtain ⟨x, hx⟩ : ∃ x, Hid (rndQ (sumF pO P) (sumF pA P) = x) := ⟨_, rfl⟩
  obtain ⟨y, hy⟩ : ∃ x, Hid (rndQ (sumF pH P) (sumF pA P) = x) := ⟨_, rfl⟩
  have x0 := rndQ_bd T0 T1 A0 A1
  have y0 := rndQ_bd U0 U1 A0 A1
  rw [hx.out] at x0
  rw [hy.out] at y0
  obtain ⟨x0, x1⟩ := x0
  obtain ⟨y0, y1⟩ := y0
  have HO : Hid (nearO P = x) := hx.out
  have HH : Hid (nearH P = if y ≤ 1000 - x then y else 1000 - x) := by show _ = _; unfold nearH nearO; rw [hx.out, hy.out]
  have e1 : IntKind.i64.wrap (1000 - x) = 1000 - x := IntWalk.i64_in _ (by omega)
  obtain ⟨z, hz⟩ : ∃ z, Hid ((if y ≤ 1000 - x then y else 1000 - x) = z) := ⟨_, rfl⟩
  rw [HO.out, HH.out, hz.out]
  clear HO HH
  go_enter Tryd.func17, Tryd.ntmps17
  go_wp2_with ((go_at_call 25; ((with_reducible refine (CheckParts_any P b off cap _ hl (by simp; omega) (HP.out.below (by (repeat (first | (with_reducible refine Below.drew ?_) | (with_reducible refine below_drewN ?_ _) | (with_reducible refine Below.alloc ?_ (by first | omega | (simp; done) | (simp; omega) | (simp at *; omega)) _) | (with_reducible refine Below.setCell ?_ (by first | omega | (simp; done) | (simp; omega) | (simp at *; omega)) _) | (with_reducible exact Below.refl _ _) | (with_reducible assumption) | (with_reducible refine Below.trans ?_ (Below.mono (by assumption) (by first | omega | (simp; done) | (simp; omega) | (simp at *; omega))))))) hlt)).mono ?_)); rintro e w1 ⟨rfl, hbw⟩; obtain ⟨hbc, hbf⟩ := bcell hbw; have hbs := hbw.size))
  simp at hbs
  have hB1 : Below w.heap.size w w1 := (by (repeat (first | (with_reducible refine Below.drew ?_) | (with_reducible refine below_drewN ?_ _) | (with_reducible refine Below.alloc ?_ (by first | omega | (simp; done) | (simp; omega) | (simp at *; omega)) _) | (with_reducible refine Below.setCell ?_ (by first | omega | (simp; done) | (simp; omega) | (simp at *; omega)) _) | (with_reducible exact Below.refl _ _) | (with_reducible assumption) | (with_reducible refine Below.trans ?_ (Below.mono (by assumption) (by first | omega | (simp; done) | (simp; omega) | (simp at *; omega)))))))
  have z10 : w1.cell? ⟨w.heap.size, 0, none⟩ = some (.int .i64 0) := by rw [hbc _ _ (by simp)]; simp [go_sem]
  have z11 : w1.cell? ⟨w.heap.size, 1, none⟩ = some (.int .i64 0) := by rw [hbc _ _ (by simp)]; simp [go_sem]
  have f10 : w1.frozen? ⟨w.heap.size, 0, none⟩ = false := by rw [hbf _ _ (by simp)]; simp [go_sem]
  have f11 : w1.frozen? ⟨w.heap.size, 1, none⟩ = false := by rw [hbf _ _ (by simp)]; simp [go_sem]
  clear hbc hbf hbw
  go_wp2_with ((go_at_call 26; ((with_reducible refine (sumsOf_any P b off cap _ l12 (by omega) (HP.out.below hB1 hlt) HR.out).mono ?_)); rintro e w2 ⟨rfl, hbw2⟩; obtain ⟨hbc2, hbf2⟩ := bcell hbw2; have hbs2 := hbw2.size))
  have hB2 : Below w.heap.size w w2 := hB1.trans (hbw2.mono (by omega))
  have z20 : w2.cell? ⟨w.heap.size, 0, none⟩ = some (.int .i64 0) := by rw [hbc2 _ _ (by omega)]; exact z10
  have z21 : w2.cell? ⟨w.heap.size, 1, none⟩ = some (.int .i64 0) := by rw [hbc2 _ _ (by omega)]; exact z11
  have f20 : w2.frozen? ⟨w.heap.size, 0, none⟩ = false := by rw [hbf2 _ _ (by omega)]; exact f10
  have f21 : w2.frozen? ⟨w.heap.size, 1, none⟩ = false := by rw [hbf2 _ _ (by omega)]; exact f11
  have hs2 : w.heap.size < w2.heap.size := by omega
  have hs3 : w2.heap.size ≠ w.heap.size := by omega
  clear hbc2 hbf2 hbw2 z10 z11 f10 f11
  have hmf : ∀ (fn : Fn) (first cap : Array Value) (w : World), (Instr.makeFunc fn first cap).run Tryd.prog w = .ok (.func fn first cap) w := fun _ _ _ _ => rfl
  by_cases c : y ≤ 1000 - x
  · have hzz : Hid (z = y) := by have := hz.out; rw [if_pos c] at this; exact this.symm
    clear hz
    go_wp2_with (first
      | (go_at_call 30; ((with_reducible refine (rounded_any (sumF pO P) (sumF pA P) x w2.heap.size _ (by simp [go_sem]) T0 T1 A0 A1 hx).mono ?_)); rintro e w' ⟨rfl, rfl⟩)
      | (go_at_call 30; ((with_reducible refine (rounded_any (sumF pH P) (sumF pA P) y w2.heap.size _ (by simp [go_sem]) U0 U1 A0 A1 hy).mono ?_)); rintro e w' ⟨rfl, rfl⟩))
    refine bodyPost_ret (v := .tuple #[.agg #[.int .i64 x, .int .i64 y], .int .i64 0]) (by simp [results, Tryd.results17, go_sem, *]) rfl ⟨by rw [hzz.out], ?_⟩
    (repeat (first | (with_reducible refine Below.drew ?_) | (with_reducible refine below_drewN ?_ _) | (with_reducible refine Below.alloc ?_ (by first | omega | (simp; done) | (simp; omega) | (simp at *; omega)) _) | (with_reducible refine Below.setCell ?_ (by first | omega | (simp; done) | (simp; omega) | (simp at *; omega)) _) | (with_reducible exact Below.refl _ _) | (with_reducible assumption) | (with_reducible refine Below.trans ?_ (Below.mono (by assumption) (by first | omega | (simp; done) | (simp; omega) | (simp at *; omega))))))
  · have hzz : Hid (z = 1000 - x) := by have := hz.out; rw [if_neg c] at this; exact this.symm
    clear hz
    go_wp2_with (first
      | (go_at_call 30; ((with_reducible refine (rounded_any (sumF pO P) (sumF pA P) x w2.heap.size _ (by simp [go_sem]) T0 T1 A0 A1 hx).mono ?_)); rintro e w' ⟨rfl, rfl⟩)
      | (go_at_call 30; ((with_reducible refine (rounded_any (sumF pH P) (sumF pA P) y w2.heap.size _ (by simp [go_sem]) U0 U1 A0 A1 hy).mono ?_)); rintro e w' ⟨rfl, rfl⟩))
    refine bodyPost_ret (v := .tuple #[.agg #[.int .i64 x, .int .i64 (1000 - x)], .int .i64 0]) (by simp [results, Tryd.results17, go_sem, *]) rfl ⟨by rw [hzz.out], ?_⟩
    (repeat (first | (with_reducible refine Below.drew ?_) | (with_reducible refine below_drewN ?_ _) | (with_reducible refine Below.alloc ?_ (by first | omega | (simp; done) | (simp; omega) | (simp at *; omega)) _) | (with_reducible refine Below.setCell ?_ (by first | omega | (simp; done) | (simp; omega) | (simp at *; omega)) _) | (with_reducible exact Below.refl _ _) | (with_reducible assumption) | (with_reducible refine Below.trans ?_ (Below.mono (by assumption) (by first | omega | (simp; done) | (simp; omega) | (simp at *; omega))))))
def nearR (P : List Part) (j : Nat) : Int := if checkPartsE P = 0 then (if j = 0 then nearO P else nearH P) else 0
theorem Nearest_any (P : List Part) (b off cap : Nat) (w : World) (hl : P.length ≤ 1000) (hlt : b < w.heap.size) (hP : PartsAt w b off P) :
    Calls Tryd.prog 17 #[.slice (some ⟨b, off, none⟩) P.length cap] w fun e w' => e = .returned (.tuple #[.agg #[.int .i64 (nearR P 0), .int .i64 (nearR P 1)], .int .i64 (checkPartsE P)]) ∧ Below w.heap.size w w' := by
  rcases ez (checkPartsE P) with ⟨h, hb⟩ | ⟨h, hb⟩
  · have h0 : checkPartsE P = 0 := by simpa using hb
    have r0 : nearR P 0 = nearO P := by unfold nearR; rw [if_pos h0]; rfl
    have r1 : nearR P 1 = nearH P := by unfold nearR; rw [if_pos h0]; rfl
    rw [r0, r1, h0]
    exact Nearest_t2 P b off cap w hl hlt hP hb
  · have r : ∀ j, nearR P j = 0 := fun j => if_neg h.out
    rw [r, r]
    exact Nearest_t1 P b off cap w hl hlt hP hb
end Go.Proofs.YtlhogcbodgimdaaDoor
