/- What gas.Richest returns. -/
import Derived.Test.YtebieflnlmdllabRich
import Derived.Deep.Cut
import Derived.Outline
namespace Go.Proofs.Ytebieflnlmdllab
open Go.ChangeShapes Go.WideShapes Go.ChangeAt Go.RowKit
set_option linter.unusedVariables false
set_option linter.unusedSimpArgs false
attribute [local go_sem ↓] Go.wp_at_zero Go.wp_at_succ

/-- The richest of the first gases: its number, or -1. -/
def richTo (m : Gs → Bool) (P : List Gs) : Nat → Int
  | 0 => -1
  | k + 1 => if m (P.getD k default) = true ∧ (richTo m P k < 0 ∨ richB (P.getD k default).o (P.getD k default).h (P.getD (richTo m P k).toNat default).o (P.getD (richTo m P k).toNat default).h = true) then (k : Int) else richTo m P k
theorem richTo_bd (m : Gs → Bool) (P : List Gs) (k : Nat) : -1 ≤ richTo m P k ∧ richTo m P k < k := by
  induction k with
  | zero => simp [richTo]
  | succ k ih =>
    unfold richTo
    split <;> omega
theorem getD_at {P : List Gs} {k : Nat} (hk : k < P.length) : P.getD k default = P[k] := by simp [List.getD, hk]
theorem rs_f {m : Gs → Bool} {P : List Gs} {k : Nat} (hk : k < P.length) (h : m P[k] = false) : richTo m P (k + 1) = richTo m P k := by
  rw [richTo, getD_at hk, h]; simp
theorem rs_n {m : Gs → Bool} {P : List Gs} {k : Nat} (hk : k < P.length) (h : m P[k] = true) (hn : richTo m P k < 0) : richTo m P (k + 1) = k := by
  rw [richTo, getD_at hk, if_pos ⟨h, Or.inl hn⟩]
theorem rs_t {m : Gs → Bool} {P : List Gs} {k j : Nat} (hk : k < P.length) (hj : j < P.length) (h : m P[k] = true) (hn : richTo m P k = (j : Int)) (hr : richB P[k].o P[k].h P[j].o P[j].h = true) : richTo m P (k + 1) = k := by
  rw [richTo, getD_at hk, hn, Int.toNat_natCast, getD_at hj, if_pos ⟨h, Or.inr hr⟩]
theorem rs_b {m : Gs → Bool} {P : List Gs} {k j : Nat} (hk : k < P.length) (hj : j < P.length) (h : m P[k] = true) (hn : richTo m P k = (j : Int)) (hr : richB P[k].o P[k].h P[j].o P[j].h = false) : richTo m P (k + 1) = (j : Int) := by
  rw [richTo, getD_at hk, hn, Int.toNat_natCast, getD_at hj, if_neg]
  rintro ⟨_, h2 | h2⟩
  · omega
  · rw [hr] at h2; exact absurd h2 (by decide)
theorem gasesE1_mem {P : List Gs} (h : gasesE1 P = 0) : ∀ k, (hk : k < P.length) → 0 ≤ P[k].o ∧ P[k].o ≤ 1000 ∧ 0 ≤ P[k].h ∧ P[k].h ≤ 1000 ∧ P[k].o + P[k].h ≤ 1000 := by
  induction P with
  | nil => intro k hk; simp at hk
  | cons p r ih =>
    unfold gasesE1 at h
    by_cases hp : gasE p.o p.h = 0
    · rw [if_pos hp] at h
      intro k hk
      cases k with
      | zero => exact gasE_z hp
      | succ k => exact ih h k (by simpa using hk)
    · rw [if_neg hp] at h; exact absurd h hp
theorem gasesE_z {P : List Gs} (h : gasesE P = 0) : P.length ≤ 8 ∧ ∀ k, (hk : k < P.length) → 0 ≤ P[k].o ∧ P[k].o ≤ 1000 ∧ 0 ≤ P[k].h ∧ P[k].h ≤ 1000 ∧ P[k].o + P[k].h ≤ 1000 := by
  unfold gasesE at h
  split at h
  · omega
  · exact ⟨by omega, gasesE1_mem h⟩
def rchE (P : List Gs) (s d a b n : Int) : Int := firE [gasesE P, aimE s d a b n]
def rchM (s d a b n : Int) (g : Gs) : Bool := metB g.o g.h s a b n (s + d)
def rchV (P : List Gs) (s d a b n : Int) : Int := richTo (rchM s d a b n) P P.length
set_option maxHeartbeats 2000000 in
theorem Richest_bad (P : List Gs) (A : Option Addr) (cap : Nat) (s d a b n : Int) (w : World) (hl : P.length ≤ 1000000) (hS : SlAt w A P) (hb : (rchE P s d a b n != 0) = true) :
    Calls Try.prog 12 #[.slice A P.length cap, .agg #[.int .i64 s, .int .i64 d, .int .i64 a, .int .i64 b, .int .i64 n]] w fun e w' => e = .returned (.tuple #[.int .i64 0, .int .i64 (rchE P s d a b n)]) ∧ Below w.heap.size w w' := by
  have HS : Hid (SlAt w A P) := hS
  clear hS
  unfold rchE at hb
  go_enter Try.func12, Try.ntmps12
  go_upto_region 1 with (fail)
  go_cut [6] from 12 (fun s6 wx => s6 = .int .i64 (firE [gasesE P, aimE s d a b n]) ∧ Below w.heap.size w wx ∧ w.heap.size + 2 ≤ wx.heap.size ∧ wx.cell? ⟨w.heap.size, 0, none⟩ = some (.slice A P.length cap) ∧ wx.cell? ⟨w.heap.size + 1, 0, none⟩ = some (.int .i64 s) ∧ wx.cell? ⟨w.heap.size + 1, 1, none⟩ = some (.int .i64 d) ∧ wx.cell? ⟨w.heap.size + 1, 2, none⟩ = some (.int .i64 a) ∧ wx.cell? ⟨w.heap.size + 1, 3, none⟩ = some (.int .i64 b) ∧ wx.cell? ⟨w.heap.size + 1, 4, none⟩ = some (.int .i64 n))
  case first =>
    go_region_held3 (fun w' => w'.cell? ⟨w.heap.size, 0, none⟩ = some (.slice A P.length cap) ∧ w'.cell? ⟨w.heap.size + 1, 0, none⟩ = some (.int .i64 s) ∧ w'.cell? ⟨w.heap.size + 1, 1, none⟩ = some (.int .i64 d) ∧ w'.cell? ⟨w.heap.size + 1, 2, none⟩ = some (.int .i64 a) ∧ w'.cell? ⟨w.heap.size + 1, 3, none⟩ = some (.int .i64 b) ∧ w'.cell? ⟨w.heap.size + 1, 4, none⟩ = some (.int .i64 n)) (simp [go_sem, World.cell?_alloc_past, *])
      (first
        | (go_at_call 28; ((with_reducible refine (checkGases_any P A cap _ hl (by exact HS.out.below (by (repeat (first | (with_reducible refine Below.drew ?_) | (with_reducible refine below_drewN ?_ _) | (with_reducible refine Below.alloc ?_ (by first | omega | (simp; done) | (simp; omega) | (simp at *; omega)) _) | (with_reducible refine Below.setCell ?_ (by first | omega | (simp; done) | (simp; omega) | (simp at *; omega)) _) | (with_reducible exact Below.refl _ _) | (with_reducible assumption) | (with_reducible refine Below.trans ?_ (Below.mono (by assumption) (by first | omega | (simp; done) | (simp; omega) | (simp at *; omega))))))))).mono ?_)); rintro e w1 ⟨rfl, hbw1⟩; obtain ⟨hbc1, hbf1⟩ := bcell hbw1; have hbs1 := hbw1.size; (try simp at hbs1); have qn0 : w1.heap.size ≠ w.heap.size := (by omega); have q0_0 : w.heap.size < w1.heap.size := (by omega); have q0_1 : w.heap.size < w1.heap.size + 1 := (by omega); have q0_2 : w.heap.size < w1.heap.size + 1 + 1 := (by omega); have q0_3 : w.heap.size < w1.heap.size + 1 + 1 + 1 := (by omega); have q0_4 : w.heap.size < w1.heap.size + 1 + 1 + 1 + 1 := (by omega); have q0_5 : w.heap.size < w1.heap.size + 1 + 1 + 1 + 1 + 1 := (by omega); have qn1 : w1.heap.size ≠ w.heap.size + 1 := (by omega); have q1_0 : w.heap.size + 1 < w1.heap.size := (by omega); have q1_1 : w.heap.size + 1 < w1.heap.size + 1 := (by omega); have q1_2 : w.heap.size + 1 < w1.heap.size + 1 + 1 := (by omega); have q1_3 : w.heap.size + 1 < w1.heap.size + 1 + 1 + 1 := (by omega); have q1_4 : w.heap.size + 1 < w1.heap.size + 1 + 1 + 1 + 1 := (by omega); have q1_5 : w.heap.size + 1 < w1.heap.size + 1 + 1 + 1 + 1 + 1 := (by omega))
        | (go_at_call 17; ((with_reducible refine (checkAim_any _ _ _ _ _ _).mono ?_)); rintro e w' ⟨rfl, rfl⟩)
        | (go_at_call 21; ((with_reducible refine (firstOf2c (gasesE P) (aimE s d a b n) _ _ (by simp [go_sem]) (by simp [go_sem])).mono ?_)); rintro e w' ⟨rfl, rfl⟩))
    all_goals
      go_wp2_with fail
      go_meet
      exact ⟨rfl, (by (repeat (first | (with_reducible refine Below.drew ?_) | (with_reducible refine below_drewN ?_ _) | (with_reducible refine Below.alloc ?_ (by first | omega | (simp; done) | (simp; omega) | (simp at *; omega)) _) | (with_reducible refine Below.setCell ?_ (by first | omega | (simp; done) | (simp; omega) | (simp at *; omega)) _) | (with_reducible exact Below.refl _ _) | (with_reducible assumption) | (with_reducible refine Below.trans ?_ (Below.mono (by assumption) (by first | omega | (simp; done) | (simp; omega) | (simp at *; omega))))))), (by first | (simp; done) | (simp at *; omega)), (by simp [go_sem, World.cell?_alloc_past, *]), (by simp [go_sem, World.cell?_alloc_past, *]), (by simp [go_sem, World.cell?_alloc_past, *]), (by simp [go_sem, World.cell?_alloc_past, *]), (by simp [go_sem, World.cell?_alloc_past, *]), (by simp [go_sem, World.cell?_alloc_past, *])⟩
  case rest =>
    obtain ⟨rfl, hB, hz, y0, y1, y2, y3, y4, y5⟩ := hcut
    go_wp2
    go_ret2
    exact ⟨rfl, (by (repeat (first | (with_reducible refine Below.drew ?_) | (with_reducible refine below_drewN ?_ _) | (with_reducible refine Below.alloc ?_ (by first | omega | (simp; done) | (simp; omega) | (simp at *; omega)) _) | (with_reducible refine Below.setCell ?_ (by first | omega | (simp; done) | (simp; omega) | (simp at *; omega)) _) | (with_reducible exact Below.refl _ _) | (with_reducible assumption) | (with_reducible refine Below.trans ?_ (Below.mono (by assumption) (by first | omega | (simp; done) | (simp; omega) | (simp at *; omega)))))))⟩
set_option maxHeartbeats 2000000 in
theorem Richest_ne (P : List Gs) (c off : Nat) (cap : Nat) (s d a b n : Int) (w : World) (hl : P.length ≤ 1000000) (hlt : c < w.heap.size) (hP : GasesAt w c off P) (hb : (rchE P s d a b n != 0) = false) (v : Int) (hv : Hid (rchV P s d a b n = v)) :
    Calls Try.prog 12 #[.slice (some ⟨c, off, none⟩) P.length cap, .agg #[.int .i64 s, .int .i64 d, .int .i64 a, .int .i64 b, .int .i64 n]] w fun e w' => e = .returned (.tuple #[.int .i64 (if v < 0 then 0 else v), .int .i64 (if v < 0 then 12 else 0)]) ∧ Below w.heap.size w w' := by
  have HS : Hid (SlAt w (some ⟨c, off, none⟩) P) := Or.inr ⟨c, off, rfl, hlt, hP⟩
  have HP : Hid (GasesAt w c off P) := hP
  obtain ⟨g1, g2⟩ := firE2_z (show firE [gasesE P, aimE s d a b n] = 0 by simpa [rchE] using hb)
  obtain ⟨⟨k1, k2⟩, ⟨k9, k10⟩, ⟨k5, k6, k7, k8, _⟩, k3, k4⟩ := aimE_z g2
  obtain ⟨l8, hR⟩ := gasesE_z g1
  have HR := Lib.hid hR
  clear g1 g2 hR
  clear hP
  unfold rchE at hb
  go_enter Try.func12, Try.ntmps12
  go_upto_region 1 with (fail)
  go_cut [6] from 12 (fun s6 wx => s6 = .int .i64 (firE [gasesE P, aimE s d a b n]) ∧ Below w.heap.size w wx ∧ w.heap.size + 2 ≤ wx.heap.size ∧ wx.cell? ⟨w.heap.size, 0, none⟩ = some (.slice (some ⟨c, off, none⟩) P.length cap) ∧ wx.cell? ⟨w.heap.size + 1, 0, none⟩ = some (.int .i64 s) ∧ wx.cell? ⟨w.heap.size + 1, 1, none⟩ = some (.int .i64 d) ∧ wx.cell? ⟨w.heap.size + 1, 2, none⟩ = some (.int .i64 a) ∧ wx.cell? ⟨w.heap.size + 1, 3, none⟩ = some (.int .i64 b) ∧ wx.cell? ⟨w.heap.size + 1, 4, none⟩ = some (.int .i64 n))
  case first =>
    go_region_held3 (fun w' => w'.cell? ⟨w.heap.size, 0, none⟩ = some (.slice (some ⟨c, off, none⟩) P.length cap) ∧ w'.cell? ⟨w.heap.size + 1, 0, none⟩ = some (.int .i64 s) ∧ w'.cell? ⟨w.heap.size + 1, 1, none⟩ = some (.int .i64 d) ∧ w'.cell? ⟨w.heap.size + 1, 2, none⟩ = some (.int .i64 a) ∧ w'.cell? ⟨w.heap.size + 1, 3, none⟩ = some (.int .i64 b) ∧ w'.cell? ⟨w.heap.size + 1, 4, none⟩ = some (.int .i64 n)) (simp [go_sem, World.cell?_alloc_past, *])
      (first
        | (go_at_call 28; ((with_reducible refine (checkGases_any P (some ⟨c, off, none⟩) cap _ hl (by exact HS.out.below (by (repeat (first | (with_reducible refine Below.drew ?_) | (with_reducible refine below_drewN ?_ _) | (with_reducible refine Below.alloc ?_ (by first | omega | (simp; done) | (simp; omega) | (simp at *; omega)) _) | (with_reducible refine Below.setCell ?_ (by first | omega | (simp; done) | (simp; omega) | (simp at *; omega)) _) | (with_reducible exact Below.refl _ _) | (with_reducible assumption) | (with_reducible refine Below.trans ?_ (Below.mono (by assumption) (by first | omega | (simp; done) | (simp; omega) | (simp at *; omega))))))))).mono ?_)); rintro e w1 ⟨rfl, hbw1⟩; obtain ⟨hbc1, hbf1⟩ := bcell hbw1; have hbs1 := hbw1.size; (try simp at hbs1); have qn0 : w1.heap.size ≠ w.heap.size := (by omega); have q0_0 : w.heap.size < w1.heap.size := (by omega); have q0_1 : w.heap.size < w1.heap.size + 1 := (by omega); have q0_2 : w.heap.size < w1.heap.size + 1 + 1 := (by omega); have q0_3 : w.heap.size < w1.heap.size + 1 + 1 + 1 := (by omega); have q0_4 : w.heap.size < w1.heap.size + 1 + 1 + 1 + 1 := (by omega); have q0_5 : w.heap.size < w1.heap.size + 1 + 1 + 1 + 1 + 1 := (by omega); have qn1 : w1.heap.size ≠ w.heap.size + 1 := (by omega); have q1_0 : w.heap.size + 1 < w1.heap.size := (by omega); have q1_1 : w.heap.size + 1 < w1.heap.size + 1 := (by omega); have q1_2 : w.heap.size + 1 < w1.heap.size + 1 + 1 := (by omega); have q1_3 : w.heap.size + 1 < w1.heap.size + 1 + 1 + 1 := (by omega); have q1_4 : w.heap.size + 1 < w1.heap.size + 1 + 1 + 1 + 1 := (by omega); have q1_5 : w.heap.size + 1 < w1.heap.size + 1 + 1 + 1 + 1 + 1 := (by omega))
        | (go_at_call 17; ((with_reducible refine (checkAim_any _ _ _ _ _ _).mono ?_)); rintro e w' ⟨rfl, rfl⟩)
        | (go_at_call 21; ((with_reducible refine (firstOf2c (gasesE P) (aimE s d a b n) _ _ (by simp [go_sem]) (by simp [go_sem])).mono ?_)); rintro e w' ⟨rfl, rfl⟩))
    all_goals
      go_wp2_with fail
      go_meet
      exact ⟨rfl, (by (repeat (first | (with_reducible refine Below.drew ?_) | (with_reducible refine below_drewN ?_ _) | (with_reducible refine Below.alloc ?_ (by first | omega | (simp; done) | (simp; omega) | (simp at *; omega)) _) | (with_reducible refine Below.setCell ?_ (by first | omega | (simp; done) | (simp; omega) | (simp at *; omega)) _) | (with_reducible exact Below.refl _ _) | (with_reducible assumption) | (with_reducible refine Below.trans ?_ (Below.mono (by assumption) (by first | omega | (simp; done) | (simp; omega) | (simp at *; omega))))))), (by first | (simp; done) | (simp at *; omega)), (by simp [go_sem, World.cell?_alloc_past, *]), (by simp [go_sem, World.cell?_alloc_past, *]), (by simp [go_sem, World.cell?_alloc_past, *]), (by simp [go_sem, World.cell?_alloc_past, *]), (by simp [go_sem, World.cell?_alloc_past, *]), (by simp [go_sem, World.cell?_alloc_past, *])⟩
  case rest =>
    obtain ⟨rfl, hB, hz, y0, y1, y2, y3, y4, y5⟩ := hcut
    have n0 : wc.heap.size ≠ w.heap.size := by omega
    have n1 : wc.heap.size ≠ w.heap.size + 1 := by omega
    have t0 : w.heap.size < wc.heap.size := by omega
    have t1 : w.heap.size + 1 < wc.heap.size := by omega
    have t2 : w.heap.size < wc.heap.size + 1 := by omega
    have t3 : w.heap.size + 1 < wc.heap.size + 1 := by omega
    have t4 : w.heap.size < wc.heap.size + 1 + 1 := by omega
    have t5 : w.heap.size + 1 < wc.heap.size + 1 + 1 := by omega
    have t6 : w.heap.size < wc.heap.size + 1 + 1 + 1 := by omega
    have t7 : w.heap.size + 1 < wc.heap.size + 1 + 1 + 1 := by omega
    have t8 : w.heap.size < wc.heap.size + 1 + 1 + 1 + 1 := by omega
    have t9 : w.heap.size + 1 < wc.heap.size + 1 + 1 + 1 + 1 := by omega
    go_wp2_with ((go_at_call 18; ((with_reducible refine (withPressure_any _ _ _ _ _ _ k1 k2 k9 k10).mono ?_)); rintro e w' ⟨rfl, rfl⟩))
    go_loopw [26] (fun i wr => ∃ k : Nat, k ≤ P.length ∧ i = .int .i64 k ∧ Below w.heap.size w wr ∧ wc.heap.size + 4 ≤ wr.heap.size ∧ wr.cell? ⟨w.heap.size, 0, none⟩ = some (.slice (some ⟨c, off, none⟩) P.length cap) ∧ wr.cell? ⟨wc.heap.size + 1 + 1, 0, none⟩ = some (.int .i64 s) ∧ wr.cell? ⟨wc.heap.size + 1 + 1, 1, none⟩ = some (.int .i64 d) ∧ wr.cell? ⟨wc.heap.size + 1 + 1, 2, none⟩ = some (.int .i64 a) ∧ wr.cell? ⟨wc.heap.size + 1 + 1, 3, none⟩ = some (.int .i64 b) ∧ wr.cell? ⟨wc.heap.size + 1 + 1, 4, none⟩ = some (.int .i64 n) ∧ wr.cell? ⟨wc.heap.size + 1 + 1, 5, none⟩ = some (.int .i64 (s + d)) ∧ wr.cell? ⟨wc.heap.size + 1 + 1 + 1, 0, none⟩ = some (.int .i64 (richTo (rchM s d a b n) P k)) ∧ (∀ j, wr.frozen? ⟨wc.heap.size + 1 + 1 + 1, j, none⟩ = false)) (fun i _ => P.length - (intOf i).toNat)
    case atStart =>
      refine ⟨0, by omega, rfl, (by (repeat (first | (with_reducible refine Below.drew ?_) | (with_reducible refine below_drewN ?_ _) | (with_reducible refine Below.alloc ?_ (by first | omega | (simp; done) | (simp; omega) | (simp at *; omega)) _) | (with_reducible refine Below.setCell ?_ (by first | omega | (simp; done) | (simp; omega) | (simp at *; omega)) _) | (with_reducible exact Below.refl _ _) | (with_reducible assumption) | (with_reducible refine Below.trans ?_ (Below.mono (by assumption) (by first | omega | (simp; done) | (simp; omega) | (simp at *; omega))))))), by simp, by simp [go_sem, World.cell?_alloc_past, *], by simp [go_sem, World.cell?_alloc_past, *], by simp [go_sem, World.cell?_alloc_past, *], by simp [go_sem, World.cell?_alloc_past, *], by simp [go_sem, World.cell?_alloc_past, *], by simp [go_sem, World.cell?_alloc_past, *], by simp [go_sem, World.cell?_alloc_past, *], by simp [go_sem, richTo], by intro j; simp [go_sem]⟩
    case round =>
      clear y0 y1 y2 y3 y4 y5 hB
      obtain ⟨k, hk, rfl, hB, hsz, l0, x0, x1, x2, x3, x4, x5, bb, hf⟩ := hrel
      by_cases hkl : k < P.length
      · obtain ⟨c0, c1⟩ := HP.out.below hB hlt k hkl
        obtain ⟨r1, r2, r3, r4, r5⟩ := HR.out k hkl
        have Fc := Lib.hid (rs_f (m := (rchM s d a b n)) hkl)
        have Nc := Lib.hid (rs_n (m := (rchM s d a b n)) hkl)
        have Tc := Lib.hid (fun j hj => rs_t (m := (rchM s d a b n)) (j := j) hkl hj)
        have Bc := Lib.hid (fun j hj => rs_b (m := (rchM s d a b n)) (j := j) hkl hj)
        obtain ⟨po, ho⟩ : ∃ x, Hid (P[k].o = x) := ⟨P[k].o, rfl⟩
        obtain ⟨ph, hh⟩ : ∃ x, Hid (P[k].h = x) := ⟨P[k].h, rfl⟩
        rw [ho.out] at c0 r1 r2 r5
        rw [hh.out] at c1 r3 r4 r5
        obtain ⟨mv, hmv⟩ : ∃ x, Hid (metB po ph s a b n (s + d) = x) := ⟨_, rfl⟩
        have hM : Hid ((rchM s d a b n) P[k] = mv) := by unfold rchM Hid; rw [ho.out, hh.out]; exact hmv.out
        obtain ⟨bt1, bt2⟩ := richTo_bd (rchM s d a b n) P k
        obtain ⟨bt, hbt⟩ : ∃ x, Hid (richTo (rchM s d a b n) P k = x) := ⟨_, rfl⟩
        rw [hbt.out] at bb bt1 bt2
        have cn : wr.heap.size ≠ c := by have := hB.size; omega
        have cl : c < wr.heap.size := by have := hB.size; omega
        have po0 : w.heap.size < wr.heap.size := by omega
        have pn0 : wr.heap.size ≠ w.heap.size := by omega
        have po1 : wc.heap.size + 1 + 1 < wr.heap.size := by omega
        have pn1 : wr.heap.size ≠ wc.heap.size + 1 + 1 := by omega
        have po2 : wc.heap.size + 1 + 1 + 1 < wr.heap.size := by omega
        have pn2 : wr.heap.size ≠ wc.heap.size + 1 + 1 + 1 := by omega
        go_wp2_with fail
        refine (metBy_m po ph s d a b n (s + d) _ k1 k2 k3 k4 k5 k6 k7 k8 r1 r2 r3 r4 (by omega) (by omega) mv hmv.out).mono ?_
        rintro e w1 ⟨rfl, hbw1⟩
        have z1 := hbw1.size
        (try simp at z1)
        have el : w1.cell? ⟨w.heap.size, 0, none⟩ = some (.slice (some ⟨c, off, none⟩) P.length cap) := by rw [(bcell hbw1).1 _ _ (by first | (simp; done) | (simp; omega) | omega)]; simp [go_sem, World.cell?_alloc_past, *]
        have ex0 : w1.cell? ⟨wc.heap.size + 1 + 1, 0, none⟩ = some (.int .i64 s) := by rw [(bcell hbw1).1 _ _ (by first | (simp; done) | (simp; omega) | omega)]; simp [go_sem, World.cell?_alloc_past, *]
        have ex1 : w1.cell? ⟨wc.heap.size + 1 + 1, 1, none⟩ = some (.int .i64 d) := by rw [(bcell hbw1).1 _ _ (by first | (simp; done) | (simp; omega) | omega)]; simp [go_sem, World.cell?_alloc_past, *]
        have ex2 : w1.cell? ⟨wc.heap.size + 1 + 1, 2, none⟩ = some (.int .i64 a) := by rw [(bcell hbw1).1 _ _ (by first | (simp; done) | (simp; omega) | omega)]; simp [go_sem, World.cell?_alloc_past, *]
        have ex3 : w1.cell? ⟨wc.heap.size + 1 + 1, 3, none⟩ = some (.int .i64 b) := by rw [(bcell hbw1).1 _ _ (by first | (simp; done) | (simp; omega) | omega)]; simp [go_sem, World.cell?_alloc_past, *]
        have ex4 : w1.cell? ⟨wc.heap.size + 1 + 1, 4, none⟩ = some (.int .i64 n) := by rw [(bcell hbw1).1 _ _ (by first | (simp; done) | (simp; omega) | omega)]; simp [go_sem, World.cell?_alloc_past, *]
        have ex5 : w1.cell? ⟨wc.heap.size + 1 + 1, 5, none⟩ = some (.int .i64 (s + d)) := by rw [(bcell hbw1).1 _ _ (by first | (simp; done) | (simp; omega) | omega)]; simp [go_sem, World.cell?_alloc_past, *]
        have eb : w1.cell? ⟨wc.heap.size + 1 + 1 + 1, 0, none⟩ = some (.int .i64 bt) := by rw [(bcell hbw1).1 _ _ (by first | (simp; done) | (simp; omega) | omega)]; simp [go_sem, World.cell?_alloc_past, *]
        have ef : ∀ j, w1.frozen? ⟨wc.heap.size + 1 + 1 + 1, j, none⟩ = false := by intro j; rw [(bcell hbw1).2 _ _ (by first | (simp; done) | (simp; omega) | omega)]; simp [go_sem, World.cell?_alloc_past, *]
        have eg0 : w1.cell? ⟨wr.heap.size, 0, none⟩ = some (.int .i64 po) := by rw [(bcell hbw1).1 _ _ (by first | (simp; done) | (simp; omega) | omega)]; simp [go_sem, World.cell?_alloc_past, *]
        have eg1 : w1.cell? ⟨wr.heap.size, 1, none⟩ = some (.int .i64 ph) := by rw [(bcell hbw1).1 _ _ (by first | (simp; done) | (simp; omega) | omega)]; simp [go_sem, World.cell?_alloc_past, *]
        have hB1 : Below w.heap.size w w1 := (by (repeat (first | (with_reducible refine Below.drew ?_) | (with_reducible refine below_drewN ?_ _) | (with_reducible refine Below.alloc ?_ (by first | omega | (simp; done) | (simp; omega) | (simp at *; omega)) _) | (with_reducible refine Below.setCell ?_ (by first | omega | (simp; done) | (simp; omega) | (simp at *; omega)) _) | (with_reducible exact Below.refl _ _) | (with_reducible assumption) | (with_reducible refine Below.trans ?_ (Below.mono (by assumption) (by first | omega | (simp; done) | (simp; omega) | (simp at *; omega)))))))
        have qo0 : w.heap.size < w1.heap.size := by omega
        have qn0 : w1.heap.size ≠ w.heap.size := by omega
        have qo1 : wc.heap.size + 1 + 1 < w1.heap.size := by omega
        have qn1 : w1.heap.size ≠ wc.heap.size + 1 + 1 := by omega
        have qo2 : wc.heap.size + 1 + 1 + 1 < w1.heap.size := by omega
        have qn2 : w1.heap.size ≠ wc.heap.size + 1 + 1 + 1 := by omega
        have q1 : wr.heap.size < w1.heap.size := by omega
        have q2 : w1.heap.size ≠ wr.heap.size := by omega
        have q3 : wc.heap.size + 4 ≤ w1.heap.size := by omega
        clear l0 x0 x1 x2 x3 x4 x5 bb hf hbw1 c0 c1 hB
        cases mv
        · have hN : Hid (richTo (rchM s d a b n) P (k + 1) = bt) := by have := Fc.out hM.out; rw [hbt.out] at this; exact this
          go_wp2
          go_roundw
          case rel =>
            have hx := hN.out
            refine ⟨k + 1, by omega, by go_num, (by (repeat (first | (with_reducible refine Below.drew ?_) | (with_reducible refine below_drewN ?_ _) | (with_reducible refine Below.alloc ?_ (by first | omega | (simp; done) | (simp; omega) | (simp at *; omega)) _) | (with_reducible refine Below.setCell ?_ (by first | omega | (simp; done) | (simp; omega) | (simp at *; omega)) _) | (with_reducible exact Below.refl _ _) | (with_reducible assumption) | (with_reducible refine Below.trans ?_ (Below.mono (by assumption) (by first | omega | (simp; done) | (simp; omega) | (simp at *; omega))))))), (by first | (simp; done) | (simp; omega) | omega), ?_, ?_, ?_, ?_, ?_, ?_, ?_, ?_, ?_⟩
            · simp [go_sem, World.cell?_alloc_past, *]
            · simp [go_sem, World.cell?_alloc_past, *]
            · simp [go_sem, World.cell?_alloc_past, *]
            · simp [go_sem, World.cell?_alloc_past, *]
            · simp [go_sem, World.cell?_alloc_past, *]
            · simp [go_sem, World.cell?_alloc_past, *]
            · simp [go_sem, World.cell?_alloc_past, *]
            · rw [hx]; simp [go_sem, World.cell?_alloc_past, *]
            · intro j; simp [go_sem, World.cell?_alloc_past, *]
          case measure => simp [intOf]; omega
        · by_cases hb0 : bt < 0
          · have hN : Hid (richTo (rchM s d a b n) P (k + 1) = k) := Nc.out hM.out (by rw [hbt.out]; exact hb0)
            go_wp2_with fail
            refine (richer_neg po ph bt _ _ _ eb hb0).mono ?_
            rintro e w2 ⟨rfl, hbw2⟩
            have z2 := hbw2.size
            (try simp at z2)
            have fl : w2.cell? ⟨w.heap.size, 0, none⟩ = some (.slice (some ⟨c, off, none⟩) P.length cap) := by rw [(bcell hbw2).1 _ _ (by first | (simp; done) | (simp; omega) | omega)]; simp [go_sem, World.cell?_alloc_past, *]
            have fx0 : w2.cell? ⟨wc.heap.size + 1 + 1, 0, none⟩ = some (.int .i64 s) := by rw [(bcell hbw2).1 _ _ (by first | (simp; done) | (simp; omega) | omega)]; simp [go_sem, World.cell?_alloc_past, *]
            have fx1 : w2.cell? ⟨wc.heap.size + 1 + 1, 1, none⟩ = some (.int .i64 d) := by rw [(bcell hbw2).1 _ _ (by first | (simp; done) | (simp; omega) | omega)]; simp [go_sem, World.cell?_alloc_past, *]
            have fx2 : w2.cell? ⟨wc.heap.size + 1 + 1, 2, none⟩ = some (.int .i64 a) := by rw [(bcell hbw2).1 _ _ (by first | (simp; done) | (simp; omega) | omega)]; simp [go_sem, World.cell?_alloc_past, *]
            have fx3 : w2.cell? ⟨wc.heap.size + 1 + 1, 3, none⟩ = some (.int .i64 b) := by rw [(bcell hbw2).1 _ _ (by first | (simp; done) | (simp; omega) | omega)]; simp [go_sem, World.cell?_alloc_past, *]
            have fx4 : w2.cell? ⟨wc.heap.size + 1 + 1, 4, none⟩ = some (.int .i64 n) := by rw [(bcell hbw2).1 _ _ (by first | (simp; done) | (simp; omega) | omega)]; simp [go_sem, World.cell?_alloc_past, *]
            have fx5 : w2.cell? ⟨wc.heap.size + 1 + 1, 5, none⟩ = some (.int .i64 (s + d)) := by rw [(bcell hbw2).1 _ _ (by first | (simp; done) | (simp; omega) | omega)]; simp [go_sem, World.cell?_alloc_past, *]
            have fb : w2.cell? ⟨wc.heap.size + 1 + 1 + 1, 0, none⟩ = some (.int .i64 bt) := by rw [(bcell hbw2).1 _ _ (by first | (simp; done) | (simp; omega) | omega)]; simp [go_sem, World.cell?_alloc_past, *]
            have ff : ∀ j, w2.frozen? ⟨wc.heap.size + 1 + 1 + 1, j, none⟩ = false := by intro j; rw [(bcell hbw2).2 _ _ (by first | (simp; done) | (simp; omega) | omega)]; simp [go_sem, World.cell?_alloc_past, *]
            have hB2 : Below w.heap.size w w2 := (by (repeat (first | (with_reducible refine Below.drew ?_) | (with_reducible refine below_drewN ?_ _) | (with_reducible refine Below.alloc ?_ (by first | omega | (simp; done) | (simp; omega) | (simp at *; omega)) _) | (with_reducible refine Below.setCell ?_ (by first | omega | (simp; done) | (simp; omega) | (simp at *; omega)) _) | (with_reducible exact Below.refl _ _) | (with_reducible assumption) | (with_reducible refine Below.trans ?_ (Below.mono (by assumption) (by first | omega | (simp; done) | (simp; omega) | (simp at *; omega)))))))
            have uo0 : w.heap.size < w2.heap.size := by omega
            have un0 : w2.heap.size ≠ w.heap.size := by omega
            have uo1 : wc.heap.size + 1 + 1 < w2.heap.size := by omega
            have un1 : w2.heap.size ≠ wc.heap.size + 1 + 1 := by omega
            have uo2 : wc.heap.size + 1 + 1 + 1 < w2.heap.size := by omega
            have un2 : w2.heap.size ≠ wc.heap.size + 1 + 1 + 1 := by omega
            clear el ex0 ex1 ex2 ex3 ex4 ex5 eb ef eg0 eg1 hbw2 hB1
            go_wp2
            go_roundw
            case rel =>
              have hx := hN.out
              refine ⟨k + 1, by omega, by go_num, (by (repeat (first | (with_reducible refine Below.drew ?_) | (with_reducible refine below_drewN ?_ _) | (with_reducible refine Below.alloc ?_ (by first | omega | (simp; done) | (simp; omega) | (simp at *; omega)) _) | (with_reducible refine Below.setCell ?_ (by first | omega | (simp; done) | (simp; omega) | (simp at *; omega)) _) | (with_reducible exact Below.refl _ _) | (with_reducible assumption) | (with_reducible refine Below.trans ?_ (Below.mono (by assumption) (by first | omega | (simp; done) | (simp; omega) | (simp at *; omega))))))), (by first | (simp; done) | (simp; omega) | omega), ?_, ?_, ?_, ?_, ?_, ?_, ?_, ?_, ?_⟩
              · simp [go_sem, World.cell?_alloc_past, *]
              · simp [go_sem, World.cell?_alloc_past, *]
              · simp [go_sem, World.cell?_alloc_past, *]
              · simp [go_sem, World.cell?_alloc_past, *]
              · simp [go_sem, World.cell?_alloc_past, *]
              · simp [go_sem, World.cell?_alloc_past, *]
              · simp [go_sem, World.cell?_alloc_past, *]
              · rw [hx]; simp [go_sem, World.cell?_alloc_past, *]
              · intro j; simp [go_sem, World.cell?_alloc_past, *]
            case measure => simp [intOf]; omega
          · obtain ⟨j, hj⟩ := Int.eq_ofNat_of_zero_le (Int.not_lt.1 hb0)
            subst hj
            have hjl : j < P.length := by omega
            have hjk : (j : Int) < (P.length : Int) := by omega
            obtain ⟨d0, d1⟩ := HP.out.below hB1 hlt j hjl
            obtain ⟨yo, hyo⟩ : ∃ x, Hid (P[j].o = x) := ⟨P[j].o, rfl⟩
            obtain ⟨yh, hyh⟩ : ∃ x, Hid (P[j].h = x) := ⟨P[j].h, rfl⟩
            rw [hyo.out] at d0
            rw [hyh.out] at d1
            obtain ⟨rb, hrb⟩ : ∃ x, Hid (richB po ph yo yh = x) := ⟨_, rfl⟩
            have hRB : Hid (richB P[k].o P[k].h P[j].o P[j].h = rb) := by show _ = _; rw [ho.out, hh.out, hyo.out, hyh.out]; exact hrb.out
            go_wp2_with fail
            refine (richer_pos po ph yo yh j off P.length cap c _ _ _ eb el hjk (by omega) d0 d1).mono ?_
            rw [hrb.out]
            rintro e w2 ⟨rfl, hbw2⟩
            have z2 := hbw2.size
            (try simp at z2)
            have fl : w2.cell? ⟨w.heap.size, 0, none⟩ = some (.slice (some ⟨c, off, none⟩) P.length cap) := by rw [(bcell hbw2).1 _ _ (by first | (simp; done) | (simp; omega) | omega)]; simp [go_sem, World.cell?_alloc_past, *]
            have fx0 : w2.cell? ⟨wc.heap.size + 1 + 1, 0, none⟩ = some (.int .i64 s) := by rw [(bcell hbw2).1 _ _ (by first | (simp; done) | (simp; omega) | omega)]; simp [go_sem, World.cell?_alloc_past, *]
            have fx1 : w2.cell? ⟨wc.heap.size + 1 + 1, 1, none⟩ = some (.int .i64 d) := by rw [(bcell hbw2).1 _ _ (by first | (simp; done) | (simp; omega) | omega)]; simp [go_sem, World.cell?_alloc_past, *]
            have fx2 : w2.cell? ⟨wc.heap.size + 1 + 1, 2, none⟩ = some (.int .i64 a) := by rw [(bcell hbw2).1 _ _ (by first | (simp; done) | (simp; omega) | omega)]; simp [go_sem, World.cell?_alloc_past, *]
            have fx3 : w2.cell? ⟨wc.heap.size + 1 + 1, 3, none⟩ = some (.int .i64 b) := by rw [(bcell hbw2).1 _ _ (by first | (simp; done) | (simp; omega) | omega)]; simp [go_sem, World.cell?_alloc_past, *]
            have fx4 : w2.cell? ⟨wc.heap.size + 1 + 1, 4, none⟩ = some (.int .i64 n) := by rw [(bcell hbw2).1 _ _ (by first | (simp; done) | (simp; omega) | omega)]; simp [go_sem, World.cell?_alloc_past, *]
            have fx5 : w2.cell? ⟨wc.heap.size + 1 + 1, 5, none⟩ = some (.int .i64 (s + d)) := by rw [(bcell hbw2).1 _ _ (by first | (simp; done) | (simp; omega) | omega)]; simp [go_sem, World.cell?_alloc_past, *]
            have fb : w2.cell? ⟨wc.heap.size + 1 + 1 + 1, 0, none⟩ = some (.int .i64 (j : Int)) := by rw [(bcell hbw2).1 _ _ (by first | (simp; done) | (simp; omega) | omega)]; simp [go_sem, World.cell?_alloc_past, *]
            have ff : ∀ j, w2.frozen? ⟨wc.heap.size + 1 + 1 + 1, j, none⟩ = false := by intro j; rw [(bcell hbw2).2 _ _ (by first | (simp; done) | (simp; omega) | omega)]; simp [go_sem, World.cell?_alloc_past, *]
            have hB2 : Below w.heap.size w w2 := (by (repeat (first | (with_reducible refine Below.drew ?_) | (with_reducible refine below_drewN ?_ _) | (with_reducible refine Below.alloc ?_ (by first | omega | (simp; done) | (simp; omega) | (simp at *; omega)) _) | (with_reducible refine Below.setCell ?_ (by first | omega | (simp; done) | (simp; omega) | (simp at *; omega)) _) | (with_reducible exact Below.refl _ _) | (with_reducible assumption) | (with_reducible refine Below.trans ?_ (Below.mono (by assumption) (by first | omega | (simp; done) | (simp; omega) | (simp at *; omega)))))))
            have uo0 : w.heap.size < w2.heap.size := by omega
            have un0 : w2.heap.size ≠ w.heap.size := by omega
            have uo1 : wc.heap.size + 1 + 1 < w2.heap.size := by omega
            have un1 : w2.heap.size ≠ wc.heap.size + 1 + 1 := by omega
            have uo2 : wc.heap.size + 1 + 1 + 1 < w2.heap.size := by omega
            have un2 : w2.heap.size ≠ wc.heap.size + 1 + 1 + 1 := by omega
            clear el ex0 ex1 ex2 ex3 ex4 ex5 eb ef eg0 eg1 hbw2 hB1 d0 d1
            cases rb
            · have hN : Hid (richTo (rchM s d a b n) P (k + 1) = (j : Int)) := Bc.out j hjl hM.out hbt.out hRB.out
              go_wp2
              go_roundw
              case rel =>
                have hx := hN.out
                refine ⟨k + 1, by omega, by go_num, (by (repeat (first | (with_reducible refine Below.drew ?_) | (with_reducible refine below_drewN ?_ _) | (with_reducible refine Below.alloc ?_ (by first | omega | (simp; done) | (simp; omega) | (simp at *; omega)) _) | (with_reducible refine Below.setCell ?_ (by first | omega | (simp; done) | (simp; omega) | (simp at *; omega)) _) | (with_reducible exact Below.refl _ _) | (with_reducible assumption) | (with_reducible refine Below.trans ?_ (Below.mono (by assumption) (by first | omega | (simp; done) | (simp; omega) | (simp at *; omega))))))), (by first | (simp; done) | (simp; omega) | omega), ?_, ?_, ?_, ?_, ?_, ?_, ?_, ?_, ?_⟩
                · simp [go_sem, World.cell?_alloc_past, *]
                · simp [go_sem, World.cell?_alloc_past, *]
                · simp [go_sem, World.cell?_alloc_past, *]
                · simp [go_sem, World.cell?_alloc_past, *]
                · simp [go_sem, World.cell?_alloc_past, *]
                · simp [go_sem, World.cell?_alloc_past, *]
                · simp [go_sem, World.cell?_alloc_past, *]
                · rw [hx]; simp [go_sem, World.cell?_alloc_past, *]
                · intro j; simp [go_sem, World.cell?_alloc_past, *]
              case measure => simp [intOf]; omega
            · have hN : Hid (richTo (rchM s d a b n) P (k + 1) = k) := Tc.out j hjl hM.out hbt.out hRB.out
              go_wp2
              go_roundw
              case rel =>
                have hx := hN.out
                refine ⟨k + 1, by omega, by go_num, (by (repeat (first | (with_reducible refine Below.drew ?_) | (with_reducible refine below_drewN ?_ _) | (with_reducible refine Below.alloc ?_ (by first | omega | (simp; done) | (simp; omega) | (simp at *; omega)) _) | (with_reducible refine Below.setCell ?_ (by first | omega | (simp; done) | (simp; omega) | (simp at *; omega)) _) | (with_reducible exact Below.refl _ _) | (with_reducible assumption) | (with_reducible refine Below.trans ?_ (Below.mono (by assumption) (by first | omega | (simp; done) | (simp; omega) | (simp at *; omega))))))), (by first | (simp; done) | (simp; omega) | omega), ?_, ?_, ?_, ?_, ?_, ?_, ?_, ?_, ?_⟩
                · simp [go_sem, World.cell?_alloc_past, *]
                · simp [go_sem, World.cell?_alloc_past, *]
                · simp [go_sem, World.cell?_alloc_past, *]
                · simp [go_sem, World.cell?_alloc_past, *]
                · simp [go_sem, World.cell?_alloc_past, *]
                · simp [go_sem, World.cell?_alloc_past, *]
                · simp [go_sem, World.cell?_alloc_past, *]
                · rw [hx]; simp [go_sem, World.cell?_alloc_past, *]
                · intro j; simp [go_sem, World.cell?_alloc_past, *]
              case measure => simp [intOf]; omega
      · have hkk : k = P.length := by omega
        have hbv : richTo (rchM s d a b n) P k = v := by rw [hkk]; exact hv.out
        rw [hbv] at bb
        clear hkk hbv
        by_cases hv0 : v < 0
        · go_wp2
          go_ret2
          exact ⟨by first | rfl | simp [hv0], (by (repeat (first | (with_reducible refine Below.drew ?_) | (with_reducible refine below_drewN ?_ _) | (with_reducible refine Below.alloc ?_ (by first | omega | (simp; done) | (simp; omega) | (simp at *; omega)) _) | (with_reducible refine Below.setCell ?_ (by first | omega | (simp; done) | (simp; omega) | (simp at *; omega)) _) | (with_reducible exact Below.refl _ _) | (with_reducible assumption) | (with_reducible refine Below.trans ?_ (Below.mono (by assumption) (by first | omega | (simp; done) | (simp; omega) | (simp at *; omega)))))))⟩
        · go_wp2
          go_ret2
          exact ⟨by first | rfl | simp [hv0], (by (repeat (first | (with_reducible refine Below.drew ?_) | (with_reducible refine below_drewN ?_ _) | (with_reducible refine Below.alloc ?_ (by first | omega | (simp; done) | (simp; omega) | (simp at *; omega)) _) | (with_reducible refine Below.setCell ?_ (by first | omega | (simp; done) | (simp; omega) | (simp at *; omega)) _) | (with_reducible exact Below.refl _ _) | (with_reducible assumption) | (with_reducible refine Below.trans ?_ (Below.mono (by assumption) (by first | omega | (simp; done) | (simp; omega) | (simp at *; omega)))))))⟩
theorem checkGases_nil (A : Option Addr) (cap : Nat) (w : World) :
    Calls Try.prog 28 #[.slice A 0 cap] w fun e w' => e = .returned (.int .i64 (gasesE [])) ∧ Below w.heap.size w w' := checkGases_any [] A cap w (by simp) (Or.inl rfl)
set_option maxHeartbeats 2000000 in
theorem Richest_nil (A : Option Addr) (cap : Nat) (s d a b n : Int) (w : World) (hb : (rchE [] s d a b n != 0) = false) :
    Calls Try.prog 12 #[.slice A 0 cap, .agg #[.int .i64 s, .int .i64 d, .int .i64 a, .int .i64 b, .int .i64 n]] w fun e w' => e = .returned (.tuple #[.int .i64 0, .int .i64 12]) ∧ Below w.heap.size w w' := by
  have HS : Hid (SlAt w A []) := Or.inl rfl
  obtain ⟨g1, g2⟩ := firE2_z (show firE [gasesE [], aimE s d a b n] = 0 by simpa [rchE] using hb)
  obtain ⟨⟨k1, k2⟩, ⟨k9, k10⟩, ⟨k5, k6, k7, k8, _⟩, k3, k4⟩ := aimE_z g2
  clear g1 g2
  unfold rchE at hb
  go_enter Try.func12, Try.ntmps12
  go_upto_region 1 with (fail)
  go_cut [6] from 12 (fun s6 wx => s6 = .int .i64 (firE [gasesE [], aimE s d a b n]) ∧ Below w.heap.size w wx ∧ w.heap.size + 2 ≤ wx.heap.size ∧ wx.cell? ⟨w.heap.size, 0, none⟩ = some (.slice A 0 cap) ∧ wx.cell? ⟨w.heap.size + 1, 0, none⟩ = some (.int .i64 s) ∧ wx.cell? ⟨w.heap.size + 1, 1, none⟩ = some (.int .i64 d) ∧ wx.cell? ⟨w.heap.size + 1, 2, none⟩ = some (.int .i64 a) ∧ wx.cell? ⟨w.heap.size + 1, 3, none⟩ = some (.int .i64 b) ∧ wx.cell? ⟨w.heap.size + 1, 4, none⟩ = some (.int .i64 n))
  case first =>
    go_region_held3 (fun w' => w'.cell? ⟨w.heap.size, 0, none⟩ = some (.slice A 0 cap) ∧ w'.cell? ⟨w.heap.size + 1, 0, none⟩ = some (.int .i64 s) ∧ w'.cell? ⟨w.heap.size + 1, 1, none⟩ = some (.int .i64 d) ∧ w'.cell? ⟨w.heap.size + 1, 2, none⟩ = some (.int .i64 a) ∧ w'.cell? ⟨w.heap.size + 1, 3, none⟩ = some (.int .i64 b) ∧ w'.cell? ⟨w.heap.size + 1, 4, none⟩ = some (.int .i64 n)) (simp [go_sem, World.cell?_alloc_past, *])
      (first
        | (go_at_call 28; ((with_reducible refine (checkGases_nil A cap _).mono ?_)); rintro e w1 ⟨rfl, hbw1⟩; obtain ⟨hbc1, hbf1⟩ := bcell hbw1; have hbs1 := hbw1.size; (try simp at hbs1); have qn0 : w1.heap.size ≠ w.heap.size := (by omega); have q0_0 : w.heap.size < w1.heap.size := (by omega); have q0_1 : w.heap.size < w1.heap.size + 1 := (by omega); have q0_2 : w.heap.size < w1.heap.size + 1 + 1 := (by omega); have q0_3 : w.heap.size < w1.heap.size + 1 + 1 + 1 := (by omega); have q0_4 : w.heap.size < w1.heap.size + 1 + 1 + 1 + 1 := (by omega); have q0_5 : w.heap.size < w1.heap.size + 1 + 1 + 1 + 1 + 1 := (by omega); have qn1 : w1.heap.size ≠ w.heap.size + 1 := (by omega); have q1_0 : w.heap.size + 1 < w1.heap.size := (by omega); have q1_1 : w.heap.size + 1 < w1.heap.size + 1 := (by omega); have q1_2 : w.heap.size + 1 < w1.heap.size + 1 + 1 := (by omega); have q1_3 : w.heap.size + 1 < w1.heap.size + 1 + 1 + 1 := (by omega); have q1_4 : w.heap.size + 1 < w1.heap.size + 1 + 1 + 1 + 1 := (by omega); have q1_5 : w.heap.size + 1 < w1.heap.size + 1 + 1 + 1 + 1 + 1 := (by omega))
        | (go_at_call 17; ((with_reducible refine (checkAim_any _ _ _ _ _ _).mono ?_)); rintro e w' ⟨rfl, rfl⟩)
        | (go_at_call 21; ((with_reducible refine (firstOf2c (gasesE []) (aimE s d a b n) _ _ (by simp [go_sem]) (by simp [go_sem])).mono ?_)); rintro e w' ⟨rfl, rfl⟩))
    all_goals
      go_wp2_with fail
      go_meet
      exact ⟨rfl, (by (repeat (first | (with_reducible refine Below.drew ?_) | (with_reducible refine below_drewN ?_ _) | (with_reducible refine Below.alloc ?_ (by first | omega | (simp; done) | (simp; omega) | (simp at *; omega)) _) | (with_reducible refine Below.setCell ?_ (by first | omega | (simp; done) | (simp; omega) | (simp at *; omega)) _) | (with_reducible exact Below.refl _ _) | (with_reducible assumption) | (with_reducible refine Below.trans ?_ (Below.mono (by assumption) (by first | omega | (simp; done) | (simp; omega) | (simp at *; omega))))))), (by first | (simp; done) | (simp at *; omega)), (by simp [go_sem, World.cell?_alloc_past, *]), (by simp [go_sem, World.cell?_alloc_past, *]), (by simp [go_sem, World.cell?_alloc_past, *]), (by simp [go_sem, World.cell?_alloc_past, *]), (by simp [go_sem, World.cell?_alloc_past, *]), (by simp [go_sem, World.cell?_alloc_past, *])⟩
  case rest =>
    obtain ⟨rfl, hB, hz, y0, y1, y2, y3, y4, y5⟩ := hcut
    have n0 : wc.heap.size ≠ w.heap.size := by omega
    have n1 : wc.heap.size ≠ w.heap.size + 1 := by omega
    have t0 : w.heap.size < wc.heap.size := by omega
    have t1 : w.heap.size + 1 < wc.heap.size := by omega
    have t2 : w.heap.size < wc.heap.size + 1 := by omega
    have t3 : w.heap.size + 1 < wc.heap.size + 1 := by omega
    have t4 : w.heap.size < wc.heap.size + 1 + 1 := by omega
    have t5 : w.heap.size + 1 < wc.heap.size + 1 + 1 := by omega
    have t6 : w.heap.size < wc.heap.size + 1 + 1 + 1 := by omega
    have t7 : w.heap.size + 1 < wc.heap.size + 1 + 1 + 1 := by omega
    have t8 : w.heap.size < wc.heap.size + 1 + 1 + 1 + 1 := by omega
    have t9 : w.heap.size + 1 < wc.heap.size + 1 + 1 + 1 + 1 := by omega
    go_wp2_with ((go_at_call 18; ((with_reducible refine (withPressure_any _ _ _ _ _ _ k1 k2 k9 k10).mono ?_)); rintro e w' ⟨rfl, rfl⟩))
    go_loopw [26] (fun i wr => i = .int .i64 0 ∧ Below w.heap.size w wr ∧ wr.cell? ⟨wc.heap.size + 1 + 1 + 1, 0, none⟩ = some (.int .i64 (-1))) (fun i _ => (1 - intOf i).toNat)
    case atStart => exact ⟨rfl, (by (repeat (first | (with_reducible refine Below.drew ?_) | (with_reducible refine below_drewN ?_ _) | (with_reducible refine Below.alloc ?_ (by first | omega | (simp; done) | (simp; omega) | (simp at *; omega)) _) | (with_reducible refine Below.setCell ?_ (by first | omega | (simp; done) | (simp; omega) | (simp at *; omega)) _) | (with_reducible exact Below.refl _ _) | (with_reducible assumption) | (with_reducible refine Below.trans ?_ (Below.mono (by assumption) (by first | omega | (simp; done) | (simp; omega) | (simp at *; omega))))))), by simp [go_sem]⟩
    case round =>
      clear y0 y1 y2 y3 y4 y5 hB
      obtain ⟨rfl, hB, bb⟩ := hrel
      go_wp2
      go_ret2
      exact ⟨rfl, (by (repeat (first | (with_reducible refine Below.drew ?_) | (with_reducible refine below_drewN ?_ _) | (with_reducible refine Below.alloc ?_ (by first | omega | (simp; done) | (simp; omega) | (simp at *; omega)) _) | (with_reducible refine Below.setCell ?_ (by first | omega | (simp; done) | (simp; omega) | (simp at *; omega)) _) | (with_reducible exact Below.refl _ _) | (with_reducible assumption) | (with_reducible refine Below.trans ?_ (Below.mono (by assumption) (by first | omega | (simp; done) | (simp; omega) | (simp at *; omega)))))))⟩
def rchOut (P : List Gs) (s d a b n : Int) : Int := if rchE P s d a b n = 0 then (if rchV P s d a b n < 0 then 0 else rchV P s d a b n) else 0
def rchErr (P : List Gs) (s d a b n : Int) : Int := if rchE P s d a b n = 0 then (if rchV P s d a b n < 0 then 12 else 0) else rchE P s d a b n
theorem Richest_any (P : List Gs) (A : Option Addr) (cap : Nat) (s d a b n : Int) (w : World) (hl : P.length ≤ 1000000) (hS : SlAt w A P) :
    Calls Try.prog 12 #[.slice A P.length cap, .agg #[.int .i64 s, .int .i64 d, .int .i64 a, .int .i64 b, .int .i64 n]] w fun e w' => e = .returned (.tuple #[.int .i64 (rchOut P s d a b n), .int .i64 (rchErr P s d a b n)]) ∧ Below w.heap.size w w' := by
  unfold rchOut rchErr
  rcases ez (rchE P s d a b n) with ⟨hz, hb⟩ | ⟨hz, hb⟩
  · rw [if_pos hz.out, if_pos hz.out]
    rcases hS with rfl | ⟨c, off, rfl, hlt, hP⟩
    · have := Richest_nil A cap s d a b n w hb
      rw [if_pos (show rchV [] s d a b n < 0 by unfold rchV; simp [richTo]), if_pos (show rchV [] s d a b n < 0 by unfold rchV; simp [richTo])]
      exact this
    · exact Richest_ne P c off cap s d a b n w hl hlt hP hb _ rfl
  · rw [if_neg hz.out, if_neg hz.out]
    exact Richest_bad P A cap s d a b n w hl hS hb
end Go.Proofs.Ytebieflnlmdllab
