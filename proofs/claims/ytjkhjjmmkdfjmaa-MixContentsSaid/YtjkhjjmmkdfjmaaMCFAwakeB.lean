import Derived.Test.YtjkhjjmmkdfjmaaMCBeh2
import Derived.Test.YtjkhjjmmkdfjmaaMCFPlan
import Derived.Outline
namespace Go.Proofs.Ytjkhjjmmkdfjmaa
open Go.ChangeShapes Go.WideShapes Go.ChangeAt Go.RowKit
set_option linter.unusedVariables false
set_option linter.unusedSimpArgs false
attribute [local go_sem ↓] Go.wp_at_zero Go.wp_at_succ
def aL : List Ve := [⟨⟨#[98, 97, 110, 107]⟩, 50000, 300000⟩, ⟨⟨#[115, 49, 50]⟩, 12000, 232000⟩]
def aX : List Fl := [⟨0, 1, ⟨#[]⟩, ⟨#[98, 97, 110, 107]⟩, 210, 0, 10000000, false⟩, ⟨1, 1, ⟨#[98, 97, 110, 107]⟩, ⟨#[115, 49, 50]⟩, 0, 0, 1900000, false⟩]
def aR : Rm := ⟨[⟨⟨#[98, 97, 110, 107]⟩, 50000, 300000, 1701000, 0, 6399000⟩, ⟨⟨#[115, 49, 50]⟩, 12000, 232000, 399000, 0, 1501000⟩], 2100000, 0, 7900000, 0, 0, 0, 1⟩
theorem aD : behP aL aX = (0, 0) := by kernel_rfl
theorem aRun : runR (rm0 aL) aX = aR := by kernel_rfl
theorem behind_e2 (v cap f fcap : Nat) (w : World) (a0 : w.cell? ⟨v, 0, none⟩ = some (.string ⟨#[98, 97, 110, 107]⟩)) (a1 : w.cell? ⟨v, 1, none⟩ = some (.int .i64 50000)) (a2 : w.cell? ⟨v, 2, none⟩ = some (.int .i64 300000)) (a3 : w.cell? ⟨v, 3, none⟩ = some (.string ⟨#[115, 49, 50]⟩)) (a4 : w.cell? ⟨v, 4, none⟩ = some (.int .i64 12000)) (a5 : w.cell? ⟨v, 5, none⟩ = some (.int .i64 232000)) (b0 : w.cell? ⟨f, 0, none⟩ = some (.int .i64 0)) (b1 : w.cell? ⟨f, 1, none⟩ = some (.int .i64 1)) (b2 : w.cell? ⟨f, 2, none⟩ = some (.string ⟨#[]⟩)) (b3 : w.cell? ⟨f, 3, none⟩ = some (.string ⟨#[98, 97, 110, 107]⟩)) (b4 : w.cell? ⟨f, 4, none⟩ = some (.int .i64 210)) (b5 : w.cell? ⟨f, 5, none⟩ = some (.int .i64 0)) (b6 : w.cell? ⟨f, 6, none⟩ = some (.int .i64 10000000)) (b7 : w.cell? ⟨f, 7, none⟩ = some (.bool false)) (b8 : w.cell? ⟨f, 8, none⟩ = some (.int .i64 1)) (b9 : w.cell? ⟨f, 9, none⟩ = some (.int .i64 1)) (b10 : w.cell? ⟨f, 10, none⟩ = some (.string ⟨#[98, 97, 110, 107]⟩)) (b11 : w.cell? ⟨f, 11, none⟩ = some (.string ⟨#[115, 49, 50]⟩)) (b12 : w.cell? ⟨f, 12, none⟩ = some (.int .i64 0)) (b13 : w.cell? ⟨f, 13, none⟩ = some (.int .i64 0)) (b14 : w.cell? ⟨f, 14, none⟩ = some (.int .i64 1900000)) (b15 : w.cell? ⟨f, 15, none⟩ = some (.bool false)) (lv : v < w.heap.size) (lf : f < w.heap.size) : Calls Try.prog 58 #[.slice (some ⟨v, 0, none⟩) 2 cap, .slice (some ⟨f, 0, none⟩) 2 fcap] w (BehindEx w) := by
  have hL : SlRows veV 3 w (some ⟨v, 0, none⟩) aL := Or.inr ⟨v, 0, rfl, lv, by
    intro k hk i hi
    have h1 : k = 0 ∨ k = 1 := by simp [aL] at hk; omega
    have h2 : i = 0 ∨ i = 1 ∨ i = 2 := by omega
    rcases h1 with rfl | rfl <;> rcases h2 with rfl | rfl | rfl <;> first | exact a0 | exact a1 | exact a2 | exact a3 | exact a4 | exact a5⟩
  have hX : SlRows flV 8 w (some ⟨f, 0, none⟩) aX := Or.inr ⟨f, 0, rfl, lf, by
    intro k hk i hi
    have h1 : k = 0 ∨ k = 1 := by simp [aX] at hk; omega
    have h2 : i = 0 ∨ i = 1 ∨ i = 2 ∨ i = 3 ∨ i = 4 ∨ i = 5 ∨ i = 6 ∨ i = 7 := by omega
    rcases h1 with rfl | rfl <;> rcases h2 with rfl | rfl | rfl | rfl | rfl | rfl | rfl | rfl <;> first | exact b0 | exact b1 | exact b2 | exact b3 | exact b4 | exact b5 | exact b6 | exact b7 | exact b8 | exact b9 | exact b10 | exact b11 | exact b12 | exact b13 | exact b14 | exact b15⟩
  refine (behind_any aL (some ⟨v, 0, none⟩) cap 2 aX (some ⟨f, 0, none⟩) fcap 2 0 0 aR w (Lib.hid rfl) (by omega) (Lib.hid (by intro g hg; simp [aL] at hg; rcases hg with rfl | rfl <;> decide)) (Lib.hid hL) (Lib.hid rfl) (Lib.hid hX) (Lib.hid aD) (Lib.hid aRun)).mono ?_
  rintro e w' (⟨h, _⟩ | ⟨_, A, vb, cp, n, rfl, hn, hv, hb⟩)
  · exact absurd rfl h
  obtain ⟨rfl, h1, h2, hR⟩ := hv.resolve_left (by simp [aR])
  subst hn
  exact ⟨vb, cp, rfl, h1, h2, ⟨hR 0 (by decide) 0 (by decide), hR 0 (by decide) 1 (by decide), hR 0 (by decide) 2 (by decide), hR 0 (by decide) 3 (by decide), hR 0 (by decide) 4 (by decide), hR 0 (by decide) 5 (by decide), hR 1 (by decide) 0 (by decide), hR 1 (by decide) 1 (by decide), hR 1 (by decide) 2 (by decide), hR 1 (by decide) 3 (by decide), hR 1 (by decide) 4 (by decide), hR 1 (by decide) 5 (by decide)⟩, hb⟩
set_option maxHeartbeats 2000000 in
set_option maxRecDepth 100000 in
theorem vesselBehind_ex (v cap f fcap : Nat) (w : World) (a0 : w.cell? ⟨v, 0, none⟩ = some (.string ⟨#[98, 97, 110, 107]⟩)) (a1 : w.cell? ⟨v, 1, none⟩ = some (.int .i64 50000)) (a2 : w.cell? ⟨v, 2, none⟩ = some (.int .i64 300000)) (a3 : w.cell? ⟨v, 3, none⟩ = some (.string ⟨#[115, 49, 50]⟩)) (a4 : w.cell? ⟨v, 4, none⟩ = some (.int .i64 12000)) (a5 : w.cell? ⟨v, 5, none⟩ = some (.int .i64 232000)) (b0 : w.cell? ⟨f, 0, none⟩ = some (.int .i64 0)) (b1 : w.cell? ⟨f, 1, none⟩ = some (.int .i64 1)) (b2 : w.cell? ⟨f, 2, none⟩ = some (.string ⟨#[]⟩)) (b3 : w.cell? ⟨f, 3, none⟩ = some (.string ⟨#[98, 97, 110, 107]⟩)) (b4 : w.cell? ⟨f, 4, none⟩ = some (.int .i64 210)) (b5 : w.cell? ⟨f, 5, none⟩ = some (.int .i64 0)) (b6 : w.cell? ⟨f, 6, none⟩ = some (.int .i64 10000000)) (b7 : w.cell? ⟨f, 7, none⟩ = some (.bool false)) (b8 : w.cell? ⟨f, 8, none⟩ = some (.int .i64 1)) (b9 : w.cell? ⟨f, 9, none⟩ = some (.int .i64 1)) (b10 : w.cell? ⟨f, 10, none⟩ = some (.string ⟨#[98, 97, 110, 107]⟩)) (b11 : w.cell? ⟨f, 11, none⟩ = some (.string ⟨#[115, 49, 50]⟩)) (b12 : w.cell? ⟨f, 12, none⟩ = some (.int .i64 0)) (b13 : w.cell? ⟨f, 13, none⟩ = some (.int .i64 0)) (b14 : w.cell? ⟨f, 14, none⟩ = some (.int .i64 1900000)) (b15 : w.cell? ⟨f, 15, none⟩ = some (.bool false)) (lv : v < w.heap.size) (lf : f < w.heap.size) : Calls Try.prog 67 #[.slice (some ⟨v, 0, none⟩) 2 cap, .slice (some ⟨f, 0, none⟩) 2 fcap, .string ⟨#[115, 49, 50]⟩] w fun e w' => e = .returned (.tuple #[.agg #[.string ⟨#[115, 49, 50]⟩, .int .i64 12000, .int .i64 232000, .int .i64 399000, .int .i64 0, .int .i64 1501000], .int .i64 0]) ∧ Below w.heap.size w w' := by
  have n1 : v ≠ w.heap.size := by omega
  have n2 : f ≠ w.heap.size := by omega
  go_enter Try.func67, Try.ntmps67
  go_wp2_with fail
  refine (behind_e2 v cap f fcap _ (by simp [go_sem, cP, *]) (by simp [go_sem, cP, *]) (by simp [go_sem, cP, *]) (by simp [go_sem, cP, *]) (by simp [go_sem, cP, *]) (by simp [go_sem, cP, *]) (by simp [go_sem, cP, *]) (by simp [go_sem, cP, *]) (by simp [go_sem, cP, *]) (by simp [go_sem, cP, *]) (by simp [go_sem, cP, *]) (by simp [go_sem, cP, *]) (by simp [go_sem, cP, *]) (by simp [go_sem, cP, *]) (by simp [go_sem, cP, *]) (by simp [go_sem, cP, *]) (by simp [go_sem, cP, *]) (by simp [go_sem, cP, *]) (by simp [go_sem, cP, *]) (by simp [go_sem, cP, *]) (by simp [go_sem, cP, *]) (by simp [go_sem, cP, *]) (by simp; omega) (by simp; omega)).mono ?_
  rintro e xw1 ⟨vb, vcap, rfl, vl, vh, ⟨k0, k1, k2, k3, k4, k5, k6, k7, k8, k9, k10, k11⟩, hbx1⟩
  have zx1 := hbx1.size
  try simp at zx1
  obtain ⟨x1A0, x1A1, x1A2, x1A3, x1A4, x1A5⟩ : xw1.cell? ⟨w.heap.size, 0, none⟩ = some (.string ⟨#[]⟩) ∧ xw1.cell? ⟨w.heap.size, 1, none⟩ = some (.int .i64 0) ∧ xw1.cell? ⟨w.heap.size, 2, none⟩ = some (.int .i64 0) ∧ xw1.cell? ⟨w.heap.size, 3, none⟩ = some (.int .i64 0) ∧ xw1.cell? ⟨w.heap.size, 4, none⟩ = some (.int .i64 0) ∧ xw1.cell? ⟨w.heap.size, 5, none⟩ = some (.int .i64 0) := by refine ⟨?_, ?_, ?_, ?_, ?_, ?_⟩ <;> (rw [bc1 hbx1]; simp [go_sem, cP, *])
  have x1f0 : (∀ j, xw1.frozen? ⟨w.heap.size, j, none⟩ = false) := by (intro j; rw [bc2 hbx1]; simp [go_sem, *])
  obtain ⟨x1o0, x1n0, x1t0_0, x1t0_1⟩ : w.heap.size < xw1.heap.size ∧ xw1.heap.size ≠ w.heap.size ∧ w.heap.size < xw1.heap.size + 1 ∧ w.heap.size < xw1.heap.size + 1 + 1 := by refine ⟨?_, ?_, ?_, ?_⟩ <;> omega
  have hBx1 : Below w.heap.size w xw1 := belA
  clear hbx1 
  try simp at vl
  have vn : vb ≠ w.heap.size := by omega
  have vt1 : vb < xw1.heap.size + 1 := by omega
  have vn1 : xw1.heap.size ≠ vb := by omega
  have vn2 : vb ≠ xw1.heap.size := by omega
  go_wp2_with fail
  refine (vessel_s 1701000 0 6399000 399000 0 1501000 2100000 0 7900000 0 0 0 1 vb vcap _ (by simp [go_sem, cP, *]) (by simp [go_sem, cP, *]) (by simp [go_sem, cP, *]) (by simp [go_sem, cP, *]) (by simp [go_sem, cP, *]) (by simp [go_sem, cP, *]) (by simp [go_sem, cP, *]) (by simp [go_sem, cP, *]) (by simp [go_sem, cP, *]) (by simp [go_sem, cP, *]) (by simp [go_sem, cP, *]) (by simp [go_sem, cP, *]) (by simp; omega)).mono ?_
  rintro en xw2 ⟨rfl, hbx2⟩
  have zx2 := hbx2.size
  try simp at zx2
  obtain ⟨x2A0, x2A1, x2A2, x2A3, x2A4, x2A5, x2B0, x2B1, x2B2, x2B3, x2B4, x2B5, x2B6, x2B7, x2B8, x2B9, x2B10, x2B11⟩ : xw2.cell? ⟨w.heap.size, 0, none⟩ = some (.string ⟨#[]⟩) ∧ xw2.cell? ⟨w.heap.size, 1, none⟩ = some (.int .i64 0) ∧ xw2.cell? ⟨w.heap.size, 2, none⟩ = some (.int .i64 0) ∧ xw2.cell? ⟨w.heap.size, 3, none⟩ = some (.int .i64 0) ∧ xw2.cell? ⟨w.heap.size, 4, none⟩ = some (.int .i64 0) ∧ xw2.cell? ⟨w.heap.size, 5, none⟩ = some (.int .i64 0) ∧ xw2.cell? ⟨vb, 0, none⟩ = some (.string ⟨#[98, 97, 110, 107]⟩) ∧ xw2.cell? ⟨vb, 1, none⟩ = some (.int .i64 50000) ∧ xw2.cell? ⟨vb, 2, none⟩ = some (.int .i64 300000) ∧ xw2.cell? ⟨vb, 3, none⟩ = some (.int .i64 1701000) ∧ xw2.cell? ⟨vb, 4, none⟩ = some (.int .i64 0) ∧ xw2.cell? ⟨vb, 5, none⟩ = some (.int .i64 6399000) ∧ xw2.cell? ⟨vb, 6, none⟩ = some (.string ⟨#[115, 49, 50]⟩) ∧ xw2.cell? ⟨vb, 7, none⟩ = some (.int .i64 12000) ∧ xw2.cell? ⟨vb, 8, none⟩ = some (.int .i64 232000) ∧ xw2.cell? ⟨vb, 9, none⟩ = some (.int .i64 399000) ∧ xw2.cell? ⟨vb, 10, none⟩ = some (.int .i64 0) ∧ xw2.cell? ⟨vb, 11, none⟩ = some (.int .i64 1501000) := by refine ⟨?_, ?_, ?_, ?_, ?_, ?_, ?_, ?_, ?_, ?_, ?_, ?_, ?_, ?_, ?_, ?_, ?_, ?_⟩ <;> (rw [bc1 hbx2]; simp [go_sem, cP, *])
  have x2f0 : (∀ j, xw2.frozen? ⟨w.heap.size, j, none⟩ = false) := by (intro j; rw [bc2 hbx2]; simp [go_sem, *])
  obtain ⟨x2o0, x2n0, x2t0_0, x2t0_1, x2o1, x2n1, x2t1_0, x2t1_1⟩ : w.heap.size < xw2.heap.size ∧ xw2.heap.size ≠ w.heap.size ∧ w.heap.size < xw2.heap.size + 1 ∧ w.heap.size < xw2.heap.size + 1 + 1 ∧ vb < xw2.heap.size ∧ xw2.heap.size ≠ vb ∧ vb < xw2.heap.size + 1 ∧ vb < xw2.heap.size + 1 + 1 := by refine ⟨?_, ?_, ?_, ?_, ?_, ?_, ?_, ?_⟩ <;> omega
  have hBx2 : Below w.heap.size w xw2 := belA
  clear hbx2 x1A0 x1A1 x1A2 x1A3 x1A4 x1A5 x1f0 x1o0 x1n0 x1t0_0 x1t0_1 hBx1
  go_wp2
  refine bodyPost_ret (v := .tuple #[.agg #[.string ⟨#[115, 49, 50]⟩, .int .i64 12000, .int .i64 232000, .int .i64 399000, .int .i64 0, .int .i64 1501000], .int .i64 0]) (by simp [results, Try.results67, go_sem, *]) rfl ⟨rfl, ?_⟩
  exact belA
set_option maxHeartbeats 2000000 in
set_option maxRecDepth 100000 in
theorem PressureOf_ex (v cap f fcap : Nat) (w : World) (a0 : w.cell? ⟨v, 0, none⟩ = some (.string ⟨#[98, 97, 110, 107]⟩)) (a1 : w.cell? ⟨v, 1, none⟩ = some (.int .i64 50000)) (a2 : w.cell? ⟨v, 2, none⟩ = some (.int .i64 300000)) (a3 : w.cell? ⟨v, 3, none⟩ = some (.string ⟨#[115, 49, 50]⟩)) (a4 : w.cell? ⟨v, 4, none⟩ = some (.int .i64 12000)) (a5 : w.cell? ⟨v, 5, none⟩ = some (.int .i64 232000)) (b0 : w.cell? ⟨f, 0, none⟩ = some (.int .i64 0)) (b1 : w.cell? ⟨f, 1, none⟩ = some (.int .i64 1)) (b2 : w.cell? ⟨f, 2, none⟩ = some (.string ⟨#[]⟩)) (b3 : w.cell? ⟨f, 3, none⟩ = some (.string ⟨#[98, 97, 110, 107]⟩)) (b4 : w.cell? ⟨f, 4, none⟩ = some (.int .i64 210)) (b5 : w.cell? ⟨f, 5, none⟩ = some (.int .i64 0)) (b6 : w.cell? ⟨f, 6, none⟩ = some (.int .i64 10000000)) (b7 : w.cell? ⟨f, 7, none⟩ = some (.bool false)) (b8 : w.cell? ⟨f, 8, none⟩ = some (.int .i64 1)) (b9 : w.cell? ⟨f, 9, none⟩ = some (.int .i64 1)) (b10 : w.cell? ⟨f, 10, none⟩ = some (.string ⟨#[98, 97, 110, 107]⟩)) (b11 : w.cell? ⟨f, 11, none⟩ = some (.string ⟨#[115, 49, 50]⟩)) (b12 : w.cell? ⟨f, 12, none⟩ = some (.int .i64 0)) (b13 : w.cell? ⟨f, 13, none⟩ = some (.int .i64 0)) (b14 : w.cell? ⟨f, 14, none⟩ = some (.int .i64 1900000)) (b15 : w.cell? ⟨f, 15, none⟩ = some (.bool false)) (lv : v < w.heap.size) (lf : f < w.heap.size) : Calls Try.prog 25 #[.slice (some ⟨v, 0, none⟩) 2 cap, .slice (some ⟨f, 0, none⟩) 2 fcap, .string ⟨#[115, 49, 50]⟩] w fun e w' => e = .returned (.tuple #[.agg #[.int .i64 158333, .int .i64 158334], .int .i64 0]) ∧ Below w.heap.size w w' := by
  have n1 : v ≠ w.heap.size := by omega
  have n2 : f ≠ w.heap.size := by omega
  go_enter Try.func25, Try.ntmps25
  go_wp2_with fail
  refine (vesselBehind_ex v cap f fcap _ (by simp [go_sem, cP, *]) (by simp [go_sem, cP, *]) (by simp [go_sem, cP, *]) (by simp [go_sem, cP, *]) (by simp [go_sem, cP, *]) (by simp [go_sem, cP, *]) (by simp [go_sem, cP, *]) (by simp [go_sem, cP, *]) (by simp [go_sem, cP, *]) (by simp [go_sem, cP, *]) (by simp [go_sem, cP, *]) (by simp [go_sem, cP, *]) (by simp [go_sem, cP, *]) (by simp [go_sem, cP, *]) (by simp [go_sem, cP, *]) (by simp [go_sem, cP, *]) (by simp [go_sem, cP, *]) (by simp [go_sem, cP, *]) (by simp [go_sem, cP, *]) (by simp [go_sem, cP, *]) (by simp [go_sem, cP, *]) (by simp [go_sem, cP, *]) (by simp; omega) (by simp; omega)).mono ?_
  rintro e xw1 ⟨rfl, hbx1⟩
  have zx1 := hbx1.size
  try simp at zx1
  obtain ⟨x1A0, x1A1⟩ : xw1.cell? ⟨w.heap.size, 0, none⟩ = some (.int .i64 0) ∧ xw1.cell? ⟨w.heap.size, 1, none⟩ = some (.int .i64 0) := by refine ⟨?_, ?_⟩ <;> (rw [bc1 hbx1]; simp [go_sem, cP, *])
  have x1f0 : (∀ j, xw1.frozen? ⟨w.heap.size, j, none⟩ = false) := by (intro j; rw [bc2 hbx1]; simp [go_sem, *])
  obtain ⟨x1o0, x1n0, x1t0_0, x1t0_1⟩ : w.heap.size < xw1.heap.size ∧ xw1.heap.size ≠ w.heap.size ∧ w.heap.size < xw1.heap.size + 1 ∧ w.heap.size < xw1.heap.size + 1 + 1 := by refine ⟨?_, ?_, ?_, ?_⟩ <;> omega
  have hBx1 : Below w.heap.size w xw1 := belA
  clear hbx1 
  go_wp2_with fail
  refine (pressureWith_any ⟨#[115, 49, 50]⟩ 12000 232000 399000 0 1501000 0 1900000 1900000000 _ (Lib.hid (by decide)) (Lib.hid (by decide)) (by omega) (by omega) (by omega) (by omega) (Lib.hid (by decide))).mono ?_
  rintro e xw2 ⟨rfl, hbx2⟩
  have zx2 := hbx2.size
  try simp at zx2
  obtain ⟨x2A0, x2A1⟩ : xw2.cell? ⟨w.heap.size, 0, none⟩ = some (.int .i64 0) ∧ xw2.cell? ⟨w.heap.size, 1, none⟩ = some (.int .i64 0) := by refine ⟨?_, ?_⟩ <;> (rw [bc1 hbx2]; simp [go_sem, cP, *])
  have x2f0 : (∀ j, xw2.frozen? ⟨w.heap.size, j, none⟩ = false) := by (intro j; rw [bc2 hbx2]; simp [go_sem, *])
  obtain ⟨x2o0, x2n0, x2t0_0, x2t0_1⟩ : w.heap.size < xw2.heap.size ∧ xw2.heap.size ≠ w.heap.size ∧ w.heap.size < xw2.heap.size + 1 ∧ w.heap.size < xw2.heap.size + 1 + 1 := by refine ⟨?_, ?_, ?_, ?_⟩ <;> omega
  have hBx2 : Below w.heap.size w xw2 := belA
  clear hbx2 x1A0 x1A1 x1f0 x1o0 x1n0 x1t0_0 x1t0_1 hBx1
  go_wp2_with fail
  refine (rounded2_any 1900000000 12000 158333 158334 _ (by omega) (by omega) (by omega) (by omega) (Lib.hid (by decide)) (Lib.hid (by decide))).mono ?_
  rintro e xw3 ⟨rfl, hbx3⟩
  have zx3 := hbx3.size
  try simp at zx3
  obtain ⟨x3A0, x3A1⟩ : xw3.cell? ⟨w.heap.size, 0, none⟩ = some (.int .i64 0) ∧ xw3.cell? ⟨w.heap.size, 1, none⟩ = some (.int .i64 0) := by refine ⟨?_, ?_⟩ <;> (rw [bc1 hbx3]; simp [go_sem, cP, *])
  have x3f0 : (∀ j, xw3.frozen? ⟨w.heap.size, j, none⟩ = false) := by (intro j; rw [bc2 hbx3]; simp [go_sem, *])
  obtain ⟨x3o0, x3n0, x3t0_0, x3t0_1⟩ : w.heap.size < xw3.heap.size ∧ xw3.heap.size ≠ w.heap.size ∧ w.heap.size < xw3.heap.size + 1 ∧ w.heap.size < xw3.heap.size + 1 + 1 := by refine ⟨?_, ?_, ?_, ?_⟩ <;> omega
  have hBx3 : Below w.heap.size w xw3 := belA
  clear hbx3 x2A0 x2A1 x2f0 x2o0 x2n0 x2t0_0 x2t0_1 hBx2
  go_wp2
  refine bodyPost_ret (v := .tuple #[.agg #[.int .i64 158333, .int .i64 158334], .int .i64 0]) (by simp [results, Try.results25, go_sem, *]) rfl ⟨rfl, ?_⟩
  exact belA
theorem Room_ex (w : World) : Calls Try.prog 54 #[] w fun e w' => e = .returned (.slice (some ⟨w.heap.size, 0, none⟩) 2 2) ∧ w.alloc (.cells #[.string ⟨#[98, 97, 110, 107]⟩, .int .i64 50000, .int .i64 300000, .string ⟨#[115, 49, 50]⟩, .int .i64 12000, .int .i64 232000] 69) = w' := by
  go_enter Try.func54, Try.ntmps54
  go_wp2
  go_ret
  exact ⟨rfl, rfl⟩
theorem Diary_ex (w : World) : Calls Try.prog 55 #[] w fun e w' => e = .returned (.slice (some ⟨w.heap.size, 0, none⟩) 2 2) ∧ w.alloc (.cells #[.int .i64 0, .int .i64 1, .string ⟨#[]⟩, .string ⟨#[98, 97, 110, 107]⟩, .int .i64 210, .int .i64 0, .int .i64 10000000, .bool false, .int .i64 1, .int .i64 1, .string ⟨#[98, 97, 110, 107]⟩, .string ⟨#[115, 49, 50]⟩, .int .i64 0, .int .i64 0, .int .i64 1900000, .bool false] 38) = w' := by
  go_enter Try.func55, Try.ntmps55
  go_wp2
  go_ret
  exact ⟨rfl, rfl⟩
/-- The task of the examples, with its sources in a block of their own. -/
def NitroxEx (w : World) (e : Ending) (w' : World) : Prop := ∃ b, e = .returned (.agg #[.slice (some ⟨b, 0, none⟩) 2 2, .int .i64 0, .int .i64 0, .int .i64 0, .int .i64 790, .int .i64 320, .int .i64 340, .int .i64 0, .int .i64 0]) ∧ w.heap.size ≤ b ∧ b < w'.heap.size ∧ (w'.cell? ⟨b, 0, none⟩ = some (.string ⟨#[97, 105, 114]⟩) ∧ w'.cell? ⟨b, 1, none⟩ = some (.int .i64 210) ∧ w'.cell? ⟨b, 2, none⟩ = some (.int .i64 0) ∧ w'.cell? ⟨b, 3, none⟩ = some (.int .i64 2) ∧ w'.cell? ⟨b, 4, none⟩ = some (.int .i64 10000) ∧ w'.cell? ⟨b, 5, none⟩ = some (.string ⟨#[111, 50]⟩) ∧ w'.cell? ⟨b, 6, none⟩ = some (.int .i64 1000) ∧ w'.cell? ⟨b, 7, none⟩ = some (.int .i64 0) ∧ w'.cell? ⟨b, 8, none⟩ = some (.int .i64 50) ∧ w'.cell? ⟨b, 9, none⟩ = some (.int .i64 5000)) ∧ Below w.heap.size w w'
theorem Nitrox_ex (w : World) : Calls Try.prog 57 #[] w (NitroxEx w) := by
  go_enter Try.func57, Try.ntmps57
  go_wp2
  refine bodyPost_ret (v := .agg #[.slice (some ⟨w.heap.size + 1, 0, none⟩) 2 2, .int .i64 0, .int .i64 0, .int .i64 0, .int .i64 790, .int .i64 320, .int .i64 340, .int .i64 0, .int .i64 0]) (by simp [results, Try.results57, go_sem]) rfl ⟨w.heap.size + 1, rfl, by omega, by simp, ?_, ?_⟩
  · refine ⟨(by simp [go_sem]), (by simp [go_sem]), (by simp [go_sem]), (by simp [go_sem]), (by simp [go_sem]), (by simp [go_sem]), (by simp [go_sem]), (by simp [go_sem]), (by simp [go_sem]), (by simp [go_sem])⟩
  · exact belA
theorem Share_ex (w : World) : Calls Try.prog 35 #[.agg #[.int .i64 3, .int .i64 3, .int .i64 4], .int .i64 5] w fun e w' => e = .returned (.tuple #[.agg #[.int .i64 2, .int .i64 1, .int .i64 2], .int .i64 0]) ∧ Below w.heap.size w w' :=
  Share_any 3 3 4 5 2 1 2 0 w (Lib.hid (by decide)) (Lib.hid (by decide))
set_option maxHeartbeats 4000000 in
set_option maxRecDepth 100000 in
theorem fawake_any (w : World) : Calls Try.prog 12 #[] w fun e w' => e = .returned (.bool true) ∧ Below w.heap.size w w' := by
  go_enter Try.func12, Try.ntmps12
  go_wp2_with (first | (go_at_call 54; ((with_reducible refine (Room_ex _).mono ?_)); rintro e w' ⟨rfl, rfl⟩) | (go_at_call 55; ((with_reducible refine (Diary_ex _).mono ?_)); rintro e w' ⟨rfl, rfl⟩))
  refine (PressureOf_ex w.heap.size 2 (w.heap.size + 1) 2 _ (by simp [go_sem, cP]) (by simp [go_sem, cP]) (by simp [go_sem, cP]) (by simp [go_sem, cP]) (by simp [go_sem, cP]) (by simp [go_sem, cP]) (by simp [go_sem, cP]) (by simp [go_sem, cP]) (by simp [go_sem, cP]) (by simp [go_sem, cP]) (by simp [go_sem, cP]) (by simp [go_sem, cP]) (by simp [go_sem, cP]) (by simp [go_sem, cP]) (by simp [go_sem, cP]) (by simp [go_sem, cP]) (by simp [go_sem, cP]) (by simp [go_sem, cP]) (by simp [go_sem, cP]) (by simp [go_sem, cP]) (by simp [go_sem, cP]) (by simp [go_sem, cP]) (by simp; omega) (by simp)).mono ?_
  rintro e xw1 ⟨rfl, hbx1⟩
  have zx1 := hbx1.size
  try simp at zx1
  have hBx1 : Below w.heap.size w xw1 := belA
  clear hbx1 
  go_wp2_with fail
  have ox : w.heap.size ≤ xw1.heap.size := by omega
  refine (Nitrox_ex _).mono ?_
  rintro e xw2 ⟨b, rfl, bl, bh, ⟨k0, k1, k2, k3, k4, k5, k6, k7, k8, k9⟩, hbx2⟩
  have zx2 := hbx2.size
  try simp at zx2
  obtain ⟨x2A0, x2A1⟩ : xw2.cell? ⟨xw1.heap.size, 0, none⟩ = some (.int .i64 158333) ∧ xw2.cell? ⟨xw1.heap.size, 1, none⟩ = some (.int .i64 158334) := by refine ⟨?_, ?_⟩ <;> (rw [bc1 hbx2]; simp [go_sem, cP, *])
  obtain ⟨x2o0, x2n0, x2t0_0, x2t0_1⟩ : xw1.heap.size < xw2.heap.size ∧ xw2.heap.size ≠ xw1.heap.size ∧ xw1.heap.size < xw2.heap.size + 1 ∧ xw1.heap.size < xw2.heap.size + 1 + 1 := by refine ⟨?_, ?_, ?_, ?_⟩ <;> omega
  have hBx2 : Below w.heap.size w xw2 := belA
  clear hbx2 hBx1
  try simp at bl
  have bn : b ≠ xw1.heap.size := by omega
  have bn2 : xw2.heap.size ≠ b := by omega
  have bn3 : b ≠ xw2.heap.size := by omega
  go_wp2_with fail
  refine (CheckPlan_ex b xw2.heap.size _ (by simp [go_sem, cP, *]) (by simp [go_sem, cP, *]) (by simp [go_sem, cP, *]) (by simp [go_sem, cP, *]) (by simp [go_sem, cP, *]) (by simp [go_sem, cP, *]) (by simp [go_sem, cP, *]) (by simp [go_sem, cP, *]) (by simp [go_sem, cP, *]) (by simp [go_sem, cP, *]) (by simp [go_sem, cP, *]) (by simp [go_sem, cP, *]) (by simp; omega) (by simp)).mono ?_
  rintro e xw3 ⟨rfl, hbx3⟩
  have zx3 := hbx3.size
  try simp at zx3
  obtain ⟨x3A0, x3A1⟩ : xw3.cell? ⟨xw1.heap.size, 0, none⟩ = some (.int .i64 158333) ∧ xw3.cell? ⟨xw1.heap.size, 1, none⟩ = some (.int .i64 158334) := by refine ⟨?_, ?_⟩ <;> (rw [bc1 hbx3]; simp [go_sem, cP, *])
  obtain ⟨x3o0, x3n0, x3t0_0, x3t0_1⟩ : xw1.heap.size < xw3.heap.size ∧ xw3.heap.size ≠ xw1.heap.size ∧ xw1.heap.size < xw3.heap.size + 1 ∧ xw1.heap.size < xw3.heap.size + 1 + 1 := by refine ⟨?_, ?_, ?_, ?_⟩ <;> omega
  have hBx3 : Below w.heap.size w xw3 := belA
  clear hbx3 x2A0 x2A1 x2o0 x2n0 x2t0_0 x2t0_1 hBx2
  go_wp2_with fail
  refine (Share_ex _).mono ?_
  rintro e xw4 ⟨rfl, hbx4⟩
  have zx4 := hbx4.size
  try simp at zx4
  obtain ⟨x4A0, x4A1⟩ : xw4.cell? ⟨xw1.heap.size, 0, none⟩ = some (.int .i64 158333) ∧ xw4.cell? ⟨xw1.heap.size, 1, none⟩ = some (.int .i64 158334) := by refine ⟨?_, ?_⟩ <;> (rw [bc1 hbx4]; simp [go_sem, cP, *])
  obtain ⟨x4o0, x4n0, x4t0_0, x4t0_1⟩ : xw1.heap.size < xw4.heap.size ∧ xw4.heap.size ≠ xw1.heap.size ∧ xw1.heap.size < xw4.heap.size + 1 ∧ xw1.heap.size < xw4.heap.size + 1 + 1 := by refine ⟨?_, ?_, ?_, ?_⟩ <;> omega
  have hBx4 : Below w.heap.size w xw4 := belA
  clear hbx4 x3A0 x3A1 x3o0 x3n0 x3t0_0 x3t0_1 hBx3
  go_wp2
  go_ret
  exact ⟨rfl, belA⟩
end Go.Proofs.Ytjkhjjmmkdfjmaa
