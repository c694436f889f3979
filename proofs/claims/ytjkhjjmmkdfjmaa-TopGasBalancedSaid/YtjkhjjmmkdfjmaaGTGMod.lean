import Derived.Test.YtjkhjjmmkdfjmaaGTLawFl
import Derived.Test.YtjkhjjmmkdfjmaaGTLawC0
import Derived.Outline
import Derived.Test.YtjkhjjmmkdfjmaaGTGBal
namespace Go.Proofs.Ytjkhjjmmkdfjmaa
open Go.ChangeShapes Go.WideShapes Go.ChangeAt Go.RowKit
set_option linter.unusedVariables false
set_option linter.unusedSimpArgs false
attribute [local go_sem ↓] Go.wp_at_zero Go.wp_at_succ
set_option maxRecDepth 100000 in
theorem PressureOf_bank (v cap f fcap : Nat) (w : World) (a0 : w.cell? ⟨v, 0, none⟩ = some (.string ⟨#[98, 97, 110, 107]⟩)) (a1 : w.cell? ⟨v, 1, none⟩ = some (.int .i64 50000)) (a2 : w.cell? ⟨v, 2, none⟩ = some (.int .i64 300000)) (a3 : w.cell? ⟨v, 3, none⟩ = some (.string ⟨#[115, 49, 50]⟩)) (a4 : w.cell? ⟨v, 4, none⟩ = some (.int .i64 12000)) (a5 : w.cell? ⟨v, 5, none⟩ = some (.int .i64 232000)) (b0 : w.cell? ⟨f, 0, none⟩ = some (.int .i64 0)) (b1 : w.cell? ⟨f, 1, none⟩ = some (.int .i64 1)) (b2 : w.cell? ⟨f, 2, none⟩ = some (.string ⟨#[]⟩)) (b3 : w.cell? ⟨f, 3, none⟩ = some (.string ⟨#[98, 97, 110, 107]⟩)) (b4 : w.cell? ⟨f, 4, none⟩ = some (.int .i64 210)) (b5 : w.cell? ⟨f, 5, none⟩ = some (.int .i64 0)) (b6 : w.cell? ⟨f, 6, none⟩ = some (.int .i64 10000000)) (b7 : w.cell? ⟨f, 7, none⟩ = some (.bool false)) (b8 : w.cell? ⟨f, 8, none⟩ = some (.int .i64 1)) (b9 : w.cell? ⟨f, 9, none⟩ = some (.int .i64 1)) (b10 : w.cell? ⟨f, 10, none⟩ = some (.string ⟨#[98, 97, 110, 107]⟩)) (b11 : w.cell? ⟨f, 11, none⟩ = some (.string ⟨#[115, 49, 50]⟩)) (b12 : w.cell? ⟨f, 12, none⟩ = some (.int .i64 0)) (b13 : w.cell? ⟨f, 13, none⟩ = some (.int .i64 0)) (b14 : w.cell? ⟨f, 14, none⟩ = some (.int .i64 1900000)) (b15 : w.cell? ⟨f, 15, none⟩ = some (.bool false)) (lv : v < w.heap.size) (lf : f < w.heap.size) : Calls Try.prog 25 #[.slice (some ⟨v, 0, none⟩) 2 cap, .slice (some ⟨f, 0, none⟩) 2 fcap, .string ⟨#[98, 97, 110, 107]⟩] w fun e w' => e = .returned (.tuple #[.agg #[.int .i64 162000, .int .i64 162000], .int .i64 0]) ∧ Below w.heap.size w w' := by
  have hL : SlRows veV 3 w (some ⟨v, 0, none⟩) aL := Or.inr ⟨v, 0, rfl, lv, by
    intro k hk i hi
    have h1 : k = 0 ∨ k = 1 := by simp [aL] at hk; omega
    have h2 : i = 0 ∨ i = 1 ∨ i = 2 := by omega
    rcases h1 with rfl | rfl <;> rcases h2 with rfl | rfl | rfl <;> first | exact a0 | exact a1 | exact a2 | exact a3 | exact a4 | exact a5⟩
  have hX : SlRows flV 8 w (some ⟨f, 0, none⟩) aX := Or.inr ⟨f, 0, rfl, lf, by
    intro k hk i hi
    have h1 : k = 0 ∨ k = 1 := by simp [aX] at hk; omega
    have h2 : i = 0 ∨ i = 1 ∨ i = 2 ∨ i = 3 ∨ i = 4 ∨ i = 5 ∨ i = 6 ∨ i = 7 := by omega
    rcases h1 with rfl | rfl <;> rcases h2 with rfl | rfl | rfl | rfl | rfl | rfl | rfl | rfl <;> first | exact b0 | exact b1 | exact b2 | exact b3 | exact b4 | exact b5 | exact b6 | exact b7 | exact b8 | exact b9 | exact b10 | exact b11 | exact b12 | exact b13 | exact b14 | exact b15⟩
  refine (PressureOf_any aL (some ⟨v, 0, none⟩) cap 2 aX (some ⟨f, 0, none⟩) fcap 2 ⟨#[98, 97, 110, 107]⟩ w (Lib.hid rfl) (by omega) (Lib.hid (by intro g hg; simp [aL] at hg; rcases hg with rfl | rfl <;> decide)) (Lib.hid hL) (Lib.hid rfl) (Lib.hid hX)).mono ?_
  intro e w' h
  refine ⟨?_, h.2⟩
  have h2 := PrPost.some h (by rw [aD]) aRun (q := 0) (by kernel_rfl) (by decide) (G := ⟨⟨#[98, 97, 110, 107]⟩, 50000, 300000, 1701000, 0, 6399000⟩) rfl (S := 8100000) (by decide)
  rw [h2]
  rfl
set_option maxHeartbeats 4000000 in
set_option maxRecDepth 100000 in
theorem filled_any (w : World) : Calls Try.prog 51 #[] w fun e w' => e = .returned (.bool true) ∧ Below w.heap.size w w' := by
  go_enter Try.func51, Try.ntmps51
  go_wp2_with (first | (go_at_call 54; ((with_reducible refine (Room_ex _).mono ?_)); rintro e w' ⟨rfl, rfl⟩) | (go_at_call 55; ((with_reducible refine (Diary_ex _).mono ?_)); rintro e w' ⟨rfl, rfl⟩))
  refine (PressureOf_bank w.heap.size 2 (w.heap.size + 1) 2 _ (by simp [go_sem, cP]) (by simp [go_sem, cP]) (by simp [go_sem, cP]) (by simp [go_sem, cP]) (by simp [go_sem, cP]) (by simp [go_sem, cP]) (by simp [go_sem, cP]) (by simp [go_sem, cP]) (by simp [go_sem, cP]) (by simp [go_sem, cP]) (by simp [go_sem, cP]) (by simp [go_sem, cP]) (by simp [go_sem, cP]) (by simp [go_sem, cP]) (by simp [go_sem, cP]) (by simp [go_sem, cP]) (by simp [go_sem, cP]) (by simp [go_sem, cP]) (by simp [go_sem, cP]) (by simp [go_sem, cP]) (by simp [go_sem, cP]) (by simp [go_sem, cP]) (by simp; omega) (by simp)).mono ?_
  rintro e xw1 ⟨rfl, hbx1⟩
  have zx1 := hbx1.size
  try simp at zx1
  have hBx1 : Below w.heap.size w xw1 := belA
  clear hbx1 
  go_wp2_with fail
  have ox : w.heap.size ≤ xw1.heap.size := by omega
  refine (Nitrox_ex _).mono ?_
  rintro e xw2 ⟨b, rfl, bl, bh, ⟨k0, k1, k2, k3, k4, k5, k6, k7, k8, k9⟩, hbx2⟩
  have zx2 := hbx2.size
  try simp at zx2
  obtain ⟨x2A0, x2A1⟩ : xw2.cell? ⟨xw1.heap.size, 0, none⟩ = some (.int .i64 162000) ∧ xw2.cell? ⟨xw1.heap.size, 1, none⟩ = some (.int .i64 162000) := by refine ⟨?_, ?_⟩ <;> (rw [bc1 hbx2]; simp [go_sem, cP, *])
  obtain ⟨x2o0, x2n0, x2t0_0, x2t0_1⟩ : xw1.heap.size < xw2.heap.size ∧ xw2.heap.size ≠ xw1.heap.size ∧ xw1.heap.size < xw2.heap.size + 1 ∧ xw1.heap.size < xw2.heap.size + 1 + 1 := by refine ⟨?_, ?_, ?_, ?_⟩ <;> omega
  have hBx2 : Below w.heap.size w xw2 := belA
  clear hbx2 hBx1
  try simp at bl
  have bn : b ≠ xw1.heap.size := by omega
  have bn2 : xw2.heap.size ≠ b := by omega
  have bn3 : b ≠ xw2.heap.size := by omega
  go_wp2_with fail
  refine (CheckPlan_ex b xw2.heap.size _ (by simp [go_sem, cP, *]) (by simp [go_sem, cP, *]) (by simp [go_sem, cP, *]) (by simp [go_sem, cP, *]) (by simp [go_sem, cP, *]) (by simp [go_sem, cP, *]) (by simp [go_sem, cP, *]) (by simp [go_sem, cP, *]) (by simp [go_sem, cP, *]) (by simp [go_sem, cP, *]) (by simp [go_sem, cP, *]) (by simp [go_sem, cP, *]) (by simp; omega) (by simp)).mono ?_
  rintro e xw3 ⟨rfl, hbx3⟩
  have zx3 := hbx3.size
  try simp at zx3
  obtain ⟨x3A0, x3A1⟩ : xw3.cell? ⟨xw1.heap.size, 0, none⟩ = some (.int .i64 162000) ∧ xw3.cell? ⟨xw1.heap.size, 1, none⟩ = some (.int .i64 162000) := by refine ⟨?_, ?_⟩ <;> (rw [bc1 hbx3]; simp [go_sem, cP, *])
  obtain ⟨x3o0, x3n0, x3t0_0, x3t0_1⟩ : xw1.heap.size < xw3.heap.size ∧ xw3.heap.size ≠ xw1.heap.size ∧ xw1.heap.size < xw3.heap.size + 1 ∧ xw1.heap.size < xw3.heap.size + 1 + 1 := by refine ⟨?_, ?_, ?_, ?_⟩ <;> omega
  have hBx3 : Below w.heap.size w xw3 := belA
  clear hbx3 x2A0 x2A1 x2o0 x2n0 x2t0_0 x2t0_1 hBx2
  go_wp2
  go_ret
  exact ⟨rfl, belA⟩
end Go.Proofs.Ytjkhjjmmkdfjmaa

namespace Go.Proofs.Ytjkhjjmmkdfjmaa
open Go.ChangeShapes Go.WideShapes Go.ChangeAt Go.RowKit
set_option linter.unusedVariables false
set_option linter.unusedSimpArgs false
attribute [local go_sem ↓] Go.wp_at_zero Go.wp_at_succ
def modI (p b : Int) : Int := if p.tmod b < 0 then p.tmod b + b else p.tmod b
theorem tmod_bd (p : Int) {b : Int} (hb : 1 ≤ b) : -b < p.tmod b ∧ p.tmod b < b := by
  refine ⟨?_, Int.tmod_lt_of_pos _ (by omega)⟩
  by_cases hp : 0 ≤ p
  · have := Int.tmod_nonneg b hp; omega
  · have h1 := Int.tmod_lt_of_pos (-p) (show 0 < b by omega)
    rw [Int.neg_tmod] at h1
    omega
theorem modI_bd (p : Int) {b : Int} (hb : 1 ≤ b) : 0 ≤ modI p b ∧ modI p b < b := by
  have := tmod_bd p hb
  unfold modI
  split <;> omega
theorem Mod_is (p b r : Int) (w : World) (hb : 1 ≤ b) (hb2 : b ≤ 1000000000) (hr : Hid (modI p b = r)) :
    Calls Try.prog 52 #[.int .i64 p, .int .i64 b] w fun e w' => e = .returned (.int .i64 r) ∧ w = w' := by
  have bd := tmod_bd p hb
  have hb0 : b ≠ 0 := by omega
  have ew1 : IntKind.i64.wrap (p.tmod b) = p.tmod b := IntWalk.i64_in _ (by omega)
  by_cases hn : p.tmod b < 0
  · have hv : Hid (p.tmod b + b = r) := by show _ = _; rw [← hr.out, modI, if_pos hn]
    have ew2 : IntKind.i64.wrap (p.tmod b + b) = p.tmod b + b := IntWalk.i64_in _ (by omega)
    have ew3 : wrap64 (p.tmod b + b) = p.tmod b + b := (IntWalk.i64_left _).symm.trans ew2
    clear hr
    go_enter Try.func52, Try.ntmps52
    go_wp2
    go_ret
    exact ⟨ret_int hv.out, rfl⟩
  · have hv : Hid (p.tmod b = r) := by show _ = _; rw [← hr.out, modI, if_neg hn]
    clear hr
    go_enter Try.func52, Try.ntmps52
    go_wp2
    go_ret
    exact ⟨ret_int hv.out, rfl⟩
end Go.Proofs.Ytjkhjjmmkdfjmaa
