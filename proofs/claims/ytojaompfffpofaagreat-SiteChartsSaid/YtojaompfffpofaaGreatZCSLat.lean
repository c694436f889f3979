import Derived.Test.YtojaompfffpofaaGreatZCSLvl
import Derived.Outline
namespace Go.Proofs.YtojaompfffpofaaGreat
open Go.ChangeShapes Go.WideShapes Go.ChangeAt Go.RowKit
set_option linter.unusedVariables false
set_option linter.unusedSimpArgs false
attribute [local go_sem ↓] Go.wp_at_zero Go.wp_at_succ
set_option maxRecDepth 100000 in
set_option maxHeartbeats 4000000 in
theorem level_nil (m : Int) (A : Option Addr) (b cap : Nat) (t : Int) (w : World) (m0 : -100000 ≤ m) (m1 : m ≤ 100000) (hb : b < w.heap.size)
    (cm : w.cell? ⟨b, 0, none⟩ = some (.int .i64 m)) (cs : w.cell? ⟨b, 1, none⟩ = some (.slice A 0 cap)) :
    Calls Tryz.prog 72 #[.pointer (some ⟨b, 0, none⟩), .int .i64 t] w fun e w' => e = .returned (.agg #[.int .i64 m, .int .i64 m]) ∧ Below w.heap.size w w' := by
  have b1 : b < w.heap.size + 1 := by omega
  have b2 : b ≠ w.heap.size := by omega
  have b3 : w.heap.size ≠ b := by omega
  have b4 : b ≠ w.heap.size + 1 := by omega
  have b5 : w.heap.size + 1 ≠ b := by omega
  have w1 : IntKind.i64.wrap (m + 0) = m := by rw [Int.add_zero]; exact IntWalk.i64_in _ (by omega)
  have w2 : IntKind.i64.wrap m = m := IntWalk.i64_in _ (by omega)
  go_enter Tryz.func72, Tryz.ntmps72
  go_wp2
  refine wp_loop_rounds 1 ?_
  rw [rounds_succ]
  go_upto_region 9 with (fail)
  refine wp_region_held_drew (S := (fun w' => w'.cell? ⟨b, 0, none⟩ = some (.int .i64 m) ∧ w'.cell? ⟨w.heap.size + 1, 0, none⟩ = some (.int .i64 0) ∧ w'.cell? ⟨w.heap.size + 1, 1, none⟩ = some (.int .i64 0))) (by kernel_rfl) (by simp [go_sem, World.cell?_alloc_past, *]) (fun hHeld => ?_)
  refine tkH 0 ⟨some 42, _, _, _, _, _⟩ ?_ rfl ?_ (by assumption) ?_
  rotate_left
  · (intro w hSw; (try dsimp only at hSw); go_simp; all_goals with_reducible rfl)
  try simp only [Act.put, sA, sB, sC]
  refine tkH 1 ⟨some 43, _, _, _, _, _⟩ ?_ rfl ?_ (by assumption) ?_
  rotate_left
  · (intro w hSw; (try dsimp only at hSw); go_simp; all_goals with_reducible rfl)
  try simp only [Act.put, sA, sB, sC]
  refine tkH 2 ⟨some 44, _, _, _, _, _⟩ ?_ rfl ?_ (by assumption) ?_
  rotate_left
  · (intro w hSw; (try dsimp only at hSw); go_simp; all_goals with_reducible rfl)
  try simp only [Act.put, sA, sB, sC]
  refine tkH 3 ⟨some 45, _, _, _, _, _⟩ ?_ rfl ?_ (by assumption) ?_
  rotate_left
  · (intro w hSw; (try dsimp only at hSw); go_simp; all_goals with_reducible rfl)
  try simp only [Act.put, sA, sB, sC]
  refine tkH 4 ⟨some 46, _, _, _, _, _⟩ ?_ rfl ?_ (by assumption) ?_
  rotate_left
  · (intro w hSw; (try dsimp only at hSw); go_simp; all_goals with_reducible rfl)
  try simp only [Act.put, sA, sB, sC]
  refine tkH 5 ⟨some 47, _, _, _, _, _⟩ ?_ rfl ?_ (by assumption) ?_
  rotate_left
  · (intro w hSw; (try dsimp only at hSw); go_simp; all_goals with_reducible rfl)
  try simp only [Act.put, sA, sB, sC]
  refine tkH 6 ⟨some 48, _, _, _, _, _⟩ ?_ rfl ?_ (by assumption) ?_
  rotate_left
  · (intro w hSw; (try dsimp only at hSw); go_simp; all_goals with_reducible rfl)
  try simp only [Act.put, sA, sB, sC]
  refine tkH 9 ⟨some 51, _, _, _, _, _⟩ ?_ rfl ?_ (by assumption) ?_
  rotate_left
  · (intro w hSw; (try dsimp only at hSw); go_simp; all_goals with_reducible rfl)
  try simp only [Act.put, sA, sB, sC]
  refine tkH 10 ⟨some 52, _, _, _, _, _⟩ ?_ rfl ?_ (by assumption) ?_
  rotate_left
  · (intro w hSw; (try dsimp only at hSw); go_simp; all_goals with_reducible rfl)
  try simp only [Act.put, sA, sB, sC]
  refine tkH 11 ⟨some 53, _, _, _, _, _⟩ ?_ rfl ?_ (by assumption) ?_
  rotate_left
  · (intro w hSw; (try dsimp only at hSw); go_simp; all_goals with_reducible rfl)
  try simp only [Act.put, sA, sB, sC]
  refine tkH 12 ⟨some 54, _, _, _, _, _⟩ ?_ rfl ?_ (by assumption) ?_
  rotate_left
  · (intro w hSw; (try dsimp only at hSw); go_simp; all_goals with_reducible rfl)
  try simp only [Act.put, sA, sB, sC]
  refine tkH 13 ⟨some 55, _, _, _, _, _⟩ ?_ rfl ?_ (by assumption) ?_
  rotate_left
  · (intro w hSw; (try dsimp only at hSw); go_simp; all_goals with_reducible rfl)
  try simp only [Act.put, sA, sB, sC]
  refine tkH 14 ⟨some 56, _, _, _, _, _⟩ ?_ rfl ?_ (by assumption) ?_
  rotate_left
  · (intro w hSw; (try dsimp only at hSw); go_simp; all_goals with_reducible rfl)
  try simp only [Act.put, sA, sB, sC]
  refine tkH 15 ⟨some 57, _, _, _, _, _⟩ ?_ rfl ?_ (by assumption) ?_
  rotate_left
  · (intro w hSw; (try dsimp only at hSw); go_simp; all_goals with_reducible rfl)
  try simp only [Act.put, sA, sB, sC]
  refine wpAnyH_ready (rs := [7]) (by kernel_rfl) (by simp) ?_
  refine AllReadyH.cons rfl (fun K hK => ?_) AllReadyH.nil
  go_simp
  refine (down_is 0 0 _ (by omega) (by omega) (Lib.hid rfl)).mono ?_
  rintro e w' ⟨rfl, rfl⟩
  go_wp2_with fail
  refine hK.out _ _ (by simp [go_sem, World.cell?_alloc_past, *]) (fun hHeld => ?_)
  clear hK K
  try simp only [Act.put, sA, sB, sC]
  refine tkH 8 ⟨some 50, _, _, _, _, _⟩ ?_ rfl ?_ (by assumption) ?_
  rotate_left
  · (intro w hSw; (try dsimp only at hSw); go_simp; all_goals with_reducible rfl)
  try simp only [Act.put, sA, sB, sC]
  refine wpAnyH_ready (rs := [16]) (by kernel_rfl) (by simp) ?_
  refine AllReadyH.cons rfl (fun K hK => ?_) AllReadyH.nil
  go_simp
  refine (up_is 0 0 _ (by omega) (by omega) (Lib.hid rfl)).mono ?_
  rintro e w' ⟨rfl, rfl⟩
  go_wp2_with fail
  refine hK.out _ _ (by simp [go_sem, World.cell?_alloc_past, *]) (fun hHeld => ?_)
  clear hK K
  try simp only [Act.put, sA, sB, sC]
  refine tkH 17 ⟨some 59, _, _, _, _, _⟩ ?_ rfl ?_ (by assumption) ?_
  rotate_left
  · (intro w hSw; (try dsimp only at hSw); go_simp; all_goals with_reducible rfl)
  try simp only [Act.put, sA, sB, sC]
  refine tkH 18 ⟨some 60, _, _, _, _, _⟩ ?_ rfl ?_ (by assumption) ?_
  rotate_left
  · (intro w hSw; (try dsimp only at hSw); go_simp; all_goals with_reducible rfl)
  try simp only [Act.put, sA, sB, sC]
  refine wpAnyH_ready (rs := [19]) (by kernel_rfl) (by simp) ?_
  refine AllReadyH.cons rfl (fun K hK => ?_) AllReadyH.nil
  go_simp
  go_wp2_with fail
  refine hK.out _ _ (by simp [go_sem, World.cell?_alloc_past, *]) (fun hHeld => ?_)
  clear hK K
  try simp only [Act.put, sA, sB, sC]
  refine wpAnyH_done (by kernel_rfl) ?_ _
  go_wp2
  refine bodyPost_ret (v := .agg #[.int .i64 m, .int .i64 m]) (by simp [results, Tryz.results72, go_sem, *]) rfl ⟨rfl, ?_⟩
  (repeat (first | (with_reducible refine Below.drew ?_) | (with_reducible refine below_drewN ?_ _) | (with_reducible refine Below.alloc ?_ (by first | omega | (simp; done) | (simp; omega) | (simp at *; omega)) _) | (with_reducible refine Below.setCell ?_ (by first | omega | (simp; done) | (simp; omega) | (simp at *; omega)) _) | (with_reducible exact Below.refl _ _) | (with_reducible assumption) | (with_reducible refine Below.trans ?_ (Below.mono (by assumption) (by first | omega | (simp; done) | (simp; omega) | (simp at *; omega))))))
theorem level_all (m : Int) (L : List Wv) (A : Option Addr) (b cap n : Nat) (x y t : Int) (w : World) (hn : Hid (n = L.length)) (hl : n ≤ 10) (HW : Hid (∀ x ∈ L, WvOk x)) (m0 : -100000 ≤ m) (m1 : m ≤ 100000) (t0 : 0 ≤ t) (t1 : t ≤ 2000000) (hb : b < w.heap.size) (HL : Hid (SlRows wvV 3 w A L))
    (cm : w.cell? ⟨b, 0, none⟩ = some (.int .i64 m)) (cs : w.cell? ⟨b, 1, none⟩ = some (.slice A n cap)) (H : Hid (HvA w b 2)) (hx : Hid (levLo m L t = x)) (hy : Hid (levHi m L t = y)) :
    Calls Tryz.prog 72 #[.pointer (some ⟨b, 0, none⟩), .int .i64 t] w fun e w' => e = .returned (.agg #[.int .i64 x, .int .i64 y]) ∧ Below w.heap.size w w' := by
  rw [← hx.out, ← hy.out]
  rcases HL.out with h | ⟨bl, off, rfl, hbl, h⟩
  · have h0 : n = 0 := by rw [hn.out, h]; rfl
    subst h0
    have e0 : levLo m L t = m := by rw [h]; simp [levLo, sumLo, dnO]
    have e1 : levHi m L t = m := by rw [h]; simp [levHi, sumHi, upO]
    rw [e0, e1]
    exact level_nil m A b cap t w m0 m1 hb cm cs
  · exact level_any m L b bl off cap n t w hn hl HW.out m0 m1 t0 t1 hb hbl (Lib.hid h) cm cs H
theorem CheckTide_is (m : Int) (L : List Wv) (A : Option Addr) (cap n : Nat) (E : Int) (w : World) (hn : Hid (n = L.length)) (hl : n ≤ 1000000) (HL : Hid (SlRows wvV 3 w A L)) (hE : Hid (tidE m L = E)) :
    Calls Tryz.prog 65 #[.agg #[.int .i64 m, .slice A n cap]] w fun e w' => e = .returned (.int .i64 E) ∧ Below w.heap.size w w' := by
  have := hn.out; subst this
  exact CheckTide_any m L A cap E w hl HL hE
/-- The error of LevelAt. -/
def lvlE (m : Int) (L : List Wv) (t : Int) : Int := firE [tidE m L, rngE t 0 1000000]
theorem firE2 {a b : Int} (h : firE [a, b] = 0) : a = 0 ∧ b = 0 := by
  unfold firE firE firE at h
  by_cases ha : a = 0
  · by_cases hb : b = 0
    · exact ⟨ha, hb⟩
    · rw [if_pos ha, if_neg hb] at h; exact absurd h hb
  · rw [if_neg ha] at h; exact absurd h ha
set_option maxRecDepth 100000 in
set_option maxHeartbeats 4000000 in
theorem LevelAt_good (m : Int) (L : List Wv) (A : Option Addr) (cap n : Nat) (t x y : Int) (w : World) (hn : Hid (n = L.length)) (hl : n ≤ 1000000) (HL : Hid (SlRows wvV 3 w A L)) (hE0 : Hid (lvlE m L t = 0)) (hx : Hid (levLo m L t = x)) (hy : Hid (levHi m L t = y)) :
    Calls Tryz.prog 25 #[.agg #[.int .i64 m, .slice A n cap], .int .i64 t] w fun e w' => e = .returned (.tuple #[.agg #[.int .i64 x, .int .i64 y], .int .i64 0]) ∧ Below w.heap.size w w' := by
  obtain ⟨z1, z2⟩ := firE2 hE0.out
  obtain ⟨m0, m1, h10', hW⟩ := tidE_ok z1
  obtain ⟨t0, t1'⟩ := rngE_0 z2
  have t1 : t ≤ 2000000 := by omega
  have h10 : n ≤ 10 := by rw [hn.out]; exact h10'
  have HW := Lib.hid hW
  obtain ⟨F, hF⟩ : ∃ z, Hid (tidE m L = z) := ⟨_, Lib.hid rfl⟩
  obtain ⟨E, hE1⟩ : ∃ E : Int, E = 0 := ⟨0, rfl⟩
  have hE : Hid (firE [F, rngE t 0 1000000] = E) := Lib.hid (by rw [← hF.out, hE1]; exact hE0.out)
  have hz : (E != 0) = false := by rw [hE1]; rfl
  have HR : Hid (∀ w' : World, Below w.heap.size w w' → SlRows wvV 3 w' A L) := Lib.hid fun w' hB => HL.out.below hB
  clear hE0 z1 z2 hW t1' h10' hE1
  go_enter Tryz.func25, Tryz.ntmps25
  go_wp2_with fail
  refine (CheckTide_is m L A cap n F _ hn hl (Lib.hid (HR.out _ (by (repeat (first | (with_reducible refine Below.drew ?_) | (with_reducible refine below_drewN ?_ _) | (with_reducible refine Below.alloc ?_ (by first | omega | (simp; done) | (simp; omega) | (simp at *; omega)) _) | (with_reducible refine Below.setCell ?_ (by first | omega | (simp; done) | (simp; omega) | (simp at *; omega)) _) | (with_reducible exact Below.refl _ _) | (with_reducible assumption) | (with_reducible refine Below.trans ?_ (Below.mono (by assumption) (by first | omega | (simp; done) | (simp; omega) | (simp at *; omega))))))))) hF).mono ?_
  rintro e xw1 ⟨rfl, hbx1⟩
  have zx1 := hbx1.size
  try simp at zx1
  obtain ⟨x1_0_0, x1_0_1, x1_1_0, x1_1_1⟩ : xw1.cell? ⟨w.heap.size, 0, none⟩ = some (.int .i64 m) ∧ xw1.cell? ⟨w.heap.size, 1, none⟩ = some (.slice A n cap) ∧ xw1.cell? ⟨w.heap.size + 1, 0, none⟩ = some (.int .i64 0) ∧ xw1.cell? ⟨w.heap.size + 1, 1, none⟩ = some (.int .i64 0) := by refine ⟨?_, ?_, ?_, ?_⟩ <;> (rw [(bcell hbx1).1 _ _ (by first | (simp; done) | (simp; omega) | omega)]; simp [go_sem, World.cell?_alloc_past, *])
  have x1f1 : (∀ j, xw1.frozen? ⟨w.heap.size + 1, j, none⟩ = false) := by (intro j; rw [(bcell hbx1).2 _ _ (by first | (simp; done) | (simp; omega) | omega)]; simp [go_sem, *])
  obtain ⟨x1o0, x1n0, x1m0, x1t0_0, x1t0_1, x1o1, x1n1, x1m1, x1t1_0, x1t1_1⟩ : w.heap.size < xw1.heap.size ∧ xw1.heap.size ≠ w.heap.size ∧ w.heap.size ≠ xw1.heap.size ∧ w.heap.size < xw1.heap.size + 1 ∧ w.heap.size < xw1.heap.size + 1 + 1 ∧ w.heap.size + 1 < xw1.heap.size ∧ xw1.heap.size ≠ w.heap.size + 1 ∧ w.heap.size + 1 ≠ xw1.heap.size ∧ w.heap.size + 1 < xw1.heap.size + 1 ∧ w.heap.size + 1 < xw1.heap.size + 1 + 1 := by refine ⟨?_, ?_, ?_, ?_, ?_, ?_, ?_, ?_, ?_, ?_⟩ <;> omega
  have hBx1 : Below w.heap.size w xw1 := (by (repeat (first | (with_reducible refine Below.drew ?_) | (with_reducible refine below_drewN ?_ _) | (with_reducible refine Below.alloc ?_ (by first | omega | (simp; done) | (simp; omega) | (simp at *; omega)) _) | (with_reducible refine Below.setCell ?_ (by first | omega | (simp; done) | (simp; omega) | (simp at *; omega)) _) | (with_reducible exact Below.refl _ _) | (with_reducible assumption) | (with_reducible refine Below.trans ?_ (Below.mono (by assumption) (by first | omega | (simp; done) | (simp; omega) | (simp at *; omega)))))))
  clear hbx1 
  go_wp2_with ((go_at_call 77; ((with_reducible refine (checkMinute_any _ _).mono ?_)); rintro e w' ⟨rfl, rfl⟩))
  go_wp2_with fail
  refine (cF2x F (rngE t 0 1000000) E _ _ hE (by simp [go_sem]) (by simp [go_sem])).mono ?_
  rintro e w' ⟨rfl, rfl⟩
  go_wp2_with fail
  refine (newTide_any m A n cap _).mono ?_
  rintro e xw2 ⟨b, rfl, g1, g2, cm, cs, hH, hbx2⟩
  have zx2 := hbx2.size
  try simp at zx2
  obtain ⟨x2_0_0, x2_0_1, x2_1_0, x2_1_1⟩ : xw2.cell? ⟨w.heap.size, 0, none⟩ = some (.int .i64 m) ∧ xw2.cell? ⟨w.heap.size, 1, none⟩ = some (.slice A n cap) ∧ xw2.cell? ⟨w.heap.size + 1, 0, none⟩ = some (.int .i64 0) ∧ xw2.cell? ⟨w.heap.size + 1, 1, none⟩ = some (.int .i64 0) := by refine ⟨?_, ?_, ?_, ?_⟩ <;> (rw [(bcell hbx2).1 _ _ (by first | (simp; done) | (simp; omega) | omega)]; simp [go_sem, World.cell?_alloc_past, *])
  have x2f1 : (∀ j, xw2.frozen? ⟨w.heap.size + 1, j, none⟩ = false) := by (intro j; rw [(bcell hbx2).2 _ _ (by first | (simp; done) | (simp; omega) | omega)]; simp [go_sem, *])
  obtain ⟨x2o0, x2n0, x2m0, x2t0_0, x2t0_1, x2o1, x2n1, x2m1, x2t1_0, x2t1_1⟩ : w.heap.size < xw2.heap.size ∧ xw2.heap.size ≠ w.heap.size ∧ w.heap.size ≠ xw2.heap.size ∧ w.heap.size < xw2.heap.size + 1 ∧ w.heap.size < xw2.heap.size + 1 + 1 ∧ w.heap.size + 1 < xw2.heap.size ∧ xw2.heap.size ≠ w.heap.size + 1 ∧ w.heap.size + 1 ≠ xw2.heap.size ∧ w.heap.size + 1 < xw2.heap.size + 1 ∧ w.heap.size + 1 < xw2.heap.size + 1 + 1 := by refine ⟨?_, ?_, ?_, ?_, ?_, ?_, ?_, ?_, ?_, ?_⟩ <;> omega
  have hBx2 : Below w.heap.size w xw2 := (by (repeat (first | (with_reducible refine Below.drew ?_) | (with_reducible refine below_drewN ?_ _) | (with_reducible refine Below.alloc ?_ (by first | omega | (simp; done) | (simp; omega) | (simp at *; omega)) _) | (with_reducible refine Below.setCell ?_ (by first | omega | (simp; done) | (simp; omega) | (simp at *; omega)) _) | (with_reducible exact Below.refl _ _) | (with_reducible assumption) | (with_reducible refine Below.trans ?_ (Below.mono (by assumption) (by first | omega | (simp; done) | (simp; omega) | (simp at *; omega)))))))
  clear hbx2 x1_0_0 x1_0_1 x1_1_0 x1_1_1 x1f1 x1o0 x1n0 x1m0 x1t0_0 x1t0_1 x1o1 x1n1 x1m1 x1t1_0 x1t1_1 hBx1
  have HH := Lib.hid hH
  clear hH
  go_wp2_with fail
  refine (level_all m L A b cap n x y t _ hn h10 HW m0 m1 t0 t1 g2 (Lib.hid (HR.out _ (by (repeat (first | (with_reducible refine Below.drew ?_) | (with_reducible refine below_drewN ?_ _) | (with_reducible refine Below.alloc ?_ (by first | omega | (simp; done) | (simp; omega) | (simp at *; omega)) _) | (with_reducible refine Below.setCell ?_ (by first | omega | (simp; done) | (simp; omega) | (simp at *; omega)) _) | (with_reducible exact Below.refl _ _) | (with_reducible assumption) | (with_reducible refine Below.trans ?_ (Below.mono (by assumption) (by first | omega | (simp; done) | (simp; omega) | (simp at *; omega))))))))) cm cs HH hx hy).mono ?_
  rintro e xw3 ⟨rfl, hbx3⟩
  have zx3 := hbx3.size
  try simp at zx3
  obtain ⟨x3_0_0, x3_0_1, x3_1_0, x3_1_1, x3_2_0, x3_2_1⟩ : xw3.cell? ⟨w.heap.size, 0, none⟩ = some (.int .i64 m) ∧ xw3.cell? ⟨w.heap.size, 1, none⟩ = some (.slice A n cap) ∧ xw3.cell? ⟨w.heap.size + 1, 0, none⟩ = some (.int .i64 0) ∧ xw3.cell? ⟨w.heap.size + 1, 1, none⟩ = some (.int .i64 0) ∧ xw3.cell? ⟨b, 0, none⟩ = some (.int .i64 m) ∧ xw3.cell? ⟨b, 1, none⟩ = some (.slice A n cap) := by refine ⟨?_, ?_, ?_, ?_, ?_, ?_⟩ <;> (rw [(bcell hbx3).1 _ _ (by first | (simp; done) | (simp; omega) | omega)]; simp [go_sem, World.cell?_alloc_past, *])
  have x3f1 : (∀ j, xw3.frozen? ⟨w.heap.size + 1, j, none⟩ = false) := by (intro j; rw [(bcell hbx3).2 _ _ (by first | (simp; done) | (simp; omega) | omega)]; simp [go_sem, *])
  obtain ⟨x3o0, x3n0, x3m0, x3t0_0, x3t0_1, x3o1, x3n1, x3m1, x3t1_0, x3t1_1, x3o2, x3n2, x3m2, x3t2_0, x3t2_1⟩ : w.heap.size < xw3.heap.size ∧ xw3.heap.size ≠ w.heap.size ∧ w.heap.size ≠ xw3.heap.size ∧ w.heap.size < xw3.heap.size + 1 ∧ w.heap.size < xw3.heap.size + 1 + 1 ∧ w.heap.size + 1 < xw3.heap.size ∧ xw3.heap.size ≠ w.heap.size + 1 ∧ w.heap.size + 1 ≠ xw3.heap.size ∧ w.heap.size + 1 < xw3.heap.size + 1 ∧ w.heap.size + 1 < xw3.heap.size + 1 + 1 ∧ b < xw3.heap.size ∧ xw3.heap.size ≠ b ∧ b ≠ xw3.heap.size ∧ b < xw3.heap.size + 1 ∧ b < xw3.heap.size + 1 + 1 := by refine ⟨?_, ?_, ?_, ?_, ?_, ?_, ?_, ?_, ?_, ?_, ?_, ?_, ?_, ?_, ?_⟩ <;> omega
  have hBx3 : Below w.heap.size w xw3 := (by (repeat (first | (with_reducible refine Below.drew ?_) | (with_reducible refine below_drewN ?_ _) | (with_reducible refine Below.alloc ?_ (by first | omega | (simp; done) | (simp; omega) | (simp at *; omega)) _) | (with_reducible refine Below.setCell ?_ (by first | omega | (simp; done) | (simp; omega) | (simp at *; omega)) _) | (with_reducible exact Below.refl _ _) | (with_reducible assumption) | (with_reducible refine Below.trans ?_ (Below.mono (by assumption) (by first | omega | (simp; done) | (simp; omega) | (simp at *; omega)))))))
  clear hbx3 x2_0_0 x2_0_1 x2_1_0 x2_1_1 x2f1 x2o0 x2n0 x2m0 x2t0_0 x2t0_1 x2o1 x2n1 x2m1 x2t1_0 x2t1_1 hBx2
  go_wp2
  refine bodyPost_ret (v := .tuple #[.agg #[.int .i64 x, .int .i64 y], .int .i64 0]) (by simp [results, Tryz.results25, go_sem, *]) rfl ⟨rfl, ?_⟩
  (repeat (first | (with_reducible refine Below.drew ?_) | (with_reducible refine below_drewN ?_ _) | (with_reducible refine Below.alloc ?_ (by first | omega | (simp; done) | (simp; omega) | (simp at *; omega)) _) | (with_reducible refine Below.setCell ?_ (by first | omega | (simp; done) | (simp; omega) | (simp at *; omega)) _) | (with_reducible exact Below.refl _ _) | (with_reducible assumption) | (with_reducible refine Below.trans ?_ (Below.mono (by assumption) (by first | omega | (simp; done) | (simp; omega) | (simp at *; omega))))))

end Go.Proofs.YtojaompfffpofaaGreat
