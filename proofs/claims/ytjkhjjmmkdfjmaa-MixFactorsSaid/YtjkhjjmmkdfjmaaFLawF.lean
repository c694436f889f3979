/- shotlinelaw06.MixFactors returns true for every input. -/
import Derived.Test.YtjkhjjmmkdfjmaaFLawF0
import Derived.Test.YtjkhjjmmkdfjmaaFAwake
import Derived.Deep.CutBlock
import Derived.Outline
namespace Go.Proofs.Ytjkhjjmmkdfjmaa
open Go.ChangeShapes Go.WideShapes Go.ChangeAt Go.RowKit
set_option linter.unusedVariables false
set_option linter.unusedSimpArgs false
attribute [local go_sem ↓] Go.wp_at_zero Go.wp_at_succ
def FL5 (x y l u E : Int) (w : World) (s7 s8 : Value) (wx : World) : Prop := ∃ m, s7 = .pointer (some ⟨m, 0, none⟩) ∧ s8 = .int .i64 E ∧ m < wx.heap.size ∧ w.heap.size < m ∧ (wx.cell? ⟨w.heap.size, 0, none⟩ = some (.int .i64 x) ∧ wx.cell? ⟨w.heap.size, 1, none⟩ = some (.int .i64 y) ∧ wx.cell? ⟨m, 0, none⟩ = some (.int .i64 l) ∧ wx.cell? ⟨m, 1, none⟩ = some (.int .i64 u)) ∧ Below w.heap.size w wx
def FL6 (x y l u q r d : Int) (m : Nat) (w : World) (s9 s10 : Value) (wx : World) : Prop := ∃ k, s9 = .pointer (some ⟨k, 0, none⟩) ∧ s10 = .int .i64 d ∧ k < wx.heap.size ∧ m < wx.heap.size ∧ w.heap.size < k ∧ (wx.cell? ⟨w.heap.size, 0, none⟩ = some (.int .i64 x) ∧ wx.cell? ⟨w.heap.size, 1, none⟩ = some (.int .i64 y) ∧ wx.cell? ⟨m, 0, none⟩ = some (.int .i64 l) ∧ wx.cell? ⟨m, 1, none⟩ = some (.int .i64 u) ∧ wx.cell? ⟨k, 0, none⟩ = some (.int .i64 q) ∧ wx.cell? ⟨k, 1, none⟩ = some (.int .i64 r)) ∧ Below w.heap.size w wx
set_option maxHeartbeats 8000000 in
set_option maxRecDepth 100000 in
theorem mixFactors_1 (L : List Fc) (A : Option Addr) (cap n : Nat) (x y v E : Int) (w : World) (hT : Hid (∀ w', SlRows fcV 3 w' A L → Calls Try.prog 45 #[.slice A n cap] w' (CopiedF n L w'))) (hS : Hid (SlRows fcV 3 w A L)) (hF : Hid (∀ A cap w, SlRows fcV 3 w A L → Calls Try.prog 44 #[.slice A n cap, .int .i64 x] w fun e w' => e = .returned (.tuple #[.agg #[.int .i64 0, .int .i64 0], .int .i64 E]) ∧ Below w.heap.size w w')) (hR : Hid (∀ A cap w, SlRows fcV 3 w A L → Calls Try.prog 46 #[.slice A n cap, .agg #[.int .i64 x, .int .i64 y], .int .i64 v] w fun e w' => e = .returned (.tuple #[.agg #[.int .i64 0, .int .i64 0], .int .i64 E]) ∧ Below w.heap.size w w')) (hC : Hid (∀ A cap w, SlRows fcV 3 w A L → Calls Try.prog 48 #[.slice A n cap] w fun e w' => e = .returned (.int .i64 E) ∧ Below w.heap.size w w')) (hC2 : Hid (∀ A cap w, SlRows fcV 3 w A L → Calls Try.prog 47 #[.slice A n cap] w fun e w' => e = .returned (.int .i64 E) ∧ Below w.heap.size w w')) (hfew : Hid (fewB n = true)) (hn : n ≤ maxLen) (hz : (E != 0) = true) : Calls Try.prog 10 #[.slice A n cap, .agg #[.int .i64 x, .int .i64 y], .int .i64 v] w fun e w' => e = .returned (.bool true) ∧ Below w.heap.size w w' := by
  have hz2 : (E == 0) = false := by simpa using hz
  go_enter Try.func10, Try.ntmps10
  go_wp2_with fail
  refine (fawake_any _).mono ?_
  rintro e xw1 ⟨rfl, hbx1⟩
  have zx1 := hbx1.size
  try simp at zx1
  obtain ⟨x1_0_0, x1_0_1⟩ : xw1.cell? ⟨w.heap.size, 0, none⟩ = some (.int .i64 x) ∧ xw1.cell? ⟨w.heap.size, 1, none⟩ = some (.int .i64 y) := by refine ⟨?_, ?_⟩ <;> (rw [(bcell hbx1).1 _ _ (by first | (simp; done) | (simp; omega) | omega)]; simp [go_sem, World.cell?_alloc_past, *])
  obtain ⟨x1o0, x1n0, x1m0, x1t0_0, x1t0_1⟩ : w.heap.size < xw1.heap.size ∧ xw1.heap.size ≠ w.heap.size ∧ w.heap.size ≠ xw1.heap.size ∧ w.heap.size < xw1.heap.size + 1 ∧ w.heap.size < xw1.heap.size + 1 + 1 := by refine ⟨?_, ?_, ?_, ?_, ?_⟩ <;> omega
  have hBx1 : Below w.heap.size w xw1 := (by (repeat (first | (with_reducible refine Below.drew ?_) | (with_reducible refine below_drewN ?_ _) | (with_reducible refine Below.alloc ?_ (by first | omega | (simp; done) | (simp; omega) | (simp at *; omega)) _) | (with_reducible refine Below.setCell ?_ (by first | omega | (simp; done) | (simp; omega) | (simp at *; omega)) _) | (with_reducible exact Below.refl _ _) | (with_reducible assumption) | (with_reducible refine Below.trans ?_ (Below.mono (by assumption) (by first | omega | (simp; done) | (simp; omega) | (simp at *; omega)))))))
  clear hbx1 
  go_upto_region 5 with ((go_at_call 43; ((with_reducible refine (few_any _ _ _ _ hn).mono ?_)); rw [hfew.out]; rintro e w' ⟨rfl, rfl⟩))
  go_cut [7, 8] from 21 to 28 (fun s7 s8 wx => FL5 x y 0 0 E w s7 s8 wx)
  case first =>
    refine wp_region_held_drew (S := (fun w' => w'.cell? ⟨w.heap.size, 0, none⟩ = some (.int .i64 x) ∧ w'.cell? ⟨w.heap.size, 1, none⟩ = some (.int .i64 y))) (by kernel_rfl) (by simp [go_sem, World.cell?_alloc_past, *]) (fun hHeld => ?_)
    refine tkH 0 ⟨some 22, _, _, _, _, _⟩ ?_ rfl ?_ (by assumption) ?_
    rotate_left
    · (intro w hSw; (try dsimp only at hSw); go_simp; all_goals with_reducible rfl)
    try simp only [Act.put, sA, sB, sC]
    refine tkH 2 ⟨some 24, _, _, _, _, _⟩ ?_ rfl ?_ (by assumption) ?_
    rotate_left
    · (intro w hSw; (try dsimp only at hSw); go_simp; all_goals with_reducible rfl)
    try simp only [Act.put, sA, sB, sC]
    refine tkH 3 ⟨some 25, _, _, _, _, _⟩ ?_ rfl ?_ (by assumption) ?_
    rotate_left
    · (intro w hSw; (try dsimp only at hSw); go_simp; all_goals with_reducible rfl)
    try simp only [Act.put, sA, sB, sC]
    refine wpAnyH_ready (rs := [1, 8]) (by kernel_rfl) (by simp) ?_
    refine AllReadyH.cons rfl (fun K hK => ?_) (AllReadyH.cons rfl (fun K hK => ?_) (AllReadyH.nil))
    · skip
      go_simp
      refine (hT.out _ (hS.out.below (by (repeat (first | (with_reducible refine Below.drew ?_) | (with_reducible refine below_drewN ?_ _) | (with_reducible refine Below.alloc ?_ (by first | omega | (simp; done) | (simp; omega) | (simp at *; omega)) _) | (with_reducible refine Below.setCell ?_ (by first | omega | (simp; done) | (simp; omega) | (simp at *; omega)) _) | (with_reducible exact Below.refl _ _) | (with_reducible assumption) | (with_reducible refine Below.trans ?_ (Below.mono (by assumption) (by first | omega | (simp; done) | (simp; omega) | (simp at *; omega))))))))).mono ?_
      rintro e xw2 ⟨x2A, x2c, rfl, x2S, hbx2⟩
      have zx2 := hbx2.size
      try simp at zx2
      obtain ⟨x2_0_0, x2_0_1⟩ : xw2.cell? ⟨w.heap.size, 0, none⟩ = some (.int .i64 x) ∧ xw2.cell? ⟨w.heap.size, 1, none⟩ = some (.int .i64 y) := by refine ⟨?_, ?_⟩ <;> (rw [(bcell hbx2).1 _ _ (by first | (simp; done) | (simp; omega) | omega)]; simp [go_sem, World.cell?_alloc_past, *])
      obtain ⟨x2o0, x2n0, x2m0, x2t0_0, x2t0_1⟩ : w.heap.size < xw2.heap.size ∧ xw2.heap.size ≠ w.heap.size ∧ w.heap.size ≠ xw2.heap.size ∧ w.heap.size < xw2.heap.size + 1 ∧ w.heap.size < xw2.heap.size + 1 + 1 := by refine ⟨?_, ?_, ?_, ?_, ?_⟩ <;> omega
      have hBx2 : Below w.heap.size w xw2 := (by (repeat (first | (with_reducible refine Below.drew ?_) | (with_reducible refine below_drewN ?_ _) | (with_reducible refine Below.alloc ?_ (by first | omega | (simp; done) | (simp; omega) | (simp at *; omega)) _) | (with_reducible refine Below.setCell ?_ (by first | omega | (simp; done) | (simp; omega) | (simp at *; omega)) _) | (with_reducible exact Below.refl _ _) | (with_reducible assumption) | (with_reducible refine Below.trans ?_ (Below.mono (by assumption) (by first | omega | (simp; done) | (simp; omega) | (simp at *; omega)))))))
      clear hbx2 x1_0_0 x1_0_1 x1o0 x1n0 x1m0 x1t0_0 x1t0_1 hBx1
      have x2H := Lib.hid x2S
      clear x2S
      go_wp2_with fail
      refine hK.out _ _ (by simp [go_sem, World.cell?_alloc_past, *]) (fun hHeld => ?_)
      clear hK K
      try simp only [Act.put, sA, sB, sC]
      refine wpAnyH_ready (rs := [4, 8]) (by kernel_rfl) (by simp) ?_
      refine AllReadyH.cons rfl (fun K hK => ?_) (AllReadyH.cons rfl (fun K hK => ?_) (AllReadyH.nil))
      · skip
        go_simp
        refine (hF.out x2A x2c _ (x2H.out.below (by (repeat (first | (with_reducible refine Below.drew ?_) | (with_reducible refine below_drewN ?_ _) | (with_reducible refine Below.alloc ?_ (by first | omega | (simp; done) | (simp; omega) | (simp at *; omega)) _) | (with_reducible refine Below.setCell ?_ (by first | omega | (simp; done) | (simp; omega) | (simp at *; omega)) _) | (with_reducible exact Below.refl _ _) | (with_reducible assumption) | (with_reducible refine Below.trans ?_ (Below.mono (by assumption) (by first | omega | (simp; done) | (simp; omega) | (simp at *; omega))))))))).mono ?_
        rintro e xw3 ⟨rfl, hbx3⟩
        have zx3 := hbx3.size
        try simp at zx3
        obtain ⟨x3_0_0, x3_0_1⟩ : xw3.cell? ⟨w.heap.size, 0, none⟩ = some (.int .i64 x) ∧ xw3.cell? ⟨w.heap.size, 1, none⟩ = some (.int .i64 y) := by refine ⟨?_, ?_⟩ <;> (rw [(bcell hbx3).1 _ _ (by first | (simp; done) | (simp; omega) | omega)]; simp [go_sem, World.cell?_alloc_past, *])
        obtain ⟨x3o0, x3n0, x3m0, x3t0_0, x3t0_1⟩ : w.heap.size < xw3.heap.size ∧ xw3.heap.size ≠ w.heap.size ∧ w.heap.size ≠ xw3.heap.size ∧ w.heap.size < xw3.heap.size + 1 ∧ w.heap.size < xw3.heap.size + 1 + 1 := by refine ⟨?_, ?_, ?_, ?_, ?_⟩ <;> omega
        have hBx3 : Below w.heap.size w xw3 := (by (repeat (first | (with_reducible refine Below.drew ?_) | (with_reducible refine below_drewN ?_ _) | (with_reducible refine Below.alloc ?_ (by first | omega | (simp; done) | (simp; omega) | (simp at *; omega)) _) | (with_reducible refine Below.setCell ?_ (by first | omega | (simp; done) | (simp; omega) | (simp at *; omega)) _) | (with_reducible exact Below.refl _ _) | (with_reducible assumption) | (with_reducible refine Below.trans ?_ (Below.mono (by assumption) (by first | omega | (simp; done) | (simp; omega) | (simp at *; omega)))))))
        clear hbx3 x2_0_0 x2_0_1 x2o0 x2n0 x2m0 x2t0_0 x2t0_1 hBx2
        go_wp2_with fail
        refine hK.out _ _ (by simp [go_sem, World.cell?_alloc_past, *]) (fun hHeld => ?_)
        clear hK K
        try simp only [Act.put, sA, sB, sC]
        refine tkH 5 ⟨some 21, _, _, _, _, _⟩ ?_ rfl ?_ (by assumption) ?_
        rotate_left
        · (intro w hSw; (try dsimp only at hSw); go_simp; all_goals with_reducible rfl)
        try simp only [Act.put, sA, sB, sC]
        refine tkH 6 ⟨some 27, _, _, _, _, _⟩ ?_ rfl ?_ (by assumption) ?_
        rotate_left
        · (intro w hSw; (try dsimp only at hSw); go_simp; all_goals with_reducible rfl)
        try simp only [Act.put, sA, sB, sC]
        refine tkH 7 ⟨some 28, _, _, _, _, _⟩ ?_ rfl ?_ (by assumption) ?_
        rotate_left
        · (intro w hSw; (try dsimp only at hSw); go_simp; all_goals with_reducible rfl)
        try simp only [Act.put, sA, sB, sC]
        refine wpAnyH_ready (rs := [8]) (by kernel_rfl) (by simp) ?_
        refine AllReadyH.cons rfl (fun K hK => ?_) (AllReadyH.nil)
        go_simp
        go_wp2_with fail
        refine hK.out _ _ (by simp [go_sem, World.cell?_alloc_past, *]) (fun hHeld => ?_)
        clear hK K
        try simp only [Act.put, sA, sB, sC]
        refine wpAnyH_ready (rs := [9]) (by kernel_rfl) (by simp) ?_
        refine AllReadyH.cons rfl (fun K hK => ?_) (AllReadyH.nil)
        go_simp
        go_wp2_with fail
        refine hK.out _ _ (by simp [go_sem, World.cell?_alloc_past, *]) (fun hHeld => ?_)
        clear hK K
        try simp only [Act.put, sA, sB, sC]
        refine tkH 10 ⟨some 8, _, _, _, _, _⟩ ?_ rfl ?_ (by assumption) ?_
        rotate_left
        · (intro w hSw; (try dsimp only at hSw); go_simp; all_goals with_reducible rfl)
        try simp only [Act.put, sA, sB, sC]
        refine wpAnyH_done (by kernel_rfl) ?_ _
        go_wp2_with fail
        go_meet
        refine ⟨xw3.heap.size, rfl, rfl, by first | omega | (simp; done) | (simp; omega), by first | omega | (simp; done) | (simp; omega), ⟨(by simp [go_sem, World.cell?_alloc_past, *]), (by simp [go_sem, World.cell?_alloc_past, *]), (by simp [go_sem, World.cell?_alloc_past, *]), (by simp [go_sem, World.cell?_alloc_past, *])⟩, ?_⟩
        (repeat (first | (with_reducible refine Below.drew ?_) | (with_reducible refine below_drewN ?_ _) | (with_reducible refine Below.alloc ?_ (by first | omega | (simp; done) | (simp; omega) | (simp at *; omega)) _) | (with_reducible refine Below.setCell ?_ (by first | omega | (simp; done) | (simp; omega) | (simp at *; omega)) _) | (with_reducible exact Below.refl _ _) | (with_reducible assumption) | (with_reducible refine Below.trans ?_ (Below.mono (by assumption) (by first | omega | (simp; done) | (simp; omega) | (simp at *; omega))))))
      · skip
        go_simp
        go_wp2_with fail
        refine hK.out _ _ (by simp [go_sem, World.cell?_alloc_past, *]) (fun hHeld => ?_)
        clear hK K
        try simp only [Act.put, sA, sB, sC]
        refine wpAnyH_ready (rs := [4]) (by kernel_rfl) (by simp) ?_
        refine AllReadyH.cons rfl (fun K hK => ?_) (AllReadyH.nil)
        go_simp
        refine (hF.out x2A x2c _ (x2H.out.below (by (repeat (first | (with_reducible refine Below.drew ?_) | (with_reducible refine below_drewN ?_ _) | (with_reducible refine Below.alloc ?_ (by first | omega | (simp; done) | (simp; omega) | (simp at *; omega)) _) | (with_reducible refine Below.setCell ?_ (by first | omega | (simp; done) | (simp; omega) | (simp at *; omega)) _) | (with_reducible exact Below.refl _ _) | (with_reducible assumption) | (with_reducible refine Below.trans ?_ (Below.mono (by assumption) (by first | omega | (simp; done) | (simp; omega) | (simp at *; omega))))))))).mono ?_
        rintro e xw3 ⟨rfl, hbx3⟩
        have zx3 := hbx3.size
        try simp at zx3
        obtain ⟨x3_0_0, x3_0_1, x3_1_0, x3_1_1⟩ : xw3.cell? ⟨w.heap.size, 0, none⟩ = some (.int .i64 x) ∧ xw3.cell? ⟨w.heap.size, 1, none⟩ = some (.int .i64 y) ∧ xw3.cell? ⟨xw2.heap.size, 0, none⟩ = some (.int .i64 0) ∧ xw3.cell? ⟨xw2.heap.size, 1, none⟩ = some (.int .i64 0) := by refine ⟨?_, ?_, ?_, ?_⟩ <;> (rw [(bcell hbx3).1 _ _ (by first | (simp; done) | (simp; omega) | omega)]; simp [go_sem, World.cell?_alloc_past, *])
        have x3f1 : (∀ j, xw3.frozen? ⟨xw2.heap.size, j, none⟩ = false) := by (intro j; rw [(bcell hbx3).2 _ _ (by first | (simp; done) | (simp; omega) | omega)]; simp [go_sem, *])
        obtain ⟨x3o0, x3n0, x3m0, x3t0_0, x3t0_1, x3o1, x3n1, x3m1, x3t1_0, x3t1_1⟩ : w.heap.size < xw3.heap.size ∧ xw3.heap.size ≠ w.heap.size ∧ w.heap.size ≠ xw3.heap.size ∧ w.heap.size < xw3.heap.size + 1 ∧ w.heap.size < xw3.heap.size + 1 + 1 ∧ xw2.heap.size < xw3.heap.size ∧ xw3.heap.size ≠ xw2.heap.size ∧ xw2.heap.size ≠ xw3.heap.size ∧ xw2.heap.size < xw3.heap.size + 1 ∧ xw2.heap.size < xw3.heap.size + 1 + 1 := by refine ⟨?_, ?_, ?_, ?_, ?_, ?_, ?_, ?_, ?_, ?_⟩ <;> omega
        have hBx3 : Below w.heap.size w xw3 := (by (repeat (first | (with_reducible refine Below.drew ?_) | (with_reducible refine below_drewN ?_ _) | (with_reducible refine Below.alloc ?_ (by first | omega | (simp; done) | (simp; omega) | (simp at *; omega)) _) | (with_reducible refine Below.setCell ?_ (by first | omega | (simp; done) | (simp; omega) | (simp at *; omega)) _) | (with_reducible exact Below.refl _ _) | (with_reducible assumption) | (with_reducible refine Below.trans ?_ (Below.mono (by assumption) (by first | omega | (simp; done) | (simp; omega) | (simp at *; omega)))))))
        clear hbx3 x2_0_0 x2_0_1 x2o0 x2n0 x2m0 x2t0_0 x2t0_1 hBx2
        go_wp2_with fail
        refine hK.out _ _ (by simp [go_sem, World.cell?_alloc_past, *]) (fun hHeld => ?_)
        clear hK K
        try simp only [Act.put, sA, sB, sC]
        refine tkH 5 ⟨some 21, _, _, _, _, _⟩ ?_ rfl ?_ (by assumption) ?_
        rotate_left
        · (intro w hSw; (try dsimp only at hSw); go_simp; all_goals with_reducible rfl)
        try simp only [Act.put, sA, sB, sC]
        refine tkH 6 ⟨some 27, _, _, _, _, _⟩ ?_ rfl ?_ (by assumption) ?_
        rotate_left
        · (intro w hSw; (try dsimp only at hSw); go_simp; all_goals with_reducible rfl)
        try simp only [Act.put, sA, sB, sC]
        refine tkH 7 ⟨some 28, _, _, _, _, _⟩ ?_ rfl ?_ (by assumption) ?_
        rotate_left
        · (intro w hSw; (try dsimp only at hSw); go_simp; all_goals with_reducible rfl)
        try simp only [Act.put, sA, sB, sC]
        refine wpAnyH_ready (rs := [9]) (by kernel_rfl) (by simp) ?_
        refine AllReadyH.cons rfl (fun K hK => ?_) (AllReadyH.nil)
        go_simp
        go_wp2_with fail
        refine hK.out _ _ (by simp [go_sem, World.cell?_alloc_past, *]) (fun hHeld => ?_)
        clear hK K
        try simp only [Act.put, sA, sB, sC]
        refine tkH 10 ⟨some 8, _, _, _, _, _⟩ ?_ rfl ?_ (by assumption) ?_
        rotate_left
        · (intro w hSw; (try dsimp only at hSw); go_simp; all_goals with_reducible rfl)
        try simp only [Act.put, sA, sB, sC]
        refine wpAnyH_done (by kernel_rfl) ?_ _
        go_wp2_with fail
        go_meet
        refine ⟨xw2.heap.size, rfl, rfl, by first | omega | (simp; done) | (simp; omega), by first | omega | (simp; done) | (simp; omega), ⟨(by simp [go_sem, World.cell?_alloc_past, *]), (by simp [go_sem, World.cell?_alloc_past, *]), (by simp [go_sem, World.cell?_alloc_past, *]), (by simp [go_sem, World.cell?_alloc_past, *])⟩, ?_⟩
        (repeat (first | (with_reducible refine Below.drew ?_) | (with_reducible refine below_drewN ?_ _) | (with_reducible refine Below.alloc ?_ (by first | omega | (simp; done) | (simp; omega) | (simp at *; omega)) _) | (with_reducible refine Below.setCell ?_ (by first | omega | (simp; done) | (simp; omega) | (simp at *; omega)) _) | (with_reducible exact Below.refl _ _) | (with_reducible assumption) | (with_reducible refine Below.trans ?_ (Below.mono (by assumption) (by first | omega | (simp; done) | (simp; omega) | (simp at *; omega))))))
    · skip
      go_simp
      go_wp2_with fail
      refine hK.out _ _ (by simp [go_sem, World.cell?_alloc_past, *]) (fun hHeld => ?_)
      clear hK K
      try simp only [Act.put, sA, sB, sC]
      refine wpAnyH_ready (rs := [1]) (by kernel_rfl) (by simp) ?_
      refine AllReadyH.cons rfl (fun K hK => ?_) (AllReadyH.nil)
      go_simp
      refine (hT.out _ (hS.out.below (by (repeat (first | (with_reducible refine Below.drew ?_) | (with_reducible refine below_drewN ?_ _) | (with_reducible refine Below.alloc ?_ (by first | omega | (simp; done) | (simp; omega) | (simp at *; omega)) _) | (with_reducible refine Below.setCell ?_ (by first | omega | (simp; done) | (simp; omega) | (simp at *; omega)) _) | (with_reducible exact Below.refl _ _) | (with_reducible assumption) | (with_reducible refine Below.trans ?_ (Below.mono (by assumption) (by first | omega | (simp; done) | (simp; omega) | (simp at *; omega))))))))).mono ?_
      rintro e xw2 ⟨x2A, x2c, rfl, x2S, hbx2⟩
      have zx2 := hbx2.size
      try simp at zx2
      obtain ⟨x2_0_0, x2_0_1, x2_1_0, x2_1_1⟩ : xw2.cell? ⟨w.heap.size, 0, none⟩ = some (.int .i64 x) ∧ xw2.cell? ⟨w.heap.size, 1, none⟩ = some (.int .i64 y) ∧ xw2.cell? ⟨xw1.heap.size, 0, none⟩ = some (.int .i64 0) ∧ xw2.cell? ⟨xw1.heap.size, 1, none⟩ = some (.int .i64 0) := by refine ⟨?_, ?_, ?_, ?_⟩ <;> (rw [(bcell hbx2).1 _ _ (by first | (simp; done) | (simp; omega) | omega)]; simp [go_sem, World.cell?_alloc_past, *])
      have x2f1 : (∀ j, xw2.frozen? ⟨xw1.heap.size, j, none⟩ = false) := by (intro j; rw [(bcell hbx2).2 _ _ (by first | (simp; done) | (simp; omega) | omega)]; simp [go_sem, *])
      obtain ⟨x2o0, x2n0, x2m0, x2t0_0, x2t0_1, x2o1, x2n1, x2m1, x2t1_0, x2t1_1⟩ : w.heap.size < xw2.heap.size ∧ xw2.heap.size ≠ w.heap.size ∧ w.heap.size ≠ xw2.heap.size ∧ w.heap.size < xw2.heap.size + 1 ∧ w.heap.size < xw2.heap.size + 1 + 1 ∧ xw1.heap.size < xw2.heap.size ∧ xw2.heap.size ≠ xw1.heap.size ∧ xw1.heap.size ≠ xw2.heap.size ∧ xw1.heap.size < xw2.heap.size + 1 ∧ xw1.heap.size < xw2.heap.size + 1 + 1 := by refine ⟨?_, ?_, ?_, ?_, ?_, ?_, ?_, ?_, ?_, ?_⟩ <;> omega
      have hBx2 : Below w.heap.size w xw2 := (by (repeat (first | (with_reducible refine Below.drew ?_) | (with_reducible refine below_drewN ?_ _) | (with_reducible refine Below.alloc ?_ (by first | omega | (simp; done) | (simp; omega) | (simp at *; omega)) _) | (with_reducible refine Below.setCell ?_ (by first | omega | (simp; done) | (simp; omega) | (simp at *; omega)) _) | (with_reducible exact Below.refl _ _) | (with_reducible assumption) | (with_reducible refine Below.trans ?_ (Below.mono (by assumption) (by first | omega | (simp; done) | (simp; omega) | (simp at *; omega)))))))
      clear hbx2 x1_0_0 x1_0_1 x1o0 x1n0 x1m0 x1t0_0 x1t0_1 hBx1
      have x2H := Lib.hid x2S
      clear x2S
      go_wp2_with fail
      refine hK.out _ _ (by simp [go_sem, World.cell?_alloc_past, *]) (fun hHeld => ?_)
      clear hK K
      try simp only [Act.put, sA, sB, sC]
      refine wpAnyH_ready (rs := [4]) (by kernel_rfl) (by simp) ?_
      refine AllReadyH.cons rfl (fun K hK => ?_) (AllReadyH.nil)
      go_simp
      refine (hF.out x2A x2c _ (x2H.out.below (by (repeat (first | (with_reducible refine Below.drew ?_) | (with_reducible refine below_drewN ?_ _) | (with_reducible refine Below.alloc ?_ (by first | omega | (simp; done) | (simp; omega) | (simp at *; omega)) _) | (with_reducible refine Below.setCell ?_ (by first | omega | (simp; done) | (simp; omega) | (simp at *; omega)) _) | (with_reducible exact Below.refl _ _) | (with_reducible assumption) | (with_reducible refine Below.trans ?_ (Below.mono (by assumption) (by first | omega | (simp; done) | (simp; omega) | (simp at *; omega))))))))).mono ?_
      rintro e xw3 ⟨rfl, hbx3⟩
      have zx3 := hbx3.size
      try simp at zx3
      obtain ⟨x3_0_0, x3_0_1, x3_1_0, x3_1_1⟩ : xw3.cell? ⟨w.heap.size, 0, none⟩ = some (.int .i64 x) ∧ xw3.cell? ⟨w.heap.size, 1, none⟩ = some (.int .i64 y) ∧ xw3.cell? ⟨xw1.heap.size, 0, none⟩ = some (.int .i64 0) ∧ xw3.cell? ⟨xw1.heap.size, 1, none⟩ = some (.int .i64 0) := by refine ⟨?_, ?_, ?_, ?_⟩ <;> (rw [(bcell hbx3).1 _ _ (by first | (simp; done) | (simp; omega) | omega)]; simp [go_sem, World.cell?_alloc_past, *])
      have x3f1 : (∀ j, xw3.frozen? ⟨xw1.heap.size, j, none⟩ = false) := by (intro j; rw [(bcell hbx3).2 _ _ (by first | (simp; done) | (simp; omega) | omega)]; simp [go_sem, *])
      obtain ⟨x3o0, x3n0, x3m0, x3t0_0, x3t0_1, x3o1, x3n1, x3m1, x3t1_0, x3t1_1⟩ : w.heap.size < xw3.heap.size ∧ xw3.heap.size ≠ w.heap.size ∧ w.heap.size ≠ xw3.heap.size ∧ w.heap.size < xw3.heap.size + 1 ∧ w.heap.size < xw3.heap.size + 1 + 1 ∧ xw1.heap.size < xw3.heap.size ∧ xw3.heap.size ≠ xw1.heap.size ∧ xw1.heap.size ≠ xw3.heap.size ∧ xw1.heap.size < xw3.heap.size + 1 ∧ xw1.heap.size < xw3.heap.size + 1 + 1 := by refine ⟨?_, ?_, ?_, ?_, ?_, ?_, ?_, ?_, ?_, ?_⟩ <;> omega
      have hBx3 : Below w.heap.size w xw3 := (by (repeat (first | (with_reducible refine Below.drew ?_) | (with_reducible refine below_drewN ?_ _) | (with_reducible refine Below.alloc ?_ (by first | omega | (simp; done) | (simp; omega) | (simp at *; omega)) _) | (with_reducible refine Below.setCell ?_ (by first | omega | (simp; done) | (simp; omega) | (simp at *; omega)) _) | (with_reducible exact Below.refl _ _) | (with_reducible assumption) | (with_reducible refine Below.trans ?_ (Below.mono (by assumption) (by first | omega | (simp; done) | (simp; omega) | (simp at *; omega)))))))
      clear hbx3 x2_0_0 x2_0_1 x2_1_0 x2_1_1 x2f1 x2o0 x2n0 x2m0 x2t0_0 x2t0_1 x2o1 x2n1 x2m1 x2t1_0 x2t1_1 hBx2
      go_wp2_with fail
      refine hK.out _ _ (by simp [go_sem, World.cell?_alloc_past, *]) (fun hHeld => ?_)
      clear hK K
      try simp only [Act.put, sA, sB, sC]
      refine tkH 5 ⟨some 21, _, _, _, _, _⟩ ?_ rfl ?_ (by assumption) ?_
      rotate_left
      · (intro w hSw; (try dsimp only at hSw); go_simp; all_goals with_reducible rfl)
      try simp only [Act.put, sA, sB, sC]
      refine tkH 6 ⟨some 27, _, _, _, _, _⟩ ?_ rfl ?_ (by assumption) ?_
      rotate_left
      · (intro w hSw; (try dsimp only at hSw); go_simp; all_goals with_reducible rfl)
      try simp only [Act.put, sA, sB, sC]
      refine tkH 7 ⟨some 28, _, _, _, _, _⟩ ?_ rfl ?_ (by assumption) ?_
      rotate_left
      · (intro w hSw; (try dsimp only at hSw); go_simp; all_goals with_reducible rfl)
      try simp only [Act.put, sA, sB, sC]
      refine wpAnyH_ready (rs := [9]) (by kernel_rfl) (by simp) ?_
      refine AllReadyH.cons rfl (fun K hK => ?_) (AllReadyH.nil)
      go_simp
      go_wp2_with fail
      refine hK.out _ _ (by simp [go_sem, World.cell?_alloc_past, *]) (fun hHeld => ?_)
      clear hK K
      try simp only [Act.put, sA, sB, sC]
      refine tkH 10 ⟨some 8, _, _, _, _, _⟩ ?_ rfl ?_ (by assumption) ?_
      rotate_left
      · (intro w hSw; (try dsimp only at hSw); go_simp; all_goals with_reducible rfl)
      try simp only [Act.put, sA, sB, sC]
      refine wpAnyH_done (by kernel_rfl) ?_ _
      go_wp2_with fail
      go_meet
      refine ⟨xw1.heap.size, rfl, rfl, by first | omega | (simp; done) | (simp; omega), by first | omega | (simp; done) | (simp; omega), ⟨(by simp [go_sem, World.cell?_alloc_past, *]), (by simp [go_sem, World.cell?_alloc_past, *]), (by simp [go_sem, World.cell?_alloc_past, *]), (by simp [go_sem, World.cell?_alloc_past, *])⟩, ?_⟩
      (repeat (first | (with_reducible refine Below.drew ?_) | (with_reducible refine below_drewN ?_ _) | (with_reducible refine Below.alloc ?_ (by first | omega | (simp; done) | (simp; omega) | (simp at *; omega)) _) | (with_reducible refine Below.setCell ?_ (by first | omega | (simp; done) | (simp; omega) | (simp at *; omega)) _) | (with_reducible exact Below.refl _ _) | (with_reducible assumption) | (with_reducible refine Below.trans ?_ (Below.mono (by assumption) (by first | omega | (simp; done) | (simp; omega) | (simp at *; omega))))))
  case rest =>
    obtain ⟨m, rfl, rfl, lm, gm, ⟨k0, k1, k2, k3⟩, kB⟩ := hcut
    have o1 : w.heap.size < wc.heap.size := by omega
    have o2 : wc.heap.size ≠ w.heap.size := by omega
    have o3 : wc.heap.size ≠ m := by omega
    have o4 : m ≠ wc.heap.size := by omega
    have o5 : w.heap.size ≠ wc.heap.size := by omega
    go_upto_region 6 with (fail)
    go_cut [9, 10] from 29 to 36 (fun s9 s10 wx => FL6 x y 0 0 0 0 E m w s9 s10 wx)
    case first =>
      refine wp_region_held_drew (S := (fun w' => w'.cell? ⟨w.heap.size, 0, none⟩ = some (.int .i64 x) ∧ w'.cell? ⟨w.heap.size, 1, none⟩ = some (.int .i64 y) ∧ w'.cell? ⟨m, 0, none⟩ = some (.int .i64 0) ∧ w'.cell? ⟨m, 1, none⟩ = some (.int .i64 0))) (by kernel_rfl) (by simp [go_sem, World.cell?_alloc_past, *]) (fun hHeld => ?_)
      refine tkH 0 ⟨some 30, _, _, _, _, _⟩ ?_ rfl ?_ (by assumption) ?_
      rotate_left
      · (intro w hSw; (try dsimp only at hSw); go_simp; all_goals with_reducible rfl)
      try simp only [Act.put, sA, sB, sC]
      refine tkH 2 ⟨some 32, _, _, _, _, _⟩ ?_ rfl ?_ (by assumption) ?_
      rotate_left
      · (intro w hSw; (try dsimp only at hSw); go_simp; all_goals with_reducible rfl)
      try simp only [Act.put, sA, sB, sC]
      refine tkH 3 ⟨some 33, _, _, _, _, _⟩ ?_ rfl ?_ (by assumption) ?_
      rotate_left
      · (intro w hSw; (try dsimp only at hSw); go_simp; all_goals with_reducible rfl)
      try simp only [Act.put, sA, sB, sC]
      refine wpAnyH_ready (rs := [1, 8]) (by kernel_rfl) (by simp) ?_
      refine AllReadyH.cons rfl (fun K hK => ?_) (AllReadyH.cons rfl (fun K hK => ?_) (AllReadyH.nil))
      · skip
        go_simp
        refine (hT.out _ (hS.out.below (by (repeat (first | (with_reducible refine Below.drew ?_) | (with_reducible refine below_drewN ?_ _) | (with_reducible refine Below.alloc ?_ (by first | omega | (simp; done) | (simp; omega) | (simp at *; omega)) _) | (with_reducible refine Below.setCell ?_ (by first | omega | (simp; done) | (simp; omega) | (simp at *; omega)) _) | (with_reducible exact Below.refl _ _) | (with_reducible assumption) | (with_reducible refine Below.trans ?_ (Below.mono (by assumption) (by first | omega | (simp; done) | (simp; omega) | (simp at *; omega))))))))).mono ?_
        rintro e yw1 ⟨y1A, y1c, rfl, y1S, hby1⟩
        have zy1 := hby1.size
        try simp at zy1
        obtain ⟨y1_0_0, y1_0_1, y1_1_0, y1_1_1⟩ : yw1.cell? ⟨w.heap.size, 0, none⟩ = some (.int .i64 x) ∧ yw1.cell? ⟨w.heap.size, 1, none⟩ = some (.int .i64 y) ∧ yw1.cell? ⟨m, 0, none⟩ = some (.int .i64 0) ∧ yw1.cell? ⟨m, 1, none⟩ = some (.int .i64 0) := by refine ⟨?_, ?_, ?_, ?_⟩ <;> (rw [(bcell hby1).1 _ _ (by first | (simp; done) | (simp; omega) | omega)]; simp [go_sem, World.cell?_alloc_past, *])
        obtain ⟨y1o0, y1n0, y1m0, y1t0_0, y1t0_1, y1o1, y1n1, y1m1, y1t1_0, y1t1_1⟩ : w.heap.size < yw1.heap.size ∧ yw1.heap.size ≠ w.heap.size ∧ w.heap.size ≠ yw1.heap.size ∧ w.heap.size < yw1.heap.size + 1 ∧ w.heap.size < yw1.heap.size + 1 + 1 ∧ m < yw1.heap.size ∧ yw1.heap.size ≠ m ∧ m ≠ yw1.heap.size ∧ m < yw1.heap.size + 1 ∧ m < yw1.heap.size + 1 + 1 := by refine ⟨?_, ?_, ?_, ?_, ?_, ?_, ?_, ?_, ?_, ?_⟩ <;> omega
        have hBy1 : Below w.heap.size w yw1 := (by (repeat (first | (with_reducible refine Below.drew ?_) | (with_reducible refine below_drewN ?_ _) | (with_reducible refine Below.alloc ?_ (by first | omega | (simp; done) | (simp; omega) | (simp at *; omega)) _) | (with_reducible refine Below.setCell ?_ (by first | omega | (simp; done) | (simp; omega) | (simp at *; omega)) _) | (with_reducible exact Below.refl _ _) | (with_reducible assumption) | (with_reducible refine Below.trans ?_ (Below.mono (by assumption) (by first | omega | (simp; done) | (simp; omega) | (simp at *; omega)))))))
        clear hby1 
        have y1H := Lib.hid y1S
        clear y1S
        go_wp2_with fail
        refine hK.out _ _ (by simp [go_sem, World.cell?_alloc_past, *]) (fun hHeld => ?_)
        clear hK K
        try simp only [Act.put, sA, sB, sC]
        refine wpAnyH_ready (rs := [4, 8]) (by kernel_rfl) (by simp) ?_
        refine AllReadyH.cons rfl (fun K hK => ?_) (AllReadyH.cons rfl (fun K hK => ?_) (AllReadyH.nil))
        · skip
          go_simp
          refine (hR.out y1A y1c _ (y1H.out.below (by (repeat (first | (with_reducible refine Below.drew ?_) | (with_reducible refine below_drewN ?_ _) | (with_reducible refine Below.alloc ?_ (by first | omega | (simp; done) | (simp; omega) | (simp at *; omega)) _) | (with_reducible refine Below.setCell ?_ (by first | omega | (simp; done) | (simp; omega) | (simp at *; omega)) _) | (with_reducible exact Below.refl _ _) | (with_reducible assumption) | (with_reducible refine Below.trans ?_ (Below.mono (by assumption) (by first | omega | (simp; done) | (simp; omega) | (simp at *; omega))))))))).mono ?_
          rintro e yw2 ⟨rfl, hby2⟩
          have zy2 := hby2.size
          try simp at zy2
          obtain ⟨y2_0_0, y2_0_1, y2_1_0, y2_1_1⟩ : yw2.cell? ⟨w.heap.size, 0, none⟩ = some (.int .i64 x) ∧ yw2.cell? ⟨w.heap.size, 1, none⟩ = some (.int .i64 y) ∧ yw2.cell? ⟨m, 0, none⟩ = some (.int .i64 0) ∧ yw2.cell? ⟨m, 1, none⟩ = some (.int .i64 0) := by refine ⟨?_, ?_, ?_, ?_⟩ <;> (rw [(bcell hby2).1 _ _ (by first | (simp; done) | (simp; omega) | omega)]; simp [go_sem, World.cell?_alloc_past, *])
          obtain ⟨y2o0, y2n0, y2m0, y2t0_0, y2t0_1, y2o1, y2n1, y2m1, y2t1_0, y2t1_1⟩ : w.heap.size < yw2.heap.size ∧ yw2.heap.size ≠ w.heap.size ∧ w.heap.size ≠ yw2.heap.size ∧ w.heap.size < yw2.heap.size + 1 ∧ w.heap.size < yw2.heap.size + 1 + 1 ∧ m < yw2.heap.size ∧ yw2.heap.size ≠ m ∧ m ≠ yw2.heap.size ∧ m < yw2.heap.size + 1 ∧ m < yw2.heap.size + 1 + 1 := by refine ⟨?_, ?_, ?_, ?_, ?_, ?_, ?_, ?_, ?_, ?_⟩ <;> omega
          have hBy2 : Below w.heap.size w yw2 := (by (repeat (first | (with_reducible refine Below.drew ?_) | (with_reducible refine below_drewN ?_ _) | (with_reducible refine Below.alloc ?_ (by first | omega | (simp; done) | (simp; omega) | (simp at *; omega)) _) | (with_reducible refine Below.setCell ?_ (by first | omega | (simp; done) | (simp; omega) | (simp at *; omega)) _) | (with_reducible exact Below.refl _ _) | (with_reducible assumption) | (with_reducible refine Below.trans ?_ (Below.mono (by assumption) (by first | omega | (simp; done) | (simp; omega) | (simp at *; omega)))))))
          clear hby2 y1_0_0 y1_0_1 y1_1_0 y1_1_1 y1o0 y1n0 y1m0 y1t0_0 y1t0_1 y1o1 y1n1 y1m1 y1t1_0 y1t1_1 hBy1
          go_wp2_with fail
          refine hK.out _ _ (by simp [go_sem, World.cell?_alloc_past, *]) (fun hHeld => ?_)
          clear hK K
          try simp only [Act.put, sA, sB, sC]
          refine tkH 5 ⟨some 29, _, _, _, _, _⟩ ?_ rfl ?_ (by assumption) ?_
          rotate_left
          · (intro w hSw; (try dsimp only at hSw); go_simp; all_goals with_reducible rfl)
          try simp only [Act.put, sA, sB, sC]
          refine tkH 6 ⟨some 35, _, _, _, _, _⟩ ?_ rfl ?_ (by assumption) ?_
          rotate_left
          · (intro w hSw; (try dsimp only at hSw); go_simp; all_goals with_reducible rfl)
          try simp only [Act.put, sA, sB, sC]
          refine tkH 7 ⟨some 36, _, _, _, _, _⟩ ?_ rfl ?_ (by assumption) ?_
          rotate_left
          · (intro w hSw; (try dsimp only at hSw); go_simp; all_goals with_reducible rfl)
          try simp only [Act.put, sA, sB, sC]
          refine wpAnyH_ready (rs := [8]) (by kernel_rfl) (by simp) ?_
          refine AllReadyH.cons rfl (fun K hK => ?_) (AllReadyH.nil)
          go_simp
          go_wp2_with fail
          refine hK.out _ _ (by simp [go_sem, World.cell?_alloc_past, *]) (fun hHeld => ?_)
          clear hK K
          try simp only [Act.put, sA, sB, sC]
          refine wpAnyH_ready (rs := [9]) (by kernel_rfl) (by simp) ?_
          refine AllReadyH.cons rfl (fun K hK => ?_) (AllReadyH.nil)
          go_simp
          go_wp2_with fail
          refine hK.out _ _ (by simp [go_sem, World.cell?_alloc_past, *]) (fun hHeld => ?_)
          clear hK K
          try simp only [Act.put, sA, sB, sC]
          refine tkH 10 ⟨some 10, _, _, _, _, _⟩ ?_ rfl ?_ (by assumption) ?_
          rotate_left
          · (intro w hSw; (try dsimp only at hSw); go_simp; all_goals with_reducible rfl)
          try simp only [Act.put, sA, sB, sC]
          refine wpAnyH_done (by kernel_rfl) ?_ _
          go_wp2_with fail
          go_meet
          refine ⟨yw2.heap.size, rfl, rfl, by first | omega | (simp; done) | (simp; omega), by first | omega | (simp; done) | (simp; omega), by first | omega | (simp; done) | (simp; omega), ⟨(by simp [go_sem, World.cell?_alloc_past, *]), (by simp [go_sem, World.cell?_alloc_past, *]), (by simp [go_sem, World.cell?_alloc_past, *]), (by simp [go_sem, World.cell?_alloc_past, *]), (by simp [go_sem, World.cell?_alloc_past, *]), (by simp [go_sem, World.cell?_alloc_past, *])⟩, ?_⟩
          (repeat (first | (with_reducible refine Below.drew ?_) | (with_reducible refine below_drewN ?_ _) | (with_reducible refine Below.alloc ?_ (by first | omega | (simp; done) | (simp; omega) | (simp at *; omega)) _) | (with_reducible refine Below.setCell ?_ (by first | omega | (simp; done) | (simp; omega) | (simp at *; omega)) _) | (with_reducible exact Below.refl _ _) | (with_reducible assumption) | (with_reducible refine Below.trans ?_ (Below.mono (by assumption) (by first | omega | (simp; done) | (simp; omega) | (simp at *; omega))))))
        · skip
          go_simp
          go_wp2_with fail
          refine hK.out _ _ (by simp [go_sem, World.cell?_alloc_past, *]) (fun hHeld => ?_)
          clear hK K
          try simp only [Act.put, sA, sB, sC]
          refine wpAnyH_ready (rs := [4]) (by kernel_rfl) (by simp) ?_
          refine AllReadyH.cons rfl (fun K hK => ?_) (AllReadyH.nil)
          go_simp
          refine (hR.out y1A y1c _ (y1H.out.below (by (repeat (first | (with_reducible refine Below.drew ?_) | (with_reducible refine below_drewN ?_ _) | (with_reducible refine Below.alloc ?_ (by first | omega | (simp; done) | (simp; omega) | (simp at *; omega)) _) | (with_reducible refine Below.setCell ?_ (by first | omega | (simp; done) | (simp; omega) | (simp at *; omega)) _) | (with_reducible exact Below.refl _ _) | (with_reducible assumption) | (with_reducible refine Below.trans ?_ (Below.mono (by assumption) (by first | omega | (simp; done) | (simp; omega) | (simp at *; omega))))))))).mono ?_
          rintro e yw2 ⟨rfl, hby2⟩
          have zy2 := hby2.size
          try simp at zy2
          obtain ⟨y2_0_0, y2_0_1, y2_1_0, y2_1_1, y2_2_0, y2_2_1⟩ : yw2.cell? ⟨w.heap.size, 0, none⟩ = some (.int .i64 x) ∧ yw2.cell? ⟨w.heap.size, 1, none⟩ = some (.int .i64 y) ∧ yw2.cell? ⟨m, 0, none⟩ = some (.int .i64 0) ∧ yw2.cell? ⟨m, 1, none⟩ = some (.int .i64 0) ∧ yw2.cell? ⟨yw1.heap.size, 0, none⟩ = some (.int .i64 0) ∧ yw2.cell? ⟨yw1.heap.size, 1, none⟩ = some (.int .i64 0) := by refine ⟨?_, ?_, ?_, ?_, ?_, ?_⟩ <;> (rw [(bcell hby2).1 _ _ (by first | (simp; done) | (simp; omega) | omega)]; simp [go_sem, World.cell?_alloc_past, *])
          have y2f2 : (∀ j, yw2.frozen? ⟨yw1.heap.size, j, none⟩ = false) := by (intro j; rw [(bcell hby2).2 _ _ (by first | (simp; done) | (simp; omega) | omega)]; simp [go_sem, *])
          obtain ⟨y2o0, y2n0, y2m0, y2t0_0, y2t0_1, y2o1, y2n1, y2m1, y2t1_0, y2t1_1, y2o2, y2n2, y2m2, y2t2_0, y2t2_1⟩ : w.heap.size < yw2.heap.size ∧ yw2.heap.size ≠ w.heap.size ∧ w.heap.size ≠ yw2.heap.size ∧ w.heap.size < yw2.heap.size + 1 ∧ w.heap.size < yw2.heap.size + 1 + 1 ∧ m < yw2.heap.size ∧ yw2.heap.size ≠ m ∧ m ≠ yw2.heap.size ∧ m < yw2.heap.size + 1 ∧ m < yw2.heap.size + 1 + 1 ∧ yw1.heap.size < yw2.heap.size ∧ yw2.heap.size ≠ yw1.heap.size ∧ yw1.heap.size ≠ yw2.heap.size ∧ yw1.heap.size < yw2.heap.size + 1 ∧ yw1.heap.size < yw2.heap.size + 1 + 1 := by refine ⟨?_, ?_, ?_, ?_, ?_, ?_, ?_, ?_, ?_, ?_, ?_, ?_, ?_, ?_, ?_⟩ <;> omega
          have hBy2 : Below w.heap.size w yw2 := (by (repeat (first | (with_reducible refine Below.drew ?_) | (with_reducible refine below_drewN ?_ _) | (with_reducible refine Below.alloc ?_ (by first | omega | (simp; done) | (simp; omega) | (simp at *; omega)) _) | (with_reducible refine Below.setCell ?_ (by first | omega | (simp; done) | (simp; omega) | (simp at *; omega)) _) | (with_reducible exact Below.refl _ _) | (with_reducible assumption) | (with_reducible refine Below.trans ?_ (Below.mono (by assumption) (by first | omega | (simp; done) | (simp; omega) | (simp at *; omega)))))))
          clear hby2 y1_0_0 y1_0_1 y1_1_0 y1_1_1 y1o0 y1n0 y1m0 y1t0_0 y1t0_1 y1o1 y1n1 y1m1 y1t1_0 y1t1_1 hBy1
          go_wp2_with fail
          refine hK.out _ _ (by simp [go_sem, World.cell?_alloc_past, *]) (fun hHeld => ?_)
          clear hK K
          try simp only [Act.put, sA, sB, sC]
          refine tkH 5 ⟨some 29, _, _, _, _, _⟩ ?_ rfl ?_ (by assumption) ?_
          rotate_left
          · (intro w hSw; (try dsimp only at hSw); go_simp; all_goals with_reducible rfl)
          try simp only [Act.put, sA, sB, sC]
          refine tkH 6 ⟨some 35, _, _, _, _, _⟩ ?_ rfl ?_ (by assumption) ?_
          rotate_left
          · (intro w hSw; (try dsimp only at hSw); go_simp; all_goals with_reducible rfl)
          try simp only [Act.put, sA, sB, sC]
          refine tkH 7 ⟨some 36, _, _, _, _, _⟩ ?_ rfl ?_ (by assumption) ?_
          rotate_left
          · (intro w hSw; (try dsimp only at hSw); go_simp; all_goals with_reducible rfl)
          try simp only [Act.put, sA, sB, sC]
          refine wpAnyH_ready (rs := [9]) (by kernel_rfl) (by simp) ?_
          refine AllReadyH.cons rfl (fun K hK => ?_) (AllReadyH.nil)
          go_simp
          go_wp2_with fail
          refine hK.out _ _ (by simp [go_sem, World.cell?_alloc_past, *]) (fun hHeld => ?_)
          clear hK K
          try simp only [Act.put, sA, sB, sC]
          refine tkH 10 ⟨some 10, _, _, _, _, _⟩ ?_ rfl ?_ (by assumption) ?_
          rotate_left
          · (intro w hSw; (try dsimp only at hSw); go_simp; all_goals with_reducible rfl)
          try simp only [Act.put, sA, sB, sC]
          refine wpAnyH_done (by kernel_rfl) ?_ _
          go_wp2_with fail
          go_meet
          refine ⟨yw1.heap.size, rfl, rfl, by first | omega | (simp; done) | (simp; omega), by first | omega | (simp; done) | (simp; omega), by first | omega | (simp; done) | (simp; omega), ⟨(by simp [go_sem, World.cell?_alloc_past, *]), (by simp [go_sem, World.cell?_alloc_past, *]), (by simp [go_sem, World.cell?_alloc_past, *]), (by simp [go_sem, World.cell?_alloc_past, *]), (by simp [go_sem, World.cell?_alloc_past, *]), (by simp [go_sem, World.cell?_alloc_past, *])⟩, ?_⟩
          (repeat (first | (with_reducible refine Below.drew ?_) | (with_reducible refine below_drewN ?_ _) | (with_reducible refine Below.alloc ?_ (by first | omega | (simp; done) | (simp; omega) | (simp at *; omega)) _) | (with_reducible refine Below.setCell ?_ (by first | omega | (simp; done) | (simp; omega) | (simp at *; omega)) _) | (with_reducible exact Below.refl _ _) | (with_reducible assumption) | (with_reducible refine Below.trans ?_ (Below.mono (by assumption) (by first | omega | (simp; done) | (simp; omega) | (simp at *; omega))))))
      · skip
        go_simp
        go_wp2_with fail
        refine hK.out _ _ (by simp [go_sem, World.cell?_alloc_past, *]) (fun hHeld => ?_)
        clear hK K
        try simp only [Act.put, sA, sB, sC]
        refine wpAnyH_ready (rs := [1]) (by kernel_rfl) (by simp) ?_
        refine AllReadyH.cons rfl (fun K hK => ?_) (AllReadyH.nil)
        go_simp
        refine (hT.out _ (hS.out.below (by (repeat (first | (with_reducible refine Below.drew ?_) | (with_reducible refine below_drewN ?_ _) | (with_reducible refine Below.alloc ?_ (by first | omega | (simp; done) | (simp; omega) | (simp at *; omega)) _) | (with_reducible refine Below.setCell ?_ (by first | omega | (simp; done) | (simp; omega) | (simp at *; omega)) _) | (with_reducible exact Below.refl _ _) | (with_reducible assumption) | (with_reducible refine Below.trans ?_ (Below.mono (by assumption) (by first | omega | (simp; done) | (simp; omega) | (simp at *; omega))))))))).mono ?_
        rintro e yw1 ⟨y1A, y1c, rfl, y1S, hby1⟩
        have zy1 := hby1.size
        try simp at zy1
        obtain ⟨y1_0_0, y1_0_1, y1_1_0, y1_1_1, y1_2_0, y1_2_1⟩ : yw1.cell? ⟨w.heap.size, 0, none⟩ = some (.int .i64 x) ∧ yw1.cell? ⟨w.heap.size, 1, none⟩ = some (.int .i64 y) ∧ yw1.cell? ⟨m, 0, none⟩ = some (.int .i64 0) ∧ yw1.cell? ⟨m, 1, none⟩ = some (.int .i64 0) ∧ yw1.cell? ⟨wc.heap.size, 0, none⟩ = some (.int .i64 0) ∧ yw1.cell? ⟨wc.heap.size, 1, none⟩ = some (.int .i64 0) := by refine ⟨?_, ?_, ?_, ?_, ?_, ?_⟩ <;> (rw [(bcell hby1).1 _ _ (by first | (simp; done) | (simp; omega) | omega)]; simp [go_sem, World.cell?_alloc_past, *])
        have y1f2 : (∀ j, yw1.frozen? ⟨wc.heap.size, j, none⟩ = false) := by (intro j; rw [(bcell hby1).2 _ _ (by first | (simp; done) | (simp; omega) | omega)]; simp [go_sem, *])
        obtain ⟨y1o0, y1n0, y1m0, y1t0_0, y1t0_1, y1o1, y1n1, y1m1, y1t1_0, y1t1_1, y1o2, y1n2, y1m2, y1t2_0, y1t2_1⟩ : w.heap.size < yw1.heap.size ∧ yw1.heap.size ≠ w.heap.size ∧ w.heap.size ≠ yw1.heap.size ∧ w.heap.size < yw1.heap.size + 1 ∧ w.heap.size < yw1.heap.size + 1 + 1 ∧ m < yw1.heap.size ∧ yw1.heap.size ≠ m ∧ m ≠ yw1.heap.size ∧ m < yw1.heap.size + 1 ∧ m < yw1.heap.size + 1 + 1 ∧ wc.heap.size < yw1.heap.size ∧ yw1.heap.size ≠ wc.heap.size ∧ wc.heap.size ≠ yw1.heap.size ∧ wc.heap.size < yw1.heap.size + 1 ∧ wc.heap.size < yw1.heap.size + 1 + 1 := by refine ⟨?_, ?_, ?_, ?_, ?_, ?_, ?_, ?_, ?_, ?_, ?_, ?_, ?_, ?_, ?_⟩ <;> omega
        have hBy1 : Below w.heap.size w yw1 := (by (repeat (first | (with_reducible refine Below.drew ?_) | (with_reducible refine below_drewN ?_ _) | (with_reducible refine Below.alloc ?_ (by first | omega | (simp; done) | (simp; omega) | (simp at *; omega)) _) | (with_reducible refine Below.setCell ?_ (by first | omega | (simp; done) | (simp; omega) | (simp at *; omega)) _) | (with_reducible exact Below.refl _ _) | (with_reducible assumption) | (with_reducible refine Below.trans ?_ (Below.mono (by assumption) (by first | omega | (simp; done) | (simp; omega) | (simp at *; omega)))))))
        clear hby1 
        have y1H := Lib.hid y1S
        clear y1S
        go_wp2_with fail
        refine hK.out _ _ (by simp [go_sem, World.cell?_alloc_past, *]) (fun hHeld => ?_)
        clear hK K
        try simp only [Act.put, sA, sB, sC]
        refine wpAnyH_ready (rs := [4]) (by kernel_rfl) (by simp) ?_
        refine AllReadyH.cons rfl (fun K hK => ?_) (AllReadyH.nil)
        go_simp
        refine (hR.out y1A y1c _ (y1H.out.below (by (repeat (first | (with_reducible refine Below.drew ?_) | (with_reducible refine below_drewN ?_ _) | (with_reducible refine Below.alloc ?_ (by first | omega | (simp; done) | (simp; omega) | (simp at *; omega)) _) | (with_reducible refine Below.setCell ?_ (by first | omega | (simp; done) | (simp; omega) | (simp at *; omega)) _) | (with_reducible exact Below.refl _ _) | (with_reducible assumption) | (with_reducible refine Below.trans ?_ (Below.mono (by assumption) (by first | omega | (simp; done) | (simp; omega) | (simp at *; omega))))))))).mono ?_
        rintro e yw2 ⟨rfl, hby2⟩
        have zy2 := hby2.size
        try simp at zy2
        obtain ⟨y2_0_0, y2_0_1, y2_1_0, y2_1_1, y2_2_0, y2_2_1⟩ : yw2.cell? ⟨w.heap.size, 0, none⟩ = some (.int .i64 x) ∧ yw2.cell? ⟨w.heap.size, 1, none⟩ = some (.int .i64 y) ∧ yw2.cell? ⟨m, 0, none⟩ = some (.int .i64 0) ∧ yw2.cell? ⟨m, 1, none⟩ = some (.int .i64 0) ∧ yw2.cell? ⟨wc.heap.size, 0, none⟩ = some (.int .i64 0) ∧ yw2.cell? ⟨wc.heap.size, 1, none⟩ = some (.int .i64 0) := by refine ⟨?_, ?_, ?_, ?_, ?_, ?_⟩ <;> (rw [(bcell hby2).1 _ _ (by first | (simp; done) | (simp; omega) | omega)]; simp [go_sem, World.cell?_alloc_past, *])
        have y2f2 : (∀ j, yw2.frozen? ⟨wc.heap.size, j, none⟩ = false) := by (intro j; rw [(bcell hby2).2 _ _ (by first | (simp; done) | (simp; omega) | omega)]; simp [go_sem, *])
        obtain ⟨y2o0, y2n0, y2m0, y2t0_0, y2t0_1, y2o1, y2n1, y2m1, y2t1_0, y2t1_1, y2o2, y2n2, y2m2, y2t2_0, y2t2_1⟩ : w.heap.size < yw2.heap.size ∧ yw2.heap.size ≠ w.heap.size ∧ w.heap.size ≠ yw2.heap.size ∧ w.heap.size < yw2.heap.size + 1 ∧ w.heap.size < yw2.heap.size + 1 + 1 ∧ m < yw2.heap.size ∧ yw2.heap.size ≠ m ∧ m ≠ yw2.heap.size ∧ m < yw2.heap.size + 1 ∧ m < yw2.heap.size + 1 + 1 ∧ wc.heap.size < yw2.heap.size ∧ yw2.heap.size ≠ wc.heap.size ∧ wc.heap.size ≠ yw2.heap.size ∧ wc.heap.size < yw2.heap.size + 1 ∧ wc.heap.size < yw2.heap.size + 1 + 1 := by refine ⟨?_, ?_, ?_, ?_, ?_, ?_, ?_, ?_, ?_, ?_, ?_, ?_, ?_, ?_, ?_⟩ <;> omega
        have hBy2 : Below w.heap.size w yw2 := (by (repeat (first | (with_reducible refine Below.drew ?_) | (with_reducible refine below_drewN ?_ _) | (with_reducible refine Below.alloc ?_ (by first | omega | (simp; done) | (simp; omega) | (simp at *; omega)) _) | (with_reducible refine Below.setCell ?_ (by first | omega | (simp; done) | (simp; omega) | (simp at *; omega)) _) | (with_reducible exact Below.refl _ _) | (with_reducible assumption) | (with_reducible refine Below.trans ?_ (Below.mono (by assumption) (by first | omega | (simp; done) | (simp; omega) | (simp at *; omega)))))))
        clear hby2 y1_0_0 y1_0_1 y1_1_0 y1_1_1 y1_2_0 y1_2_1 y1f2 y1o0 y1n0 y1m0 y1t0_0 y1t0_1 y1o1 y1n1 y1m1 y1t1_0 y1t1_1 y1o2 y1n2 y1m2 y1t2_0 y1t2_1 hBy1
        go_wp2_with fail
        refine hK.out _ _ (by simp [go_sem, World.cell?_alloc_past, *]) (fun hHeld => ?_)
        clear hK K
        try simp only [Act.put, sA, sB, sC]
        refine tkH 5 ⟨some 29, _, _, _, _, _⟩ ?_ rfl ?_ (by assumption) ?_
        rotate_left
        · (intro w hSw; (try dsimp only at hSw); go_simp; all_goals with_reducible rfl)
        try simp only [Act.put, sA, sB, sC]
        refine tkH 6 ⟨some 35, _, _, _, _, _⟩ ?_ rfl ?_ (by assumption) ?_
        rotate_left
        · (intro w hSw; (try dsimp only at hSw); go_simp; all_goals with_reducible rfl)
        try simp only [Act.put, sA, sB, sC]
        refine tkH 7 ⟨some 36, _, _, _, _, _⟩ ?_ rfl ?_ (by assumption) ?_
        rotate_left
        · (intro w hSw; (try dsimp only at hSw); go_simp; all_goals with_reducible rfl)
        try simp only [Act.put, sA, sB, sC]
        refine wpAnyH_ready (rs := [9]) (by kernel_rfl) (by simp) ?_
        refine AllReadyH.cons rfl (fun K hK => ?_) (AllReadyH.nil)
        go_simp
        go_wp2_with fail
        refine hK.out _ _ (by simp [go_sem, World.cell?_alloc_past, *]) (fun hHeld => ?_)
        clear hK K
        try simp only [Act.put, sA, sB, sC]
        refine tkH 10 ⟨some 10, _, _, _, _, _⟩ ?_ rfl ?_ (by assumption) ?_
        rotate_left
        · (intro w hSw; (try dsimp only at hSw); go_simp; all_goals with_reducible rfl)
        try simp only [Act.put, sA, sB, sC]
        refine wpAnyH_done (by kernel_rfl) ?_ _
        go_wp2_with fail
        go_meet
        refine ⟨wc.heap.size, rfl, rfl, by first | omega | (simp; done) | (simp; omega), by first | omega | (simp; done) | (simp; omega), by first | omega | (simp; done) | (simp; omega), ⟨(by simp [go_sem, World.cell?_alloc_past, *]), (by simp [go_sem, World.cell?_alloc_past, *]), (by simp [go_sem, World.cell?_alloc_past, *]), (by simp [go_sem, World.cell?_alloc_past, *]), (by simp [go_sem, World.cell?_alloc_past, *]), (by simp [go_sem, World.cell?_alloc_past, *])⟩, ?_⟩
        (repeat (first | (with_reducible refine Below.drew ?_) | (with_reducible refine below_drewN ?_ _) | (with_reducible refine Below.alloc ?_ (by first | omega | (simp; done) | (simp; omega) | (simp at *; omega)) _) | (with_reducible refine Below.setCell ?_ (by first | omega | (simp; done) | (simp; omega) | (simp at *; omega)) _) | (with_reducible exact Below.refl _ _) | (with_reducible assumption) | (with_reducible refine Below.trans ?_ (Below.mono (by assumption) (by first | omega | (simp; done) | (simp; omega) | (simp at *; omega))))))
    case rest =>
      obtain ⟨k, rfl, rfl, lk, lm2, gk, ⟨p0, p1, p2, p3, p4, p5⟩, pB⟩ := hcut
      have c1 : w.heap.size < wc.heap.size := by omega
      clear kB k0 k1 k2 k3 o1 o2 o3 o4 o5 lm
      go_wp2_with fail
      refine (hC2.out A cap _ (hS.out.below (by (repeat (first | (with_reducible refine Below.drew ?_) | (with_reducible refine below_drewN ?_ _) | (with_reducible refine Below.alloc ?_ (by first | omega | (simp; done) | (simp; omega) | (simp at *; omega)) _) | (with_reducible refine Below.setCell ?_ (by first | omega | (simp; done) | (simp; omega) | (simp at *; omega)) _) | (with_reducible exact Below.refl _ _) | (with_reducible assumption) | (with_reducible refine Below.trans ?_ (Below.mono (by assumption) (by first | omega | (simp; done) | (simp; omega) | (simp at *; omega))))))))).mono ?_
      rintro e zw1 ⟨rfl, hbz1⟩
      have zz1 := hbz1.size
      try simp at zz1
      obtain ⟨z1_0_0, z1_0_1, z1_1_0, z1_1_1, z1_2_0, z1_2_1⟩ : zw1.cell? ⟨w.heap.size, 0, none⟩ = some (.int .i64 x) ∧ zw1.cell? ⟨w.heap.size, 1, none⟩ = some (.int .i64 y) ∧ zw1.cell? ⟨m, 0, none⟩ = some (.int .i64 0) ∧ zw1.cell? ⟨m, 1, none⟩ = some (.int .i64 0) ∧ zw1.cell? ⟨k, 0, none⟩ = some (.int .i64 0) ∧ zw1.cell? ⟨k, 1, none⟩ = some (.int .i64 0) := by refine ⟨?_, ?_, ?_, ?_, ?_, ?_⟩ <;> (rw [(bcell hbz1).1 _ _ (by first | (simp; done) | (simp; omega) | omega)]; simp [go_sem, World.cell?_alloc_past, *])
      obtain ⟨z1o0, z1n0, z1m0, z1t0_0, z1t0_1, z1o1, z1n1, z1m1, z1t1_0, z1t1_1, z1o2, z1n2, z1m2, z1t2_0, z1t2_1⟩ : w.heap.size < zw1.heap.size ∧ zw1.heap.size ≠ w.heap.size ∧ w.heap.size ≠ zw1.heap.size ∧ w.heap.size < zw1.heap.size + 1 ∧ w.heap.size < zw1.heap.size + 1 + 1 ∧ m < zw1.heap.size ∧ zw1.heap.size ≠ m ∧ m ≠ zw1.heap.size ∧ m < zw1.heap.size + 1 ∧ m < zw1.heap.size + 1 + 1 ∧ k < zw1.heap.size ∧ zw1.heap.size ≠ k ∧ k ≠ zw1.heap.size ∧ k < zw1.heap.size + 1 ∧ k < zw1.heap.size + 1 + 1 := by refine ⟨?_, ?_, ?_, ?_, ?_, ?_, ?_, ?_, ?_, ?_, ?_, ?_, ?_, ?_, ?_⟩ <;> omega
      have hBz1 : Below w.heap.size w zw1 := (by (repeat (first | (with_reducible refine Below.drew ?_) | (with_reducible refine below_drewN ?_ _) | (with_reducible refine Below.alloc ?_ (by first | omega | (simp; done) | (simp; omega) | (simp at *; omega)) _) | (with_reducible refine Below.setCell ?_ (by first | omega | (simp; done) | (simp; omega) | (simp at *; omega)) _) | (with_reducible exact Below.refl _ _) | (with_reducible assumption) | (with_reducible refine Below.trans ?_ (Below.mono (by assumption) (by first | omega | (simp; done) | (simp; omega) | (simp at *; omega)))))))
      clear hbz1 
      go_wp2_with fail
      refine (hT.out _ (hS.out.below (by (repeat (first | (with_reducible refine Below.drew ?_) | (with_reducible refine below_drewN ?_ _) | (with_reducible refine Below.alloc ?_ (by first | omega | (simp; done) | (simp; omega) | (simp at *; omega)) _) | (with_reducible refine Below.setCell ?_ (by first | omega | (simp; done) | (simp; omega) | (simp at *; omega)) _) | (with_reducible exact Below.refl _ _) | (with_reducible assumption) | (with_reducible refine Below.trans ?_ (Below.mono (by assumption) (by first | omega | (simp; done) | (simp; omega) | (simp at *; omega))))))))).mono ?_
      rintro e zw2 ⟨z2A, z2c, rfl, z2S, hbz2⟩
      have zz2 := hbz2.size
      try simp at zz2
      obtain ⟨z2_0_0, z2_0_1, z2_1_0, z2_1_1, z2_2_0, z2_2_1⟩ : zw2.cell? ⟨w.heap.size, 0, none⟩ = some (.int .i64 x) ∧ zw2.cell? ⟨w.heap.size, 1, none⟩ = some (.int .i64 y) ∧ zw2.cell? ⟨m, 0, none⟩ = some (.int .i64 0) ∧ zw2.cell? ⟨m, 1, none⟩ = some (.int .i64 0) ∧ zw2.cell? ⟨k, 0, none⟩ = some (.int .i64 0) ∧ zw2.cell? ⟨k, 1, none⟩ = some (.int .i64 0) := by refine ⟨?_, ?_, ?_, ?_, ?_, ?_⟩ <;> (rw [(bcell hbz2).1 _ _ (by first | (simp; done) | (simp; omega) | omega)]; simp [go_sem, World.cell?_alloc_past, *])
      obtain ⟨z2o0, z2n0, z2m0, z2t0_0, z2t0_1, z2o1, z2n1, z2m1, z2t1_0, z2t1_1, z2o2, z2n2, z2m2, z2t2_0, z2t2_1⟩ : w.heap.size < zw2.heap.size ∧ zw2.heap.size ≠ w.heap.size ∧ w.heap.size ≠ zw2.heap.size ∧ w.heap.size < zw2.heap.size + 1 ∧ w.heap.size < zw2.heap.size + 1 + 1 ∧ m < zw2.heap.size ∧ zw2.heap.size ≠ m ∧ m ≠ zw2.heap.size ∧ m < zw2.heap.size + 1 ∧ m < zw2.heap.size + 1 + 1 ∧ k < zw2.heap.size ∧ zw2.heap.size ≠ k ∧ k ≠ zw2.heap.size ∧ k < zw2.heap.size + 1 ∧ k < zw2.heap.size + 1 + 1 := by refine ⟨?_, ?_, ?_, ?_, ?_, ?_, ?_, ?_, ?_, ?_, ?_, ?_, ?_, ?_, ?_⟩ <;> omega
      have hBz2 : Below w.heap.size w zw2 := (by (repeat (first | (with_reducible refine Below.drew ?_) | (with_reducible refine below_drewN ?_ _) | (with_reducible refine Below.alloc ?_ (by first | omega | (simp; done) | (simp; omega) | (simp at *; omega)) _) | (with_reducible refine Below.setCell ?_ (by first | omega | (simp; done) | (simp; omega) | (simp at *; omega)) _) | (with_reducible exact Below.refl _ _) | (with_reducible assumption) | (with_reducible refine Below.trans ?_ (Below.mono (by assumption) (by first | omega | (simp; done) | (simp; omega) | (simp at *; omega)))))))
      clear hbz2 z1_0_0 z1_0_1 z1_1_0 z1_1_1 z1_2_0 z1_2_1 z1o0 z1n0 z1m0 z1t0_0 z1t0_1 z1o1 z1n1 z1m1 z1t1_0 z1t1_1 z1o2 z1n2 z1m2 z1t2_0 z1t2_1 hBz1
      have z2H := Lib.hid z2S
      clear z2S
      go_wp2_with fail
      refine (hC.out z2A z2c _ (z2H.out.below (by (repeat (first | (with_reducible refine Below.drew ?_) | (with_reducible refine below_drewN ?_ _) | (with_reducible refine Below.alloc ?_ (by first | omega | (simp; done) | (simp; omega) | (simp at *; omega)) _) | (with_reducible refine Below.setCell ?_ (by first | omega | (simp; done) | (simp; omega) | (simp at *; omega)) _) | (with_reducible exact Below.refl _ _) | (with_reducible assumption) | (with_reducible refine Below.trans ?_ (Below.mono (by assumption) (by first | omega | (simp; done) | (simp; omega) | (simp at *; omega))))))))).mono ?_
      rintro e zw3 ⟨rfl, hbz3⟩
      have zz3 := hbz3.size
      try simp at zz3
      obtain ⟨z3_0_0, z3_0_1, z3_1_0, z3_1_1, z3_2_0, z3_2_1⟩ : zw3.cell? ⟨w.heap.size, 0, none⟩ = some (.int .i64 x) ∧ zw3.cell? ⟨w.heap.size, 1, none⟩ = some (.int .i64 y) ∧ zw3.cell? ⟨m, 0, none⟩ = some (.int .i64 0) ∧ zw3.cell? ⟨m, 1, none⟩ = some (.int .i64 0) ∧ zw3.cell? ⟨k, 0, none⟩ = some (.int .i64 0) ∧ zw3.cell? ⟨k, 1, none⟩ = some (.int .i64 0) := by refine ⟨?_, ?_, ?_, ?_, ?_, ?_⟩ <;> (rw [(bcell hbz3).1 _ _ (by first | (simp; done) | (simp; omega) | omega)]; simp [go_sem, World.cell?_alloc_past, *])
      obtain ⟨z3o0, z3n0, z3m0, z3t0_0, z3t0_1, z3o1, z3n1, z3m1, z3t1_0, z3t1_1, z3o2, z3n2, z3m2, z3t2_0, z3t2_1⟩ : w.heap.size < zw3.heap.size ∧ zw3.heap.size ≠ w.heap.size ∧ w.heap.size ≠ zw3.heap.size ∧ w.heap.size < zw3.heap.size + 1 ∧ w.heap.size < zw3.heap.size + 1 + 1 ∧ m < zw3.heap.size ∧ zw3.heap.size ≠ m ∧ m ≠ zw3.heap.size ∧ m < zw3.heap.size + 1 ∧ m < zw3.heap.size + 1 + 1 ∧ k < zw3.heap.size ∧ zw3.heap.size ≠ k ∧ k ≠ zw3.heap.size ∧ k < zw3.heap.size + 1 ∧ k < zw3.heap.size + 1 + 1 := by refine ⟨?_, ?_, ?_, ?_, ?_, ?_, ?_, ?_, ?_, ?_, ?_, ?_, ?_, ?_, ?_⟩ <;> omega
      have hBz3 : Below w.heap.size w zw3 := (by (repeat (first | (with_reducible refine Below.drew ?_) | (with_reducible refine below_drewN ?_ _) | (with_reducible refine Below.alloc ?_ (by first | omega | (simp; done) | (simp; omega) | (simp at *; omega)) _) | (with_reducible refine Below.setCell ?_ (by first | omega | (simp; done) | (simp; omega) | (simp at *; omega)) _) | (with_reducible exact Below.refl _ _) | (with_reducible assumption) | (with_reducible refine Below.trans ?_ (Below.mono (by assumption) (by first | omega | (simp; done) | (simp; omega) | (simp at *; omega)))))))
      clear hbz3 z2_0_0 z2_0_1 z2_1_0 z2_1_1 z2_2_0 z2_2_1 z2o0 z2n0 z2m0 z2t0_0 z2t0_1 z2o1 z2n1 z2m1 z2t1_0 z2t1_1 z2o2 z2n2 z2m2 z2t2_0 z2t2_1 hBz2
      go_wp2
      go_ret
      exact ⟨rfl, (by (repeat (first | (with_reducible refine Below.drew ?_) | (with_reducible refine below_drewN ?_ _) | (with_reducible refine Below.alloc ?_ (by first | omega | (simp; done) | (simp; omega) | (simp at *; omega)) _) | (with_reducible refine Below.setCell ?_ (by first | omega | (simp; done) | (simp; omega) | (simp at *; omega)) _) | (with_reducible exact Below.refl _ _) | (with_reducible assumption) | (with_reducible refine Below.trans ?_ (Below.mono (by assumption) (by first | omega | (simp; done) | (simp; omega) | (simp at *; omega)))))))⟩
set_option maxHeartbeats 8000000 in
set_option maxRecDepth 100000 in
theorem mixFactors_2 (L : List Fc) (A : Option Addr) (cap n : Nat) (x y v l u e1 q r d P Q S : Int) (w : World) (hT : Hid (∀ w', SlRows fcV 3 w' A L → Calls Try.prog 45 #[.slice A n cap] w' (CopiedF n L w'))) (hS : Hid (SlRows fcV 3 w A L)) (hF : Hid (∀ A cap w, SlRows fcV 3 w A L → Calls Try.prog 44 #[.slice A n cap, .int .i64 x] w fun e w' => e = .returned (.tuple #[.agg #[.int .i64 l, .int .i64 u], .int .i64 e1]) ∧ Below w.heap.size w w')) (hR : Hid (∀ A cap w, SlRows fcV 3 w A L → Calls Try.prog 46 #[.slice A n cap, .agg #[.int .i64 x, .int .i64 y], .int .i64 v] w fun e w' => e = .returned (.tuple #[.agg #[.int .i64 q, .int .i64 r], .int .i64 d]) ∧ Below w.heap.size w w')) (hC : Hid (∀ A cap w, SlRows fcV 3 w A L → Calls Try.prog 48 #[.slice A n cap] w fun e w' => e = .returned (.int .i64 0) ∧ Below w.heap.size w w')) (hC2 : Hid (∀ A cap w, SlRows fcV 3 w A L → Calls Try.prog 47 #[.slice A n cap] w fun e w' => e = .returned (.int .i64 0) ∧ Below w.heap.size w w')) (hfew : Hid (fewB n = true)) (hn : n ≤ maxLen) (b : Bool) (hF2 : Hid (∀ A cap w, SlRows fcV 3 w A L → Calls Try.prog 49 #[.slice A n cap, .int .i64 x] w fun e w' => e = .returned (.tuple #[.agg #[.int .i64 l, .int .i64 u], .bool b]) ∧ Below w.heap.size w w')) (hR2 : Hid (∀ A cap w, SlRows fcV 3 w A L → Calls Try.prog 50 #[.slice A n cap, .agg #[.int .i64 x, .int .i64 y], .int .i64 v] w fun e w' => e = .returned (.tuple #[.agg #[.int .i64 q, .int .i64 r], .int .i64 d]) ∧ Below w.heap.size w w')) (hP : Hid (x * v = P)) (hQ : Hid (q * u = Q)) (hS2 : Hid (r * l = S)) (hway : (b = false ∧ e1 = 2 ∧ l = 0 ∧ u = 0 ∧ (d != 0) = true) ∨ (b = true ∧ e1 = 0 ∧ (d != 0) = true) ∨ (b = true ∧ e1 = 0 ∧ d = 0 ∧ 0 ≤ P ∧ P ≤ 400000000000 ∧ 0 ≤ Q ∧ Q ≤ P ∧ P ≤ S ∧ S ≤ 1000000000000000)) : Calls Try.prog 10 #[.slice A n cap, .agg #[.int .i64 x, .int .i64 y], .int .i64 v] w fun e w' => e = .returned (.bool true) ∧ Below w.heap.size w w' := by
  have HW := Lib.hid hway
  clear hway
  go_enter Try.func10, Try.ntmps10
  go_wp2_with fail
  refine (fawake_any _).mono ?_
  rintro e xw1 ⟨rfl, hbx1⟩
  have zx1 := hbx1.size
  try simp at zx1
  obtain ⟨x1_0_0, x1_0_1⟩ : xw1.cell? ⟨w.heap.size, 0, none⟩ = some (.int .i64 x) ∧ xw1.cell? ⟨w.heap.size, 1, none⟩ = some (.int .i64 y) := by refine ⟨?_, ?_⟩ <;> (rw [(bcell hbx1).1 _ _ (by first | (simp; done) | (simp; omega) | omega)]; simp [go_sem, World.cell?_alloc_past, *])
  obtain ⟨x1o0, x1n0, x1m0, x1t0_0, x1t0_1⟩ : w.heap.size < xw1.heap.size ∧ xw1.heap.size ≠ w.heap.size ∧ w.heap.size ≠ xw1.heap.size ∧ w.heap.size < xw1.heap.size + 1 ∧ w.heap.size < xw1.heap.size + 1 + 1 := by refine ⟨?_, ?_, ?_, ?_, ?_⟩ <;> omega
  have hBx1 : Below w.heap.size w xw1 := (by (repeat (first | (with_reducible refine Below.drew ?_) | (with_reducible refine below_drewN ?_ _) | (with_reducible refine Below.alloc ?_ (by first | omega | (simp; done) | (simp; omega) | (simp at *; omega)) _) | (with_reducible refine Below.setCell ?_ (by first | omega | (simp; done) | (simp; omega) | (simp at *; omega)) _) | (with_reducible exact Below.refl _ _) | (with_reducible assumption) | (with_reducible refine Below.trans ?_ (Below.mono (by assumption) (by first | omega | (simp; done) | (simp; omega) | (simp at *; omega)))))))
  clear hbx1 
  go_upto_region 5 with ((go_at_call 43; ((with_reducible refine (few_any _ _ _ _ hn).mono ?_)); rw [hfew.out]; rintro e w' ⟨rfl, rfl⟩))
  go_cut [7, 8] from 21 to 28 (fun s7 s8 wx => FL5 x y l u e1 w s7 s8 wx)
  case first =>
    refine wp_region_held_drew (S := (fun w' => w'.cell? ⟨w.heap.size, 0, none⟩ = some (.int .i64 x) ∧ w'.cell? ⟨w.heap.size, 1, none⟩ = some (.int .i64 y))) (by kernel_rfl) (by simp [go_sem, World.cell?_alloc_past, *]) (fun hHeld => ?_)
    refine tkH 0 ⟨some 22, _, _, _, _, _⟩ ?_ rfl ?_ (by assumption) ?_
    rotate_left
    · (intro w hSw; (try dsimp only at hSw); go_simp; all_goals with_reducible rfl)
    try simp only [Act.put, sA, sB, sC]
    refine tkH 2 ⟨some 24, _, _, _, _, _⟩ ?_ rfl ?_ (by assumption) ?_
    rotate_left
    · (intro w hSw; (try dsimp only at hSw); go_simp; all_goals with_reducible rfl)
    try simp only [Act.put, sA, sB, sC]
    refine tkH 3 ⟨some 25, _, _, _, _, _⟩ ?_ rfl ?_ (by assumption) ?_
    rotate_left
    · (intro w hSw; (try dsimp only at hSw); go_simp; all_goals with_reducible rfl)
    try simp only [Act.put, sA, sB, sC]
    refine wpAnyH_ready (rs := [1, 8]) (by kernel_rfl) (by simp) ?_
    refine AllReadyH.cons rfl (fun K hK => ?_) (AllReadyH.cons rfl (fun K hK => ?_) (AllReadyH.nil))
    · skip
      go_simp
      refine (hT.out _ (hS.out.below (by (repeat (first | (with_reducible refine Below.drew ?_) | (with_reducible refine below_drewN ?_ _) | (with_reducible refine Below.alloc ?_ (by first | omega | (simp; done) | (simp; omega) | (simp at *; omega)) _) | (with_reducible refine Below.setCell ?_ (by first | omega | (simp; done) | (simp; omega) | (simp at *; omega)) _) | (with_reducible exact Below.refl _ _) | (with_reducible assumption) | (with_reducible refine Below.trans ?_ (Below.mono (by assumption) (by first | omega | (simp; done) | (simp; omega) | (simp at *; omega))))))))).mono ?_
      rintro e xw2 ⟨x2A, x2c, rfl, x2S, hbx2⟩
      have zx2 := hbx2.size
      try simp at zx2
      obtain ⟨x2_0_0, x2_0_1⟩ : xw2.cell? ⟨w.heap.size, 0, none⟩ = some (.int .i64 x) ∧ xw2.cell? ⟨w.heap.size, 1, none⟩ = some (.int .i64 y) := by refine ⟨?_, ?_⟩ <;> (rw [(bcell hbx2).1 _ _ (by first | (simp; done) | (simp; omega) | omega)]; simp [go_sem, World.cell?_alloc_past, *])
      obtain ⟨x2o0, x2n0, x2m0, x2t0_0, x2t0_1⟩ : w.heap.size < xw2.heap.size ∧ xw2.heap.size ≠ w.heap.size ∧ w.heap.size ≠ xw2.heap.size ∧ w.heap.size < xw2.heap.size + 1 ∧ w.heap.size < xw2.heap.size + 1 + 1 := by refine ⟨?_, ?_, ?_, ?_, ?_⟩ <;> omega
      have hBx2 : Below w.heap.size w xw2 := (by (repeat (first | (with_reducible refine Below.drew ?_) | (with_reducible refine below_drewN ?_ _) | (with_reducible refine Below.alloc ?_ (by first | omega | (simp; done) | (simp; omega) | (simp at *; omega)) _) | (with_reducible refine Below.setCell ?_ (by first | omega | (simp; done) | (simp; omega) | (simp at *; omega)) _) | (with_reducible exact Below.refl _ _) | (with_reducible assumption) | (with_reducible refine Below.trans ?_ (Below.mono (by assumption) (by first | omega | (simp; done) | (simp; omega) | (simp at *; omega)))))))
      clear hbx2 x1_0_0 x1_0_1 x1o0 x1n0 x1m0 x1t0_0 x1t0_1 hBx1
      have x2H := Lib.hid x2S
      clear x2S
      go_wp2_with fail
      refine hK.out _ _ (by simp [go_sem, World.cell?_alloc_past, *]) (fun hHeld => ?_)
      clear hK K
      try simp only [Act.put, sA, sB, sC]
      refine wpAnyH_ready (rs := [4, 8]) (by kernel_rfl) (by simp) ?_
      refine AllReadyH.cons rfl (fun K hK => ?_) (AllReadyH.cons rfl (fun K hK => ?_) (AllReadyH.nil))
      · skip
        go_simp
        refine (hF.out x2A x2c _ (x2H.out.below (by (repeat (first | (with_reducible refine Below.drew ?_) | (with_reducible refine below_drewN ?_ _) | (with_reducible refine Below.alloc ?_ (by first | omega | (simp; done) | (simp; omega) | (simp at *; omega)) _) | (with_reducible refine Below.setCell ?_ (by first | omega | (simp; done) | (simp; omega) | (simp at *; omega)) _) | (with_reducible exact Below.refl _ _) | (with_reducible assumption) | (with_reducible refine Below.trans ?_ (Below.mono (by assumption) (by first | omega | (simp; done) | (simp; omega) | (simp at *; omega))))))))).mono ?_
        rintro e xw3 ⟨rfl, hbx3⟩
        have zx3 := hbx3.size
        try simp at zx3
        obtain ⟨x3_0_0, x3_0_1⟩ : xw3.cell? ⟨w.heap.size, 0, none⟩ = some (.int .i64 x) ∧ xw3.cell? ⟨w.heap.size, 1, none⟩ = some (.int .i64 y) := by refine ⟨?_, ?_⟩ <;> (rw [(bcell hbx3).1 _ _ (by first | (simp; done) | (simp; omega) | omega)]; simp [go_sem, World.cell?_alloc_past, *])
        obtain ⟨x3o0, x3n0, x3m0, x3t0_0, x3t0_1⟩ : w.heap.size < xw3.heap.size ∧ xw3.heap.size ≠ w.heap.size ∧ w.heap.size ≠ xw3.heap.size ∧ w.heap.size < xw3.heap.size + 1 ∧ w.heap.size < xw3.heap.size + 1 + 1 := by refine ⟨?_, ?_, ?_, ?_, ?_⟩ <;> omega
        have hBx3 : Below w.heap.size w xw3 := (by (repeat (first | (with_reducible refine Below.drew ?_) | (with_reducible refine below_drewN ?_ _) | (with_reducible refine Below.alloc ?_ (by first | omega | (simp; done) | (simp; omega) | (simp at *; omega)) _) | (with_reducible refine Below.setCell ?_ (by first | omega | (simp; done) | (simp; omega) | (simp at *; omega)) _) | (with_reducible exact Below.refl _ _) | (with_reducible assumption) | (with_reducible refine Below.trans ?_ (Below.mono (by assumption) (by first | omega | (simp; done) | (simp; omega) | (simp at *; omega)))))))
        clear hbx3 x2_0_0 x2_0_1 x2o0 x2n0 x2m0 x2t0_0 x2t0_1 hBx2
        go_wp2_with fail
        refine hK.out _ _ (by simp [go_sem, World.cell?_alloc_past, *]) (fun hHeld => ?_)
        clear hK K
        try simp only [Act.put, sA, sB, sC]
        refine tkH 5 ⟨some 21, _, _, _, _, _⟩ ?_ rfl ?_ (by assumption) ?_
        rotate_left
        · (intro w hSw; (try dsimp only at hSw); go_simp; all_goals with_reducible rfl)
        try simp only [Act.put, sA, sB, sC]
        refine tkH 6 ⟨some 27, _, _, _, _, _⟩ ?_ rfl ?_ (by assumption) ?_
        rotate_left
        · (intro w hSw; (try dsimp only at hSw); go_simp; all_goals with_reducible rfl)
        try simp only [Act.put, sA, sB, sC]
        refine tkH 7 ⟨some 28, _, _, _, _, _⟩ ?_ rfl ?_ (by assumption) ?_
        rotate_left
        · (intro w hSw; (try dsimp only at hSw); go_simp; all_goals with_reducible rfl)
        try simp only [Act.put, sA, sB, sC]
        refine wpAnyH_ready (rs := [8]) (by kernel_rfl) (by simp) ?_
        refine AllReadyH.cons rfl (fun K hK => ?_) (AllReadyH.nil)
        go_simp
        go_wp2_with fail
        refine hK.out _ _ (by simp [go_sem, World.cell?_alloc_past, *]) (fun hHeld => ?_)
        clear hK K
        try simp only [Act.put, sA, sB, sC]
        refine wpAnyH_ready (rs := [9]) (by kernel_rfl) (by simp) ?_
        refine AllReadyH.cons rfl (fun K hK => ?_) (AllReadyH.nil)
        go_simp
        go_wp2_with fail
        refine hK.out _ _ (by simp [go_sem, World.cell?_alloc_past, *]) (fun hHeld => ?_)
        clear hK K
        try simp only [Act.put, sA, sB, sC]
        refine tkH 10 ⟨some 8, _, _, _, _, _⟩ ?_ rfl ?_ (by assumption) ?_
        rotate_left
        · (intro w hSw; (try dsimp only at hSw); go_simp; all_goals with_reducible rfl)
        try simp only [Act.put, sA, sB, sC]
        refine wpAnyH_done (by kernel_rfl) ?_ _
        go_wp2_with fail
        go_meet
        refine ⟨xw3.heap.size, rfl, rfl, by first | omega | (simp; done) | (simp; omega), by first | omega | (simp; done) | (simp; omega), ⟨(by simp [go_sem, World.cell?_alloc_past, *]), (by simp [go_sem, World.cell?_alloc_past, *]), (by simp [go_sem, World.cell?_alloc_past, *]), (by simp [go_sem, World.cell?_alloc_past, *])⟩, ?_⟩
        (repeat (first | (with_reducible refine Below.drew ?_) | (with_reducible refine below_drewN ?_ _) | (with_reducible refine Below.alloc ?_ (by first | omega | (simp; done) | (simp; omega) | (simp at *; omega)) _) | (with_reducible refine Below.setCell ?_ (by first | omega | (simp; done) | (simp; omega) | (simp at *; omega)) _) | (with_reducible exact Below.refl _ _) | (with_reducible assumption) | (with_reducible refine Below.trans ?_ (Below.mono (by assumption) (by first | omega | (simp; done) | (simp; omega) | (simp at *; omega))))))
      · skip
        go_simp
        go_wp2_with fail
        refine hK.out _ _ (by simp [go_sem, World.cell?_alloc_past, *]) (fun hHeld => ?_)
        clear hK K
        try simp only [Act.put, sA, sB, sC]
        refine wpAnyH_ready (rs := [4]) (by kernel_rfl) (by simp) ?_
        refine AllReadyH.cons rfl (fun K hK => ?_) (AllReadyH.nil)
        go_simp
        refine (hF.out x2A x2c _ (x2H.out.below (by (repeat (first | (with_reducible refine Below.drew ?_) | (with_reducible refine below_drewN ?_ _) | (with_reducible refine Below.alloc ?_ (by first | omega | (simp; done) | (simp; omega) | (simp at *; omega)) _) | (with_reducible refine Below.setCell ?_ (by first | omega | (simp; done) | (simp; omega) | (simp at *; omega)) _) | (with_reducible exact Below.refl _ _) | (with_reducible assumption) | (with_reducible refine Below.trans ?_ (Below.mono (by assumption) (by first | omega | (simp; done) | (simp; omega) | (simp at *; omega))))))))).mono ?_
        rintro e xw3 ⟨rfl, hbx3⟩
        have zx3 := hbx3.size
        try simp at zx3
        obtain ⟨x3_0_0, x3_0_1, x3_1_0, x3_1_1⟩ : xw3.cell? ⟨w.heap.size, 0, none⟩ = some (.int .i64 x) ∧ xw3.cell? ⟨w.heap.size, 1, none⟩ = some (.int .i64 y) ∧ xw3.cell? ⟨xw2.heap.size, 0, none⟩ = some (.int .i64 0) ∧ xw3.cell? ⟨xw2.heap.size, 1, none⟩ = some (.int .i64 0) := by refine ⟨?_, ?_, ?_, ?_⟩ <;> (rw [(bcell hbx3).1 _ _ (by first | (simp; done) | (simp; omega) | omega)]; simp [go_sem, World.cell?_alloc_past, *])
        have x3f1 : (∀ j, xw3.frozen? ⟨xw2.heap.size, j, none⟩ = false) := by (intro j; rw [(bcell hbx3).2 _ _ (by first | (simp; done) | (simp; omega) | omega)]; simp [go_sem, *])
        obtain ⟨x3o0, x3n0, x3m0, x3t0_0, x3t0_1, x3o1, x3n1, x3m1, x3t1_0, x3t1_1⟩ : w.heap.size < xw3.heap.size ∧ xw3.heap.size ≠ w.heap.size ∧ w.heap.size ≠ xw3.heap.size ∧ w.heap.size < xw3.heap.size + 1 ∧ w.heap.size < xw3.heap.size + 1 + 1 ∧ xw2.heap.size < xw3.heap.size ∧ xw3.heap.size ≠ xw2.heap.size ∧ xw2.heap.size ≠ xw3.heap.size ∧ xw2.heap.size < xw3.heap.size + 1 ∧ xw2.heap.size < xw3.heap.size + 1 + 1 := by refine ⟨?_, ?_, ?_, ?_, ?_, ?_, ?_, ?_, ?_, ?_⟩ <;> omega
        have hBx3 : Below w.heap.size w xw3 := (by (repeat (first | (with_reducible refine Below.drew ?_) | (with_reducible refine below_drewN ?_ _) | (with_reducible refine Below.alloc ?_ (by first | omega | (simp; done) | (simp; omega) | (simp at *; omega)) _) | (with_reducible refine Below.setCell ?_ (by first | omega | (simp; done) | (simp; omega) | (simp at *; omega)) _) | (with_reducible exact Below.refl _ _) | (with_reducible assumption) | (with_reducible refine Below.trans ?_ (Below.mono (by assumption) (by first | omega | (simp; done) | (simp; omega) | (simp at *; omega)))))))
        clear hbx3 x2_0_0 x2_0_1 x2o0 x2n0 x2m0 x2t0_0 x2t0_1 hBx2
        go_wp2_with fail
        refine hK.out _ _ (by simp [go_sem, World.cell?_alloc_past, *]) (fun hHeld => ?_)
        clear hK K
        try simp only [Act.put, sA, sB, sC]
        refine tkH 5 ⟨some 21, _, _, _, _, _⟩ ?_ rfl ?_ (by assumption) ?_
        rotate_left
        · (intro w hSw; (try dsimp only at hSw); go_simp; all_goals with_reducible rfl)
        try simp only [Act.put, sA, sB, sC]
        refine tkH 6 ⟨some 27, _, _, _, _, _⟩ ?_ rfl ?_ (by assumption) ?_
        rotate_left
        · (intro w hSw; (try dsimp only at hSw); go_simp; all_goals with_reducible rfl)
        try simp only [Act.put, sA, sB, sC]
        refine tkH 7 ⟨some 28, _, _, _, _, _⟩ ?_ rfl ?_ (by assumption) ?_
        rotate_left
        · (intro w hSw; (try dsimp only at hSw); go_simp; all_goals with_reducible rfl)
        try simp only [Act.put, sA, sB, sC]
        refine wpAnyH_ready (rs := [9]) (by kernel_rfl) (by simp) ?_
        refine AllReadyH.cons rfl (fun K hK => ?_) (AllReadyH.nil)
        go_simp
        go_wp2_with fail
        refine hK.out _ _ (by simp [go_sem, World.cell?_alloc_past, *]) (fun hHeld => ?_)
        clear hK K
        try simp only [Act.put, sA, sB, sC]
        refine tkH 10 ⟨some 8, _, _, _, _, _⟩ ?_ rfl ?_ (by assumption) ?_
        rotate_left
        · (intro w hSw; (try dsimp only at hSw); go_simp; all_goals with_reducible rfl)
        try simp only [Act.put, sA, sB, sC]
        refine wpAnyH_done (by kernel_rfl) ?_ _
        go_wp2_with fail
        go_meet
        refine ⟨xw2.heap.size, rfl, rfl, by first | omega | (simp; done) | (simp; omega), by first | omega | (simp; done) | (simp; omega), ⟨(by simp [go_sem, World.cell?_alloc_past, *]), (by simp [go_sem, World.cell?_alloc_past, *]), (by simp [go_sem, World.cell?_alloc_past, *]), (by simp [go_sem, World.cell?_alloc_past, *])⟩, ?_⟩
        (repeat (first | (with_reducible refine Below.drew ?_) | (with_reducible refine below_drewN ?_ _) | (with_reducible refine Below.alloc ?_ (by first | omega | (simp; done) | (simp; omega) | (simp at *; omega)) _) | (with_reducible refine Below.setCell ?_ (by first | omega | (simp; done) | (simp; omega) | (simp at *; omega)) _) | (with_reducible exact Below.refl _ _) | (with_reducible assumption) | (with_reducible refine Below.trans ?_ (Below.mono (by assumption) (by first | omega | (simp; done) | (simp; omega) | (simp at *; omega))))))
    · skip
      go_simp
      go_wp2_with fail
      refine hK.out _ _ (by simp [go_sem, World.cell?_alloc_past, *]) (fun hHeld => ?_)
      clear hK K
      try simp only [Act.put, sA, sB, sC]
      refine wpAnyH_ready (rs := [1]) (by kernel_rfl) (by simp) ?_
      refine AllReadyH.cons rfl (fun K hK => ?_) (AllReadyH.nil)
      go_simp
      refine (hT.out _ (hS.out.below (by (repeat (first | (with_reducible refine Below.drew ?_) | (with_reducible refine below_drewN ?_ _) | (with_reducible refine Below.alloc ?_ (by first | omega | (simp; done) | (simp; omega) | (simp at *; omega)) _) | (with_reducible refine Below.setCell ?_ (by first | omega | (simp; done) | (simp; omega) | (simp at *; omega)) _) | (with_reducible exact Below.refl _ _) | (with_reducible assumption) | (with_reducible refine Below.trans ?_ (Below.mono (by assumption) (by first | omega | (simp; done) | (simp; omega) | (simp at *; omega))))))))).mono ?_
      rintro e xw2 ⟨x2A, x2c, rfl, x2S, hbx2⟩
      have zx2 := hbx2.size
      try simp at zx2
      obtain ⟨x2_0_0, x2_0_1, x2_1_0, x2_1_1⟩ : xw2.cell? ⟨w.heap.size, 0, none⟩ = some (.int .i64 x) ∧ xw2.cell? ⟨w.heap.size, 1, none⟩ = some (.int .i64 y) ∧ xw2.cell? ⟨xw1.heap.size, 0, none⟩ = some (.int .i64 0) ∧ xw2.cell? ⟨xw1.heap.size, 1, none⟩ = some (.int .i64 0) := by refine ⟨?_, ?_, ?_, ?_⟩ <;> (rw [(bcell hbx2).1 _ _ (by first | (simp; done) | (simp; omega) | omega)]; simp [go_sem, World.cell?_alloc_past, *])
      have x2f1 : (∀ j, xw2.frozen? ⟨xw1.heap.size, j, none⟩ = false) := by (intro j; rw [(bcell hbx2).2 _ _ (by first | (simp; done) | (simp; omega) | omega)]; simp [go_sem, *])
      obtain ⟨x2o0, x2n0, x2m0, x2t0_0, x2t0_1, x2o1, x2n1, x2m1, x2t1_0, x2t1_1⟩ : w.heap.size < xw2.heap.size ∧ xw2.heap.size ≠ w.heap.size ∧ w.heap.size ≠ xw2.heap.size ∧ w.heap.size < xw2.heap.size + 1 ∧ w.heap.size < xw2.heap.size + 1 + 1 ∧ xw1.heap.size < xw2.heap.size ∧ xw2.heap.size ≠ xw1.heap.size ∧ xw1.heap.size ≠ xw2.heap.size ∧ xw1.heap.size < xw2.heap.size + 1 ∧ xw1.heap.size < xw2.heap.size + 1 + 1 := by refine ⟨?_, ?_, ?_, ?_, ?_, ?_, ?_, ?_, ?_, ?_⟩ <;> omega
      have hBx2 : Below w.heap.size w xw2 := (by (repeat (first | (with_reducible refine Below.drew ?_) | (with_reducible refine below_drewN ?_ _) | (with_reducible refine Below.alloc ?_ (by first | omega | (simp; done) | (simp; omega) | (simp at *; omega)) _) | (with_reducible refine Below.setCell ?_ (by first | omega | (simp; done) | (simp; omega) | (simp at *; omega)) _) | (with_reducible exact Below.refl _ _) | (with_reducible assumption) | (with_reducible refine Below.trans ?_ (Below.mono (by assumption) (by first | omega | (simp; done) | (simp; omega) | (simp at *; omega)))))))
      clear hbx2 x1_0_0 x1_0_1 x1o0 x1n0 x1m0 x1t0_0 x1t0_1 hBx1
      have x2H := Lib.hid x2S
      clear x2S
      go_wp2_with fail
      refine hK.out _ _ (by simp [go_sem, World.cell?_alloc_past, *]) (fun hHeld => ?_)
      clear hK K
      try simp only [Act.put, sA, sB, sC]
      refine wpAnyH_ready (rs := [4]) (by kernel_rfl) (by simp) ?_
      refine AllReadyH.cons rfl (fun K hK => ?_) (AllReadyH.nil)
      go_simp
      refine (hF.out x2A x2c _ (x2H.out.below (by (repeat (first | (with_reducible refine Below.drew ?_) | (with_reducible refine below_drewN ?_ _) | (with_reducible refine Below.alloc ?_ (by first | omega | (simp; done) | (simp; omega) | (simp at *; omega)) _) | (with_reducible refine Below.setCell ?_ (by first | omega | (simp; done) | (simp; omega) | (simp at *; omega)) _) | (with_reducible exact Below.refl _ _) | (with_reducible assumption) | (with_reducible refine Below.trans ?_ (Below.mono (by assumption) (by first | omega | (simp; done) | (simp; omega) | (simp at *; omega))))))))).mono ?_
      rintro e xw3 ⟨rfl, hbx3⟩
      have zx3 := hbx3.size
      try simp at zx3
      obtain ⟨x3_0_0, x3_0_1, x3_1_0, x3_1_1⟩ : xw3.cell? ⟨w.heap.size, 0, none⟩ = some (.int .i64 x) ∧ xw3.cell? ⟨w.heap.size, 1, none⟩ = some (.int .i64 y) ∧ xw3.cell? ⟨xw1.heap.size, 0, none⟩ = some (.int .i64 0) ∧ xw3.cell? ⟨xw1.heap.size, 1, none⟩ = some (.int .i64 0) := by refine ⟨?_, ?_, ?_, ?_⟩ <;> (rw [(bcell hbx3).1 _ _ (by first | (simp; done) | (simp; omega) | omega)]; simp [go_sem, World.cell?_alloc_past, *])
      have x3f1 : (∀ j, xw3.frozen? ⟨xw1.heap.size, j, none⟩ = false) := by (intro j; rw [(bcell hbx3).2 _ _ (by first | (simp; done) | (simp; omega) | omega)]; simp [go_sem, *])
      obtain ⟨x3o0, x3n0, x3m0, x3t0_0, x3t0_1, x3o1, x3n1, x3m1, x3t1_0, x3t1_1⟩ : w.heap.size < xw3.heap.size ∧ xw3.heap.size ≠ w.heap.size ∧ w.heap.size ≠ xw3.heap.size ∧ w.heap.size < xw3.heap.size + 1 ∧ w.heap.size < xw3.heap.size + 1 + 1 ∧ xw1.heap.size < xw3.heap.size ∧ xw3.heap.size ≠ xw1.heap.size ∧ xw1.heap.size ≠ xw3.heap.size ∧ xw1.heap.size < xw3.heap.size + 1 ∧ xw1.heap.size < xw3.heap.size + 1 + 1 := by refine ⟨?_, ?_, ?_, ?_, ?_, ?_, ?_, ?_, ?_, ?_⟩ <;> omega
      have hBx3 : Below w.heap.size w xw3 := (by (repeat (first | (with_reducible refine Below.drew ?_) | (with_reducible refine below_drewN ?_ _) | (with_reducible refine Below.alloc ?_ (by first | omega | (simp; done) | (simp; omega) | (simp at *; omega)) _) | (with_reducible refine Below.setCell ?_ (by first | omega | (simp; done) | (simp; omega) | (simp at *; omega)) _) | (with_reducible exact Below.refl _ _) | (with_reducible assumption) | (with_reducible refine Below.trans ?_ (Below.mono (by assumption) (by first | omega | (simp; done) | (simp; omega) | (simp at *; omega)))))))
      clear hbx3 x2_0_0 x2_0_1 x2_1_0 x2_1_1 x2f1 x2o0 x2n0 x2m0 x2t0_0 x2t0_1 x2o1 x2n1 x2m1 x2t1_0 x2t1_1 hBx2
      go_wp2_with fail
      refine hK.out _ _ (by simp [go_sem, World.cell?_alloc_past, *]) (fun hHeld => ?_)
      clear hK K
      try simp only [Act.put, sA, sB, sC]
      refine tkH 5 ⟨some 21, _, _, _, _, _⟩ ?_ rfl ?_ (by assumption) ?_
      rotate_left
      · (intro w hSw; (try dsimp only at hSw); go_simp; all_goals with_reducible rfl)
      try simp only [Act.put, sA, sB, sC]
      refine tkH 6 ⟨some 27, _, _, _, _, _⟩ ?_ rfl ?_ (by assumption) ?_
      rotate_left
      · (intro w hSw; (try dsimp only at hSw); go_simp; all_goals with_reducible rfl)
      try simp only [Act.put, sA, sB, sC]
      refine tkH 7 ⟨some 28, _, _, _, _, _⟩ ?_ rfl ?_ (by assumption) ?_
      rotate_left
      · (intro w hSw; (try dsimp only at hSw); go_simp; all_goals with_reducible rfl)
      try simp only [Act.put, sA, sB, sC]
      refine wpAnyH_ready (rs := [9]) (by kernel_rfl) (by simp) ?_
      refine AllReadyH.cons rfl (fun K hK => ?_) (AllReadyH.nil)
      go_simp
      go_wp2_with fail
      refine hK.out _ _ (by simp [go_sem, World.cell?_alloc_past, *]) (fun hHeld => ?_)
      clear hK K
      try simp only [Act.put, sA, sB, sC]
      refine tkH 10 ⟨some 8, _, _, _, _, _⟩ ?_ rfl ?_ (by assumption) ?_
      rotate_left
      · (intro w hSw; (try dsimp only at hSw); go_simp; all_goals with_reducible rfl)
      try simp only [Act.put, sA, sB, sC]
      refine wpAnyH_done (by kernel_rfl) ?_ _
      go_wp2_with fail
      go_meet
      refine ⟨xw1.heap.size, rfl, rfl, by first | omega | (simp; done) | (simp; omega), by first | omega | (simp; done) | (simp; omega), ⟨(by simp [go_sem, World.cell?_alloc_past, *]), (by simp [go_sem, World.cell?_alloc_past, *]), (by simp [go_sem, World.cell?_alloc_past, *]), (by simp [go_sem, World.cell?_alloc_past, *])⟩, ?_⟩
      (repeat (first | (with_reducible refine Below.drew ?_) | (with_reducible refine below_drewN ?_ _) | (with_reducible refine Below.alloc ?_ (by first | omega | (simp; done) | (simp; omega) | (simp at *; omega)) _) | (with_reducible refine Below.setCell ?_ (by first | omega | (simp; done) | (simp; omega) | (simp at *; omega)) _) | (with_reducible exact Below.refl _ _) | (with_reducible assumption) | (with_reducible refine Below.trans ?_ (Below.mono (by assumption) (by first | omega | (simp; done) | (simp; omega) | (simp at *; omega))))))
  case rest =>
    obtain ⟨m, rfl, rfl, lm, gm, ⟨k0, k1, k2, k3⟩, kB⟩ := hcut
    have o1 : w.heap.size < wc.heap.size := by omega
    have o2 : wc.heap.size ≠ w.heap.size := by omega
    have o3 : wc.heap.size ≠ m := by omega
    have o4 : m ≠ wc.heap.size := by omega
    have o5 : w.heap.size ≠ wc.heap.size := by omega
    go_upto_region 6 with (fail)
    go_cut [9, 10] from 29 to 36 (fun s9 s10 wx => FL6 x y l u q r d m w s9 s10 wx)
    case first =>
      refine wp_region_held_drew (S := (fun w' => w'.cell? ⟨w.heap.size, 0, none⟩ = some (.int .i64 x) ∧ w'.cell? ⟨w.heap.size, 1, none⟩ = some (.int .i64 y) ∧ w'.cell? ⟨m, 0, none⟩ = some (.int .i64 l) ∧ w'.cell? ⟨m, 1, none⟩ = some (.int .i64 u))) (by kernel_rfl) (by simp [go_sem, World.cell?_alloc_past, *]) (fun hHeld => ?_)
      refine tkH 0 ⟨some 30, _, _, _, _, _⟩ ?_ rfl ?_ (by assumption) ?_
      rotate_left
      · (intro w hSw; (try dsimp only at hSw); go_simp; all_goals with_reducible rfl)
      try simp only [Act.put, sA, sB, sC]
      refine tkH 2 ⟨some 32, _, _, _, _, _⟩ ?_ rfl ?_ (by assumption) ?_
      rotate_left
      · (intro w hSw; (try dsimp only at hSw); go_simp; all_goals with_reducible rfl)
      try simp only [Act.put, sA, sB, sC]
      refine tkH 3 ⟨some 33, _, _, _, _, _⟩ ?_ rfl ?_ (by assumption) ?_
      rotate_left
      · (intro w hSw; (try dsimp only at hSw); go_simp; all_goals with_reducible rfl)
      try simp only [Act.put, sA, sB, sC]
      refine wpAnyH_ready (rs := [1, 8]) (by kernel_rfl) (by simp) ?_
      refine AllReadyH.cons rfl (fun K hK => ?_) (AllReadyH.cons rfl (fun K hK => ?_) (AllReadyH.nil))
      · skip
        go_simp
        refine (hT.out _ (hS.out.below (by (repeat (first | (with_reducible refine Below.drew ?_) | (with_reducible refine below_drewN ?_ _) | (with_reducible refine Below.alloc ?_ (by first | omega | (simp; done) | (simp; omega) | (simp at *; omega)) _) | (with_reducible refine Below.setCell ?_ (by first | omega | (simp; done) | (simp; omega) | (simp at *; omega)) _) | (with_reducible exact Below.refl _ _) | (with_reducible assumption) | (with_reducible refine Below.trans ?_ (Below.mono (by assumption) (by first | omega | (simp; done) | (simp; omega) | (simp at *; omega))))))))).mono ?_
        rintro e yw1 ⟨y1A, y1c, rfl, y1S, hby1⟩
        have zy1 := hby1.size
        try simp at zy1
        obtain ⟨y1_0_0, y1_0_1, y1_1_0, y1_1_1⟩ : yw1.cell? ⟨w.heap.size, 0, none⟩ = some (.int .i64 x) ∧ yw1.cell? ⟨w.heap.size, 1, none⟩ = some (.int .i64 y) ∧ yw1.cell? ⟨m, 0, none⟩ = some (.int .i64 l) ∧ yw1.cell? ⟨m, 1, none⟩ = some (.int .i64 u) := by refine ⟨?_, ?_, ?_, ?_⟩ <;> (rw [(bcell hby1).1 _ _ (by first | (simp; done) | (simp; omega) | omega)]; simp [go_sem, World.cell?_alloc_past, *])
        obtain ⟨y1o0, y1n0, y1m0, y1t0_0, y1t0_1, y1o1, y1n1, y1m1, y1t1_0, y1t1_1⟩ : w.heap.size < yw1.heap.size ∧ yw1.heap.size ≠ w.heap.size ∧ w.heap.size ≠ yw1.heap.size ∧ w.heap.size < yw1.heap.size + 1 ∧ w.heap.size < yw1.heap.size + 1 + 1 ∧ m < yw1.heap.size ∧ yw1.heap.size ≠ m ∧ m ≠ yw1.heap.size ∧ m < yw1.heap.size + 1 ∧ m < yw1.heap.size + 1 + 1 := by refine ⟨?_, ?_, ?_, ?_, ?_, ?_, ?_, ?_, ?_, ?_⟩ <;> omega
        have hBy1 : Below w.heap.size w yw1 := (by (repeat (first | (with_reducible refine Below.drew ?_) | (with_reducible refine below_drewN ?_ _) | (with_reducible refine Below.alloc ?_ (by first | omega | (simp; done) | (simp; omega) | (simp at *; omega)) _) | (with_reducible refine Below.setCell ?_ (by first | omega | (simp; done) | (simp; omega) | (simp at *; omega)) _) | (with_reducible exact Below.refl _ _) | (with_reducible assumption) | (with_reducible refine Below.trans ?_ (Below.mono (by assumption) (by first | omega | (simp; done) | (simp; omega) | (simp at *; omega)))))))
        clear hby1 
        have y1H := Lib.hid y1S
        clear y1S
        go_wp2_with fail
        refine hK.out _ _ (by simp [go_sem, World.cell?_alloc_past, *]) (fun hHeld => ?_)
        clear hK K
        try simp only [Act.put, sA, sB, sC]
        refine wpAnyH_ready (rs := [4, 8]) (by kernel_rfl) (by simp) ?_
        refine AllReadyH.cons rfl (fun K hK => ?_) (AllReadyH.cons rfl (fun K hK => ?_) (AllReadyH.nil))
        · skip
          go_simp
          refine (hR.out y1A y1c _ (y1H.out.below (by (repeat (first | (with_reducible refine Below.drew ?_) | (with_reducible refine below_drewN ?_ _) | (with_reducible refine Below.alloc ?_ (by first | omega | (simp; done) | (simp; omega) | (simp at *; omega)) _) | (with_reducible refine Below.setCell ?_ (by first | omega | (simp; done) | (simp; omega) | (simp at *; omega)) _) | (with_reducible exact Below.refl _ _) | (with_reducible assumption) | (with_reducible refine Below.trans ?_ (Below.mono (by assumption) (by first | omega | (simp; done) | (simp; omega) | (simp at *; omega))))))))).mono ?_
          rintro e yw2 ⟨rfl, hby2⟩
          have zy2 := hby2.size
          try simp at zy2
          obtain ⟨y2_0_0, y2_0_1, y2_1_0, y2_1_1⟩ : yw2.cell? ⟨w.heap.size, 0, none⟩ = some (.int .i64 x) ∧ yw2.cell? ⟨w.heap.size, 1, none⟩ = some (.int .i64 y) ∧ yw2.cell? ⟨m, 0, none⟩ = some (.int .i64 l) ∧ yw2.cell? ⟨m, 1, none⟩ = some (.int .i64 u) := by refine ⟨?_, ?_, ?_, ?_⟩ <;> (rw [(bcell hby2).1 _ _ (by first | (simp; done) | (simp; omega) | omega)]; simp [go_sem, World.cell?_alloc_past, *])
          obtain ⟨y2o0, y2n0, y2m0, y2t0_0, y2t0_1, y2o1, y2n1, y2m1, y2t1_0, y2t1_1⟩ : w.heap.size < yw2.heap.size ∧ yw2.heap.size ≠ w.heap.size ∧ w.heap.size ≠ yw2.heap.size ∧ w.heap.size < yw2.heap.size + 1 ∧ w.heap.size < yw2.heap.size + 1 + 1 ∧ m < yw2.heap.size ∧ yw2.heap.size ≠ m ∧ m ≠ yw2.heap.size ∧ m < yw2.heap.size + 1 ∧ m < yw2.heap.size + 1 + 1 := by refine ⟨?_, ?_, ?_, ?_, ?_, ?_, ?_, ?_, ?_, ?_⟩ <;> omega
          have hBy2 : Below w.heap.size w yw2 := (by (repeat (first | (with_reducible refine Below.drew ?_) | (with_reducible refine below_drewN ?_ _) | (with_reducible refine Below.alloc ?_ (by first | omega | (simp; done) | (simp; omega) | (simp at *; omega)) _) | (with_reducible refine Below.setCell ?_ (by first | omega | (simp; done) | (simp; omega) | (simp at *; omega)) _) | (with_reducible exact Below.refl _ _) | (with_reducible assumption) | (with_reducible refine Below.trans ?_ (Below.mono (by assumption) (by first | omega | (simp; done) | (simp; omega) | (simp at *; omega)))))))
          clear hby2 y1_0_0 y1_0_1 y1_1_0 y1_1_1 y1o0 y1n0 y1m0 y1t0_0 y1t0_1 y1o1 y1n1 y1m1 y1t1_0 y1t1_1 hBy1
          go_wp2_with fail
          refine hK.out _ _ (by simp [go_sem, World.cell?_alloc_past, *]) (fun hHeld => ?_)
          clear hK K
          try simp only [Act.put, sA, sB, sC]
          refine tkH 5 ⟨some 29, _, _, _, _, _⟩ ?_ rfl ?_ (by assumption) ?_
          rotate_left
          · (intro w hSw; (try dsimp only at hSw); go_simp; all_goals with_reducible rfl)
          try simp only [Act.put, sA, sB, sC]
          refine tkH 6 ⟨some 35, _, _, _, _, _⟩ ?_ rfl ?_ (by assumption) ?_
          rotate_left
          · (intro w hSw; (try dsimp only at hSw); go_simp; all_goals with_reducible rfl)
          try simp only [Act.put, sA, sB, sC]
          refine tkH 7 ⟨some 36, _, _, _, _, _⟩ ?_ rfl ?_ (by assumption) ?_
          rotate_left
          · (intro w hSw; (try dsimp only at hSw); go_simp; all_goals with_reducible rfl)
          try simp only [Act.put, sA, sB, sC]
          refine wpAnyH_ready (rs := [8]) (by kernel_rfl) (by simp) ?_
          refine AllReadyH.cons rfl (fun K hK => ?_) (AllReadyH.nil)
          go_simp
          go_wp2_with fail
          refine hK.out _ _ (by simp [go_sem, World.cell?_alloc_past, *]) (fun hHeld => ?_)
          clear hK K
          try simp only [Act.put, sA, sB, sC]
          refine wpAnyH_ready (rs := [9]) (by kernel_rfl) (by simp) ?_
          refine AllReadyH.cons rfl (fun K hK => ?_) (AllReadyH.nil)
          go_simp
          go_wp2_with fail
          refine hK.out _ _ (by simp [go_sem, World.cell?_alloc_past, *]) (fun hHeld => ?_)
          clear hK K
          try simp only [Act.put, sA, sB, sC]
          refine tkH 10 ⟨some 10, _, _, _, _, _⟩ ?_ rfl ?_ (by assumption) ?_
          rotate_left
          · (intro w hSw; (try dsimp only at hSw); go_simp; all_goals with_reducible rfl)
          try simp only [Act.put, sA, sB, sC]
          refine wpAnyH_done (by kernel_rfl) ?_ _
          go_wp2_with fail
          go_meet
          refine ⟨yw2.heap.size, rfl, rfl, by first | omega | (simp; done) | (simp; omega), by first | omega | (simp; done) | (simp; omega), by first | omega | (simp; done) | (simp; omega), ⟨(by simp [go_sem, World.cell?_alloc_past, *]), (by simp [go_sem, World.cell?_alloc_past, *]), (by simp [go_sem, World.cell?_alloc_past, *]), (by simp [go_sem, World.cell?_alloc_past, *]), (by simp [go_sem, World.cell?_alloc_past, *]), (by simp [go_sem, World.cell?_alloc_past, *])⟩, ?_⟩
          (repeat (first | (with_reducible refine Below.drew ?_) | (with_reducible refine below_drewN ?_ _) | (with_reducible refine Below.alloc ?_ (by first | omega | (simp; done) | (simp; omega) | (simp at *; omega)) _) | (with_reducible refine Below.setCell ?_ (by first | omega | (simp; done) | (simp; omega) | (simp at *; omega)) _) | (with_reducible exact Below.refl _ _) | (with_reducible assumption) | (with_reducible refine Below.trans ?_ (Below.mono (by assumption) (by first | omega | (simp; done) | (simp; omega) | (simp at *; omega))))))
        · skip
          go_simp
          go_wp2_with fail
          refine hK.out _ _ (by simp [go_sem, World.cell?_alloc_past, *]) (fun hHeld => ?_)
          clear hK K
          try simp only [Act.put, sA, sB, sC]
          refine wpAnyH_ready (rs := [4]) (by kernel_rfl) (by simp) ?_
          refine AllReadyH.cons rfl (fun K hK => ?_) (AllReadyH.nil)
          go_simp
          refine (hR.out y1A y1c _ (y1H.out.below (by (repeat (first | (with_reducible refine Below.drew ?_) | (with_reducible refine below_drewN ?_ _) | (with_reducible refine Below.alloc ?_ (by first | omega | (simp; done) | (simp; omega) | (simp at *; omega)) _) | (with_reducible refine Below.setCell ?_ (by first | omega | (simp; done) | (simp; omega) | (simp at *; omega)) _) | (with_reducible exact Below.refl _ _) | (with_reducible assumption) | (with_reducible refine Below.trans ?_ (Below.mono (by assumption) (by first | omega | (simp; done) | (simp; omega) | (simp at *; omega))))))))).mono ?_
          rintro e yw2 ⟨rfl, hby2⟩
          have zy2 := hby2.size
          try simp at zy2
          obtain ⟨y2_0_0, y2_0_1, y2_1_0, y2_1_1, y2_2_0, y2_2_1⟩ : yw2.cell? ⟨w.heap.size, 0, none⟩ = some (.int .i64 x) ∧ yw2.cell? ⟨w.heap.size, 1, none⟩ = some (.int .i64 y) ∧ yw2.cell? ⟨m, 0, none⟩ = some (.int .i64 l) ∧ yw2.cell? ⟨m, 1, none⟩ = some (.int .i64 u) ∧ yw2.cell? ⟨yw1.heap.size, 0, none⟩ = some (.int .i64 0) ∧ yw2.cell? ⟨yw1.heap.size, 1, none⟩ = some (.int .i64 0) := by refine ⟨?_, ?_, ?_, ?_, ?_, ?_⟩ <;> (rw [(bcell hby2).1 _ _ (by first | (simp; done) | (simp; omega) | omega)]; simp [go_sem, World.cell?_alloc_past, *])
          have y2f2 : (∀ j, yw2.frozen? ⟨yw1.heap.size, j, none⟩ = false) := by (intro j; rw [(bcell hby2).2 _ _ (by first | (simp; done) | (simp; omega) | omega)]; simp [go_sem, *])
          obtain ⟨y2o0, y2n0, y2m0, y2t0_0, y2t0_1, y2o1, y2n1, y2m1, y2t1_0, y2t1_1, y2o2, y2n2, y2m2, y2t2_0, y2t2_1⟩ : w.heap.size < yw2.heap.size ∧ yw2.heap.size ≠ w.heap.size ∧ w.heap.size ≠ yw2.heap.size ∧ w.heap.size < yw2.heap.size + 1 ∧ w.heap.size < yw2.heap.size + 1 + 1 ∧ m < yw2.heap.size ∧ yw2.heap.size ≠ m ∧ m ≠ yw2.heap.size ∧ m < yw2.heap.size + 1 ∧ m < yw2.heap.size + 1 + 1 ∧ yw1.heap.size < yw2.heap.size ∧ yw2.heap.size ≠ yw1.heap.size ∧ yw1.heap.size ≠ yw2.heap.size ∧ yw1.heap.size < yw2.heap.size + 1 ∧ yw1.heap.size < yw2.heap.size + 1 + 1 := by refine ⟨?_, ?_, ?_, ?_, ?_, ?_, ?_, ?_, ?_, ?_, ?_, ?_, ?_, ?_, ?_⟩ <;> omega
          have hBy2 : Below w.heap.size w yw2 := (by (repeat (first | (with_reducible refine Below.drew ?_) | (with_reducible refine below_drewN ?_ _) | (with_reducible refine Below.alloc ?_ (by first | omega | (simp; done) | (simp; omega) | (simp at *; omega)) _) | (with_reducible refine Below.setCell ?_ (by first | omega | (simp; done) | (simp; omega) | (simp at *; omega)) _) | (with_reducible exact Below.refl _ _) | (with_reducible assumption) | (with_reducible refine Below.trans ?_ (Below.mono (by assumption) (by first | omega | (simp; done) | (simp; omega) | (simp at *; omega)))))))
          clear hby2 y1_0_0 y1_0_1 y1_1_0 y1_1_1 y1o0 y1n0 y1m0 y1t0_0 y1t0_1 y1o1 y1n1 y1m1 y1t1_0 y1t1_1 hBy1
          go_wp2_with fail
          refine hK.out _ _ (by simp [go_sem, World.cell?_alloc_past, *]) (fun hHeld => ?_)
          clear hK K
          try simp only [Act.put, sA, sB, sC]
          refine tkH 5 ⟨some 29, _, _, _, _, _⟩ ?_ rfl ?_ (by assumption) ?_
          rotate_left
          · (intro w hSw; (try dsimp only at hSw); go_simp; all_goals with_reducible rfl)
          try simp only [Act.put, sA, sB, sC]
          refine tkH 6 ⟨some 35, _, _, _, _, _⟩ ?_ rfl ?_ (by assumption) ?_
          rotate_left
          · (intro w hSw; (try dsimp only at hSw); go_simp; all_goals with_reducible rfl)
          try simp only [Act.put, sA, sB, sC]
          refine tkH 7 ⟨some 36, _, _, _, _, _⟩ ?_ rfl ?_ (by assumption) ?_
          rotate_left
          · (intro w hSw; (try dsimp only at hSw); go_simp; all_goals with_reducible rfl)
          try simp only [Act.put, sA, sB, sC]
          refine wpAnyH_ready (rs := [9]) (by kernel_rfl) (by simp) ?_
          refine AllReadyH.cons rfl (fun K hK => ?_) (AllReadyH.nil)
          go_simp
          go_wp2_with fail
          refine hK.out _ _ (by simp [go_sem, World.cell?_alloc_past, *]) (fun hHeld => ?_)
          clear hK K
          try simp only [Act.put, sA, sB, sC]
          refine tkH 10 ⟨some 10, _, _, _, _, _⟩ ?_ rfl ?_ (by assumption) ?_
          rotate_left
          · (intro w hSw; (try dsimp only at hSw); go_simp; all_goals with_reducible rfl)
          try simp only [Act.put, sA, sB, sC]
          refine wpAnyH_done (by kernel_rfl) ?_ _
          go_wp2_with fail
          go_meet
          refine ⟨yw1.heap.size, rfl, rfl, by first | omega | (simp; done) | (simp; omega), by first | omega | (simp; done) | (simp; omega), by first | omega | (simp; done) | (simp; omega), ⟨(by simp [go_sem, World.cell?_alloc_past, *]), (by simp [go_sem, World.cell?_alloc_past, *]), (by simp [go_sem, World.cell?_alloc_past, *]), (by simp [go_sem, World.cell?_alloc_past, *]), (by simp [go_sem, World.cell?_alloc_past, *]), (by simp [go_sem, World.cell?_alloc_past, *])⟩, ?_⟩
          (repeat (first | (with_reducible refine Below.drew ?_) | (with_reducible refine below_drewN ?_ _) | (with_reducible refine Below.alloc ?_ (by first | omega | (simp; done) | (simp; omega) | (simp at *; omega)) _) | (with_reducible refine Below.setCell ?_ (by first | omega | (simp; done) | (simp; omega) | (simp at *; omega)) _) | (with_reducible exact Below.refl _ _) | (with_reducible assumption) | (with_reducible refine Below.trans ?_ (Below.mono (by assumption) (by first | omega | (simp; done) | (simp; omega) | (simp at *; omega))))))
      · skip
        go_simp
        go_wp2_with fail
        refine hK.out _ _ (by simp [go_sem, World.cell?_alloc_past, *]) (fun hHeld => ?_)
        clear hK K
        try simp only [Act.put, sA, sB, sC]
        refine wpAnyH_ready (rs := [1]) (by kernel_rfl) (by simp) ?_
        refine AllReadyH.cons rfl (fun K hK => ?_) (AllReadyH.nil)
        go_simp
        refine (hT.out _ (hS.out.below (by (repeat (first | (with_reducible refine Below.drew ?_) | (with_reducible refine below_drewN ?_ _) | (with_reducible refine Below.alloc ?_ (by first | omega | (simp; done) | (simp; omega) | (simp at *; omega)) _) | (with_reducible refine Below.setCell ?_ (by first | omega | (simp; done) | (simp; omega) | (simp at *; omega)) _) | (with_reducible exact Below.refl _ _) | (with_reducible assumption) | (with_reducible refine Below.trans ?_ (Below.mono (by assumption) (by first | omega | (simp; done) | (simp; omega) | (simp at *; omega))))))))).mono ?_
        rintro e yw1 ⟨y1A, y1c, rfl, y1S, hby1⟩
        have zy1 := hby1.size
        try simp at zy1
        obtain ⟨y1_0_0, y1_0_1, y1_1_0, y1_1_1, y1_2_0, y1_2_1⟩ : yw1.cell? ⟨w.heap.size, 0, none⟩ = some (.int .i64 x) ∧ yw1.cell? ⟨w.heap.size, 1, none⟩ = some (.int .i64 y) ∧ yw1.cell? ⟨m, 0, none⟩ = some (.int .i64 l) ∧ yw1.cell? ⟨m, 1, none⟩ = some (.int .i64 u) ∧ yw1.cell? ⟨wc.heap.size, 0, none⟩ = some (.int .i64 0) ∧ yw1.cell? ⟨wc.heap.size, 1, none⟩ = some (.int .i64 0) := by refine ⟨?_, ?_, ?_, ?_, ?_, ?_⟩ <;> (rw [(bcell hby1).1 _ _ (by first | (simp; done) | (simp; omega) | omega)]; simp [go_sem, World.cell?_alloc_past, *])
        have y1f2 : (∀ j, yw1.frozen? ⟨wc.heap.size, j, none⟩ = false) := by (intro j; rw [(bcell hby1).2 _ _ (by first | (simp; done) | (simp; omega) | omega)]; simp [go_sem, *])
        obtain ⟨y1o0, y1n0, y1m0, y1t0_0, y1t0_1, y1o1, y1n1, y1m1, y1t1_0, y1t1_1, y1o2, y1n2, y1m2, y1t2_0, y1t2_1⟩ : w.heap.size < yw1.heap.size ∧ yw1.heap.size ≠ w.heap.size ∧ w.heap.size ≠ yw1.heap.size ∧ w.heap.size < yw1.heap.size + 1 ∧ w.heap.size < yw1.heap.size + 1 + 1 ∧ m < yw1.heap.size ∧ yw1.heap.size ≠ m ∧ m ≠ yw1.heap.size ∧ m < yw1.heap.size + 1 ∧ m < yw1.heap.size + 1 + 1 ∧ wc.heap.size < yw1.heap.size ∧ yw1.heap.size ≠ wc.heap.size ∧ wc.heap.size ≠ yw1.heap.size ∧ wc.heap.size < yw1.heap.size + 1 ∧ wc.heap.size < yw1.heap.size + 1 + 1 := by refine ⟨?_, ?_, ?_, ?_, ?_, ?_, ?_, ?_, ?_, ?_, ?_, ?_, ?_, ?_, ?_⟩ <;> omega
        have hBy1 : Below w.heap.size w yw1 := (by (repeat (first | (with_reducible refine Below.drew ?_) | (with_reducible refine below_drewN ?_ _) | (with_reducible refine Below.alloc ?_ (by first | omega | (simp; done) | (simp; omega) | (simp at *; omega)) _) | (with_reducible refine Below.setCell ?_ (by first | omega | (simp; done) | (simp; omega) | (simp at *; omega)) _) | (with_reducible exact Below.refl _ _) | (with_reducible assumption) | (with_reducible refine Below.trans ?_ (Below.mono (by assumption) (by first | omega | (simp; done) | (simp; omega) | (simp at *; omega)))))))
        clear hby1 
        have y1H := Lib.hid y1S
        clear y1S
        go_wp2_with fail
        refine hK.out _ _ (by simp [go_sem, World.cell?_alloc_past, *]) (fun hHeld => ?_)
        clear hK K
        try simp only [Act.put, sA, sB, sC]
        refine wpAnyH_ready (rs := [4]) (by kernel_rfl) (by simp) ?_
        refine AllReadyH.cons rfl (fun K hK => ?_) (AllReadyH.nil)
        go_simp
        refine (hR.out y1A y1c _ (y1H.out.below (by (repeat (first | (with_reducible refine Below.drew ?_) | (with_reducible refine below_drewN ?_ _) | (with_reducible refine Below.alloc ?_ (by first | omega | (simp; done) | (simp; omega) | (simp at *; omega)) _) | (with_reducible refine Below.setCell ?_ (by first | omega | (simp; done) | (simp; omega) | (simp at *; omega)) _) | (with_reducible exact Below.refl _ _) | (with_reducible assumption) | (with_reducible refine Below.trans ?_ (Below.mono (by assumption) (by first | omega | (simp; done) | (simp; omega) | (simp at *; omega))))))))).mono ?_
        rintro e yw2 ⟨rfl, hby2⟩
        have zy2 := hby2.size
        try simp at zy2
        obtain ⟨y2_0_0, y2_0_1, y2_1_0, y2_1_1, y2_2_0, y2_2_1⟩ : yw2.cell? ⟨w.heap.size, 0, none⟩ = some (.int .i64 x) ∧ yw2.cell? ⟨w.heap.size, 1, none⟩ = some (.int .i64 y) ∧ yw2.cell? ⟨m, 0, none⟩ = some (.int .i64 l) ∧ yw2.cell? ⟨m, 1, none⟩ = some (.int .i64 u) ∧ yw2.cell? ⟨wc.heap.size, 0, none⟩ = some (.int .i64 0) ∧ yw2.cell? ⟨wc.heap.size, 1, none⟩ = some (.int .i64 0) := by refine ⟨?_, ?_, ?_, ?_, ?_, ?_⟩ <;> (rw [(bcell hby2).1 _ _ (by first | (simp; done) | (simp; omega) | omega)]; simp [go_sem, World.cell?_alloc_past, *])
        have y2f2 : (∀ j, yw2.frozen? ⟨wc.heap.size, j, none⟩ = false) := by (intro j; rw [(bcell hby2).2 _ _ (by first | (simp; done) | (simp; omega) | omega)]; simp [go_sem, *])
        obtain ⟨y2o0, y2n0, y2m0, y2t0_0, y2t0_1, y2o1, y2n1, y2m1, y2t1_0, y2t1_1, y2o2, y2n2, y2m2, y2t2_0, y2t2_1⟩ : w.heap.size < yw2.heap.size ∧ yw2.heap.size ≠ w.heap.size ∧ w.heap.size ≠ yw2.heap.size ∧ w.heap.size < yw2.heap.size + 1 ∧ w.heap.size < yw2.heap.size + 1 + 1 ∧ m < yw2.heap.size ∧ yw2.heap.size ≠ m ∧ m ≠ yw2.heap.size ∧ m < yw2.heap.size + 1 ∧ m < yw2.heap.size + 1 + 1 ∧ wc.heap.size < yw2.heap.size ∧ yw2.heap.size ≠ wc.heap.size ∧ wc.heap.size ≠ yw2.heap.size ∧ wc.heap.size < yw2.heap.size + 1 ∧ wc.heap.size < yw2.heap.size + 1 + 1 := by refine ⟨?_, ?_, ?_, ?_, ?_, ?_, ?_, ?_, ?_, ?_, ?_, ?_, ?_, ?_, ?_⟩ <;> omega
        have hBy2 : Below w.heap.size w yw2 := (by (repeat (first | (with_reducible refine Below.drew ?_) | (with_reducible refine below_drewN ?_ _) | (with_reducible refine Below.alloc ?_ (by first | omega | (simp; done) | (simp; omega) | (simp at *; omega)) _) | (with_reducible refine Below.setCell ?_ (by first | omega | (simp; done) | (simp; omega) | (simp at *; omega)) _) | (with_reducible exact Below.refl _ _) | (with_reducible assumption) | (with_reducible refine Below.trans ?_ (Below.mono (by assumption) (by first | omega | (simp; done) | (simp; omega) | (simp at *; omega)))))))
        clear hby2 y1_0_0 y1_0_1 y1_1_0 y1_1_1 y1_2_0 y1_2_1 y1f2 y1o0 y1n0 y1m0 y1t0_0 y1t0_1 y1o1 y1n1 y1m1 y1t1_0 y1t1_1 y1o2 y1n2 y1m2 y1t2_0 y1t2_1 hBy1
        go_wp2_with fail
        refine hK.out _ _ (by simp [go_sem, World.cell?_alloc_past, *]) (fun hHeld => ?_)
        clear hK K
        try simp only [Act.put, sA, sB, sC]
        refine tkH 5 ⟨some 29, _, _, _, _, _⟩ ?_ rfl ?_ (by assumption) ?_
        rotate_left
        · (intro w hSw; (try dsimp only at hSw); go_simp; all_goals with_reducible rfl)
        try simp only [Act.put, sA, sB, sC]
        refine tkH 6 ⟨some 35, _, _, _, _, _⟩ ?_ rfl ?_ (by assumption) ?_
        rotate_left
        · (intro w hSw; (try dsimp only at hSw); go_simp; all_goals with_reducible rfl)
        try simp only [Act.put, sA, sB, sC]
        refine tkH 7 ⟨some 36, _, _, _, _, _⟩ ?_ rfl ?_ (by assumption) ?_
        rotate_left
        · (intro w hSw; (try dsimp only at hSw); go_simp; all_goals with_reducible rfl)
        try simp only [Act.put, sA, sB, sC]
        refine wpAnyH_ready (rs := [9]) (by kernel_rfl) (by simp) ?_
        refine AllReadyH.cons rfl (fun K hK => ?_) (AllReadyH.nil)
        go_simp
        go_wp2_with fail
        refine hK.out _ _ (by simp [go_sem, World.cell?_alloc_past, *]) (fun hHeld => ?_)
        clear hK K
        try simp only [Act.put, sA, sB, sC]
        refine tkH 10 ⟨some 10, _, _, _, _, _⟩ ?_ rfl ?_ (by assumption) ?_
        rotate_left
        · (intro w hSw; (try dsimp only at hSw); go_simp; all_goals with_reducible rfl)
        try simp only [Act.put, sA, sB, sC]
        refine wpAnyH_done (by kernel_rfl) ?_ _
        go_wp2_with fail
        go_meet
        refine ⟨wc.heap.size, rfl, rfl, by first | omega | (simp; done) | (simp; omega), by first | omega | (simp; done) | (simp; omega), by first | omega | (simp; done) | (simp; omega), ⟨(by simp [go_sem, World.cell?_alloc_past, *]), (by simp [go_sem, World.cell?_alloc_past, *]), (by simp [go_sem, World.cell?_alloc_past, *]), (by simp [go_sem, World.cell?_alloc_past, *]), (by simp [go_sem, World.cell?_alloc_past, *]), (by simp [go_sem, World.cell?_alloc_past, *])⟩, ?_⟩
        (repeat (first | (with_reducible refine Below.drew ?_) | (with_reducible refine below_drewN ?_ _) | (with_reducible refine Below.alloc ?_ (by first | omega | (simp; done) | (simp; omega) | (simp at *; omega)) _) | (with_reducible refine Below.setCell ?_ (by first | omega | (simp; done) | (simp; omega) | (simp at *; omega)) _) | (with_reducible exact Below.refl _ _) | (with_reducible assumption) | (with_reducible refine Below.trans ?_ (Below.mono (by assumption) (by first | omega | (simp; done) | (simp; omega) | (simp at *; omega))))))
    case rest =>
      obtain ⟨k, rfl, rfl, lk, lm2, gk, ⟨p0, p1, p2, p3, p4, p5⟩, pB⟩ := hcut
      have c1 : w.heap.size < wc.heap.size := by omega
      clear kB k0 k1 k2 k3 o1 o2 o3 o4 o5 lm
      go_wp2_with fail
      refine (hC2.out A cap _ (hS.out.below (by (repeat (first | (with_reducible refine Below.drew ?_) | (with_reducible refine below_drewN ?_ _) | (with_reducible refine Below.alloc ?_ (by first | omega | (simp; done) | (simp; omega) | (simp at *; omega)) _) | (with_reducible refine Below.setCell ?_ (by first | omega | (simp; done) | (simp; omega) | (simp at *; omega)) _) | (with_reducible exact Below.refl _ _) | (with_reducible assumption) | (with_reducible refine Below.trans ?_ (Below.mono (by assumption) (by first | omega | (simp; done) | (simp; omega) | (simp at *; omega))))))))).mono ?_
      rintro e zw1 ⟨rfl, hbz1⟩
      have zz1 := hbz1.size
      try simp at zz1
      obtain ⟨z1_0_0, z1_0_1, z1_1_0, z1_1_1, z1_2_0, z1_2_1⟩ : zw1.cell? ⟨w.heap.size, 0, none⟩ = some (.int .i64 x) ∧ zw1.cell? ⟨w.heap.size, 1, none⟩ = some (.int .i64 y) ∧ zw1.cell? ⟨m, 0, none⟩ = some (.int .i64 l) ∧ zw1.cell? ⟨m, 1, none⟩ = some (.int .i64 u) ∧ zw1.cell? ⟨k, 0, none⟩ = some (.int .i64 q) ∧ zw1.cell? ⟨k, 1, none⟩ = some (.int .i64 r) := by refine ⟨?_, ?_, ?_, ?_, ?_, ?_⟩ <;> (rw [(bcell hbz1).1 _ _ (by first | (simp; done) | (simp; omega) | omega)]; simp [go_sem, World.cell?_alloc_past, *])
      obtain ⟨z1o0, z1n0, z1m0, z1t0_0, z1t0_1, z1o1, z1n1, z1m1, z1t1_0, z1t1_1, z1o2, z1n2, z1m2, z1t2_0, z1t2_1⟩ : w.heap.size < zw1.heap.size ∧ zw1.heap.size ≠ w.heap.size ∧ w.heap.size ≠ zw1.heap.size ∧ w.heap.size < zw1.heap.size + 1 ∧ w.heap.size < zw1.heap.size + 1 + 1 ∧ m < zw1.heap.size ∧ zw1.heap.size ≠ m ∧ m ≠ zw1.heap.size ∧ m < zw1.heap.size + 1 ∧ m < zw1.heap.size + 1 + 1 ∧ k < zw1.heap.size ∧ zw1.heap.size ≠ k ∧ k ≠ zw1.heap.size ∧ k < zw1.heap.size + 1 ∧ k < zw1.heap.size + 1 + 1 := by refine ⟨?_, ?_, ?_, ?_, ?_, ?_, ?_, ?_, ?_, ?_, ?_, ?_, ?_, ?_, ?_⟩ <;> omega
      have hBz1 : Below w.heap.size w zw1 := (by (repeat (first | (with_reducible refine Below.drew ?_) | (with_reducible refine below_drewN ?_ _) | (with_reducible refine Below.alloc ?_ (by first | omega | (simp; done) | (simp; omega) | (simp at *; omega)) _) | (with_reducible refine Below.setCell ?_ (by first | omega | (simp; done) | (simp; omega) | (simp at *; omega)) _) | (with_reducible exact Below.refl _ _) | (with_reducible assumption) | (with_reducible refine Below.trans ?_ (Below.mono (by assumption) (by first | omega | (simp; done) | (simp; omega) | (simp at *; omega)))))))
      clear hbz1 
      go_wp2_with fail
      refine (hT.out _ (hS.out.below (by (repeat (first | (with_reducible refine Below.drew ?_) | (with_reducible refine below_drewN ?_ _) | (with_reducible refine Below.alloc ?_ (by first | omega | (simp; done) | (simp; omega) | (simp at *; omega)) _) | (with_reducible refine Below.setCell ?_ (by first | omega | (simp; done) | (simp; omega) | (simp at *; omega)) _) | (with_reducible exact Below.refl _ _) | (with_reducible assumption) | (with_reducible refine Below.trans ?_ (Below.mono (by assumption) (by first | omega | (simp; done) | (simp; omega) | (simp at *; omega))))))))).mono ?_
      rintro e zw2 ⟨z2A, z2c, rfl, z2S, hbz2⟩
      have zz2 := hbz2.size
      try simp at zz2
      obtain ⟨z2_0_0, z2_0_1, z2_1_0, z2_1_1, z2_2_0, z2_2_1⟩ : zw2.cell? ⟨w.heap.size, 0, none⟩ = some (.int .i64 x) ∧ zw2.cell? ⟨w.heap.size, 1, none⟩ = some (.int .i64 y) ∧ zw2.cell? ⟨m, 0, none⟩ = some (.int .i64 l) ∧ zw2.cell? ⟨m, 1, none⟩ = some (.int .i64 u) ∧ zw2.cell? ⟨k, 0, none⟩ = some (.int .i64 q) ∧ zw2.cell? ⟨k, 1, none⟩ = some (.int .i64 r) := by refine ⟨?_, ?_, ?_, ?_, ?_, ?_⟩ <;> (rw [(bcell hbz2).1 _ _ (by first | (simp; done) | (simp; omega) | omega)]; simp [go_sem, World.cell?_alloc_past, *])
      obtain ⟨z2o0, z2n0, z2m0, z2t0_0, z2t0_1, z2o1, z2n1, z2m1, z2t1_0, z2t1_1, z2o2, z2n2, z2m2, z2t2_0, z2t2_1⟩ : w.heap.size < zw2.heap.size ∧ zw2.heap.size ≠ w.heap.size ∧ w.heap.size ≠ zw2.heap.size ∧ w.heap.size < zw2.heap.size + 1 ∧ w.heap.size < zw2.heap.size + 1 + 1 ∧ m < zw2.heap.size ∧ zw2.heap.size ≠ m ∧ m ≠ zw2.heap.size ∧ m < zw2.heap.size + 1 ∧ m < zw2.heap.size + 1 + 1 ∧ k < zw2.heap.size ∧ zw2.heap.size ≠ k ∧ k ≠ zw2.heap.size ∧ k < zw2.heap.size + 1 ∧ k < zw2.heap.size + 1 + 1 := by refine ⟨?_, ?_, ?_, ?_, ?_, ?_, ?_, ?_, ?_, ?_, ?_, ?_, ?_, ?_, ?_⟩ <;> omega
      have hBz2 : Below w.heap.size w zw2 := (by (repeat (first | (with_reducible refine Below.drew ?_) | (with_reducible refine below_drewN ?_ _) | (with_reducible refine Below.alloc ?_ (by first | omega | (simp; done) | (simp; omega) | (simp at *; omega)) _) | (with_reducible refine Below.setCell ?_ (by first | omega | (simp; done) | (simp; omega) | (simp at *; omega)) _) | (with_reducible exact Below.refl _ _) | (with_reducible assumption) | (with_reducible refine Below.trans ?_ (Below.mono (by assumption) (by first | omega | (simp; done) | (simp; omega) | (simp at *; omega)))))))
      clear hbz2 z1_0_0 z1_0_1 z1_1_0 z1_1_1 z1_2_0 z1_2_1 z1o0 z1n0 z1m0 z1t0_0 z1t0_1 z1o1 z1n1 z1m1 z1t1_0 z1t1_1 z1o2 z1n2 z1m2 z1t2_0 z1t2_1 hBz1
      have z2H := Lib.hid z2S
      clear z2S
      go_wp2_with fail
      refine (hC.out z2A z2c _ (z2H.out.below (by (repeat (first | (with_reducible refine Below.drew ?_) | (with_reducible refine below_drewN ?_ _) | (with_reducible refine Below.alloc ?_ (by first | omega | (simp; done) | (simp; omega) | (simp at *; omega)) _) | (with_reducible refine Below.setCell ?_ (by first | omega | (simp; done) | (simp; omega) | (simp at *; omega)) _) | (with_reducible exact Below.refl _ _) | (with_reducible assumption) | (with_reducible refine Below.trans ?_ (Below.mono (by assumption) (by first | omega | (simp; done) | (simp; omega) | (simp at *; omega))))))))).mono ?_
      rintro e zw3 ⟨rfl, hbz3⟩
      have zz3 := hbz3.size
      try simp at zz3
      obtain ⟨z3_0_0, z3_0_1, z3_1_0, z3_1_1, z3_2_0, z3_2_1⟩ : zw3.cell? ⟨w.heap.size, 0, none⟩ = some (.int .i64 x) ∧ zw3.cell? ⟨w.heap.size, 1, none⟩ = some (.int .i64 y) ∧ zw3.cell? ⟨m, 0, none⟩ = some (.int .i64 l) ∧ zw3.cell? ⟨m, 1, none⟩ = some (.int .i64 u) ∧ zw3.cell? ⟨k, 0, none⟩ = some (.int .i64 q) ∧ zw3.cell? ⟨k, 1, none⟩ = some (.int .i64 r) := by refine ⟨?_, ?_, ?_, ?_, ?_, ?_⟩ <;> (rw [(bcell hbz3).1 _ _ (by first | (simp; done) | (simp; omega) | omega)]; simp [go_sem, World.cell?_alloc_past, *])
      obtain ⟨z3o0, z3n0, z3m0, z3t0_0, z3t0_1, z3o1, z3n1, z3m1, z3t1_0, z3t1_1, z3o2, z3n2, z3m2, z3t2_0, z3t2_1⟩ : w.heap.size < zw3.heap.size ∧ zw3.heap.size ≠ w.heap.size ∧ w.heap.size ≠ zw3.heap.size ∧ w.heap.size < zw3.heap.size + 1 ∧ w.heap.size < zw3.heap.size + 1 + 1 ∧ m < zw3.heap.size ∧ zw3.heap.size ≠ m ∧ m ≠ zw3.heap.size ∧ m < zw3.heap.size + 1 ∧ m < zw3.heap.size + 1 + 1 ∧ k < zw3.heap.size ∧ zw3.heap.size ≠ k ∧ k ≠ zw3.heap.size ∧ k < zw3.heap.size + 1 ∧ k < zw3.heap.size + 1 + 1 := by refine ⟨?_, ?_, ?_, ?_, ?_, ?_, ?_, ?_, ?_, ?_, ?_, ?_, ?_, ?_, ?_⟩ <;> omega
      have hBz3 : Below w.heap.size w zw3 := (by (repeat (first | (with_reducible refine Below.drew ?_) | (with_reducible refine below_drewN ?_ _) | (with_reducible refine Below.alloc ?_ (by first | omega | (simp; done) | (simp; omega) | (simp at *; omega)) _) | (with_reducible refine Below.setCell ?_ (by first | omega | (simp; done) | (simp; omega) | (simp at *; omega)) _) | (with_reducible exact Below.refl _ _) | (with_reducible assumption) | (with_reducible refine Below.trans ?_ (Below.mono (by assumption) (by first | omega | (simp; done) | (simp; omega) | (simp at *; omega)))))))
      clear hbz3 z2_0_0 z2_0_1 z2_1_0 z2_1_1 z2_2_0 z2_2_1 z2o0 z2n0 z2m0 z2t0_0 z2t0_1 z2o1 z2n1 z2m1 z2t1_0 z2t1_1 z2o2 z2n2 z2m2 z2t2_0 z2t2_1 hBz2
      rcases HW.out with ⟨rfl, rfl, rfl, rfl, hz⟩ | ⟨rfl, rfl, hz⟩ | ⟨rfl, rfl, rfl, P0, P1, Q0, QP, PS, S1⟩
      · clear HW hP hQ hS2
        go_wp2_with fail
        refine (hF2.out A cap _ (hS.out.below (by (repeat (first | (with_reducible refine Below.drew ?_) | (with_reducible refine below_drewN ?_ _) | (with_reducible refine Below.alloc ?_ (by first | omega | (simp; done) | (simp; omega) | (simp at *; omega)) _) | (with_reducible refine Below.setCell ?_ (by first | omega | (simp; done) | (simp; omega) | (simp at *; omega)) _) | (with_reducible exact Below.refl _ _) | (with_reducible assumption) | (with_reducible refine Below.trans ?_ (Below.mono (by assumption) (by first | omega | (simp; done) | (simp; omega) | (simp at *; omega))))))))).mono ?_
        rintro e zw4 ⟨rfl, hbz4⟩
        have zz4 := hbz4.size
        try simp at zz4
        obtain ⟨z4_0_0, z4_0_1, z4_1_0, z4_1_1, z4_2_0, z4_2_1⟩ : zw4.cell? ⟨w.heap.size, 0, none⟩ = some (.int .i64 x) ∧ zw4.cell? ⟨w.heap.size, 1, none⟩ = some (.int .i64 y) ∧ zw4.cell? ⟨m, 0, none⟩ = some (.int .i64 0) ∧ zw4.cell? ⟨m, 1, none⟩ = some (.int .i64 0) ∧ zw4.cell? ⟨k, 0, none⟩ = some (.int .i64 q) ∧ zw4.cell? ⟨k, 1, none⟩ = some (.int .i64 r) := by refine ⟨?_, ?_, ?_, ?_, ?_, ?_⟩ <;> (rw [(bcell hbz4).1 _ _ (by first | (simp; done) | (simp; omega) | omega)]; simp [go_sem, World.cell?_alloc_past, *])
        obtain ⟨z4o0, z4n0, z4m0, z4t0_0, z4t0_1, z4o1, z4n1, z4m1, z4t1_0, z4t1_1, z4o2, z4n2, z4m2, z4t2_0, z4t2_1⟩ : w.heap.size < zw4.heap.size ∧ zw4.heap.size ≠ w.heap.size ∧ w.heap.size ≠ zw4.heap.size ∧ w.heap.size < zw4.heap.size + 1 ∧ w.heap.size < zw4.heap.size + 1 + 1 ∧ m < zw4.heap.size ∧ zw4.heap.size ≠ m ∧ m ≠ zw4.heap.size ∧ m < zw4.heap.size + 1 ∧ m < zw4.heap.size + 1 + 1 ∧ k < zw4.heap.size ∧ zw4.heap.size ≠ k ∧ k ≠ zw4.heap.size ∧ k < zw4.heap.size + 1 ∧ k < zw4.heap.size + 1 + 1 := by refine ⟨?_, ?_, ?_, ?_, ?_, ?_, ?_, ?_, ?_, ?_, ?_, ?_, ?_, ?_, ?_⟩ <;> omega
        have hBz4 : Below w.heap.size w zw4 := (by (repeat (first | (with_reducible refine Below.drew ?_) | (with_reducible refine below_drewN ?_ _) | (with_reducible refine Below.alloc ?_ (by first | omega | (simp; done) | (simp; omega) | (simp at *; omega)) _) | (with_reducible refine Below.setCell ?_ (by first | omega | (simp; done) | (simp; omega) | (simp at *; omega)) _) | (with_reducible exact Below.refl _ _) | (with_reducible assumption) | (with_reducible refine Below.trans ?_ (Below.mono (by assumption) (by first | omega | (simp; done) | (simp; omega) | (simp at *; omega)))))))
        clear hbz4 z3_0_0 z3_0_1 z3_1_0 z3_1_1 z3_2_0 z3_2_1 z3o0 z3n0 z3m0 z3t0_0 z3t0_1 z3o1 z3n1 z3m1 z3t1_0 z3t1_1 z3o2 z3n2 z3m2 z3t2_0 z3t2_1 hBz3
        have ob1 : w.heap.size < zw4.heap.size := by omega
        have ob2 : m < zw4.heap.size := by omega
        have ob3 : k < zw4.heap.size := by omega
        go_wp2_with fail
        refine (hR2.out A cap _ (hS.out.below (by (repeat (first | (with_reducible refine Below.drew ?_) | (with_reducible refine below_drewN ?_ _) | (with_reducible refine Below.alloc ?_ (by first | omega | (simp; done) | (simp; omega) | (simp at *; omega)) _) | (with_reducible refine Below.setCell ?_ (by first | omega | (simp; done) | (simp; omega) | (simp at *; omega)) _) | (with_reducible exact Below.refl _ _) | (with_reducible assumption) | (with_reducible refine Below.trans ?_ (Below.mono (by assumption) (by first | omega | (simp; done) | (simp; omega) | (simp at *; omega))))))))).mono ?_
        rintro e zw5 ⟨rfl, hbz5⟩
        have zz5 := hbz5.size
        try simp at zz5
        obtain ⟨z5_0_0, z5_0_1, z5_1_0, z5_1_1, z5_2_0, z5_2_1, z5_3_0, z5_3_1⟩ : zw5.cell? ⟨w.heap.size, 0, none⟩ = some (.int .i64 x) ∧ zw5.cell? ⟨w.heap.size, 1, none⟩ = some (.int .i64 y) ∧ zw5.cell? ⟨m, 0, none⟩ = some (.int .i64 0) ∧ zw5.cell? ⟨m, 1, none⟩ = some (.int .i64 0) ∧ zw5.cell? ⟨k, 0, none⟩ = some (.int .i64 q) ∧ zw5.cell? ⟨k, 1, none⟩ = some (.int .i64 r) ∧ zw5.cell? ⟨zw4.heap.size, 0, none⟩ = some (.int .i64 0) ∧ zw5.cell? ⟨zw4.heap.size, 1, none⟩ = some (.int .i64 0) := by refine ⟨?_, ?_, ?_, ?_, ?_, ?_, ?_, ?_⟩ <;> (rw [(bcell hbz5).1 _ _ (by first | (simp; done) | (simp; omega) | omega)]; simp [go_sem, World.cell?_alloc_past, *])
        obtain ⟨z5o0, z5n0, z5m0, z5t0_0, z5t0_1, z5o1, z5n1, z5m1, z5t1_0, z5t1_1, z5o2, z5n2, z5m2, z5t2_0, z5t2_1, z5o3, z5n3, z5m3, z5t3_0, z5t3_1⟩ : w.heap.size < zw5.heap.size ∧ zw5.heap.size ≠ w.heap.size ∧ w.heap.size ≠ zw5.heap.size ∧ w.heap.size < zw5.heap.size + 1 ∧ w.heap.size < zw5.heap.size + 1 + 1 ∧ m < zw5.heap.size ∧ zw5.heap.size ≠ m ∧ m ≠ zw5.heap.size ∧ m < zw5.heap.size + 1 ∧ m < zw5.heap.size + 1 + 1 ∧ k < zw5.heap.size ∧ zw5.heap.size ≠ k ∧ k ≠ zw5.heap.size ∧ k < zw5.heap.size + 1 ∧ k < zw5.heap.size + 1 + 1 ∧ zw4.heap.size < zw5.heap.size ∧ zw5.heap.size ≠ zw4.heap.size ∧ zw4.heap.size ≠ zw5.heap.size ∧ zw4.heap.size < zw5.heap.size + 1 ∧ zw4.heap.size < zw5.heap.size + 1 + 1 := by refine ⟨?_, ?_, ?_, ?_, ?_, ?_, ?_, ?_, ?_, ?_, ?_, ?_, ?_, ?_, ?_, ?_, ?_, ?_, ?_, ?_⟩ <;> omega
        have hBz5 : Below w.heap.size w zw5 := (by (repeat (first | (with_reducible refine Below.drew ?_) | (with_reducible refine below_drewN ?_ _) | (with_reducible refine Below.alloc ?_ (by first | omega | (simp; done) | (simp; omega) | (simp at *; omega)) _) | (with_reducible refine Below.setCell ?_ (by first | omega | (simp; done) | (simp; omega) | (simp at *; omega)) _) | (with_reducible exact Below.refl _ _) | (with_reducible assumption) | (with_reducible refine Below.trans ?_ (Below.mono (by assumption) (by first | omega | (simp; done) | (simp; omega) | (simp at *; omega)))))))
        clear hbz5 z4_0_0 z4_0_1 z4_1_0 z4_1_1 z4_2_0 z4_2_1 z4o0 z4n0 z4m0 z4t0_0 z4t0_1 z4o1 z4n1 z4m1 z4t1_0 z4t1_1 z4o2 z4n2 z4m2 z4t2_0 z4t2_1 hBz4
        generalize zw4.heap.size = s at *
        go_wp2
        go_ret
        exact ⟨rfl, (by (repeat (first | (with_reducible refine Below.drew ?_) | (with_reducible refine below_drewN ?_ _) | (with_reducible refine Below.alloc ?_ (by first | omega | (simp; done) | (simp; omega) | (simp at *; omega)) _) | (with_reducible refine Below.setCell ?_ (by first | omega | (simp; done) | (simp; omega) | (simp at *; omega)) _) | (with_reducible exact Below.refl _ _) | (with_reducible assumption) | (with_reducible refine Below.trans ?_ (Below.mono (by assumption) (by first | omega | (simp; done) | (simp; omega) | (simp at *; omega)))))))⟩
      · clear HW hP hQ hS2
        go_wp2_with fail
        refine (hF2.out A cap _ (hS.out.below (by (repeat (first | (with_reducible refine Below.drew ?_) | (with_reducible refine below_drewN ?_ _) | (with_reducible refine Below.alloc ?_ (by first | omega | (simp; done) | (simp; omega) | (simp at *; omega)) _) | (with_reducible refine Below.setCell ?_ (by first | omega | (simp; done) | (simp; omega) | (simp at *; omega)) _) | (with_reducible exact Below.refl _ _) | (with_reducible assumption) | (with_reducible refine Below.trans ?_ (Below.mono (by assumption) (by first | omega | (simp; done) | (simp; omega) | (simp at *; omega))))))))).mono ?_
        rintro e zw4 ⟨rfl, hbz4⟩
        have zz4 := hbz4.size
        try simp at zz4
        obtain ⟨z4_0_0, z4_0_1, z4_1_0, z4_1_1, z4_2_0, z4_2_1⟩ : zw4.cell? ⟨w.heap.size, 0, none⟩ = some (.int .i64 x) ∧ zw4.cell? ⟨w.heap.size, 1, none⟩ = some (.int .i64 y) ∧ zw4.cell? ⟨m, 0, none⟩ = some (.int .i64 l) ∧ zw4.cell? ⟨m, 1, none⟩ = some (.int .i64 u) ∧ zw4.cell? ⟨k, 0, none⟩ = some (.int .i64 q) ∧ zw4.cell? ⟨k, 1, none⟩ = some (.int .i64 r) := by refine ⟨?_, ?_, ?_, ?_, ?_, ?_⟩ <;> (rw [(bcell hbz4).1 _ _ (by first | (simp; done) | (simp; omega) | omega)]; simp [go_sem, World.cell?_alloc_past, *])
        obtain ⟨z4o0, z4n0, z4m0, z4t0_0, z4t0_1, z4o1, z4n1, z4m1, z4t1_0, z4t1_1, z4o2, z4n2, z4m2, z4t2_0, z4t2_1⟩ : w.heap.size < zw4.heap.size ∧ zw4.heap.size ≠ w.heap.size ∧ w.heap.size ≠ zw4.heap.size ∧ w.heap.size < zw4.heap.size + 1 ∧ w.heap.size < zw4.heap.size + 1 + 1 ∧ m < zw4.heap.size ∧ zw4.heap.size ≠ m ∧ m ≠ zw4.heap.size ∧ m < zw4.heap.size + 1 ∧ m < zw4.heap.size + 1 + 1 ∧ k < zw4.heap.size ∧ zw4.heap.size ≠ k ∧ k ≠ zw4.heap.size ∧ k < zw4.heap.size + 1 ∧ k < zw4.heap.size + 1 + 1 := by refine ⟨?_, ?_, ?_, ?_, ?_, ?_, ?_, ?_, ?_, ?_, ?_, ?_, ?_, ?_, ?_⟩ <;> omega
        have hBz4 : Below w.heap.size w zw4 := (by (repeat (first | (with_reducible refine Below.drew ?_) | (with_reducible refine below_drewN ?_ _) | (with_reducible refine Below.alloc ?_ (by first | omega | (simp; done) | (simp; omega) | (simp at *; omega)) _) | (with_reducible refine Below.setCell ?_ (by first | omega | (simp; done) | (simp; omega) | (simp at *; omega)) _) | (with_reducible exact Below.refl _ _) | (with_reducible assumption) | (with_reducible refine Below.trans ?_ (Below.mono (by assumption) (by first | omega | (simp; done) | (simp; omega) | (simp at *; omega)))))))
        clear hbz4 z3_0_0 z3_0_1 z3_1_0 z3_1_1 z3_2_0 z3_2_1 z3o0 z3n0 z3m0 z3t0_0 z3t0_1 z3o1 z3n1 z3m1 z3t1_0 z3t1_1 z3o2 z3n2 z3m2 z3t2_0 z3t2_1 hBz3
        have ob1 : w.heap.size < zw4.heap.size := by omega
        have ob2 : m < zw4.heap.size := by omega
        have ob3 : k < zw4.heap.size := by omega
        go_wp2_with fail
        refine (hR2.out A cap _ (hS.out.below (by (repeat (first | (with_reducible refine Below.drew ?_) | (with_reducible refine below_drewN ?_ _) | (with_reducible refine Below.alloc ?_ (by first | omega | (simp; done) | (simp; omega) | (simp at *; omega)) _) | (with_reducible refine Below.setCell ?_ (by first | omega | (simp; done) | (simp; omega) | (simp at *; omega)) _) | (with_reducible exact Below.refl _ _) | (with_reducible assumption) | (with_reducible refine Below.trans ?_ (Below.mono (by assumption) (by first | omega | (simp; done) | (simp; omega) | (simp at *; omega))))))))).mono ?_
        rintro e zw5 ⟨rfl, hbz5⟩
        have zz5 := hbz5.size
        try simp at zz5
        obtain ⟨z5_0_0, z5_0_1, z5_1_0, z5_1_1, z5_2_0, z5_2_1, z5_3_0, z5_3_1⟩ : zw5.cell? ⟨w.heap.size, 0, none⟩ = some (.int .i64 x) ∧ zw5.cell? ⟨w.heap.size, 1, none⟩ = some (.int .i64 y) ∧ zw5.cell? ⟨m, 0, none⟩ = some (.int .i64 l) ∧ zw5.cell? ⟨m, 1, none⟩ = some (.int .i64 u) ∧ zw5.cell? ⟨k, 0, none⟩ = some (.int .i64 q) ∧ zw5.cell? ⟨k, 1, none⟩ = some (.int .i64 r) ∧ zw5.cell? ⟨zw4.heap.size, 0, none⟩ = some (.int .i64 l) ∧ zw5.cell? ⟨zw4.heap.size, 1, none⟩ = some (.int .i64 u) := by refine ⟨?_, ?_, ?_, ?_, ?_, ?_, ?_, ?_⟩ <;> (rw [(bcell hbz5).1 _ _ (by first | (simp; done) | (simp; omega) | omega)]; simp [go_sem, World.cell?_alloc_past, *])
        obtain ⟨z5o0, z5n0, z5m0, z5t0_0, z5t0_1, z5o1, z5n1, z5m1, z5t1_0, z5t1_1, z5o2, z5n2, z5m2, z5t2_0, z5t2_1, z5o3, z5n3, z5m3, z5t3_0, z5t3_1⟩ : w.heap.size < zw5.heap.size ∧ zw5.heap.size ≠ w.heap.size ∧ w.heap.size ≠ zw5.heap.size ∧ w.heap.size < zw5.heap.size + 1 ∧ w.heap.size < zw5.heap.size + 1 + 1 ∧ m < zw5.heap.size ∧ zw5.heap.size ≠ m ∧ m ≠ zw5.heap.size ∧ m < zw5.heap.size + 1 ∧ m < zw5.heap.size + 1 + 1 ∧ k < zw5.heap.size ∧ zw5.heap.size ≠ k ∧ k ≠ zw5.heap.size ∧ k < zw5.heap.size + 1 ∧ k < zw5.heap.size + 1 + 1 ∧ zw4.heap.size < zw5.heap.size ∧ zw5.heap.size ≠ zw4.heap.size ∧ zw4.heap.size ≠ zw5.heap.size ∧ zw4.heap.size < zw5.heap.size + 1 ∧ zw4.heap.size < zw5.heap.size + 1 + 1 := by refine ⟨?_, ?_, ?_, ?_, ?_, ?_, ?_, ?_, ?_, ?_, ?_, ?_, ?_, ?_, ?_, ?_, ?_, ?_, ?_, ?_⟩ <;> omega
        have hBz5 : Below w.heap.size w zw5 := (by (repeat (first | (with_reducible refine Below.drew ?_) | (with_reducible refine below_drewN ?_ _) | (with_reducible refine Below.alloc ?_ (by first | omega | (simp; done) | (simp; omega) | (simp at *; omega)) _) | (with_reducible refine Below.setCell ?_ (by first | omega | (simp; done) | (simp; omega) | (simp at *; omega)) _) | (with_reducible exact Below.refl _ _) | (with_reducible assumption) | (with_reducible refine Below.trans ?_ (Below.mono (by assumption) (by first | omega | (simp; done) | (simp; omega) | (simp at *; omega)))))))
        clear hbz5 z4_0_0 z4_0_1 z4_1_0 z4_1_1 z4_2_0 z4_2_1 z4o0 z4n0 z4m0 z4t0_0 z4t0_1 z4o1 z4n1 z4m1 z4t1_0 z4t1_1 z4o2 z4n2 z4m2 z4t2_0 z4t2_1 hBz4
        generalize zw4.heap.size = s at *
        go_wp2
        go_ret
        exact ⟨rfl, (by (repeat (first | (with_reducible refine Below.drew ?_) | (with_reducible refine below_drewN ?_ _) | (with_reducible refine Below.alloc ?_ (by first | omega | (simp; done) | (simp; omega) | (simp at *; omega)) _) | (with_reducible refine Below.setCell ?_ (by first | omega | (simp; done) | (simp; omega) | (simp at *; omega)) _) | (with_reducible exact Below.refl _ _) | (with_reducible assumption) | (with_reducible refine Below.trans ?_ (Below.mono (by assumption) (by first | omega | (simp; done) | (simp; omega) | (simp at *; omega)))))))⟩
      · have w1 : IntKind.i64.wrap (x * v) = P := by rw [hP.out]; exact IntWalk.i64_in _ (by omega)
        have w2 : IntKind.i64.wrap (q * u) = Q := by rw [hQ.out]; exact IntWalk.i64_in _ (by omega)
        have w3 : IntKind.i64.wrap (r * l) = S := by rw [hS2.out]; exact IntWalk.i64_in _ (by omega)
        clear HW hP hQ hS2
        go_wp2_with fail
        refine (hF2.out A cap _ (hS.out.below (by (repeat (first | (with_reducible refine Below.drew ?_) | (with_reducible refine below_drewN ?_ _) | (with_reducible refine Below.alloc ?_ (by first | omega | (simp; done) | (simp; omega) | (simp at *; omega)) _) | (with_reducible refine Below.setCell ?_ (by first | omega | (simp; done) | (simp; omega) | (simp at *; omega)) _) | (with_reducible exact Below.refl _ _) | (with_reducible assumption) | (with_reducible refine Below.trans ?_ (Below.mono (by assumption) (by first | omega | (simp; done) | (simp; omega) | (simp at *; omega))))))))).mono ?_
        rintro e zw4 ⟨rfl, hbz4⟩
        have zz4 := hbz4.size
        try simp at zz4
        obtain ⟨z4_0_0, z4_0_1, z4_1_0, z4_1_1, z4_2_0, z4_2_1⟩ : zw4.cell? ⟨w.heap.size, 0, none⟩ = some (.int .i64 x) ∧ zw4.cell? ⟨w.heap.size, 1, none⟩ = some (.int .i64 y) ∧ zw4.cell? ⟨m, 0, none⟩ = some (.int .i64 l) ∧ zw4.cell? ⟨m, 1, none⟩ = some (.int .i64 u) ∧ zw4.cell? ⟨k, 0, none⟩ = some (.int .i64 q) ∧ zw4.cell? ⟨k, 1, none⟩ = some (.int .i64 r) := by refine ⟨?_, ?_, ?_, ?_, ?_, ?_⟩ <;> (rw [(bcell hbz4).1 _ _ (by first | (simp; done) | (simp; omega) | omega)]; simp [go_sem, World.cell?_alloc_past, *])
        obtain ⟨z4o0, z4n0, z4m0, z4t0_0, z4t0_1, z4o1, z4n1, z4m1, z4t1_0, z4t1_1, z4o2, z4n2, z4m2, z4t2_0, z4t2_1⟩ : w.heap.size < zw4.heap.size ∧ zw4.heap.size ≠ w.heap.size ∧ w.heap.size ≠ zw4.heap.size ∧ w.heap.size < zw4.heap.size + 1 ∧ w.heap.size < zw4.heap.size + 1 + 1 ∧ m < zw4.heap.size ∧ zw4.heap.size ≠ m ∧ m ≠ zw4.heap.size ∧ m < zw4.heap.size + 1 ∧ m < zw4.heap.size + 1 + 1 ∧ k < zw4.heap.size ∧ zw4.heap.size ≠ k ∧ k ≠ zw4.heap.size ∧ k < zw4.heap.size + 1 ∧ k < zw4.heap.size + 1 + 1 := by refine ⟨?_, ?_, ?_, ?_, ?_, ?_, ?_, ?_, ?_, ?_, ?_, ?_, ?_, ?_, ?_⟩ <;> omega
        have hBz4 : Below w.heap.size w zw4 := (by (repeat (first | (with_reducible refine Below.drew ?_) | (with_reducible refine below_drewN ?_ _) | (with_reducible refine Below.alloc ?_ (by first | omega | (simp; done) | (simp; omega) | (simp at *; omega)) _) | (with_reducible refine Below.setCell ?_ (by first | omega | (simp; done) | (simp; omega) | (simp at *; omega)) _) | (with_reducible exact Below.refl _ _) | (with_reducible assumption) | (with_reducible refine Below.trans ?_ (Below.mono (by assumption) (by first | omega | (simp; done) | (simp; omega) | (simp at *; omega)))))))
        clear hbz4 z3_0_0 z3_0_1 z3_1_0 z3_1_1 z3_2_0 z3_2_1 z3o0 z3n0 z3m0 z3t0_0 z3t0_1 z3o1 z3n1 z3m1 z3t1_0 z3t1_1 z3o2 z3n2 z3m2 z3t2_0 z3t2_1 hBz3
        have ob1 : w.heap.size < zw4.heap.size := by omega
        have ob2 : m < zw4.heap.size := by omega
        have ob3 : k < zw4.heap.size := by omega
        go_wp2_with fail
        refine (hR2.out A cap _ (hS.out.below (by (repeat (first | (with_reducible refine Below.drew ?_) | (with_reducible refine below_drewN ?_ _) | (with_reducible refine Below.alloc ?_ (by first | omega | (simp; done) | (simp; omega) | (simp at *; omega)) _) | (with_reducible refine Below.setCell ?_ (by first | omega | (simp; done) | (simp; omega) | (simp at *; omega)) _) | (with_reducible exact Below.refl _ _) | (with_reducible assumption) | (with_reducible refine Below.trans ?_ (Below.mono (by assumption) (by first | omega | (simp; done) | (simp; omega) | (simp at *; omega))))))))).mono ?_
        rintro e zw5 ⟨rfl, hbz5⟩
        have zz5 := hbz5.size
        try simp at zz5
        obtain ⟨z5_0_0, z5_0_1, z5_1_0, z5_1_1, z5_2_0, z5_2_1, z5_3_0, z5_3_1⟩ : zw5.cell? ⟨w.heap.size, 0, none⟩ = some (.int .i64 x) ∧ zw5.cell? ⟨w.heap.size, 1, none⟩ = some (.int .i64 y) ∧ zw5.cell? ⟨m, 0, none⟩ = some (.int .i64 l) ∧ zw5.cell? ⟨m, 1, none⟩ = some (.int .i64 u) ∧ zw5.cell? ⟨k, 0, none⟩ = some (.int .i64 q) ∧ zw5.cell? ⟨k, 1, none⟩ = some (.int .i64 r) ∧ zw5.cell? ⟨zw4.heap.size, 0, none⟩ = some (.int .i64 l) ∧ zw5.cell? ⟨zw4.heap.size, 1, none⟩ = some (.int .i64 u) := by refine ⟨?_, ?_, ?_, ?_, ?_, ?_, ?_, ?_⟩ <;> (rw [(bcell hbz5).1 _ _ (by first | (simp; done) | (simp; omega) | omega)]; simp [go_sem, World.cell?_alloc_past, *])
        obtain ⟨z5o0, z5n0, z5m0, z5t0_0, z5t0_1, z5o1, z5n1, z5m1, z5t1_0, z5t1_1, z5o2, z5n2, z5m2, z5t2_0, z5t2_1, z5o3, z5n3, z5m3, z5t3_0, z5t3_1⟩ : w.heap.size < zw5.heap.size ∧ zw5.heap.size ≠ w.heap.size ∧ w.heap.size ≠ zw5.heap.size ∧ w.heap.size < zw5.heap.size + 1 ∧ w.heap.size < zw5.heap.size + 1 + 1 ∧ m < zw5.heap.size ∧ zw5.heap.size ≠ m ∧ m ≠ zw5.heap.size ∧ m < zw5.heap.size + 1 ∧ m < zw5.heap.size + 1 + 1 ∧ k < zw5.heap.size ∧ zw5.heap.size ≠ k ∧ k ≠ zw5.heap.size ∧ k < zw5.heap.size + 1 ∧ k < zw5.heap.size + 1 + 1 ∧ zw4.heap.size < zw5.heap.size ∧ zw5.heap.size ≠ zw4.heap.size ∧ zw4.heap.size ≠ zw5.heap.size ∧ zw4.heap.size < zw5.heap.size + 1 ∧ zw4.heap.size < zw5.heap.size + 1 + 1 := by refine ⟨?_, ?_, ?_, ?_, ?_, ?_, ?_, ?_, ?_, ?_, ?_, ?_, ?_, ?_, ?_, ?_, ?_, ?_, ?_, ?_⟩ <;> omega
        have hBz5 : Below w.heap.size w zw5 := (by (repeat (first | (with_reducible refine Below.drew ?_) | (with_reducible refine below_drewN ?_ _) | (with_reducible refine Below.alloc ?_ (by first | omega | (simp; done) | (simp; omega) | (simp at *; omega)) _) | (with_reducible refine Below.setCell ?_ (by first | omega | (simp; done) | (simp; omega) | (simp at *; omega)) _) | (with_reducible exact Below.refl _ _) | (with_reducible assumption) | (with_reducible refine Below.trans ?_ (Below.mono (by assumption) (by first | omega | (simp; done) | (simp; omega) | (simp at *; omega)))))))
        clear hbz5 z4_0_0 z4_0_1 z4_1_0 z4_1_1 z4_2_0 z4_2_1 z4o0 z4n0 z4m0 z4t0_0 z4t0_1 z4o1 z4n1 z4m1 z4t1_0 z4t1_1 z4o2 z4n2 z4m2 z4t2_0 z4t2_1 hBz4
        generalize zw4.heap.size = s at *
        go_wp2
        go_ret
        exact ⟨rfl, (by (repeat (first | (with_reducible refine Below.drew ?_) | (with_reducible refine below_drewN ?_ _) | (with_reducible refine Below.alloc ?_ (by first | omega | (simp; done) | (simp; omega) | (simp at *; omega)) _) | (with_reducible refine Below.setCell ?_ (by first | omega | (simp; done) | (simp; omega) | (simp at *; omega)) _) | (with_reducible exact Below.refl _ _) | (with_reducible assumption) | (with_reducible refine Below.trans ?_ (Below.mono (by assumption) (by first | omega | (simp; done) | (simp; omega) | (simp at *; omega)))))))⟩
theorem mixFactors_0 (A : Option Addr) (cap n : Nat) (x y v : Int) (w : World) (hfew : Hid (fewB n = false)) (hn : n ≤ maxLen) : Calls Try.prog 10 #[.slice A n cap, .agg #[.int .i64 x, .int .i64 y], .int .i64 v] w fun e w' => e = .returned (.bool true) ∧ Below w.heap.size w w' := by
  go_enter Try.func10, Try.ntmps10
  go_wp2_with fail
  refine (fawake_any _).mono ?_
  rintro e xw1 ⟨rfl, hbx1⟩
  have zx1 := hbx1.size
  try simp at zx1
  have hBx1 : Below w.heap.size w xw1 := (by (repeat (first | (with_reducible refine Below.drew ?_) | (with_reducible refine below_drewN ?_ _) | (with_reducible refine Below.alloc ?_ (by first | omega | (simp; done) | (simp; omega) | (simp at *; omega)) _) | (with_reducible refine Below.setCell ?_ (by first | omega | (simp; done) | (simp; omega) | (simp at *; omega)) _) | (with_reducible exact Below.refl _ _) | (with_reducible assumption) | (with_reducible refine Below.trans ?_ (Below.mono (by assumption) (by first | omega | (simp; done) | (simp; omega) | (simp at *; omega)))))))
  clear hbx1 
  go_wp2_with ((go_at_call 43; ((with_reducible refine (few_any _ _ _ _ hn).mono ?_)); rw [hfew.out]; rintro e w' ⟨rfl, rfl⟩))
  go_ret
  exact ⟨rfl, (by (repeat (first | (with_reducible refine Below.drew ?_) | (with_reducible refine below_drewN ?_ _) | (with_reducible refine Below.alloc ?_ (by first | omega | (simp; done) | (simp; omega) | (simp at *; omega)) _) | (with_reducible refine Below.setCell ?_ (by first | omega | (simp; done) | (simp; omega) | (simp at *; omega)) _) | (with_reducible exact Below.refl _ _) | (with_reducible assumption) | (with_reducible refine Below.trans ?_ (Below.mono (by assumption) (by first | omega | (simp; done) | (simp; omega) | (simp at *; omega)))))))⟩
theorem mixFactors_any (L : List Fc) (A : Option Addr) (cap : Nat) (x y v : Int) (w : World) (hl : L.length ≤ maxLen) (hc : A = none → cap = 0) (hS : SlRows fcV 3 w A L) : Calls Try.prog 10 #[.slice A L.length cap, .agg #[.int .i64 x, .int .i64 y], .int .i64 v] w fun e w' => e = .returned (.bool true) ∧ Below w.heap.size w w' := by
  by_cases hfew : fewB L.length = true
  · have h22 : L.length ≤ 1000000 := by unfold fewB at hfew; simp at hfew; omega
    have hT := Lib.hid fun w' (h : SlRows fcV 3 w' A L) => table_any L A cap w' h22 hc h
    have hCF : ∀ A cap w, SlRows fcV 3 w A L → _ := fun A cap w h => CheckFactors_any L A cap (ctE L) w h22 h (Lib.hid rfl)
    have hCF2 : ∀ A cap w, SlRows fcV 3 w A L → _ := fun A cap w h => refCheckFactors_any L A cap (ctE L) w h22 h (Lib.hid rfl)
    have hFA : ∀ A cap w, SlRows fcV 3 w A L → _ := fun A cap w h => FactorAt_any L A cap x (faE L x) (faL L x) (faU L x) w h22 h (Lib.hid rfl) (Lib.hid rfl) (Lib.hid rfl)
    by_cases hE : ctE L = 0
    · rw [hE] at hCF hCF2
      have hFA2 : ∀ A cap w, SlRows fcV 3 w A L → _ := fun A cap w h => refFactorAt_any L A cap x (faL L x) (faU L x) (decide (faE L x = 0)) w (Lib.hid hE) h (Lib.hid rfl) (Lib.hid rfl) (Lib.hid rfl)
      obtain ⟨d, q, r, hR, hR2, hw⟩ := ra_both L x y v h22 hE
      rcases faE_two (x := x) hE with h1 | h1
      · rw [h1] at hFA hFA2
        rcases hw with hz | ⟨rfl, _, ⟨P0, P1⟩, ⟨Q0, QP⟩, PS, S1⟩
        · exact mixFactors_2 L A cap L.length x y v _ _ 0 q r d _ _ _ w hT (Lib.hid hS) (Lib.hid hFA) (Lib.hid hR) (Lib.hid hCF) (Lib.hid hCF2) (Lib.hid hfew) hl true (Lib.hid (by simpa using hFA2)) (Lib.hid hR2) (Lib.hid rfl) (Lib.hid rfl) (Lib.hid rfl) (Or.inr (Or.inl ⟨rfl, rfl, hz⟩))
        · exact mixFactors_2 L A cap L.length x y v _ _ 0 q r 0 _ _ _ w hT (Lib.hid hS) (Lib.hid hFA) (Lib.hid hR) (Lib.hid hCF) (Lib.hid hCF2) (Lib.hid hfew) hl true (Lib.hid (by simpa using hFA2)) (Lib.hid hR2) (Lib.hid rfl) (Lib.hid rfl) (Lib.hid rfl) (Or.inr (Or.inr ⟨rfl, rfl, rfl, P0, P1, Q0, QP, PS, S1⟩))
      · have e1 : faL L x = 0 := by unfold faL; rw [if_neg (by omega)]
        have e2 : faU L x = 0 := by unfold faU; rw [if_neg (by omega)]
        rw [h1, e1, e2] at hFA hFA2
        rcases hw with hz | ⟨_, h0, _⟩
        · exact mixFactors_2 L A cap L.length x y v 0 0 2 q r d _ _ _ w hT (Lib.hid hS) (Lib.hid hFA) (Lib.hid hR) (Lib.hid hCF) (Lib.hid hCF2) (Lib.hid hfew) hl false (Lib.hid (by simpa using hFA2)) (Lib.hid hR2) (Lib.hid rfl) (Lib.hid rfl) (Lib.hid rfl) (Or.inl ⟨rfl, rfl, rfl, rfl, hz⟩)
        · omega
    · have e0 : faE L x = ctE L := by unfold faE; rw [if_neg hE]
      have e1 : faL L x = 0 := by unfold faL; rw [if_neg (by omega)]
      have e2 : faU L x = 0 := by unfold faU; rw [if_neg (by omega)]
      rw [e0, e1, e2] at hFA
      have hR : ∀ A cap w, SlRows fcV 3 w A L → _ := fun A cap w h => Real_bad L A cap L.length x y v (ctE L) w (Lib.hid rfl) h22 h (Lib.hid rfl) (by simpa using hE)
      exact mixFactors_1 L A cap L.length x y v (ctE L) w hT (Lib.hid hS) (Lib.hid hFA) (Lib.hid hR) (Lib.hid hCF) (Lib.hid hCF2) (Lib.hid hfew) hl (by simpa using hE)
  · exact mixFactors_0 A cap L.length x y v w (Lib.hid (by simpa using hfew)) hl
end Go.Proofs.Ytjkhjjmmkdfjmaa
