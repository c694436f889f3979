import Derived.Test.YtojaompfffpofaaGreatZVSRefCb
import Derived.Test.YtojaompfffpofaaGreatZVSFits
import Derived.Test.YtojaompfffpofaaGreatSCpy
import Derived.Outline
namespace Go.Proofs.YtojaompfffpofaaGreat
open Go.ChangeShapes Go.WideShapes Go.ChangeAt Go.RowKit
set_option linter.unusedVariables false
set_option linter.unusedSimpArgs false
attribute [local go_sem ↓] Go.wp_at_zero Go.wp_at_succ
set_option maxRecDepth 100000 in
set_option maxHeartbeats 2000000 in
theorem combM_bad (LA LB : List Rg) (A B : Option Addr) (na nb ca cb : Nat) (E : Int) (w : World) (hna : Hid (na = LA.length)) (hnb : Hid (nb = LB.length)) (na1 : na ≤ 1000000) (nb1 : nb ≤ 1000000) (HA : Hid (∀ w' : World, Below w.heap.size w w' → SlRows rgV 2 w' A LA)) (HB : Hid (∀ w' : World, Below w.heap.size w w' → SlRows rgV 2 w' B LB)) (hE0 : Hid (firE [winE LA, winE LB] = E)) (hz : (E != 0) = true) :
    Calls Tryz.prog 78 #[.slice A na ca, .slice B nb cb, .func (.func 79) #[] #[]] w (fun e w' => e = .returned (.tuple #[.slice none 0 0, .int .i64 E]) ∧ Below w.heap.size w w') := by
  obtain ⟨F, hF⟩ : ∃ z, Hid (winE LA = z) := ⟨_, Lib.hid rfl⟩
  obtain ⟨G, hG⟩ : ∃ z, Hid (winE LB = z) := ⟨_, Lib.hid rfl⟩
  have hE : Hid (firE [F, G] = E) := Lib.hid (by rw [← hF.out, ← hG.out]; exact hE0.out)
  clear hE0
  go_enter Tryz.func78, Tryz.ntmps78
  go_upto_region 1 with (fail)
  refine wp_region_held_drew (S := (fun w' => w'.cell? ⟨w.heap.size, 0, none⟩ = some (.slice A na ca) ∧ w'.cell? ⟨w.heap.size + 1, 0, none⟩ = some (.slice B nb cb))) (by kernel_rfl) (by simp [go_sem, World.cell?_alloc_past, *]) (fun hHeld => ?_)
  refine tkH 0 ⟨some 12, _, _, _, _, _⟩ ?_ rfl ?_ (by assumption) ?_
  rotate_left
  · (intro w hSw; (try dsimp only at hSw); go_simp; all_goals with_reducible rfl)
  try simp only [Act.put, sA, sB, sC]
  refine tkH 2 ⟨some 14, _, _, _, _, _⟩ ?_ rfl ?_ (by assumption) ?_
  rotate_left
  · (intro w hSw; (try dsimp only at hSw); go_simp; all_goals with_reducible rfl)
  try simp only [Act.put, sA, sB, sC]
  refine wpAnyH_ready (rs := [1]) (by kernel_rfl) (by simp) ?_
  refine AllReadyH.cons rfl (fun K hK => ?_) AllReadyH.nil
  go_simp
  refine (CheckWindows_is LA A ca na F _ hna na1 (HA.out _ (by (repeat (first | (with_reducible refine Below.drew ?_) | (with_reducible refine below_drewN ?_ _) | (with_reducible refine Below.alloc ?_ (by first | omega | (simp; done) | (simp; omega) | (simp at *; omega)) _) | (with_reducible refine Below.setCell ?_ (by first | omega | (simp; done) | (simp; omega) | (simp at *; omega)) _) | (with_reducible exact Below.refl _ _) | (with_reducible assumption) | (with_reducible refine Below.trans ?_ (Below.mono (by assumption) (by first | omega | (simp; done) | (simp; omega) | (simp at *; omega)))))))) hF).mono ?_
  rintro e xw1 ⟨rfl, hbx1⟩
  have zx1 := hbx1.size
  try simp at zx1
  obtain ⟨x1_0_0, x1_1_0⟩ : xw1.cell? ⟨w.heap.size, 0, none⟩ = some (.slice A na ca) ∧ xw1.cell? ⟨w.heap.size + 1, 0, none⟩ = some (.slice B nb cb) := by refine ⟨?_, ?_⟩ <;> (rw [(bcell hbx1).1 _ _ (by first | (simp; done) | (simp; omega) | omega)]; simp [go_sem, World.cell?_alloc_past, *])
  obtain ⟨x1o0, x1n0, x1m0, x1t0_0, x1o1, x1n1, x1m1, x1t1_0⟩ : w.heap.size < xw1.heap.size ∧ xw1.heap.size ≠ w.heap.size ∧ w.heap.size ≠ xw1.heap.size ∧ w.heap.size < xw1.heap.size + 1 ∧ w.heap.size + 1 < xw1.heap.size ∧ xw1.heap.size ≠ w.heap.size + 1 ∧ w.heap.size + 1 ≠ xw1.heap.size ∧ w.heap.size + 1 < xw1.heap.size + 1 := by refine ⟨?_, ?_, ?_, ?_, ?_, ?_, ?_, ?_⟩ <;> omega
  have hBx1 : Below w.heap.size w xw1 := (by (repeat (first | (with_reducible refine Below.drew ?_) | (with_reducible refine below_drewN ?_ _) | (with_reducible refine Below.alloc ?_ (by first | omega | (simp; done) | (simp; omega) | (simp at *; omega)) _) | (with_reducible refine Below.setCell ?_ (by first | omega | (simp; done) | (simp; omega) | (simp at *; omega)) _) | (with_reducible exact Below.refl _ _) | (with_reducible assumption) | (with_reducible refine Below.trans ?_ (Below.mono (by assumption) (by first | omega | (simp; done) | (simp; omega) | (simp at *; omega)))))))
  clear hbx1 
  go_wp2_with fail
  refine hK.out _ _ (by simp [go_sem, World.cell?_alloc_past, *]) (fun hHeld => ?_)
  clear hK K
  try simp only [Act.put, sA, sB, sC]
  refine wpAnyH_ready (rs := [3]) (by kernel_rfl) (by simp) ?_
  refine AllReadyH.cons rfl (fun K hK => ?_) AllReadyH.nil
  go_simp
  refine (CheckWindows_is LB B cb nb G _ hnb nb1 (HB.out _ (by (repeat (first | (with_reducible refine Below.drew ?_) | (with_reducible refine below_drewN ?_ _) | (with_reducible refine Below.alloc ?_ (by first | omega | (simp; done) | (simp; omega) | (simp at *; omega)) _) | (with_reducible refine Below.setCell ?_ (by first | omega | (simp; done) | (simp; omega) | (simp at *; omega)) _) | (with_reducible exact Below.refl _ _) | (with_reducible assumption) | (with_reducible refine Below.trans ?_ (Below.mono (by assumption) (by first | omega | (simp; done) | (simp; omega) | (simp at *; omega)))))))) hG).mono ?_
  rintro e xw2 ⟨rfl, hbx2⟩
  have zx2 := hbx2.size
  try simp at zx2
  obtain ⟨x2_0_0, x2_1_0⟩ : xw2.cell? ⟨w.heap.size, 0, none⟩ = some (.slice A na ca) ∧ xw2.cell? ⟨w.heap.size + 1, 0, none⟩ = some (.slice B nb cb) := by refine ⟨?_, ?_⟩ <;> (rw [(bcell hbx2).1 _ _ (by first | (simp; done) | (simp; omega) | omega)]; simp [go_sem, World.cell?_alloc_past, *])
  obtain ⟨x2o0, x2n0, x2m0, x2t0_0, x2o1, x2n1, x2m1, x2t1_0⟩ : w.heap.size < xw2.heap.size ∧ xw2.heap.size ≠ w.heap.size ∧ w.heap.size ≠ xw2.heap.size ∧ w.heap.size < xw2.heap.size + 1 ∧ w.heap.size + 1 < xw2.heap.size ∧ xw2.heap.size ≠ w.heap.size + 1 ∧ w.heap.size + 1 ≠ xw2.heap.size ∧ w.heap.size + 1 < xw2.heap.size + 1 := by refine ⟨?_, ?_, ?_, ?_, ?_, ?_, ?_, ?_⟩ <;> omega
  have hBx2 : Below w.heap.size w xw2 := (by (repeat (first | (with_reducible refine Below.drew ?_) | (with_reducible refine below_drewN ?_ _) | (with_reducible refine Below.alloc ?_ (by first | omega | (simp; done) | (simp; omega) | (simp at *; omega)) _) | (with_reducible refine Below.setCell ?_ (by first | omega | (simp; done) | (simp; omega) | (simp at *; omega)) _) | (with_reducible exact Below.refl _ _) | (with_reducible assumption) | (with_reducible refine Below.trans ?_ (Below.mono (by assumption) (by first | omega | (simp; done) | (simp; omega) | (simp at *; omega)))))))
  clear hbx2 x1_0_0 x1_1_0 x1o0 x1n0 x1m0 x1t0_0 x1o1 x1n1 x1m1 x1t1_0 hBx1
  go_wp2_with fail
  refine hK.out _ _ (by simp [go_sem, World.cell?_alloc_past, *]) (fun hHeld => ?_)
  clear hK K
  try simp only [Act.put, sA, sB, sC]
  refine wpAnyH_ready (rs := [4]) (by kernel_rfl) (by simp) ?_
  refine AllReadyH.cons rfl (fun K hK => ?_) AllReadyH.nil
  go_simp
  go_wp2_with fail
  refine hK.out _ _ (by simp [go_sem, World.cell?_alloc_past, *]) (fun hHeld => ?_)
  clear hK K
  try simp only [Act.put, sA, sB, sC]
  refine wpAnyH_ready (rs := [5]) (by kernel_rfl) (by simp) ?_
  refine AllReadyH.cons rfl (fun K hK => ?_) AllReadyH.nil
  go_simp
  refine (cF2x F G E _ _ hE (by simp [go_sem]) (by simp [go_sem])).mono ?_
  rintro e w' ⟨rfl, rfl⟩
  go_wp2_with fail
  refine hK.out _ _ (by simp [go_sem, World.cell?_alloc_past, *]) (fun hHeld => ?_)
  clear hK K
  try simp only [Act.put, sA, sB, sC]
  refine tkH 6 ⟨some 8, _, _, _, _, _⟩ ?_ rfl ?_ (by assumption) ?_
  rotate_left
  · (intro w hSw; (try dsimp only at hSw); go_simp; all_goals with_reducible rfl)
  try simp only [Act.put, sA, sB, sC]
  refine wpAnyH_done (by kernel_rfl) ?_ _
  go_wp2
  go_ret2
  exact ⟨rfl, (by (repeat (first | (with_reducible refine Below.drew ?_) | (with_reducible refine below_drewN ?_ _) | (with_reducible refine Below.alloc ?_ (by first | omega | (simp; done) | (simp; omega) | (simp at *; omega)) _) | (with_reducible refine Below.setCell ?_ (by first | omega | (simp; done) | (simp; omega) | (simp at *; omega)) _) | (with_reducible exact Below.refl _ _) | (with_reducible assumption) | (with_reducible refine Below.trans ?_ (Below.mono (by assumption) (by first | omega | (simp; done) | (simp; omega) | (simp at *; omega)))))))⟩
theorem Meet_bad (LA LB : List Rg) (A B : Option Addr) (na nb ca cb : Nat) (E : Int) (w : World) (hna : Hid (na = LA.length)) (hnb : Hid (nb = LB.length)) (na1 : na ≤ 1000000) (nb1 : nb ≤ 1000000) (HA : Hid (∀ w' : World, Below w.heap.size w w' → SlRows rgV 2 w' A LA)) (HB : Hid (∀ w' : World, Below w.heap.size w w' → SlRows rgV 2 w' B LB)) (hE0 : Hid (firE [winE LA, winE LB] = E)) (hz : (E != 0) = true) :
    Calls Tryz.prog 27 #[.slice A na ca, .slice B nb cb] w (fun e w' => e = .returned (.tuple #[.slice none 0 0, .int .i64 E]) ∧ Below w.heap.size w w') := by
  go_enter Tryz.func27, Tryz.ntmps27
  go_wp2_with fail
  refine (combM_bad LA LB A B na nb ca cb E _ hna hnb na1 nb1 HA HB hE0 hz).mono ?_
  rintro e x1 ⟨rfl, hb1⟩
  have hB1 : Below w.heap.size w x1 := (by (repeat (first | (with_reducible refine Below.drew ?_) | (with_reducible refine below_drewN ?_ _) | (with_reducible refine Below.alloc ?_ (by first | omega | (simp; done) | (simp; omega) | (simp at *; omega)) _) | (with_reducible refine Below.setCell ?_ (by first | omega | (simp; done) | (simp; omega) | (simp at *; omega)) _) | (with_reducible exact Below.refl _ _) | (with_reducible assumption) | (with_reducible refine Below.trans ?_ (Below.mono (by assumption) (by first | omega | (simp; done) | (simp; omega) | (simp at *; omega)))))))
  clear hb1
  go_wp2
  go_ret2
  exact ⟨rfl, hB1⟩
set_option maxRecDepth 100000 in
set_option maxHeartbeats 2000000 in
theorem combJ_bad (LA LB : List Rg) (A B : Option Addr) (na nb ca cb : Nat) (E : Int) (w : World) (hna : Hid (na = LA.length)) (hnb : Hid (nb = LB.length)) (na1 : na ≤ 1000000) (nb1 : nb ≤ 1000000) (HA : Hid (∀ w' : World, Below w.heap.size w w' → SlRows rgV 2 w' A LA)) (HB : Hid (∀ w' : World, Below w.heap.size w w' → SlRows rgV 2 w' B LB)) (hE0 : Hid (firE [winE LA, winE LB] = E)) (hz : (E != 0) = true) :
    Calls Tryz.prog 78 #[.slice A na ca, .slice B nb cb, .func (.func 80) #[] #[]] w (fun e w' => e = .returned (.tuple #[.slice none 0 0, .int .i64 E]) ∧ Below w.heap.size w w') := by
  obtain ⟨F, hF⟩ : ∃ z, Hid (winE LA = z) := ⟨_, Lib.hid rfl⟩
  obtain ⟨G, hG⟩ : ∃ z, Hid (winE LB = z) := ⟨_, Lib.hid rfl⟩
  have hE : Hid (firE [F, G] = E) := Lib.hid (by rw [← hF.out, ← hG.out]; exact hE0.out)
  clear hE0
  go_enter Tryz.func78, Tryz.ntmps78
  go_upto_region 1 with (fail)
  refine wp_region_held_drew (S := (fun w' => w'.cell? ⟨w.heap.size, 0, none⟩ = some (.slice A na ca) ∧ w'.cell? ⟨w.heap.size + 1, 0, none⟩ = some (.slice B nb cb))) (by kernel_rfl) (by simp [go_sem, World.cell?_alloc_past, *]) (fun hHeld => ?_)
  refine tkH 0 ⟨some 12, _, _, _, _, _⟩ ?_ rfl ?_ (by assumption) ?_
  rotate_left
  · (intro w hSw; (try dsimp only at hSw); go_simp; all_goals with_reducible rfl)
  try simp only [Act.put, sA, sB, sC]
  refine tkH 2 ⟨some 14, _, _, _, _, _⟩ ?_ rfl ?_ (by assumption) ?_
  rotate_left
  · (intro w hSw; (try dsimp only at hSw); go_simp; all_goals with_reducible rfl)
  try simp only [Act.put, sA, sB, sC]
  refine wpAnyH_ready (rs := [1]) (by kernel_rfl) (by simp) ?_
  refine AllReadyH.cons rfl (fun K hK => ?_) AllReadyH.nil
  go_simp
  refine (CheckWindows_is LA A ca na F _ hna na1 (HA.out _ (by (repeat (first | (with_reducible refine Below.drew ?_) | (with_reducible refine below_drewN ?_ _) | (with_reducible refine Below.alloc ?_ (by first | omega | (simp; done) | (simp; omega) | (simp at *; omega)) _) | (with_reducible refine Below.setCell ?_ (by first | omega | (simp; done) | (simp; omega) | (simp at *; omega)) _) | (with_reducible exact Below.refl _ _) | (with_reducible assumption) | (with_reducible refine Below.trans ?_ (Below.mono (by assumption) (by first | omega | (simp; done) | (simp; omega) | (simp at *; omega)))))))) hF).mono ?_
  rintro e xw1 ⟨rfl, hbx1⟩
  have zx1 := hbx1.size
  try simp at zx1
  obtain ⟨x1_0_0, x1_1_0⟩ : xw1.cell? ⟨w.heap.size, 0, none⟩ = some (.slice A na ca) ∧ xw1.cell? ⟨w.heap.size + 1, 0, none⟩ = some (.slice B nb cb) := by refine ⟨?_, ?_⟩ <;> (rw [(bcell hbx1).1 _ _ (by first | (simp; done) | (simp; omega) | omega)]; simp [go_sem, World.cell?_alloc_past, *])
  obtain ⟨x1o0, x1n0, x1m0, x1t0_0, x1o1, x1n1, x1m1, x1t1_0⟩ : w.heap.size < xw1.heap.size ∧ xw1.heap.size ≠ w.heap.size ∧ w.heap.size ≠ xw1.heap.size ∧ w.heap.size < xw1.heap.size + 1 ∧ w.heap.size + 1 < xw1.heap.size ∧ xw1.heap.size ≠ w.heap.size + 1 ∧ w.heap.size + 1 ≠ xw1.heap.size ∧ w.heap.size + 1 < xw1.heap.size + 1 := by refine ⟨?_, ?_, ?_, ?_, ?_, ?_, ?_, ?_⟩ <;> omega
  have hBx1 : Below w.heap.size w xw1 := (by (repeat (first | (with_reducible refine Below.drew ?_) | (with_reducible refine below_drewN ?_ _) | (with_reducible refine Below.alloc ?_ (by first | omega | (simp; done) | (simp; omega) | (simp at *; omega)) _) | (with_reducible refine Below.setCell ?_ (by first | omega | (simp; done) | (simp; omega) | (simp at *; omega)) _) | (with_reducible exact Below.refl _ _) | (with_reducible assumption) | (with_reducible refine Below.trans ?_ (Below.mono (by assumption) (by first | omega | (simp; done) | (simp; omega) | (simp at *; omega)))))))
  clear hbx1 
  go_wp2_with fail
  refine hK.out _ _ (by simp [go_sem, World.cell?_alloc_past, *]) (fun hHeld => ?_)
  clear hK K
  try simp only [Act.put, sA, sB, sC]
  refine wpAnyH_ready (rs := [3]) (by kernel_rfl) (by simp) ?_
  refine AllReadyH.cons rfl (fun K hK => ?_) AllReadyH.nil
  go_simp
  refine (CheckWindows_is LB B cb nb G _ hnb nb1 (HB.out _ (by (repeat (first | (with_reducible refine Below.drew ?_) | (with_reducible refine below_drewN ?_ _) | (with_reducible refine Below.alloc ?_ (by first | omega | (simp; done) | (simp; omega) | (simp at *; omega)) _) | (with_reducible refine Below.setCell ?_ (by first | omega | (simp; done) | (simp; omega) | (simp at *; omega)) _) | (with_reducible exact Below.refl _ _) | (with_reducible assumption) | (with_reducible refine Below.trans ?_ (Below.mono (by assumption) (by first | omega | (simp; done) | (simp; omega) | (simp at *; omega)))))))) hG).mono ?_
  rintro e xw2 ⟨rfl, hbx2⟩
  have zx2 := hbx2.size
  try simp at zx2
  obtain ⟨x2_0_0, x2_1_0⟩ : xw2.cell? ⟨w.heap.size, 0, none⟩ = some (.slice A na ca) ∧ xw2.cell? ⟨w.heap.size + 1, 0, none⟩ = some (.slice B nb cb) := by refine ⟨?_, ?_⟩ <;> (rw [(bcell hbx2).1 _ _ (by first | (simp; done) | (simp; omega) | omega)]; simp [go_sem, World.cell?_alloc_past, *])
  obtain ⟨x2o0, x2n0, x2m0, x2t0_0, x2o1, x2n1, x2m1, x2t1_0⟩ : w.heap.size < xw2.heap.size ∧ xw2.heap.size ≠ w.heap.size ∧ w.heap.size ≠ xw2.heap.size ∧ w.heap.size < xw2.heap.size + 1 ∧ w.heap.size + 1 < xw2.heap.size ∧ xw2.heap.size ≠ w.heap.size + 1 ∧ w.heap.size + 1 ≠ xw2.heap.size ∧ w.heap.size + 1 < xw2.heap.size + 1 := by refine ⟨?_, ?_, ?_, ?_, ?_, ?_, ?_, ?_⟩ <;> omega
  have hBx2 : Below w.heap.size w xw2 := (by (repeat (first | (with_reducible refine Below.drew ?_) | (with_reducible refine below_drewN ?_ _) | (with_reducible refine Below.alloc ?_ (by first | omega | (simp; done) | (simp; omega) | (simp at *; omega)) _) | (with_reducible refine Below.setCell ?_ (by first | omega | (simp; done) | (simp; omega) | (simp at *; omega)) _) | (with_reducible exact Below.refl _ _) | (with_reducible assumption) | (with_reducible refine Below.trans ?_ (Below.mono (by assumption) (by first | omega | (simp; done) | (simp; omega) | (simp at *; omega)))))))
  clear hbx2 x1_0_0 x1_1_0 x1o0 x1n0 x1m0 x1t0_0 x1o1 x1n1 x1m1 x1t1_0 hBx1
  go_wp2_with fail
  refine hK.out _ _ (by simp [go_sem, World.cell?_alloc_past, *]) (fun hHeld => ?_)
  clear hK K
  try simp only [Act.put, sA, sB, sC]
  refine wpAnyH_ready (rs := [4]) (by kernel_rfl) (by simp) ?_
  refine AllReadyH.cons rfl (fun K hK => ?_) AllReadyH.nil
  go_simp
  go_wp2_with fail
  refine hK.out _ _ (by simp [go_sem, World.cell?_alloc_past, *]) (fun hHeld => ?_)
  clear hK K
  try simp only [Act.put, sA, sB, sC]
  refine wpAnyH_ready (rs := [5]) (by kernel_rfl) (by simp) ?_
  refine AllReadyH.cons rfl (fun K hK => ?_) AllReadyH.nil
  go_simp
  refine (cF2x F G E _ _ hE (by simp [go_sem]) (by simp [go_sem])).mono ?_
  rintro e w' ⟨rfl, rfl⟩
  go_wp2_with fail
  refine hK.out _ _ (by simp [go_sem, World.cell?_alloc_past, *]) (fun hHeld => ?_)
  clear hK K
  try simp only [Act.put, sA, sB, sC]
  refine tkH 6 ⟨some 8, _, _, _, _, _⟩ ?_ rfl ?_ (by assumption) ?_
  rotate_left
  · (intro w hSw; (try dsimp only at hSw); go_simp; all_goals with_reducible rfl)
  try simp only [Act.put, sA, sB, sC]
  refine wpAnyH_done (by kernel_rfl) ?_ _
  go_wp2
  go_ret2
  exact ⟨rfl, (by (repeat (first | (with_reducible refine Below.drew ?_) | (with_reducible refine below_drewN ?_ _) | (with_reducible refine Below.alloc ?_ (by first | omega | (simp; done) | (simp; omega) | (simp at *; omega)) _) | (with_reducible refine Below.setCell ?_ (by first | omega | (simp; done) | (simp; omega) | (simp at *; omega)) _) | (with_reducible exact Below.refl _ _) | (with_reducible assumption) | (with_reducible refine Below.trans ?_ (Below.mono (by assumption) (by first | omega | (simp; done) | (simp; omega) | (simp at *; omega)))))))⟩
theorem Join_bad (LA LB : List Rg) (A B : Option Addr) (na nb ca cb : Nat) (E : Int) (w : World) (hna : Hid (na = LA.length)) (hnb : Hid (nb = LB.length)) (na1 : na ≤ 1000000) (nb1 : nb ≤ 1000000) (HA : Hid (∀ w' : World, Below w.heap.size w w' → SlRows rgV 2 w' A LA)) (HB : Hid (∀ w' : World, Below w.heap.size w w' → SlRows rgV 2 w' B LB)) (hE0 : Hid (firE [winE LA, winE LB] = E)) (hz : (E != 0) = true) :
    Calls Tryz.prog 29 #[.slice A na ca, .slice B nb cb] w (fun e w' => e = .returned (.tuple #[.slice none 0 0, .int .i64 E]) ∧ Below w.heap.size w w') := by
  go_enter Tryz.func29, Tryz.ntmps29
  go_wp2_with fail
  refine (combJ_bad LA LB A B na nb ca cb E _ hna hnb na1 nb1 HA HB hE0 hz).mono ?_
  rintro e x1 ⟨rfl, hb1⟩
  have hB1 : Below w.heap.size w x1 := (by (repeat (first | (with_reducible refine Below.drew ?_) | (with_reducible refine below_drewN ?_ _) | (with_reducible refine Below.alloc ?_ (by first | omega | (simp; done) | (simp; omega) | (simp at *; omega)) _) | (with_reducible refine Below.setCell ?_ (by first | omega | (simp; done) | (simp; omega) | (simp at *; omega)) _) | (with_reducible exact Below.refl _ _) | (with_reducible assumption) | (with_reducible refine Below.trans ?_ (Below.mono (by assumption) (by first | omega | (simp; done) | (simp; omega) | (simp at *; omega)))))))
  clear hb1
  go_wp2
  go_ret2
  exact ⟨rfl, hB1⟩
theorem Meet_ok (LA LB : List Rg) (A B : Option Addr) (na nb ca cb : Nat) (w : World) (hna : Hid (na = LA.length)) (hnb : Hid (nb = LB.length)) (na2 : na + nb ≤ 30)
    (HA : Hid (∀ w' : World, Below w.heap.size w w' → SlRows rgV 2 w' A LA)) (HB : Hid (∀ w' : World, Below w.heap.size w w' → SlRows rgV 2 w' B LB)) (CA : Hid (A = none → na = 0 ∧ ca = 0)) (CB : Hid (B = none → nb = 0 ∧ cb = 0)) (hEa : Hid (winE LA = 0)) (hEb : Hid (winE LB = 0)) :
    Calls Tryz.prog 27 #[.slice A na ca, .slice B nb cb] w (WofP (wof (fun m => inW LA m && inW LB m) (srt (mks (LA ++ LB)))).1 w) := by
  obtain ⟨L, hL⟩ : ∃ L, L = (wof (fun m => inW LA m && inW LB m) (srt (mks (LA ++ LB)))).1 := ⟨_, rfl⟩
  have HC := combM_is LA LB A B na nb ca cb w
  rw [← hL] at HC ⊢
  clear hL
  go_enter Tryz.func27, Tryz.ntmps27
  go_wp2_with fail
  refine (HC (Lib.hid sort_ok) hna hnb na2 HA HB CA CB hEa hEb).mono ?_
  rintro e x1 ⟨G, c, rfl, hS, hN, hb1⟩
  have HS := Lib.hid hS
  have HN := Lib.hid hN
  have hB1 : Below w.heap.size w x1 := (by (repeat (first | (with_reducible refine Below.drew ?_) | (with_reducible refine below_drewN ?_ _) | (with_reducible refine Below.alloc ?_ (by first | omega | (simp; done) | (simp; omega) | (simp at *; omega)) _) | (with_reducible refine Below.setCell ?_ (by first | omega | (simp; done) | (simp; omega) | (simp at *; omega)) _) | (with_reducible exact Below.refl _ _) | (with_reducible assumption) | (with_reducible refine Below.trans ?_ (Below.mono (by assumption) (by first | omega | (simp; done) | (simp; omega) | (simp at *; omega)))))))
  clear hS hN hb1
  go_wp2
  go_ret2
  exact ⟨G, c, rfl, HS.out, HN.out, hB1⟩
theorem refMeet_is (LA LB : List Rg) (A B : Option Addr) (na nb ca cb : Nat) (V : List Rg) (w : World) (hna : Hid (na = LA.length)) (hnb : Hid (nb = LB.length)) (hN0 : na + nb ≤ 30) (HA : Hid (∀ w' : World, Below w.heap.size w w' → SlRows rgV 2 w' A LA)) (HB : Hid (∀ w' : World, Below w.heap.size w w' → SlRows rgV 2 w' B LB)) (CA : Hid (A = none → na = 0 ∧ ca = 0)) (CB : Hid (B = none → nb = 0 ∧ cb = 0)) (hbd : Hid (∀ x ∈ LA ++ LB, 0 ≤ x.lo ∧ x.lo ≤ x.hi ∧ x.hi ≤ 1000000)) (hV : Hid ((wof (fun m => inW LA m && inW LB m) (srt (mks (LA ++ LB)))).1 = V)) :
    Calls Tryz.prog 32 #[.slice A na ca, .slice B nb cb] w (RwP V w) := by
  have HC := refCombM_is LA LB A B na nb ca cb w hna hnb hN0 HA HB CA CB hbd
  rw [comb_ref (fun p q => p && q) rfl, hV.out] at HC
  have HC2 := Lib.hid HC
  clear HC
  go_enter Tryz.func32, Tryz.ntmps32
  go_wp2_with fail
  refine (HC2.out).mono ?_
  rintro e x1 ⟨G, c, rfl, hS, hN, hb1⟩
  have HS := Lib.hid hS
  have HN := Lib.hid hN
  have hB1 : Below w.heap.size w x1 := (by (repeat (first | (with_reducible refine Below.drew ?_) | (with_reducible refine below_drewN ?_ _) | (with_reducible refine Below.alloc ?_ (by first | omega | (simp; done) | (simp; omega) | (simp at *; omega)) _) | (with_reducible refine Below.setCell ?_ (by first | omega | (simp; done) | (simp; omega) | (simp at *; omega)) _) | (with_reducible exact Below.refl _ _) | (with_reducible assumption) | (with_reducible refine Below.trans ?_ (Below.mono (by assumption) (by first | omega | (simp; done) | (simp; omega) | (simp at *; omega)))))))
  clear hS hN hb1
  go_wp2
  go_ret
  exact ⟨G, c, rfl, HS.out, HN.out, hB1⟩
theorem refJoin_is (LA LB : List Rg) (A B : Option Addr) (na nb ca cb : Nat) (V : List Rg) (w : World) (hna : Hid (na = LA.length)) (hnb : Hid (nb = LB.length)) (hN0 : na + nb ≤ 30) (HA : Hid (∀ w' : World, Below w.heap.size w w' → SlRows rgV 2 w' A LA)) (HB : Hid (∀ w' : World, Below w.heap.size w w' → SlRows rgV 2 w' B LB)) (CA : Hid (A = none → na = 0 ∧ ca = 0)) (CB : Hid (B = none → nb = 0 ∧ cb = 0)) (hbd : Hid (∀ x ∈ LA ++ LB, 0 ≤ x.lo ∧ x.lo ≤ x.hi ∧ x.hi ≤ 1000000)) (hV : Hid ((wof (fun m => inW LA m || inW LB m) (srt (mks (LA ++ LB)))).1 = V)) :
    Calls Tryz.prog 33 #[.slice A na ca, .slice B nb cb] w (RwP V w) := by
  have HC := refCombJ_is LA LB A B na nb ca cb w hna hnb hN0 HA HB CA CB hbd
  rw [comb_ref (fun p q => p || q) rfl, hV.out] at HC
  have HC2 := Lib.hid HC
  clear HC
  go_enter Tryz.func33, Tryz.ntmps33
  go_wp2_with fail
  refine (HC2.out).mono ?_
  rintro e x1 ⟨G, c, rfl, hS, hN, hb1⟩
  have HS := Lib.hid hS
  have HN := Lib.hid hN
  have hB1 : Below w.heap.size w x1 := (by (repeat (first | (with_reducible refine Below.drew ?_) | (with_reducible refine below_drewN ?_ _) | (with_reducible refine Below.alloc ?_ (by first | omega | (simp; done) | (simp; omega) | (simp at *; omega)) _) | (with_reducible refine Below.setCell ?_ (by first | omega | (simp; done) | (simp; omega) | (simp at *; omega)) _) | (with_reducible exact Below.refl _ _) | (with_reducible assumption) | (with_reducible refine Below.trans ?_ (Below.mono (by assumption) (by first | omega | (simp; done) | (simp; omega) | (simp at *; omega)))))))
  clear hS hN hb1
  go_wp2
  go_ret
  exact ⟨G, c, rfl, HS.out, HN.out, hB1⟩
theorem Meet_v (LA LB : List Rg) (A B : Option Addr) (na nb ca cb : Nat) (V : List Rg) (w : World) (hna : Hid (na = LA.length)) (hnb : Hid (nb = LB.length)) (na2 : na + nb ≤ 30) (HA : Hid (∀ w' : World, Below w.heap.size w w' → SlRows rgV 2 w' A LA)) (HB : Hid (∀ w' : World, Below w.heap.size w w' → SlRows rgV 2 w' B LB)) (CA : Hid (A = none → na = 0 ∧ ca = 0)) (CB : Hid (B = none → nb = 0 ∧ cb = 0)) (hEa : Hid (winE LA = 0)) (hEb : Hid (winE LB = 0)) (hV : Hid ((wof (fun m => inW LA m && inW LB m) (srt (mks (LA ++ LB)))).1 = V)) :
    Calls Tryz.prog 27 #[.slice A na ca, .slice B nb cb] w (WofP V w) := by
  rw [← hV.out]; exact Meet_ok LA LB A B na nb ca cb w hna hnb na2 HA HB CA CB hEa hEb
theorem Join_v (LA LB : List Rg) (A B : Option Addr) (na nb ca cb : Nat) (V : List Rg) (w : World) (hna : Hid (na = LA.length)) (hnb : Hid (nb = LB.length)) (na2 : na + nb ≤ 30) (HA : Hid (∀ w' : World, Below w.heap.size w w' → SlRows rgV 2 w' A LA)) (HB : Hid (∀ w' : World, Below w.heap.size w w' → SlRows rgV 2 w' B LB)) (CA : Hid (A = none → na = 0 ∧ ca = 0)) (CB : Hid (B = none → nb = 0 ∧ cb = 0)) (hEa : Hid (winE LA = 0)) (hEb : Hid (winE LB = 0)) (hV : Hid ((wof (fun m => inW LA m || inW LB m) (srt (mks (LA ++ LB)))).1 = V)) :
    Calls Tryz.prog 29 #[.slice A na ca, .slice B nb cb] w (WofP V w) := by
  rw [← hV.out]; exact Join_is LA LB A B na nb ca cb w hna hnb na2 HA HB CA CB hEa hEb
set_option maxRecDepth 100000 in
set_option maxHeartbeats 1000000 in
theorem win_sa (A B : Option Addr) (na nb ca cb : Nat) (w : World) (na1 : na ≤ 9223372036854775807) (nb1 : nb ≤ 9223372036854775807) (hsa : Hid (shtB na = false))  :
    Calls Tryz.prog 5 #[.slice A na ca, .slice B nb cb] w fun e w' => e = .returned (.bool true) ∧ Below w.heap.size w w' := by
  go_enter Tryz.func5, Tryz.ntmps5
  go_wp2_with fail
  refine (awake_any _).mono ?_
  rintro e x1 ⟨rfl, hb1⟩
  have hc1 : Below w.heap.size w x1 := (by (repeat (first | (with_reducible refine Below.drew ?_) | (with_reducible refine below_drewN ?_ _) | (with_reducible refine Below.alloc ?_ (by first | omega | (simp; done) | (simp; omega) | (simp at *; omega)) _) | (with_reducible refine Below.setCell ?_ (by first | omega | (simp; done) | (simp; omega) | (simp at *; omega)) _) | (with_reducible exact Below.refl _ _) | (with_reducible assumption) | (with_reducible refine Below.trans ?_ (Below.mono (by assumption) (by first | omega | (simp; done) | (simp; omega) | (simp at *; omega)))))))
  have hB1 : Below w.heap.size w x1 := hc1
  clear hb1  
  go_wp2_with ((go_at_call 26; ((with_reducible refine (short_is A na ca false _ (by omega) hsa).mono ?_)); rintro e w' ⟨rfl, rfl⟩))
  go_ret
  exact ⟨rfl, hB1⟩
set_option maxRecDepth 100000 in
set_option maxHeartbeats 1000000 in
theorem win_sb (A B : Option Addr) (na nb ca cb : Nat) (w : World) (na1 : na ≤ 9223372036854775807) (nb1 : nb ≤ 9223372036854775807) (hsa : Hid (shtB na = true)) (hsb : Hid (shtB nb = false)) :
    Calls Tryz.prog 5 #[.slice A na ca, .slice B nb cb] w fun e w' => e = .returned (.bool true) ∧ Below w.heap.size w w' := by
  go_enter Tryz.func5, Tryz.ntmps5
  go_wp2_with fail
  refine (awake_any _).mono ?_
  rintro e x1 ⟨rfl, hb1⟩
  have hc1 : Below w.heap.size w x1 := (by (repeat (first | (with_reducible refine Below.drew ?_) | (with_reducible refine below_drewN ?_ _) | (with_reducible refine Below.alloc ?_ (by first | omega | (simp; done) | (simp; omega) | (simp at *; omega)) _) | (with_reducible refine Below.setCell ?_ (by first | omega | (simp; done) | (simp; omega) | (simp at *; omega)) _) | (with_reducible exact Below.refl _ _) | (with_reducible assumption) | (with_reducible refine Below.trans ?_ (Below.mono (by assumption) (by first | omega | (simp; done) | (simp; omega) | (simp at *; omega)))))))
  have hB1 : Below w.heap.size w x1 := hc1
  clear hb1  
  go_wp2_with fail
  refine (short_is A na ca true _ (by omega) hsa).mono ?_
  rintro e w' ⟨rfl, rfl⟩
  go_wp2_with fail
  refine (short_is B nb cb false _ (by omega) hsb).mono ?_
  rintro e w' ⟨rfl, rfl⟩
  go_wp2
  go_ret
  exact ⟨rfl, hB1⟩
set_option maxRecDepth 100000 in
set_option maxHeartbeats 4000000 in
theorem win_a (LA LB : List Rg) (A B : Option Addr) (na nb ca cb : Nat) (w : World) (hna : Hid (na = LA.length)) (hnb : Hid (nb = LB.length)) (na1 : na ≤ 62) (nb1 : nb ≤ 62) (HA : Hid (∀ w' : World, Below w.heap.size w w' → SlRows rgV 2 w' A LA)) (HB : Hid (∀ w' : World, Below w.heap.size w w' → SlRows rgV 2 w' B LB)) (CA : Hid (A = none → na = 0 ∧ ca = 0)) (CB : Hid (B = none → nb = 0 ∧ cb = 0)) (hsa : Hid (shtB na = true)) (hsb : Hid (shtB nb = true)) (E : Int) (hF : Hid (winE LA = E)) (hz : (E != 0) = true) :
    Calls Tryz.prog 5 #[.slice A na ca, .slice B nb cb] w fun e w' => e = .returned (.bool true) ∧ Below w.heap.size w w' := by
  have hE0 : Hid (firE [winE LA, winE LB] = E) := Lib.hid (by unfold firE; rw [hF.out, if_neg (by simpa using hz)])
  have hz2 : (E == 0) = false := by simpa [bne] using hz
  go_enter Tryz.func5, Tryz.ntmps5
  go_wp2_with fail
  refine (awake_any _).mono ?_
  rintro e x1 ⟨rfl, hb1⟩
  have hc1 : Below w.heap.size w x1 := (by (repeat (first | (with_reducible refine Below.drew ?_) | (with_reducible refine below_drewN ?_ _) | (with_reducible refine Below.alloc ?_ (by first | omega | (simp; done) | (simp; omega) | (simp at *; omega)) _) | (with_reducible refine Below.setCell ?_ (by first | omega | (simp; done) | (simp; omega) | (simp at *; omega)) _) | (with_reducible exact Below.refl _ _) | (with_reducible assumption) | (with_reducible refine Below.trans ?_ (Below.mono (by assumption) (by first | omega | (simp; done) | (simp; omega) | (simp at *; omega)))))))
  have hB1 : Below w.heap.size w x1 := hc1
  clear hb1  
  go_wp2_with fail
  refine (short_is A na ca true _ (by omega) hsa).mono ?_
  rintro e w' ⟨rfl, rfl⟩
  go_wp2_with fail
  refine (short_is B nb cb true _ (by omega) hsb).mono ?_
  rintro e w' ⟨rfl, rfl⟩
  go_wp2_with fail
  refine (copyRg_is LA A ca na _ hna (by omega) (HA.out _ (by (repeat (first | (with_reducible refine Below.drew ?_) | (with_reducible refine below_drewN ?_ _) | (with_reducible refine Below.alloc ?_ (by first | omega | (simp; done) | (simp; omega) | (simp at *; omega)) _) | (with_reducible refine Below.setCell ?_ (by first | omega | (simp; done) | (simp; omega) | (simp at *; omega)) _) | (with_reducible exact Below.refl _ _) | (with_reducible assumption) | (with_reducible refine Below.trans ?_ (Below.mono (by assumption) (by first | omega | (simp; done) | (simp; omega) | (simp at *; omega)))))))) CA).mono ?_
  rintro e x2 ⟨P1, cP1, rfl, hP1, hNP1, hb2⟩
  have hc2 : Below x1.heap.size x1 x2 := (by (repeat (first | (with_reducible refine Below.drew ?_) | (with_reducible refine below_drewN ?_ _) | (with_reducible refine Below.alloc ?_ (by first | omega | (simp; done) | (simp; omega) | (simp at *; omega)) _) | (with_reducible refine Below.setCell ?_ (by first | omega | (simp; done) | (simp; omega) | (simp at *; omega)) _) | (with_reducible exact Below.refl _ _) | (with_reducible assumption) | (with_reducible refine Below.trans ?_ (Below.mono (by assumption) (by first | omega | (simp; done) | (simp; omega) | (simp at *; omega)))))))
  have hB2 : Below w.heap.size w x2 := hB1.trans (hc2.mono hB1.size)
  have HP1 : Hid (∀ x, Below x2.heap.size x2 x → SlRows rgV 2 x P1 LA) := Lib.hid fun x hx => hP1.below hx
  have NP1 : Hid (P1 = none → na = 0 ∧ cP1 = 0) := Lib.hid hNP1
  clear hP1 hNP1
  clear hb2 hB1 hc1 
  go_wp2_with fail
  refine (copyRg_is LB B cb nb _ hnb (by omega) (HB.out _ (by (repeat (first | (with_reducible refine Below.drew ?_) | (with_reducible refine below_drewN ?_ _) | (with_reducible refine Below.alloc ?_ (by first | omega | (simp; done) | (simp; omega) | (simp at *; omega)) _) | (with_reducible refine Below.setCell ?_ (by first | omega | (simp; done) | (simp; omega) | (simp at *; omega)) _) | (with_reducible exact Below.refl _ _) | (with_reducible assumption) | (with_reducible refine Below.trans ?_ (Below.mono (by assumption) (by first | omega | (simp; done) | (simp; omega) | (simp at *; omega)))))))) CB).mono ?_
  rintro e x3 ⟨Q1, cQ1, rfl, hQ1, hNQ1, hb3⟩
  have hc3 : Below x2.heap.size x2 x3 := (by (repeat (first | (with_reducible refine Below.drew ?_) | (with_reducible refine below_drewN ?_ _) | (with_reducible refine Below.alloc ?_ (by first | omega | (simp; done) | (simp; omega) | (simp at *; omega)) _) | (with_reducible refine Below.setCell ?_ (by first | omega | (simp; done) | (simp; omega) | (simp at *; omega)) _) | (with_reducible exact Below.refl _ _) | (with_reducible assumption) | (with_reducible refine Below.trans ?_ (Below.mono (by assumption) (by first | omega | (simp; done) | (simp; omega) | (simp at *; omega)))))))
  have hB3 : Below w.heap.size w x3 := hB2.trans (hc3.mono hB2.size)
  have hd2_3 : Below x2.heap.size x2 x3 := hc3
  have HQ1 : Hid (∀ x, Below x3.heap.size x3 x → SlRows rgV 2 x Q1 LB) := Lib.hid fun x hx => hQ1.below hx
  have NQ1 : Hid (Q1 = none → nb = 0 ∧ cQ1 = 0) := Lib.hid hNQ1
  clear hQ1 hNQ1
  clear hb3 hB2 hc2 
  go_wp2_with fail
  refine (Meet_bad LA LB P1 Q1 na nb cP1 cQ1 E _ hna hnb (by omega) (by omega) (Lib.hid fun x hx => HP1.out _ (hd2_3.trans (hx.mono hd2_3.size))) (Lib.hid fun x hx => HQ1.out _ (hx)) hE0 hz).mono ?_
  rintro e x4 ⟨rfl, hb4⟩
  have hc4 : Below x3.heap.size x3 x4 := (by (repeat (first | (with_reducible refine Below.drew ?_) | (with_reducible refine below_drewN ?_ _) | (with_reducible refine Below.alloc ?_ (by first | omega | (simp; done) | (simp; omega) | (simp at *; omega)) _) | (with_reducible refine Below.setCell ?_ (by first | omega | (simp; done) | (simp; omega) | (simp at *; omega)) _) | (with_reducible exact Below.refl _ _) | (with_reducible assumption) | (with_reducible refine Below.trans ?_ (Below.mono (by assumption) (by first | omega | (simp; done) | (simp; omega) | (simp at *; omega)))))))
  have hB4 : Below w.heap.size w x4 := hB3.trans (hc4.mono hB3.size)
  have hd2_4 : Below x2.heap.size x2 x4 := hd2_3.trans (hc4.mono hd2_3.size)
  have hd3_4 : Below x3.heap.size x3 x4 := hc4
  clear hb4 hB3 hc3 hd2_3
  clear HP1 HQ1 NP1 NQ1 hd2_4 hd3_4
  go_wp2_with fail
  refine (copyRg_is LA A ca na _ hna (by omega) (HA.out _ (by (repeat (first | (with_reducible refine Below.drew ?_) | (with_reducible refine below_drewN ?_ _) | (with_reducible refine Below.alloc ?_ (by first | omega | (simp; done) | (simp; omega) | (simp at *; omega)) _) | (with_reducible refine Below.setCell ?_ (by first | omega | (simp; done) | (simp; omega) | (simp at *; omega)) _) | (with_reducible exact Below.refl _ _) | (with_reducible assumption) | (with_reducible refine Below.trans ?_ (Below.mono (by assumption) (by first | omega | (simp; done) | (simp; omega) | (simp at *; omega)))))))) CA).mono ?_
  rintro e x5 ⟨P4, cP4, rfl, hP4, hNP4, hb5⟩
  have hc5 : Below x4.heap.size x4 x5 := (by (repeat (first | (with_reducible refine Below.drew ?_) | (with_reducible refine below_drewN ?_ _) | (with_reducible refine Below.alloc ?_ (by first | omega | (simp; done) | (simp; omega) | (simp at *; omega)) _) | (with_reducible refine Below.setCell ?_ (by first | omega | (simp; done) | (simp; omega) | (simp at *; omega)) _) | (with_reducible exact Below.refl _ _) | (with_reducible assumption) | (with_reducible refine Below.trans ?_ (Below.mono (by assumption) (by first | omega | (simp; done) | (simp; omega) | (simp at *; omega)))))))
  have hB5 : Below w.heap.size w x5 := hB4.trans (hc5.mono hB4.size)
  have HP4 : Hid (∀ x, Below x5.heap.size x5 x → SlRows rgV 2 x P4 LA) := Lib.hid fun x hx => hP4.below hx
  have NP4 : Hid (P4 = none → na = 0 ∧ cP4 = 0) := Lib.hid hNP4
  clear hP4 hNP4
  clear hb5 hB4 hc4 
  go_wp2_with fail
  refine (copyRg_is LB B cb nb _ hnb (by omega) (HB.out _ (by (repeat (first | (with_reducible refine Below.drew ?_) | (with_reducible refine below_drewN ?_ _) | (with_reducible refine Below.alloc ?_ (by first | omega | (simp; done) | (simp; omega) | (simp at *; omega)) _) | (with_reducible refine Below.setCell ?_ (by first | omega | (simp; done) | (simp; omega) | (simp at *; omega)) _) | (with_reducible exact Below.refl _ _) | (with_reducible assumption) | (with_reducible refine Below.trans ?_ (Below.mono (by assumption) (by first | omega | (simp; done) | (simp; omega) | (simp at *; omega)))))))) CB).mono ?_
  rintro e x6 ⟨Q4, cQ4, rfl, hQ4, hNQ4, hb6⟩
  have hc6 : Below x5.heap.size x5 x6 := (by (repeat (first | (with_reducible refine Below.drew ?_) | (with_reducible refine below_drewN ?_ _) | (with_reducible refine Below.alloc ?_ (by first | omega | (simp; done) | (simp; omega) | (simp at *; omega)) _) | (with_reducible refine Below.setCell ?_ (by first | omega | (simp; done) | (simp; omega) | (simp at *; omega)) _) | (with_reducible exact Below.refl _ _) | (with_reducible assumption) | (with_reducible refine Below.trans ?_ (Below.mono (by assumption) (by first | omega | (simp; done) | (simp; omega) | (simp at *; omega)))))))
  have hB6 : Below w.heap.size w x6 := hB5.trans (hc6.mono hB5.size)
  have hd5_6 : Below x5.heap.size x5 x6 := hc6
  have HQ4 : Hid (∀ x, Below x6.heap.size x6 x → SlRows rgV 2 x Q4 LB) := Lib.hid fun x hx => hQ4.below hx
  have NQ4 : Hid (Q4 = none → nb = 0 ∧ cQ4 = 0) := Lib.hid hNQ4
  clear hQ4 hNQ4
  clear hb6 hB5 hc5 
  go_wp2_with fail
  refine (Join_bad LA LB P4 Q4 na nb cP4 cQ4 E _ hna hnb (by omega) (by omega) (Lib.hid fun x hx => HP4.out _ (hd5_6.trans (hx.mono hd5_6.size))) (Lib.hid fun x hx => HQ4.out _ (hx)) hE0 hz).mono ?_
  rintro e x7 ⟨rfl, hb7⟩
  have hc7 : Below x6.heap.size x6 x7 := (by (repeat (first | (with_reducible refine Below.drew ?_) | (with_reducible refine below_drewN ?_ _) | (with_reducible refine Below.alloc ?_ (by first | omega | (simp; done) | (simp; omega) | (simp at *; omega)) _) | (with_reducible refine Below.setCell ?_ (by first | omega | (simp; done) | (simp; omega) | (simp at *; omega)) _) | (with_reducible exact Below.refl _ _) | (with_reducible assumption) | (with_reducible refine Below.trans ?_ (Below.mono (by assumption) (by first | omega | (simp; done) | (simp; omega) | (simp at *; omega)))))))
  have hB7 : Below w.heap.size w x7 := hB6.trans (hc7.mono hB6.size)
  have hd5_7 : Below x5.heap.size x5 x7 := hd5_6.trans (hc7.mono hd5_6.size)
  have hd6_7 : Below x6.heap.size x6 x7 := hc7
  clear hb7 hB6 hc6 hd5_6
  clear HP4 HQ4 NP4 NQ4 hd5_7 hd6_7
  go_wp2_with fail
  refine (refWindows_is LA A ca na E _ hna (by omega) (HA.out _ (by (repeat (first | (with_reducible refine Below.drew ?_) | (with_reducible refine below_drewN ?_ _) | (with_reducible refine Below.alloc ?_ (by first | omega | (simp; done) | (simp; omega) | (simp at *; omega)) _) | (with_reducible refine Below.setCell ?_ (by first | omega | (simp; done) | (simp; omega) | (simp at *; omega)) _) | (with_reducible exact Below.refl _ _) | (with_reducible assumption) | (with_reducible refine Below.trans ?_ (Below.mono (by assumption) (by first | omega | (simp; done) | (simp; omega) | (simp at *; omega)))))))) hF).mono ?_
  rintro e x8 ⟨rfl, hb8⟩
  have hc8 : Below x7.heap.size x7 x8 := (by (repeat (first | (with_reducible refine Below.drew ?_) | (with_reducible refine below_drewN ?_ _) | (with_reducible refine Below.alloc ?_ (by first | omega | (simp; done) | (simp; omega) | (simp at *; omega)) _) | (with_reducible refine Below.setCell ?_ (by first | omega | (simp; done) | (simp; omega) | (simp at *; omega)) _) | (with_reducible exact Below.refl _ _) | (with_reducible assumption) | (with_reducible refine Below.trans ?_ (Below.mono (by assumption) (by first | omega | (simp; done) | (simp; omega) | (simp at *; omega)))))))
  have hB8 : Below w.heap.size w x8 := hB7.trans (hc8.mono hB7.size)
  clear hb8 hB7 hc7 
  go_wp2_with fail
  refine (copyRg_is LA A ca na _ hna (by omega) (HA.out _ (by (repeat (first | (with_reducible refine Below.drew ?_) | (with_reducible refine below_drewN ?_ _) | (with_reducible refine Below.alloc ?_ (by first | omega | (simp; done) | (simp; omega) | (simp at *; omega)) _) | (with_reducible refine Below.setCell ?_ (by first | omega | (simp; done) | (simp; omega) | (simp at *; omega)) _) | (with_reducible exact Below.refl _ _) | (with_reducible assumption) | (with_reducible refine Below.trans ?_ (Below.mono (by assumption) (by first | omega | (simp; done) | (simp; omega) | (simp at *; omega)))))))) CA).mono ?_
  rintro e x9 ⟨Z, cZ, rfl, hZ, hNZ, hb9⟩
  have hc9 : Below x8.heap.size x8 x9 := (by (repeat (first | (with_reducible refine Below.drew ?_) | (with_reducible refine below_drewN ?_ _) | (with_reducible refine Below.alloc ?_ (by first | omega | (simp; done) | (simp; omega) | (simp at *; omega)) _) | (with_reducible refine Below.setCell ?_ (by first | omega | (simp; done) | (simp; omega) | (simp at *; omega)) _) | (with_reducible exact Below.refl _ _) | (with_reducible assumption) | (with_reducible refine Below.trans ?_ (Below.mono (by assumption) (by first | omega | (simp; done) | (simp; omega) | (simp at *; omega)))))))
  have hB9 : Below w.heap.size w x9 := hB8.trans (hc9.mono hB8.size)
  have HZ : Hid (∀ x, Below x9.heap.size x9 x → SlRows rgV 2 x Z LA) := Lib.hid fun x hx => hZ.below hx
  have NZ : Hid (Z = none → na = 0 ∧ cZ = 0) := Lib.hid hNZ
  clear hZ hNZ
  clear hb9 hB8 hc8 
  go_wp2_with fail
  refine (CheckWindows_is LA Z cZ na E _ hna (by omega) (HZ.out _ (Below.refl _ _)) hF).mono ?_
  rintro e x10 ⟨rfl, hb10⟩
  have hc10 : Below x9.heap.size x9 x10 := (by (repeat (first | (with_reducible refine Below.drew ?_) | (with_reducible refine below_drewN ?_ _) | (with_reducible refine Below.alloc ?_ (by first | omega | (simp; done) | (simp; omega) | (simp at *; omega)) _) | (with_reducible refine Below.setCell ?_ (by first | omega | (simp; done) | (simp; omega) | (simp at *; omega)) _) | (with_reducible exact Below.refl _ _) | (with_reducible assumption) | (with_reducible refine Below.trans ?_ (Below.mono (by assumption) (by first | omega | (simp; done) | (simp; omega) | (simp at *; omega)))))))
  have hB10 : Below w.heap.size w x10 := hB9.trans (hc10.mono hB9.size)
  have hd9_10 : Below x9.heap.size x9 x10 := hc10
  clear hb10 hB9 hc9 
  go_wp2
  go_ret
  exact ⟨rfl, hB10⟩
set_option maxRecDepth 100000 in
set_option maxHeartbeats 4000000 in
theorem win_b (LA LB : List Rg) (A B : Option Addr) (na nb ca cb : Nat) (w : World) (hna : Hid (na = LA.length)) (hnb : Hid (nb = LB.length)) (na1 : na ≤ 62) (nb1 : nb ≤ 62) (HA : Hid (∀ w' : World, Below w.heap.size w w' → SlRows rgV 2 w' A LA)) (HB : Hid (∀ w' : World, Below w.heap.size w w' → SlRows rgV 2 w' B LB)) (CA : Hid (A = none → na = 0 ∧ ca = 0)) (CB : Hid (B = none → nb = 0 ∧ cb = 0)) (hsa : Hid (shtB na = true)) (hsb : Hid (shtB nb = true)) (E : Int) (hF : Hid (winE LA = 0)) (hG : Hid (winE LB = E)) (hz : (E != 0) = true) :
    Calls Tryz.prog 5 #[.slice A na ca, .slice B nb cb] w fun e w' => e = .returned (.bool true) ∧ Below w.heap.size w w' := by
  have hE0 : Hid (firE [winE LA, winE LB] = E) := Lib.hid (by unfold firE firE; rw [hF.out, hG.out, if_pos rfl, if_neg (by simpa using hz)])
  have hz2 : (E == 0) = false := by simpa [bne] using hz
  go_enter Tryz.func5, Tryz.ntmps5
  go_wp2_with fail
  refine (awake_any _).mono ?_
  rintro e x1 ⟨rfl, hb1⟩
  have hc1 : Below w.heap.size w x1 := (by (repeat (first | (with_reducible refine Below.drew ?_) | (with_reducible refine below_drewN ?_ _) | (with_reducible refine Below.alloc ?_ (by first | omega | (simp; done) | (simp; omega) | (simp at *; omega)) _) | (with_reducible refine Below.setCell ?_ (by first | omega | (simp; done) | (simp; omega) | (simp at *; omega)) _) | (with_reducible exact Below.refl _ _) | (with_reducible assumption) | (with_reducible refine Below.trans ?_ (Below.mono (by assumption) (by first | omega | (simp; done) | (simp; omega) | (simp at *; omega)))))))
  have hB1 : Below w.heap.size w x1 := hc1
  clear hb1  
  go_wp2_with fail
  refine (short_is A na ca true _ (by omega) hsa).mono ?_
  rintro e w' ⟨rfl, rfl⟩
  go_wp2_with fail
  refine (short_is B nb cb true _ (by omega) hsb).mono ?_
  rintro e w' ⟨rfl, rfl⟩
  go_wp2_with fail
  refine (copyRg_is LA A ca na _ hna (by omega) (HA.out _ (by (repeat (first | (with_reducible refine Below.drew ?_) | (with_reducible refine below_drewN ?_ _) | (with_reducible refine Below.alloc ?_ (by first | omega | (simp; done) | (simp; omega) | (simp at *; omega)) _) | (with_reducible refine Below.setCell ?_ (by first | omega | (simp; done) | (simp; omega) | (simp at *; omega)) _) | (with_reducible exact Below.refl _ _) | (with_reducible assumption) | (with_reducible refine Below.trans ?_ (Below.mono (by assumption) (by first | omega | (simp; done) | (simp; omega) | (simp at *; omega)))))))) CA).mono ?_
  rintro e x2 ⟨P1, cP1, rfl, hP1, hNP1, hb2⟩
  have hc2 : Below x1.heap.size x1 x2 := (by (repeat (first | (with_reducible refine Below.drew ?_) | (with_reducible refine below_drewN ?_ _) | (with_reducible refine Below.alloc ?_ (by first | omega | (simp; done) | (simp; omega) | (simp at *; omega)) _) | (with_reducible refine Below.setCell ?_ (by first | omega | (simp; done) | (simp; omega) | (simp at *; omega)) _) | (with_reducible exact Below.refl _ _) | (with_reducible assumption) | (with_reducible refine Below.trans ?_ (Below.mono (by assumption) (by first | omega | (simp; done) | (simp; omega) | (simp at *; omega)))))))
  have hB2 : Below w.heap.size w x2 := hB1.trans (hc2.mono hB1.size)
  have HP1 : Hid (∀ x, Below x2.heap.size x2 x → SlRows rgV 2 x P1 LA) := Lib.hid fun x hx => hP1.below hx
  have NP1 : Hid (P1 = none → na = 0 ∧ cP1 = 0) := Lib.hid hNP1
  clear hP1 hNP1
  clear hb2 hB1 hc1 
  go_wp2_with fail
  refine (copyRg_is LB B cb nb _ hnb (by omega) (HB.out _ (by (repeat (first | (with_reducible refine Below.drew ?_) | (with_reducible refine below_drewN ?_ _) | (with_reducible refine Below.alloc ?_ (by first | omega | (simp; done) | (simp; omega) | (simp at *; omega)) _) | (with_reducible refine Below.setCell ?_ (by first | omega | (simp; done) | (simp; omega) | (simp at *; omega)) _) | (with_reducible exact Below.refl _ _) | (with_reducible assumption) | (with_reducible refine Below.trans ?_ (Below.mono (by assumption) (by first | omega | (simp; done) | (simp; omega) | (simp at *; omega)))))))) CB).mono ?_
  rintro e x3 ⟨Q1, cQ1, rfl, hQ1, hNQ1, hb3⟩
  have hc3 : Below x2.heap.size x2 x3 := (by (repeat (first | (with_reducible refine Below.drew ?_) | (with_reducible refine below_drewN ?_ _) | (with_reducible refine Below.alloc ?_ (by first | omega | (simp; done) | (simp; omega) | (simp at *; omega)) _) | (with_reducible refine Below.setCell ?_ (by first | omega | (simp; done) | (simp; omega) | (simp at *; omega)) _) | (with_reducible exact Below.refl _ _) | (with_reducible assumption) | (with_reducible refine Below.trans ?_ (Below.mono (by assumption) (by first | omega | (simp; done) | (simp; omega) | (simp at *; omega)))))))
  have hB3 : Below w.heap.size w x3 := hB2.trans (hc3.mono hB2.size)
  have hd2_3 : Below x2.heap.size x2 x3 := hc3
  have HQ1 : Hid (∀ x, Below x3.heap.size x3 x → SlRows rgV 2 x Q1 LB) := Lib.hid fun x hx => hQ1.below hx
  have NQ1 : Hid (Q1 = none → nb = 0 ∧ cQ1 = 0) := Lib.hid hNQ1
  clear hQ1 hNQ1
  clear hb3 hB2 hc2 
  go_wp2_with fail
  refine (Meet_bad LA LB P1 Q1 na nb cP1 cQ1 E _ hna hnb (by omega) (by omega) (Lib.hid fun x hx => HP1.out _ (hd2_3.trans (hx.mono hd2_3.size))) (Lib.hid fun x hx => HQ1.out _ (hx)) hE0 hz).mono ?_
  rintro e x4 ⟨rfl, hb4⟩
  have hc4 : Below x3.heap.size x3 x4 := (by (repeat (first | (with_reducible refine Below.drew ?_) | (with_reducible refine below_drewN ?_ _) | (with_reducible refine Below.alloc ?_ (by first | omega | (simp; done) | (simp; omega) | (simp at *; omega)) _) | (with_reducible refine Below.setCell ?_ (by first | omega | (simp; done) | (simp; omega) | (simp at *; omega)) _) | (with_reducible exact Below.refl _ _) | (with_reducible assumption) | (with_reducible refine Below.trans ?_ (Below.mono (by assumption) (by first | omega | (simp; done) | (simp; omega) | (simp at *; omega)))))))
  have hB4 : Below w.heap.size w x4 := hB3.trans (hc4.mono hB3.size)
  have hd2_4 : Below x2.heap.size x2 x4 := hd2_3.trans (hc4.mono hd2_3.size)
  have hd3_4 : Below x3.heap.size x3 x4 := hc4
  clear hb4 hB3 hc3 hd2_3
  clear HP1 HQ1 NP1 NQ1 hd2_4 hd3_4
  go_wp2_with fail
  refine (copyRg_is LA A ca na _ hna (by omega) (HA.out _ (by (repeat (first | (with_reducible refine Below.drew ?_) | (with_reducible refine below_drewN ?_ _) | (with_reducible refine Below.alloc ?_ (by first | omega | (simp; done) | (simp; omega) | (simp at *; omega)) _) | (with_reducible refine Below.setCell ?_ (by first | omega | (simp; done) | (simp; omega) | (simp at *; omega)) _) | (with_reducible exact Below.refl _ _) | (with_reducible assumption) | (with_reducible refine Below.trans ?_ (Below.mono (by assumption) (by first | omega | (simp; done) | (simp; omega) | (simp at *; omega)))))))) CA).mono ?_
  rintro e x5 ⟨P4, cP4, rfl, hP4, hNP4, hb5⟩
  have hc5 : Below x4.heap.size x4 x5 := (by (repeat (first | (with_reducible refine Below.drew ?_) | (with_reducible refine below_drewN ?_ _) | (with_reducible refine Below.alloc ?_ (by first | omega | (simp; done) | (simp; omega) | (simp at *; omega)) _) | (with_reducible refine Below.setCell ?_ (by first | omega | (simp; done) | (simp; omega) | (simp at *; omega)) _) | (with_reducible exact Below.refl _ _) | (with_reducible assumption) | (with_reducible refine Below.trans ?_ (Below.mono (by assumption) (by first | omega | (simp; done) | (simp; omega) | (simp at *; omega)))))))
  have hB5 : Below w.heap.size w x5 := hB4.trans (hc5.mono hB4.size)
  have HP4 : Hid (∀ x, Below x5.heap.size x5 x → SlRows rgV 2 x P4 LA) := Lib.hid fun x hx => hP4.below hx
  have NP4 : Hid (P4 = none → na = 0 ∧ cP4 = 0) := Lib.hid hNP4
  clear hP4 hNP4
  clear hb5 hB4 hc4 
  go_wp2_with fail
  refine (copyRg_is LB B cb nb _ hnb (by omega) (HB.out _ (by (repeat (first | (with_reducible refine Below.drew ?_) | (with_reducible refine below_drewN ?_ _) | (with_reducible refine Below.alloc ?_ (by first | omega | (simp; done) | (simp; omega) | (simp at *; omega)) _) | (with_reducible refine Below.setCell ?_ (by first | omega | (simp; done) | (simp; omega) | (simp at *; omega)) _) | (with_reducible exact Below.refl _ _) | (with_reducible assumption) | (with_reducible refine Below.trans ?_ (Below.mono (by assumption) (by first | omega | (simp; done) | (simp; omega) | (simp at *; omega)))))))) CB).mono ?_
  rintro e x6 ⟨Q4, cQ4, rfl, hQ4, hNQ4, hb6⟩
  have hc6 : Below x5.heap.size x5 x6 := (by (repeat (first | (with_reducible refine Below.drew ?_) | (with_reducible refine below_drewN ?_ _) | (with_reducible refine Below.alloc ?_ (by first | omega | (simp; done) | (simp; omega) | (simp at *; omega)) _) | (with_reducible refine Below.setCell ?_ (by first | omega | (simp; done) | (simp; omega) | (simp at *; omega)) _) | (with_reducible exact Below.refl _ _) | (with_reducible assumption) | (with_reducible refine Below.trans ?_ (Below.mono (by assumption) (by first | omega | (simp; done) | (simp; omega) | (simp at *; omega)))))))
  have hB6 : Below w.heap.size w x6 := hB5.trans (hc6.mono hB5.size)
  have hd5_6 : Below x5.heap.size x5 x6 := hc6
  have HQ4 : Hid (∀ x, Below x6.heap.size x6 x → SlRows rgV 2 x Q4 LB) := Lib.hid fun x hx => hQ4.below hx
  have NQ4 : Hid (Q4 = none → nb = 0 ∧ cQ4 = 0) := Lib.hid hNQ4
  clear hQ4 hNQ4
  clear hb6 hB5 hc5 
  go_wp2_with fail
  refine (Join_bad LA LB P4 Q4 na nb cP4 cQ4 E _ hna hnb (by omega) (by omega) (Lib.hid fun x hx => HP4.out _ (hd5_6.trans (hx.mono hd5_6.size))) (Lib.hid fun x hx => HQ4.out _ (hx)) hE0 hz).mono ?_
  rintro e x7 ⟨rfl, hb7⟩
  have hc7 : Below x6.heap.size x6 x7 := (by (repeat (first | (with_reducible refine Below.drew ?_) | (with_reducible refine below_drewN ?_ _) | (with_reducible refine Below.alloc ?_ (by first | omega | (simp; done) | (simp; omega) | (simp at *; omega)) _) | (with_reducible refine Below.setCell ?_ (by first | omega | (simp; done) | (simp; omega) | (simp at *; omega)) _) | (with_reducible exact Below.refl _ _) | (with_reducible assumption) | (with_reducible refine Below.trans ?_ (Below.mono (by assumption) (by first | omega | (simp; done) | (simp; omega) | (simp at *; omega)))))))
  have hB7 : Below w.heap.size w x7 := hB6.trans (hc7.mono hB6.size)
  have hd5_7 : Below x5.heap.size x5 x7 := hd5_6.trans (hc7.mono hd5_6.size)
  have hd6_7 : Below x6.heap.size x6 x7 := hc7
  clear hb7 hB6 hc6 hd5_6
  clear HP4 HQ4 NP4 NQ4 hd5_7 hd6_7
  go_wp2_with fail
  refine (refWindows_is LA A ca na 0 _ hna (by omega) (HA.out _ (by (repeat (first | (with_reducible refine Below.drew ?_) | (with_reducible refine below_drewN ?_ _) | (with_reducible refine Below.alloc ?_ (by first | omega | (simp; done) | (simp; omega) | (simp at *; omega)) _) | (with_reducible refine Below.setCell ?_ (by first | omega | (simp; done) | (simp; omega) | (simp at *; omega)) _) | (with_reducible exact Below.refl _ _) | (with_reducible assumption) | (with_reducible refine Below.trans ?_ (Below.mono (by assumption) (by first | omega | (simp; done) | (simp; omega) | (simp at *; omega)))))))) hF).mono ?_
  rintro e x8 ⟨rfl, hb8⟩
  have hc8 : Below x7.heap.size x7 x8 := (by (repeat (first | (with_reducible refine Below.drew ?_) | (with_reducible refine below_drewN ?_ _) | (with_reducible refine Below.alloc ?_ (by first | omega | (simp; done) | (simp; omega) | (simp at *; omega)) _) | (with_reducible refine Below.setCell ?_ (by first | omega | (simp; done) | (simp; omega) | (simp at *; omega)) _) | (with_reducible exact Below.refl _ _) | (with_reducible assumption) | (with_reducible refine Below.trans ?_ (Below.mono (by assumption) (by first | omega | (simp; done) | (simp; omega) | (simp at *; omega)))))))
  have hB8 : Below w.heap.size w x8 := hB7.trans (hc8.mono hB7.size)
  clear hb8 hB7 hc7 
  go_wp2_with fail
  refine (copyRg_is LA A ca na _ hna (by omega) (HA.out _ (by (repeat (first | (with_reducible refine Below.drew ?_) | (with_reducible refine below_drewN ?_ _) | (with_reducible refine Below.alloc ?_ (by first | omega | (simp; done) | (simp; omega) | (simp at *; omega)) _) | (with_reducible refine Below.setCell ?_ (by first | omega | (simp; done) | (simp; omega) | (simp at *; omega)) _) | (with_reducible exact Below.refl _ _) | (with_reducible assumption) | (with_reducible refine Below.trans ?_ (Below.mono (by assumption) (by first | omega | (simp; done) | (simp; omega) | (simp at *; omega)))))))) CA).mono ?_
  rintro e x9 ⟨Z, cZ, rfl, hZ, hNZ, hb9⟩
  have hc9 : Below x8.heap.size x8 x9 := (by (repeat (first | (with_reducible refine Below.drew ?_) | (with_reducible refine below_drewN ?_ _) | (with_reducible refine Below.alloc ?_ (by first | omega | (simp; done) | (simp; omega) | (simp at *; omega)) _) | (with_reducible refine Below.setCell ?_ (by first | omega | (simp; done) | (simp; omega) | (simp at *; omega)) _) | (with_reducible exact Below.refl _ _) | (with_reducible assumption) | (with_reducible refine Below.trans ?_ (Below.mono (by assumption) (by first | omega | (simp; done) | (simp; omega) | (simp at *; omega)))))))
  have hB9 : Below w.heap.size w x9 := hB8.trans (hc9.mono hB8.size)
  have HZ : Hid (∀ x, Below x9.heap.size x9 x → SlRows rgV 2 x Z LA) := Lib.hid fun x hx => hZ.below hx
  have NZ : Hid (Z = none → na = 0 ∧ cZ = 0) := Lib.hid hNZ
  clear hZ hNZ
  clear hb9 hB8 hc8 
  go_wp2_with fail
  refine (CheckWindows_is LA Z cZ na 0 _ hna (by omega) (HZ.out _ (Below.refl _ _)) hF).mono ?_
  rintro e x10 ⟨rfl, hb10⟩
  have hc10 : Below x9.heap.size x9 x10 := (by (repeat (first | (with_reducible refine Below.drew ?_) | (with_reducible refine below_drewN ?_ _) | (with_reducible refine Below.alloc ?_ (by first | omega | (simp; done) | (simp; omega) | (simp at *; omega)) _) | (with_reducible refine Below.setCell ?_ (by first | omega | (simp; done) | (simp; omega) | (simp at *; omega)) _) | (with_reducible exact Below.refl _ _) | (with_reducible assumption) | (with_reducible refine Below.trans ?_ (Below.mono (by assumption) (by first | omega | (simp; done) | (simp; omega) | (simp at *; omega)))))))
  have hB10 : Below w.heap.size w x10 := hB9.trans (hc10.mono hB9.size)
  have hd9_10 : Below x9.heap.size x9 x10 := hc10
  clear hb10 hB9 hc9 
  go_wp2_with fail
  refine (refWindows_is LB B cb nb E _ hnb (by omega) (HB.out _ (by (repeat (first | (with_reducible refine Below.drew ?_) | (with_reducible refine below_drewN ?_ _) | (with_reducible refine Below.alloc ?_ (by first | omega | (simp; done) | (simp; omega) | (simp at *; omega)) _) | (with_reducible refine Below.setCell ?_ (by first | omega | (simp; done) | (simp; omega) | (simp at *; omega)) _) | (with_reducible exact Below.refl _ _) | (with_reducible assumption) | (with_reducible refine Below.trans ?_ (Below.mono (by assumption) (by first | omega | (simp; done) | (simp; omega) | (simp at *; omega)))))))) hG).mono ?_
  rintro e x11 ⟨rfl, hb11⟩
  have hc11 : Below x10.heap.size x10 x11 := (by (repeat (first | (with_reducible refine Below.drew ?_) | (with_reducible refine below_drewN ?_ _) | (with_reducible refine Below.alloc ?_ (by first | omega | (simp; done) | (simp; omega) | (simp at *; omega)) _) | (with_reducible refine Below.setCell ?_ (by first | omega | (simp; done) | (simp; omega) | (simp at *; omega)) _) | (with_reducible exact Below.refl _ _) | (with_reducible assumption) | (with_reducible refine Below.trans ?_ (Below.mono (by assumption) (by first | omega | (simp; done) | (simp; omega) | (simp at *; omega)))))))
  have hB11 : Below w.heap.size w x11 := hB10.trans (hc11.mono hB10.size)
  have hd9_11 : Below x9.heap.size x9 x11 := hd9_10.trans (hc11.mono hd9_10.size)
  clear hb11 hB10 hc10 hd9_10
  go_wp2
  go_ret
  exact ⟨rfl, hB11⟩
set_option maxRecDepth 100000 in
set_option maxHeartbeats 4000000 in
theorem win_g (LA LB : List Rg) (A B : Option Addr) (na nb ca cb : Nat) (w : World) (hna : Hid (na = LA.length)) (hnb : Hid (nb = LB.length)) (na1 : na ≤ 62) (nb1 : nb ≤ 62) (HA : Hid (∀ w' : World, Below w.heap.size w w' → SlRows rgV 2 w' A LA)) (HB : Hid (∀ w' : World, Below w.heap.size w w' → SlRows rgV 2 w' B LB)) (CA : Hid (A = none → na = 0 ∧ ca = 0)) (CB : Hid (B = none → nb = 0 ∧ cb = 0)) (hsa : Hid (shtB na = true)) (hsb : Hid (shtB nb = true)) (n30 : na + nb ≤ 24) (hF : Hid (winE LA = 0)) (hG : Hid (winE LB = 0)) (hbd : Hid (∀ x ∈ LA ++ LB, 0 ≤ x.lo ∧ x.lo ≤ x.hi ∧ x.hi ≤ 1000000)) (VM VJ : List Rg) (vm : VM.length ≤ 100) (vj : VJ.length ≤ 100) (hVM : Hid ((wof (fun m => inW LA m && inW LB m) (srt (mks (LA ++ LB)))).1 = VM)) (hVJ : Hid ((wof (fun m => inW LA m || inW LB m) (srt (mks (LA ++ LB)))).1 = VJ)) (hWM : Hid ((wof (fun m => inW LB m && inW LA m) (srt (mks (LB ++ LA)))).1 = VM)) (hWJ : Hid ((wof (fun m => inW LB m || inW LA m) (srt (mks (LB ++ LA)))).1 = VJ)) :
    Calls Tryz.prog 5 #[.slice A na ca, .slice B nb cb] w fun e w' => e = .returned (.bool true) ∧ Below w.heap.size w w' := by
  go_enter Tryz.func5, Tryz.ntmps5
  go_wp2_with fail
  refine (awake_any _).mono ?_
  rintro e x1 ⟨rfl, hb1⟩
  have hc1 : Below w.heap.size w x1 := (by (repeat (first | (with_reducible refine Below.drew ?_) | (with_reducible refine below_drewN ?_ _) | (with_reducible refine Below.alloc ?_ (by first | omega | (simp; done) | (simp; omega) | (simp at *; omega)) _) | (with_reducible refine Below.setCell ?_ (by first | omega | (simp; done) | (simp; omega) | (simp at *; omega)) _) | (with_reducible exact Below.refl _ _) | (with_reducible assumption) | (with_reducible refine Below.trans ?_ (Below.mono (by assumption) (by first | omega | (simp; done) | (simp; omega) | (simp at *; omega)))))))
  have hB1 : Below w.heap.size w x1 := hc1
  clear hb1  
  go_wp2_with fail
  refine (short_is A na ca true _ (by omega) hsa).mono ?_
  rintro e w' ⟨rfl, rfl⟩
  go_wp2_with fail
  refine (short_is B nb cb true _ (by omega) hsb).mono ?_
  rintro e w' ⟨rfl, rfl⟩
  go_wp2_with fail
  refine (copyRg_is LA A ca na _ hna (by omega) (HA.out _ (by (repeat (first | (with_reducible refine Below.drew ?_) | (with_reducible refine below_drewN ?_ _) | (with_reducible refine Below.alloc ?_ (by first | omega | (simp; done) | (simp; omega) | (simp at *; omega)) _) | (with_reducible refine Below.setCell ?_ (by first | omega | (simp; done) | (simp; omega) | (simp at *; omega)) _) | (with_reducible exact Below.refl _ _) | (with_reducible assumption) | (with_reducible refine Below.trans ?_ (Below.mono (by assumption) (by first | omega | (simp; done) | (simp; omega) | (simp at *; omega)))))))) CA).mono ?_
  rintro e x2 ⟨P1, cP1, rfl, hP1, hNP1, hb2⟩
  have hc2 : Below x1.heap.size x1 x2 := (by (repeat (first | (with_reducible refine Below.drew ?_) | (with_reducible refine below_drewN ?_ _) | (with_reducible refine Below.alloc ?_ (by first | omega | (simp; done) | (simp; omega) | (simp at *; omega)) _) | (with_reducible refine Below.setCell ?_ (by first | omega | (simp; done) | (simp; omega) | (simp at *; omega)) _) | (with_reducible exact Below.refl _ _) | (with_reducible assumption) | (with_reducible refine Below.trans ?_ (Below.mono (by assumption) (by first | omega | (simp; done) | (simp; omega) | (simp at *; omega)))))))
  have hB2 : Below w.heap.size w x2 := hB1.trans (hc2.mono hB1.size)
  have HP1 : Hid (∀ x, Below x2.heap.size x2 x → SlRows rgV 2 x P1 LA) := Lib.hid fun x hx => hP1.below hx
  have NP1 : Hid (P1 = none → na = 0 ∧ cP1 = 0) := Lib.hid hNP1
  clear hP1 hNP1
  clear hb2 hB1 hc1 
  go_wp2_with fail
  refine (copyRg_is LB B cb nb _ hnb (by omega) (HB.out _ (by (repeat (first | (with_reducible refine Below.drew ?_) | (with_reducible refine below_drewN ?_ _) | (with_reducible refine Below.alloc ?_ (by first | omega | (simp; done) | (simp; omega) | (simp at *; omega)) _) | (with_reducible refine Below.setCell ?_ (by first | omega | (simp; done) | (simp; omega) | (simp at *; omega)) _) | (with_reducible exact Below.refl _ _) | (with_reducible assumption) | (with_reducible refine Below.trans ?_ (Below.mono (by assumption) (by first | omega | (simp; done) | (simp; omega) | (simp at *; omega)))))))) CB).mono ?_
  rintro e x3 ⟨Q1, cQ1, rfl, hQ1, hNQ1, hb3⟩
  have hc3 : Below x2.heap.size x2 x3 := (by (repeat (first | (with_reducible refine Below.drew ?_) | (with_reducible refine below_drewN ?_ _) | (with_reducible refine Below.alloc ?_ (by first | omega | (simp; done) | (simp; omega) | (simp at *; omega)) _) | (with_reducible refine Below.setCell ?_ (by first | omega | (simp; done) | (simp; omega) | (simp at *; omega)) _) | (with_reducible exact Below.refl _ _) | (with_reducible assumption) | (with_reducible refine Below.trans ?_ (Below.mono (by assumption) (by first | omega | (simp; done) | (simp; omega) | (simp at *; omega)))))))
  have hB3 : Below w.heap.size w x3 := hB2.trans (hc3.mono hB2.size)
  have hd2_3 : Below x2.heap.size x2 x3 := hc3
  have HQ1 : Hid (∀ x, Below x3.heap.size x3 x → SlRows rgV 2 x Q1 LB) := Lib.hid fun x hx => hQ1.below hx
  have NQ1 : Hid (Q1 = none → nb = 0 ∧ cQ1 = 0) := Lib.hid hNQ1
  clear hQ1 hNQ1
  clear hb3 hB2 hc2 
  go_wp2_with fail
  refine (Meet_v LA LB P1 Q1 na nb cP1 cQ1 VM _ hna hnb (by omega) (Lib.hid fun x hx => HP1.out _ (hd2_3.trans (hx.mono hd2_3.size))) (Lib.hid fun x hx => HQ1.out _ (hx)) NP1 NQ1 hF hG hVM).mono ?_
  rintro e x4 ⟨GX, cX, rfl, hX, hnX, hb4⟩
  have hc4 : Below x3.heap.size x3 x4 := (by (repeat (first | (with_reducible refine Below.drew ?_) | (with_reducible refine below_drewN ?_ _) | (with_reducible refine Below.alloc ?_ (by first | omega | (simp; done) | (simp; omega) | (simp at *; omega)) _) | (with_reducible refine Below.setCell ?_ (by first | omega | (simp; done) | (simp; omega) | (simp at *; omega)) _) | (with_reducible exact Below.refl _ _) | (with_reducible assumption) | (with_reducible refine Below.trans ?_ (Below.mono (by assumption) (by first | omega | (simp; done) | (simp; omega) | (simp at *; omega)))))))
  have hB4 : Below w.heap.size w x4 := hB3.trans (hc4.mono hB3.size)
  have hd2_4 : Below x2.heap.size x2 x4 := hd2_3.trans (hc4.mono hd2_3.size)
  have hd3_4 : Below x3.heap.size x3 x4 := hc4
  have DX : Hid (∀ x, Below x4.heap.size x4 x → SlRows rgV 2 x GX VM) := Lib.hid fun x hx => hX.below hx
  clear hX hnX
  clear hb4 hB3 hc3 hd2_3
  clear HP1 HQ1 NP1 NQ1 hd2_4 hd3_4
  go_wp2_with fail
  refine (copyRg_is LA A ca na _ hna (by omega) (HA.out _ (by (repeat (first | (with_reducible refine Below.drew ?_) | (with_reducible refine below_drewN ?_ _) | (with_reducible refine Below.alloc ?_ (by first | omega | (simp; done) | (simp; omega) | (simp at *; omega)) _) | (with_reducible refine Below.setCell ?_ (by first | omega | (simp; done) | (simp; omega) | (simp at *; omega)) _) | (with_reducible exact Below.refl _ _) | (with_reducible assumption) | (with_reducible refine Below.trans ?_ (Below.mono (by assumption) (by first | omega | (simp; done) | (simp; omega) | (simp at *; omega)))))))) CA).mono ?_
  rintro e x5 ⟨P4, cP4, rfl, hP4, hNP4, hb5⟩
  have hc5 : Below x4.heap.size x4 x5 := (by (repeat (first | (with_reducible refine Below.drew ?_) | (with_reducible refine below_drewN ?_ _) | (with_reducible refine Below.alloc ?_ (by first | omega | (simp; done) | (simp; omega) | (simp at *; omega)) _) | (with_reducible refine Below.setCell ?_ (by first | omega | (simp; done) | (simp; omega) | (simp at *; omega)) _) | (with_reducible exact Below.refl _ _) | (with_reducible assumption) | (with_reducible refine Below.trans ?_ (Below.mono (by assumption) (by first | omega | (simp; done) | (simp; omega) | (simp at *; omega)))))))
  have hB5 : Below w.heap.size w x5 := hB4.trans (hc5.mono hB4.size)
  have hd4_5 : Below x4.heap.size x4 x5 := hc5
  have HP4 : Hid (∀ x, Below x5.heap.size x5 x → SlRows rgV 2 x P4 LA) := Lib.hid fun x hx => hP4.below hx
  have NP4 : Hid (P4 = none → na = 0 ∧ cP4 = 0) := Lib.hid hNP4
  clear hP4 hNP4
  clear hb5 hB4 hc4 
  go_wp2_with fail
  refine (copyRg_is LB B cb nb _ hnb (by omega) (HB.out _ (by (repeat (first | (with_reducible refine Below.drew ?_) | (with_reducible refine below_drewN ?_ _) | (with_reducible refine Below.alloc ?_ (by first | omega | (simp; done) | (simp; omega) | (simp at *; omega)) _) | (with_reducible refine Below.setCell ?_ (by first | omega | (simp; done) | (simp; omega) | (simp at *; omega)) _) | (with_reducible exact Below.refl _ _) | (with_reducible assumption) | (with_reducible refine Below.trans ?_ (Below.mono (by assumption) (by first | omega | (simp; done) | (simp; omega) | (simp at *; omega)))))))) CB).mono ?_
  rintro e x6 ⟨Q4, cQ4, rfl, hQ4, hNQ4, hb6⟩
  have hc6 : Below x5.heap.size x5 x6 := (by (repeat (first | (with_reducible refine Below.drew ?_) | (with_reducible refine below_drewN ?_ _) | (with_reducible refine Below.alloc ?_ (by first | omega | (simp; done) | (simp; omega) | (simp at *; omega)) _) | (with_reducible refine Below.setCell ?_ (by first | omega | (simp; done) | (simp; omega) | (simp at *; omega)) _) | (with_reducible exact Below.refl _ _) | (with_reducible assumption) | (with_reducible refine Below.trans ?_ (Below.mono (by assumption) (by first | omega | (simp; done) | (simp; omega) | (simp at *; omega)))))))
  have hB6 : Below w.heap.size w x6 := hB5.trans (hc6.mono hB5.size)
  have hd4_6 : Below x4.heap.size x4 x6 := hd4_5.trans (hc6.mono hd4_5.size)
  have hd5_6 : Below x5.heap.size x5 x6 := hc6
  have HQ4 : Hid (∀ x, Below x6.heap.size x6 x → SlRows rgV 2 x Q4 LB) := Lib.hid fun x hx => hQ4.below hx
  have NQ4 : Hid (Q4 = none → nb = 0 ∧ cQ4 = 0) := Lib.hid hNQ4
  clear hQ4 hNQ4
  clear hb6 hB5 hc5 hd4_5
  go_wp2_with fail
  refine (Join_v LA LB P4 Q4 na nb cP4 cQ4 VJ _ hna hnb (by omega) (Lib.hid fun x hx => HP4.out _ (hd5_6.trans (hx.mono hd5_6.size))) (Lib.hid fun x hx => HQ4.out _ (hx)) NP4 NQ4 hF hG hVJ).mono ?_
  rintro e x7 ⟨GY, cY, rfl, hY, hnY, hb7⟩
  have hc7 : Below x6.heap.size x6 x7 := (by (repeat (first | (with_reducible refine Below.drew ?_) | (with_reducible refine below_drewN ?_ _) | (with_reducible refine Below.alloc ?_ (by first | omega | (simp; done) | (simp; omega) | (simp at *; omega)) _) | (with_reducible refine Below.setCell ?_ (by first | omega | (simp; done) | (simp; omega) | (simp at *; omega)) _) | (with_reducible exact Below.refl _ _) | (with_reducible assumption) | (with_reducible refine Below.trans ?_ (Below.mono (by assumption) (by first | omega | (simp; done) | (simp; omega) | (simp at *; omega)))))))
  have hB7 : Below w.heap.size w x7 := hB6.trans (hc7.mono hB6.size)
  have hd4_7 : Below x4.heap.size x4 x7 := hd4_6.trans (hc7.mono hd4_6.size)
  have hd5_7 : Below x5.heap.size x5 x7 := hd5_6.trans (hc7.mono hd5_6.size)
  have hd6_7 : Below x6.heap.size x6 x7 := hc7
  have DY : Hid (∀ x, Below x7.heap.size x7 x → SlRows rgV 2 x GY VJ) := Lib.hid fun x hx => hY.below hx
  clear hY hnY
  clear hb7 hB6 hc6 hd4_6 hd5_6
  clear HP4 HQ4 NP4 NQ4 hd5_7 hd6_7
  go_wp2_with fail
  refine (refWindows_is LA A ca na 0 _ hna (by omega) (HA.out _ (by (repeat (first | (with_reducible refine Below.drew ?_) | (with_reducible refine below_drewN ?_ _) | (with_reducible refine Below.alloc ?_ (by first | omega | (simp; done) | (simp; omega) | (simp at *; omega)) _) | (with_reducible refine Below.setCell ?_ (by first | omega | (simp; done) | (simp; omega) | (simp at *; omega)) _) | (with_reducible exact Below.refl _ _) | (with_reducible assumption) | (with_reducible refine Below.trans ?_ (Below.mono (by assumption) (by first | omega | (simp; done) | (simp; omega) | (simp at *; omega)))))))) hF).mono ?_
  rintro e x8 ⟨rfl, hb8⟩
  have hc8 : Below x7.heap.size x7 x8 := (by (repeat (first | (with_reducible refine Below.drew ?_) | (with_reducible refine below_drewN ?_ _) | (with_reducible refine Below.alloc ?_ (by first | omega | (simp; done) | (simp; omega) | (simp at *; omega)) _) | (with_reducible refine Below.setCell ?_ (by first | omega | (simp; done) | (simp; omega) | (simp at *; omega)) _) | (with_reducible exact Below.refl _ _) | (with_reducible assumption) | (with_reducible refine Below.trans ?_ (Below.mono (by assumption) (by first | omega | (simp; done) | (simp; omega) | (simp at *; omega)))))))
  have hB8 : Below w.heap.size w x8 := hB7.trans (hc8.mono hB7.size)
  have hd4_8 : Below x4.heap.size x4 x8 := hd4_7.trans (hc8.mono hd4_7.size)
  have hd7_8 : Below x7.heap.size x7 x8 := hc8
  clear hb8 hB7 hc7 hd4_7
  go_wp2_with fail
  refine (copyRg_is LA A ca na _ hna (by omega) (HA.out _ (by (repeat (first | (with_reducible refine Below.drew ?_) | (with_reducible refine below_drewN ?_ _) | (with_reducible refine Below.alloc ?_ (by first | omega | (simp; done) | (simp; omega) | (simp at *; omega)) _) | (with_reducible refine Below.setCell ?_ (by first | omega | (simp; done) | (simp; omega) | (simp at *; omega)) _) | (with_reducible exact Below.refl _ _) | (with_reducible assumption) | (with_reducible refine Below.trans ?_ (Below.mono (by assumption) (by first | omega | (simp; done) | (simp; omega) | (simp at *; omega)))))))) CA).mono ?_
  rintro e x9 ⟨Z, cZ, rfl, hZ, hNZ, hb9⟩
  have hc9 : Below x8.heap.size x8 x9 := (by (repeat (first | (with_reducible refine Below.drew ?_) | (with_reducible refine below_drewN ?_ _) | (with_reducible refine Below.alloc ?_ (by first | omega | (simp; done) | (simp; omega) | (simp at *; omega)) _) | (with_reducible refine Below.setCell ?_ (by first | omega | (simp; done) | (simp; omega) | (simp at *; omega)) _) | (with_reducible exact Below.refl _ _) | (with_reducible assumption) | (with_reducible refine Below.trans ?_ (Below.mono (by assumption) (by first | omega | (simp; done) | (simp; omega) | (simp at *; omega)))))))
  have hB9 : Below w.heap.size w x9 := hB8.trans (hc9.mono hB8.size)
  have hd4_9 : Below x4.heap.size x4 x9 := hd4_8.trans (hc9.mono hd4_8.size)
  have hd7_9 : Below x7.heap.size x7 x9 := hd7_8.trans (hc9.mono hd7_8.size)
  have HZ : Hid (∀ x, Below x9.heap.size x9 x → SlRows rgV 2 x Z LA) := Lib.hid fun x hx => hZ.below hx
  have NZ : Hid (Z = none → na = 0 ∧ cZ = 0) := Lib.hid hNZ
  clear hZ hNZ
  clear hb9 hB8 hc8 hd4_8 hd7_8
  go_wp2_with fail
  refine (CheckWindows_is LA Z cZ na 0 _ hna (by omega) (HZ.out _ (Below.refl _ _)) hF).mono ?_
  rintro e x10 ⟨rfl, hb10⟩
  have hc10 : Below x9.heap.size x9 x10 := (by (repeat (first | (with_reducible refine Below.drew ?_) | (with_reducible refine below_drewN ?_ _) | (with_reducible refine Below.alloc ?_ (by first | omega | (simp; done) | (simp; omega) | (simp at *; omega)) _) | (with_reducible refine Below.setCell ?_ (by first | omega | (simp; done) | (simp; omega) | (simp at *; omega)) _) | (with_reducible exact Below.refl _ _) | (with_reducible assumption) | (with_reducible refine Below.trans ?_ (Below.mono (by assumption) (by first | omega | (simp; done) | (simp; omega) | (simp at *; omega)))))))
  have hB10 : Below w.heap.size w x10 := hB9.trans (hc10.mono hB9.size)
  have hd4_10 : Below x4.heap.size x4 x10 := hd4_9.trans (hc10.mono hd4_9.size)
  have hd7_10 : Below x7.heap.size x7 x10 := hd7_9.trans (hc10.mono hd7_9.size)
  have hd9_10 : Below x9.heap.size x9 x10 := hc10
  clear hb10 hB9 hc9 hd4_9 hd7_9
  clear HZ NZ hd9_10
  go_wp2_with fail
  refine (refWindows_is LB B cb nb 0 _ hnb (by omega) (HB.out _ (by (repeat (first | (with_reducible refine Below.drew ?_) | (with_reducible refine below_drewN ?_ _) | (with_reducible refine Below.alloc ?_ (by first | omega | (simp; done) | (simp; omega) | (simp at *; omega)) _) | (with_reducible refine Below.setCell ?_ (by first | omega | (simp; done) | (simp; omega) | (simp at *; omega)) _) | (with_reducible exact Below.refl _ _) | (with_reducible assumption) | (with_reducible refine Below.trans ?_ (Below.mono (by assumption) (by first | omega | (simp; done) | (simp; omega) | (simp at *; omega)))))))) hG).mono ?_
  rintro e x11 ⟨rfl, hb11⟩
  have hc11 : Below x10.heap.size x10 x11 := (by (repeat (first | (with_reducible refine Below.drew ?_) | (with_reducible refine below_drewN ?_ _) | (with_reducible refine Below.alloc ?_ (by first | omega | (simp; done) | (simp; omega) | (simp at *; omega)) _) | (with_reducible refine Below.setCell ?_ (by first | omega | (simp; done) | (simp; omega) | (simp at *; omega)) _) | (with_reducible exact Below.refl _ _) | (with_reducible assumption) | (with_reducible refine Below.trans ?_ (Below.mono (by assumption) (by first | omega | (simp; done) | (simp; omega) | (simp at *; omega)))))))
  have hB11 : Below w.heap.size w x11 := hB10.trans (hc11.mono hB10.size)
  have hd4_11 : Below x4.heap.size x4 x11 := hd4_10.trans (hc11.mono hd4_10.size)
  have hd7_11 : Below x7.heap.size x7 x11 := hd7_10.trans (hc11.mono hd7_10.size)
  clear hb11 hB10 hc10 hd4_10 hd7_10
  go_wp2_with fail
  refine (refMeet_is LA LB A B na nb ca cb VM _ hna hnb (by omega) (Lib.hid fun x hx => HA.out _ (hB11.trans (hx.mono hB11.size))) (Lib.hid fun x hx => HB.out _ (hB11.trans (hx.mono hB11.size))) CA CB hbd hVM).mono ?_
  rintro e x12 ⟨GR, cR, rfl, hR, hnR, hb12⟩
  have hc12 : Below x11.heap.size x11 x12 := (by (repeat (first | (with_reducible refine Below.drew ?_) | (with_reducible refine below_drewN ?_ _) | (with_reducible refine Below.alloc ?_ (by first | omega | (simp; done) | (simp; omega) | (simp at *; omega)) _) | (with_reducible refine Below.setCell ?_ (by first | omega | (simp; done) | (simp; omega) | (simp at *; omega)) _) | (with_reducible exact Below.refl _ _) | (with_reducible assumption) | (with_reducible refine Below.trans ?_ (Below.mono (by assumption) (by first | omega | (simp; done) | (simp; omega) | (simp at *; omega)))))))
  have hB12 : Below w.heap.size w x12 := hB11.trans (hc12.mono hB11.size)
  have hd4_12 : Below x4.heap.size x4 x12 := hd4_11.trans (hc12.mono hd4_11.size)
  have hd7_12 : Below x7.heap.size x7 x12 := hd7_11.trans (hc12.mono hd7_11.size)
  have DR := Lib.hid hR
  clear hR hnR
  clear hb12 hB11 hc11 hd4_11 hd7_11
  go_wp2_with fail
  refine (ranges_t VM GX GR cX cR _ _ (Lib.hid rfl) (by omega) (DX.out _ hd4_12) DR.out).mono ?_
  rintro e x13 ⟨rfl, hb13⟩
  have hc13 : Below x12.heap.size x12 x13 := (by (repeat (first | (with_reducible refine Below.drew ?_) | (with_reducible refine below_drewN ?_ _) | (with_reducible refine Below.alloc ?_ (by first | omega | (simp; done) | (simp; omega) | (simp at *; omega)) _) | (with_reducible refine Below.setCell ?_ (by first | omega | (simp; done) | (simp; omega) | (simp at *; omega)) _) | (with_reducible exact Below.refl _ _) | (with_reducible assumption) | (with_reducible refine Below.trans ?_ (Below.mono (by assumption) (by first | omega | (simp; done) | (simp; omega) | (simp at *; omega)))))))
  have hB13 : Below w.heap.size w x13 := hB12.trans (hc13.mono hB12.size)
  have hd4_13 : Below x4.heap.size x4 x13 := hd4_12.trans (hc13.mono hd4_12.size)
  have hd7_13 : Below x7.heap.size x7 x13 := hd7_12.trans (hc13.mono hd7_12.size)
  clear DR
  clear hb13 hB12 hc12 hd4_12 hd7_12
  go_wp2_with fail
  refine (refJoin_is LA LB A B na nb ca cb VJ _ hna hnb (by omega) (Lib.hid fun x hx => HA.out _ (hB13.trans (hx.mono hB13.size))) (Lib.hid fun x hx => HB.out _ (hB13.trans (hx.mono hB13.size))) CA CB hbd hVJ).mono ?_
  rintro e x14 ⟨GR, cR, rfl, hR, hnR, hb14⟩
  have hc14 : Below x13.heap.size x13 x14 := (by (repeat (first | (with_reducible refine Below.drew ?_) | (with_reducible refine below_drewN ?_ _) | (with_reducible refine Below.alloc ?_ (by first | omega | (simp; done) | (simp; omega) | (simp at *; omega)) _) | (with_reducible refine Below.setCell ?_ (by first | omega | (simp; done) | (simp; omega) | (simp at *; omega)) _) | (with_reducible exact Below.refl _ _) | (with_reducible assumption) | (with_reducible refine Below.trans ?_ (Below.mono (by assumption) (by first | omega | (simp; done) | (simp; omega) | (simp at *; omega)))))))
  have hB14 : Below w.heap.size w x14 := hB13.trans (hc14.mono hB13.size)
  have hd4_14 : Below x4.heap.size x4 x14 := hd4_13.trans (hc14.mono hd4_13.size)
  have hd7_14 : Below x7.heap.size x7 x14 := hd7_13.trans (hc14.mono hd7_13.size)
  have DR := Lib.hid hR
  clear hR hnR
  clear hb14 hB13 hc13 hd4_13 hd7_13
  go_wp2_with fail
  refine (ranges_t VJ GY GR cY cR _ _ (Lib.hid rfl) (by omega) (DY.out _ hd7_14) DR.out).mono ?_
  rintro e x15 ⟨rfl, hb15⟩
  have hc15 : Below x14.heap.size x14 x15 := (by (repeat (first | (with_reducible refine Below.drew ?_) | (with_reducible refine below_drewN ?_ _) | (with_reducible refine Below.alloc ?_ (by first | omega | (simp; done) | (simp; omega) | (simp at *; omega)) _) | (with_reducible refine Below.setCell ?_ (by first | omega | (simp; done) | (simp; omega) | (simp at *; omega)) _) | (with_reducible exact Below.refl _ _) | (with_reducible assumption) | (with_reducible refine Below.trans ?_ (Below.mono (by assumption) (by first | omega | (simp; done) | (simp; omega) | (simp at *; omega)))))))
  have hB15 : Below w.heap.size w x15 := hB14.trans (hc15.mono hB14.size)
  have hd4_15 : Below x4.heap.size x4 x15 := hd4_14.trans (hc15.mono hd4_14.size)
  have hd7_15 : Below x7.heap.size x7 x15 := hd7_14.trans (hc15.mono hd7_14.size)
  clear DR
  clear hb15 hB14 hc14 hd4_14 hd7_14
  go_wp2_with fail
  refine (copyRg_is LB B cb nb _ hnb (by omega) (HB.out _ (by (repeat (first | (with_reducible refine Below.drew ?_) | (with_reducible refine below_drewN ?_ _) | (with_reducible refine Below.alloc ?_ (by first | omega | (simp; done) | (simp; omega) | (simp at *; omega)) _) | (with_reducible refine Below.setCell ?_ (by first | omega | (simp; done) | (simp; omega) | (simp at *; omega)) _) | (with_reducible exact Below.refl _ _) | (with_reducible assumption) | (with_reducible refine Below.trans ?_ (Below.mono (by assumption) (by first | omega | (simp; done) | (simp; omega) | (simp at *; omega)))))))) CB).mono ?_
  rintro e x16 ⟨P15, cP15, rfl, hP15, hNP15, hb16⟩
  have hc16 : Below x15.heap.size x15 x16 := (by (repeat (first | (with_reducible refine Below.drew ?_) | (with_reducible refine below_drewN ?_ _) | (with_reducible refine Below.alloc ?_ (by first | omega | (simp; done) | (simp; omega) | (simp at *; omega)) _) | (with_reducible refine Below.setCell ?_ (by first | omega | (simp; done) | (simp; omega) | (simp at *; omega)) _) | (with_reducible exact Below.refl _ _) | (with_reducible assumption) | (with_reducible refine Below.trans ?_ (Below.mono (by assumption) (by first | omega | (simp; done) | (simp; omega) | (simp at *; omega)))))))
  have hB16 : Below w.heap.size w x16 := hB15.trans (hc16.mono hB15.size)
  have hd4_16 : Below x4.heap.size x4 x16 := hd4_15.trans (hc16.mono hd4_15.size)
  have hd7_16 : Below x7.heap.size x7 x16 := hd7_15.trans (hc16.mono hd7_15.size)
  have HP15 : Hid (∀ x, Below x16.heap.size x16 x → SlRows rgV 2 x P15 LB) := Lib.hid fun x hx => hP15.below hx
  have NP15 : Hid (P15 = none → nb = 0 ∧ cP15 = 0) := Lib.hid hNP15
  clear hP15 hNP15
  clear hb16 hB15 hc15 hd4_15 hd7_15
  go_wp2_with fail
  refine (copyRg_is LA A ca na _ hna (by omega) (HA.out _ (by (repeat (first | (with_reducible refine Below.drew ?_) | (with_reducible refine below_drewN ?_ _) | (with_reducible refine Below.alloc ?_ (by first | omega | (simp; done) | (simp; omega) | (simp at *; omega)) _) | (with_reducible refine Below.setCell ?_ (by first | omega | (simp; done) | (simp; omega) | (simp at *; omega)) _) | (with_reducible exact Below.refl _ _) | (with_reducible assumption) | (with_reducible refine Below.trans ?_ (Below.mono (by assumption) (by first | omega | (simp; done) | (simp; omega) | (simp at *; omega)))))))) CA).mono ?_
  rintro e x17 ⟨Q15, cQ15, rfl, hQ15, hNQ15, hb17⟩
  have hc17 : Below x16.heap.size x16 x17 := (by (repeat (first | (with_reducible refine Below.drew ?_) | (with_reducible refine below_drewN ?_ _) | (with_reducible refine Below.alloc ?_ (by first | omega | (simp; done) | (simp; omega) | (simp at *; omega)) _) | (with_reducible refine Below.setCell ?_ (by first | omega | (simp; done) | (simp; omega) | (simp at *; omega)) _) | (with_reducible exact Below.refl _ _) | (with_reducible assumption) | (with_reducible refine Below.trans ?_ (Below.mono (by assumption) (by first | omega | (simp; done) | (simp; omega) | (simp at *; omega)))))))
  have hB17 : Below w.heap.size w x17 := hB16.trans (hc17.mono hB16.size)
  have hd4_17 : Below x4.heap.size x4 x17 := hd4_16.trans (hc17.mono hd4_16.size)
  have hd7_17 : Below x7.heap.size x7 x17 := hd7_16.trans (hc17.mono hd7_16.size)
  have hd16_17 : Below x16.heap.size x16 x17 := hc17
  have HQ15 : Hid (∀ x, Below x17.heap.size x17 x → SlRows rgV 2 x Q15 LA) := Lib.hid fun x hx => hQ15.below hx
  have NQ15 : Hid (Q15 = none → na = 0 ∧ cQ15 = 0) := Lib.hid hNQ15
  clear hQ15 hNQ15
  clear hb17 hB16 hc16 hd4_16 hd7_16
  go_wp2_with fail
  refine (Meet_v LB LA P15 Q15 nb na cP15 cQ15 VM _ hnb hna (by omega) (Lib.hid fun x hx => HP15.out _ (hd16_17.trans (hx.mono hd16_17.size))) (Lib.hid fun x hx => HQ15.out _ (hx)) NP15 NQ15 hG hF hWM).mono ?_
  rintro e x18 ⟨GU, cU, rfl, hU, hnU, hb18⟩
  have hc18 : Below x17.heap.size x17 x18 := (by (repeat (first | (with_reducible refine Below.drew ?_) | (with_reducible refine below_drewN ?_ _) | (with_reducible refine Below.alloc ?_ (by first | omega | (simp; done) | (simp; omega) | (simp at *; omega)) _) | (with_reducible refine Below.setCell ?_ (by first | omega | (simp; done) | (simp; omega) | (simp at *; omega)) _) | (with_reducible exact Below.refl _ _) | (with_reducible assumption) | (with_reducible refine Below.trans ?_ (Below.mono (by assumption) (by first | omega | (simp; done) | (simp; omega) | (simp at *; omega)))))))
  have hB18 : Below w.heap.size w x18 := hB17.trans (hc18.mono hB17.size)
  have hd4_18 : Below x4.heap.size x4 x18 := hd4_17.trans (hc18.mono hd4_17.size)
  have hd7_18 : Below x7.heap.size x7 x18 := hd7_17.trans (hc18.mono hd7_17.size)
  have hd16_18 : Below x16.heap.size x16 x18 := hd16_17.trans (hc18.mono hd16_17.size)
  have hd17_18 : Below x17.heap.size x17 x18 := hc18
  have DU : Hid (∀ x, Below x18.heap.size x18 x → SlRows rgV 2 x GU VM) := Lib.hid fun x hx => hU.below hx
  clear hU hnU
  clear hb18 hB17 hc17 hd4_17 hd7_17 hd16_17
  clear HP15 HQ15 NP15 NQ15 hd16_18 hd17_18
  go_wp2_with fail
  refine (copyRg_is LB B cb nb _ hnb (by omega) (HB.out _ (by (repeat (first | (with_reducible refine Below.drew ?_) | (with_reducible refine below_drewN ?_ _) | (with_reducible refine Below.alloc ?_ (by first | omega | (simp; done) | (simp; omega) | (simp at *; omega)) _) | (with_reducible refine Below.setCell ?_ (by first | omega | (simp; done) | (simp; omega) | (simp at *; omega)) _) | (with_reducible exact Below.refl _ _) | (with_reducible assumption) | (with_reducible refine Below.trans ?_ (Below.mono (by assumption) (by first | omega | (simp; done) | (simp; omega) | (simp at *; omega)))))))) CB).mono ?_
  rintro e x19 ⟨P18, cP18, rfl, hP18, hNP18, hb19⟩
  have hc19 : Below x18.heap.size x18 x19 := (by (repeat (first | (with_reducible refine Below.drew ?_) | (with_reducible refine below_drewN ?_ _) | (with_reducible refine Below.alloc ?_ (by first | omega | (simp; done) | (simp; omega) | (simp at *; omega)) _) | (with_reducible refine Below.setCell ?_ (by first | omega | (simp; done) | (simp; omega) | (simp at *; omega)) _) | (with_reducible exact Below.refl _ _) | (with_reducible assumption) | (with_reducible refine Below.trans ?_ (Below.mono (by assumption) (by first | omega | (simp; done) | (simp; omega) | (simp at *; omega)))))))
  have hB19 : Below w.heap.size w x19 := hB18.trans (hc19.mono hB18.size)
  have hd4_19 : Below x4.heap.size x4 x19 := hd4_18.trans (hc19.mono hd4_18.size)
  have hd7_19 : Below x7.heap.size x7 x19 := hd7_18.trans (hc19.mono hd7_18.size)
  have hd18_19 : Below x18.heap.size x18 x19 := hc19
  have HP18 : Hid (∀ x, Below x19.heap.size x19 x → SlRows rgV 2 x P18 LB) := Lib.hid fun x hx => hP18.below hx
  have NP18 : Hid (P18 = none → nb = 0 ∧ cP18 = 0) := Lib.hid hNP18
  clear hP18 hNP18
  clear hb19 hB18 hc18 hd4_18 hd7_18
  go_wp2_with fail
  refine (copyRg_is LA A ca na _ hna (by omega) (HA.out _ (by (repeat (first | (with_reducible refine Below.drew ?_) | (with_reducible refine below_drewN ?_ _) | (with_reducible refine Below.alloc ?_ (by first | omega | (simp; done) | (simp; omega) | (simp at *; omega)) _) | (with_reducible refine Below.setCell ?_ (by first | omega | (simp; done) | (simp; omega) | (simp at *; omega)) _) | (with_reducible exact Below.refl _ _) | (with_reducible assumption) | (with_reducible refine Below.trans ?_ (Below.mono (by assumption) (by first | omega | (simp; done) | (simp; omega) | (simp at *; omega)))))))) CA).mono ?_
  rintro e x20 ⟨Q18, cQ18, rfl, hQ18, hNQ18, hb20⟩
  have hc20 : Below x19.heap.size x19 x20 := (by (repeat (first | (with_reducible refine Below.drew ?_) | (with_reducible refine below_drewN ?_ _) | (with_reducible refine Below.alloc ?_ (by first | omega | (simp; done) | (simp; omega) | (simp at *; omega)) _) | (with_reducible refine Below.setCell ?_ (by first | omega | (simp; done) | (simp; omega) | (simp at *; omega)) _) | (with_reducible exact Below.refl _ _) | (with_reducible assumption) | (with_reducible refine Below.trans ?_ (Below.mono (by assumption) (by first | omega | (simp; done) | (simp; omega) | (simp at *; omega)))))))
  have hB20 : Below w.heap.size w x20 := hB19.trans (hc20.mono hB19.size)
  have hd4_20 : Below x4.heap.size x4 x20 := hd4_19.trans (hc20.mono hd4_19.size)
  have hd7_20 : Below x7.heap.size x7 x20 := hd7_19.trans (hc20.mono hd7_19.size)
  have hd18_20 : Below x18.heap.size x18 x20 := hd18_19.trans (hc20.mono hd18_19.size)
  have hd19_20 : Below x19.heap.size x19 x20 := hc20
  have HQ18 : Hid (∀ x, Below x20.heap.size x20 x → SlRows rgV 2 x Q18 LA) := Lib.hid fun x hx => hQ18.below hx
  have NQ18 : Hid (Q18 = none → na = 0 ∧ cQ18 = 0) := Lib.hid hNQ18
  clear hQ18 hNQ18
  clear hb20 hB19 hc19 hd4_19 hd7_19 hd18_19
  go_wp2_with fail
  refine (Join_v LB LA P18 Q18 nb na cP18 cQ18 VJ _ hnb hna (by omega) (Lib.hid fun x hx => HP18.out _ (hd19_20.trans (hx.mono hd19_20.size))) (Lib.hid fun x hx => HQ18.out _ (hx)) NP18 NQ18 hG hF hWJ).mono ?_
  rintro e x21 ⟨GV, cV, rfl, hV, hnV, hb21⟩
  have hc21 : Below x20.heap.size x20 x21 := (by (repeat (first | (with_reducible refine Below.drew ?_) | (with_reducible refine below_drewN ?_ _) | (with_reducible refine Below.alloc ?_ (by first | omega | (simp; done) | (simp; omega) | (simp at *; omega)) _) | (with_reducible refine Below.setCell ?_ (by first | omega | (simp; done) | (simp; omega) | (simp at *; omega)) _) | (with_reducible exact Below.refl _ _) | (with_reducible assumption) | (with_reducible refine Below.trans ?_ (Below.mono (by assumption) (by first | omega | (simp; done) | (simp; omega) | (simp at *; omega)))))))
  have hB21 : Below w.heap.size w x21 := hB20.trans (hc21.mono hB20.size)
  have hd4_21 : Below x4.heap.size x4 x21 := hd4_20.trans (hc21.mono hd4_20.size)
  have hd7_21 : Below x7.heap.size x7 x21 := hd7_20.trans (hc21.mono hd7_20.size)
  have hd18_21 : Below x18.heap.size x18 x21 := hd18_20.trans (hc21.mono hd18_20.size)
  have hd19_21 : Below x19.heap.size x19 x21 := hd19_20.trans (hc21.mono hd19_20.size)
  have hd20_21 : Below x20.heap.size x20 x21 := hc21
  have DV : Hid (∀ x, Below x21.heap.size x21 x → SlRows rgV 2 x GV VJ) := Lib.hid fun x hx => hV.below hx
  clear hV hnV
  clear hb21 hB20 hc20 hd4_20 hd7_20 hd18_20 hd19_20
  clear HP18 HQ18 NP18 NQ18 hd19_21 hd20_21
  go_wp2_with fail
  refine (ranges_t VM GU GX cU cX _ _ (Lib.hid rfl) (by omega) (DU.out _ hd18_21) (DX.out _ hd4_21)).mono ?_
  rintro e x22 ⟨rfl, hb22⟩
  have hc22 : Below x21.heap.size x21 x22 := (by (repeat (first | (with_reducible refine Below.drew ?_) | (with_reducible refine below_drewN ?_ _) | (with_reducible refine Below.alloc ?_ (by first | omega | (simp; done) | (simp; omega) | (simp at *; omega)) _) | (with_reducible refine Below.setCell ?_ (by first | omega | (simp; done) | (simp; omega) | (simp at *; omega)) _) | (with_reducible exact Below.refl _ _) | (with_reducible assumption) | (with_reducible refine Below.trans ?_ (Below.mono (by assumption) (by first | omega | (simp; done) | (simp; omega) | (simp at *; omega)))))))
  have hB22 : Below w.heap.size w x22 := hB21.trans (hc22.mono hB21.size)
  have hd4_22 : Below x4.heap.size x4 x22 := hd4_21.trans (hc22.mono hd4_21.size)
  have hd7_22 : Below x7.heap.size x7 x22 := hd7_21.trans (hc22.mono hd7_21.size)
  have hd18_22 : Below x18.heap.size x18 x22 := hd18_21.trans (hc22.mono hd18_21.size)
  have hd21_22 : Below x21.heap.size x21 x22 := hc22
  clear hb22 hB21 hc21 hd4_21 hd7_21 hd18_21
  go_wp2_with fail
  refine (ranges_t VJ GV GY cV cY _ _ (Lib.hid rfl) (by omega) (DV.out _ hd21_22) (DY.out _ hd7_22)).mono ?_
  rintro e x23 ⟨rfl, hb23⟩
  have hc23 : Below x22.heap.size x22 x23 := (by (repeat (first | (with_reducible refine Below.drew ?_) | (with_reducible refine below_drewN ?_ _) | (with_reducible refine Below.alloc ?_ (by first | omega | (simp; done) | (simp; omega) | (simp at *; omega)) _) | (with_reducible refine Below.setCell ?_ (by first | omega | (simp; done) | (simp; omega) | (simp at *; omega)) _) | (with_reducible exact Below.refl _ _) | (with_reducible assumption) | (with_reducible refine Below.trans ?_ (Below.mono (by assumption) (by first | omega | (simp; done) | (simp; omega) | (simp at *; omega)))))))
  have hB23 : Below w.heap.size w x23 := hB22.trans (hc23.mono hB22.size)
  have hd4_23 : Below x4.heap.size x4 x23 := hd4_22.trans (hc23.mono hd4_22.size)
  have hd7_23 : Below x7.heap.size x7 x23 := hd7_22.trans (hc23.mono hd7_22.size)
  have hd18_23 : Below x18.heap.size x18 x23 := hd18_22.trans (hc23.mono hd18_22.size)
  have hd21_23 : Below x21.heap.size x21 x23 := hd21_22.trans (hc23.mono hd21_22.size)
  clear hb23 hB22 hc22 hd4_22 hd7_22 hd18_22 hd21_22
  go_wp2
  go_ret
  exact ⟨rfl, hB23⟩
theorem comb_turn (g : Bool → Bool → Bool) (hg : g false false = false) (hs : ∀ p q, g p q = g q p) (LA LB : List Rg) : (wof (fun m => g (inW LB m) (inW LA m)) (srt (mks (LB ++ LA)))).1 = (wof (fun m => g (inW LA m) (inW LB m)) (srt (mks (LA ++ LB)))).1 := by
  obtain ⟨g1, m1, _⟩ := comb_is g hg LA LB
  obtain ⟨g2, m2, _⟩ := comb_is g hg LB LA
  exact gap_uniq g2 g1 (fun x => by rw [m1, m2, hs])
theorem siteWindows_any (LA : List Rg) (A : Option Addr) (ca : Nat) (LB : List Rg) (B : Option Addr) (cb : Nat) (w : World) (hla : LA.length ≤ 9223372036854775807) (CA0 : A = none → ca = 0) (HA0 : SlRows rgV 2 w A LA) (hlb : LB.length ≤ 9223372036854775807) (CB0 : B = none → cb = 0) (HB0 : SlRows rgV 2 w B LB) :
    Calls Tryz.prog 5 #[.slice A LA.length ca, .slice B LB.length cb] w fun e w' => e = .returned (.bool true) ∧ Below w.heap.size w w' := by
  have CA : A = none → LA.length = 0 ∧ ca = 0 := fun h => ⟨by rcases HA0 with h1 | ⟨b, off, h1, _⟩ <;> simp_all, CA0 h⟩
  have CB : B = none → LB.length = 0 ∧ cb = 0 := fun h => ⟨by rcases HB0 with h1 | ⟨b, off, h1, _⟩ <;> simp_all, CB0 h⟩
  obtain ⟨na, hna⟩ : ∃ n, Hid (n = LA.length) := ⟨_, Lib.hid rfl⟩
  obtain ⟨nb, hnb⟩ : ∃ n, Hid (n = LB.length) := ⟨_, Lib.hid rfl⟩
  rw [← hna.out] at CA hla ⊢
  rw [← hnb.out] at CB hlb ⊢
  have HA : Hid (∀ w' : World, Below w.heap.size w w' → SlRows rgV 2 w' A LA) := Lib.hid fun w' hB => HA0.below hB
  have HB : Hid (∀ w' : World, Below w.heap.size w w' → SlRows rgV 2 w' B LB) := Lib.hid fun w' hB => HB0.below hB
  have CA' := Lib.hid CA
  have CB' := Lib.hid CB
  cases hsa : shtB na with
  | false => exact win_sa A B na nb ca cb w hla hlb (Lib.hid hsa)
  | true =>
    cases hsb : shtB nb with
    | false => exact win_sb A B na nb ca cb w hla hlb (Lib.hid hsa) (Lib.hid hsb)
    | true =>
      have a62 : na ≤ 62 := by unfold shtB at hsa; simp at hsa; omega
      have b62 : nb ≤ 62 := by unfold shtB at hsb; simp at hsb; omega
      obtain ⟨F, hF⟩ : ∃ z, Hid (winE LA = z) := ⟨_, Lib.hid rfl⟩
      rcases ez2 F with ⟨hz0, hzb⟩ | ⟨hz0, hzb⟩
      · have hF0 : Hid (winE LA = 0) := Lib.hid (by rw [hF.out, hz0.out])
        obtain ⟨G, hG⟩ : ∃ z, Hid (winE LB = z) := ⟨_, Lib.hid rfl⟩
        rcases ez2 G with ⟨gz0, gzb⟩ | ⟨gz0, gzb⟩
        · have hG0 : Hid (winE LB = 0) := Lib.hid (by rw [hG.out, gz0.out])
          have a60 := (win_all hF0.out).1
          have b60 := (win_all hG0.out).1
          rw [← hna.out] at a60
          rw [← hnb.out] at b60
          have n24 : na + nb ≤ 24 := by unfold shtB at hsa hsb; simp at hsa hsb; omega
          have hbd : ∀ x ∈ LA ++ LB, 0 ≤ x.lo ∧ x.lo ≤ x.hi ∧ x.hi ≤ 1000000 := by
            intro x hx
            rcases List.mem_append.1 hx with h | h
            · exact win_in hF0.out x h
            · exact win_in hG0.out x h
          obtain ⟨VM, hVM⟩ : ∃ V, Hid ((wof (fun m => inW LA m && inW LB m) (srt (mks (LA ++ LB)))).1 = V) := ⟨_, Lib.hid rfl⟩
          obtain ⟨VJ, hVJ⟩ : ∃ V, Hid ((wof (fun m => inW LA m || inW LB m) (srt (mks (LA ++ LB)))).1 = V) := ⟨_, Lib.hid rfl⟩
          have vm : VM.length ≤ 100 := by
            have := (comb_is (fun p q => p && q) rfl LA LB).2.2
            rw [hVM.out, ← hna.out, ← hnb.out] at this; omega
          have vj : VJ.length ≤ 100 := by
            have := (comb_is (fun p q => p || q) rfl LA LB).2.2
            rw [hVJ.out, ← hna.out, ← hnb.out] at this; omega
          have hWM : Hid ((wof (fun m => inW LB m && inW LA m) (srt (mks (LB ++ LA)))).1 = VM) := Lib.hid ((comb_turn (fun p q => p && q) rfl (fun p q => Bool.and_comm p q) LA LB).trans hVM.out)
          have hWJ : Hid ((wof (fun m => inW LB m || inW LA m) (srt (mks (LB ++ LA)))).1 = VJ) := Lib.hid ((comb_turn (fun p q => p || q) rfl (fun p q => Bool.or_comm p q) LA LB).trans hVJ.out)
          exact win_g LA LB A B na nb ca cb w hna hnb a62 b62 HA HB CA' CB' (Lib.hid hsa) (Lib.hid hsb) n24 hF0 hG0 (Lib.hid hbd) VM VJ vm vj hVM hVJ hWM hWJ
        · exact win_b LA LB A B na nb ca cb w hna hnb a62 b62 HA HB CA' CB' (Lib.hid hsa) (Lib.hid hsb) G hF0 hG gzb
      · exact win_a LA LB A B na nb ca cb w hna hnb a62 b62 HA HB CA' CB' (Lib.hid hsa) (Lib.hid hsb) F hF hzb
end Go.Proofs.YtojaompfffpofaaGreat
