/- shotlinelaw06.MixMatches returns true for every input. -/
import Derived.Test.YtjkhjjmmkdfjmaaFRefM
import Derived.Test.YtjkhjjmmkdfjmaaFAwake
import Derived.Outline
namespace Go.Proofs.Ytjkhjjmmkdfjmaa
open Go.ChangeShapes Go.WideShapes Go.ChangeAt Go.RowKit
set_option linter.unusedVariables false
set_option linter.unusedSimpArgs false
attribute [local go_sem ↓] Go.wp_at_zero Go.wp_at_succ
set_option maxHeartbeats 1000000 in
theorem mixMatches_1 (a b c o h t E : Int) (B : Bool) (w : World) (hE : Hid (mtE a b c o h t = E)) (hB : Hid (mtB a b c o h t = B)) (hz : (E != 0) = true) : Calls Try.prog 9 #[.agg #[.int .i64 a, .int .i64 b, .int .i64 c], .agg #[.int .i64 o, .int .i64 h], .int .i64 t] w fun e w' => e = .returned (.bool true) ∧ Below w.heap.size w w' := by
  have hz2 : (E == 0) = false := by simpa using hz
  go_enter Try.func9, Try.ntmps9
  go_wp2_with fail
  refine (fawake_any _).mono ?_
  rintro e xw1 ⟨rfl, hbx1⟩
  have zx1 := hbx1.size
  try simp at zx1
  obtain ⟨x1_0_0, x1_0_1, x1_0_2, x1_1_0, x1_1_1⟩ : xw1.cell? ⟨w.heap.size, 0, none⟩ = some (.int .i64 a) ∧ xw1.cell? ⟨w.heap.size, 1, none⟩ = some (.int .i64 b) ∧ xw1.cell? ⟨w.heap.size, 2, none⟩ = some (.int .i64 c) ∧ xw1.cell? ⟨w.heap.size + 1, 0, none⟩ = some (.int .i64 o) ∧ xw1.cell? ⟨w.heap.size + 1, 1, none⟩ = some (.int .i64 h) := by refine ⟨?_, ?_, ?_, ?_, ?_⟩ <;> (rw [(bcell hbx1).1 _ _ (by first | (simp; done) | (simp; omega) | omega)]; simp [go_sem, World.cell?_alloc_past, *])
  obtain ⟨x1o0, x1n0, x1t0_0, x1o1, x1n1, x1t1_0⟩ : w.heap.size < xw1.heap.size ∧ xw1.heap.size ≠ w.heap.size ∧ w.heap.size < xw1.heap.size + 1 ∧ w.heap.size + 1 < xw1.heap.size ∧ xw1.heap.size ≠ w.heap.size + 1 ∧ w.heap.size + 1 < xw1.heap.size + 1 := by refine ⟨?_, ?_, ?_, ?_, ?_, ?_⟩ <;> omega
  have hBx1 : Below w.heap.size w xw1 := (by (repeat (first | (with_reducible refine Below.drew ?_) | (with_reducible refine below_drewN ?_ _) | (with_reducible refine Below.alloc ?_ (by first | omega | (simp; done) | (simp; omega) | (simp at *; omega)) _) | (with_reducible refine Below.setCell ?_ (by first | omega | (simp; done) | (simp; omega) | (simp at *; omega)) _) | (with_reducible exact Below.refl _ _) | (with_reducible assumption) | (with_reducible refine Below.trans ?_ (Below.mono (by assumption) (by first | omega | (simp; done) | (simp; omega) | (simp at *; omega)))))))
  clear hbx1 
  go_wp2_with fail
  refine (Matches_any a b c o h t E B _ hE hB).mono ?_
  rintro e xw2 ⟨rfl, hbx2⟩
  have zx2 := hbx2.size
  try simp at zx2
  obtain ⟨x2_0_0, x2_0_1, x2_0_2, x2_1_0, x2_1_1⟩ : xw2.cell? ⟨w.heap.size, 0, none⟩ = some (.int .i64 a) ∧ xw2.cell? ⟨w.heap.size, 1, none⟩ = some (.int .i64 b) ∧ xw2.cell? ⟨w.heap.size, 2, none⟩ = some (.int .i64 c) ∧ xw2.cell? ⟨w.heap.size + 1, 0, none⟩ = some (.int .i64 o) ∧ xw2.cell? ⟨w.heap.size + 1, 1, none⟩ = some (.int .i64 h) := by refine ⟨?_, ?_, ?_, ?_, ?_⟩ <;> (rw [(bcell hbx2).1 _ _ (by first | (simp; done) | (simp; omega) | omega)]; simp [go_sem, World.cell?_alloc_past, *])
  obtain ⟨x2o0, x2n0, x2t0_0, x2o1, x2n1, x2t1_0⟩ : w.heap.size < xw2.heap.size ∧ xw2.heap.size ≠ w.heap.size ∧ w.heap.size < xw2.heap.size + 1 ∧ w.heap.size + 1 < xw2.heap.size ∧ xw2.heap.size ≠ w.heap.size + 1 ∧ w.heap.size + 1 < xw2.heap.size + 1 := by refine ⟨?_, ?_, ?_, ?_, ?_, ?_⟩ <;> omega
  have hBx2 : Below w.heap.size w xw2 := (by (repeat (first | (with_reducible refine Below.drew ?_) | (with_reducible refine below_drewN ?_ _) | (with_reducible refine Below.alloc ?_ (by first | omega | (simp; done) | (simp; omega) | (simp at *; omega)) _) | (with_reducible refine Below.setCell ?_ (by first | omega | (simp; done) | (simp; omega) | (simp at *; omega)) _) | (with_reducible exact Below.refl _ _) | (with_reducible assumption) | (with_reducible refine Below.trans ?_ (Below.mono (by assumption) (by first | omega | (simp; done) | (simp; omega) | (simp at *; omega)))))))
  clear hbx2 x1_0_0 x1_0_1 x1_0_2 x1_1_0 x1_1_1 x1o0 x1n0 x1t0_0 x1o1 x1n1 x1t1_0 hBx1
  go_wp2_with fail
  refine (refMatches_any a b c o h t E B _ hE hB).mono ?_
  rintro e xw3 ⟨rfl, hbx3⟩
  have zx3 := hbx3.size
  try simp at zx3
  obtain ⟨x3_0_0, x3_0_1, x3_0_2, x3_1_0, x3_1_1⟩ : xw3.cell? ⟨w.heap.size, 0, none⟩ = some (.int .i64 a) ∧ xw3.cell? ⟨w.heap.size, 1, none⟩ = some (.int .i64 b) ∧ xw3.cell? ⟨w.heap.size, 2, none⟩ = some (.int .i64 c) ∧ xw3.cell? ⟨w.heap.size + 1, 0, none⟩ = some (.int .i64 o) ∧ xw3.cell? ⟨w.heap.size + 1, 1, none⟩ = some (.int .i64 h) := by refine ⟨?_, ?_, ?_, ?_, ?_⟩ <;> (rw [(bcell hbx3).1 _ _ (by first | (simp; done) | (simp; omega) | omega)]; simp [go_sem, World.cell?_alloc_past, *])
  obtain ⟨x3o0, x3n0, x3t0_0, x3o1, x3n1, x3t1_0⟩ : w.heap.size < xw3.heap.size ∧ xw3.heap.size ≠ w.heap.size ∧ w.heap.size < xw3.heap.size + 1 ∧ w.heap.size + 1 < xw3.heap.size ∧ xw3.heap.size ≠ w.heap.size + 1 ∧ w.heap.size + 1 < xw3.heap.size + 1 := by refine ⟨?_, ?_, ?_, ?_, ?_, ?_⟩ <;> omega
  have hBx3 : Below w.heap.size w xw3 := (by (repeat (first | (with_reducible refine Below.drew ?_) | (with_reducible refine below_drewN ?_ _) | (with_reducible refine Below.alloc ?_ (by first | omega | (simp; done) | (simp; omega) | (simp at *; omega)) _) | (with_reducible refine Below.setCell ?_ (by first | omega | (simp; done) | (simp; omega) | (simp at *; omega)) _) | (with_reducible exact Below.refl _ _) | (with_reducible assumption) | (with_reducible refine Below.trans ?_ (Below.mono (by assumption) (by first | omega | (simp; done) | (simp; omega) | (simp at *; omega)))))))
  clear hbx3 x2_0_0 x2_0_1 x2_0_2 x2_1_0 x2_1_1 x2o0 x2n0 x2t0_0 x2o1 x2n1 x2t1_0 hBx2
  rcases B with _ | _
  all_goals
    go_wp2
    go_ret
    exact ⟨rfl, (by (repeat (first | (with_reducible refine Below.drew ?_) | (with_reducible refine below_drewN ?_ _) | (with_reducible refine Below.alloc ?_ (by first | omega | (simp; done) | (simp; omega) | (simp at *; omega)) _) | (with_reducible refine Below.setCell ?_ (by first | omega | (simp; done) | (simp; omega) | (simp at *; omega)) _) | (with_reducible exact Below.refl _ _) | (with_reducible assumption) | (with_reducible refine Below.trans ?_ (Below.mono (by assumption) (by first | omega | (simp; done) | (simp; omega) | (simp at *; omega)))))))⟩
set_option maxHeartbeats 1000000 in
set_option maxRecDepth 100000 in
theorem mixMatches_2 (a b c o h t E : Int) (B : Bool) (w : World) (hE : Hid (mtE a b c o h t = E)) (hB : Hid (mtB a b c o h t = B)) (hz : E = 0) (ht : t = 1000) : Calls Try.prog 9 #[.agg #[.int .i64 a, .int .i64 b, .int .i64 c], .agg #[.int .i64 o, .int .i64 h], .int .i64 t] w fun e w' => e = .returned (.bool true) ∧ Below w.heap.size w w' := by
  subst hz ht
  go_enter Try.func9, Try.ntmps9
  go_wp2_with fail
  refine (fawake_any _).mono ?_
  rintro e xw1 ⟨rfl, hbx1⟩
  have zx1 := hbx1.size
  try simp at zx1
  obtain ⟨x1_0_0, x1_0_1, x1_0_2, x1_1_0, x1_1_1⟩ : xw1.cell? ⟨w.heap.size, 0, none⟩ = some (.int .i64 a) ∧ xw1.cell? ⟨w.heap.size, 1, none⟩ = some (.int .i64 b) ∧ xw1.cell? ⟨w.heap.size, 2, none⟩ = some (.int .i64 c) ∧ xw1.cell? ⟨w.heap.size + 1, 0, none⟩ = some (.int .i64 o) ∧ xw1.cell? ⟨w.heap.size + 1, 1, none⟩ = some (.int .i64 h) := by refine ⟨?_, ?_, ?_, ?_, ?_⟩ <;> (rw [(bcell hbx1).1 _ _ (by first | (simp; done) | (simp; omega) | omega)]; simp [go_sem, World.cell?_alloc_past, *])
  obtain ⟨x1o0, x1n0, x1t0_0, x1o1, x1n1, x1t1_0⟩ : w.heap.size < xw1.heap.size ∧ xw1.heap.size ≠ w.heap.size ∧ w.heap.size < xw1.heap.size + 1 ∧ w.heap.size + 1 < xw1.heap.size ∧ xw1.heap.size ≠ w.heap.size + 1 ∧ w.heap.size + 1 < xw1.heap.size + 1 := by refine ⟨?_, ?_, ?_, ?_, ?_, ?_⟩ <;> omega
  have hBx1 : Below w.heap.size w xw1 := (by (repeat (first | (with_reducible refine Below.drew ?_) | (with_reducible refine below_drewN ?_ _) | (with_reducible refine Below.alloc ?_ (by first | omega | (simp; done) | (simp; omega) | (simp at *; omega)) _) | (with_reducible refine Below.setCell ?_ (by first | omega | (simp; done) | (simp; omega) | (simp at *; omega)) _) | (with_reducible exact Below.refl _ _) | (with_reducible assumption) | (with_reducible refine Below.trans ?_ (Below.mono (by assumption) (by first | omega | (simp; done) | (simp; omega) | (simp at *; omega)))))))
  clear hbx1 
  go_wp2_with fail
  refine (Matches_any a b c o h 1000 0 B _ hE hB).mono ?_
  rintro e xw2 ⟨rfl, hbx2⟩
  have zx2 := hbx2.size
  try simp at zx2
  obtain ⟨x2_0_0, x2_0_1, x2_0_2, x2_1_0, x2_1_1⟩ : xw2.cell? ⟨w.heap.size, 0, none⟩ = some (.int .i64 a) ∧ xw2.cell? ⟨w.heap.size, 1, none⟩ = some (.int .i64 b) ∧ xw2.cell? ⟨w.heap.size, 2, none⟩ = some (.int .i64 c) ∧ xw2.cell? ⟨w.heap.size + 1, 0, none⟩ = some (.int .i64 o) ∧ xw2.cell? ⟨w.heap.size + 1, 1, none⟩ = some (.int .i64 h) := by refine ⟨?_, ?_, ?_, ?_, ?_⟩ <;> (rw [(bcell hbx2).1 _ _ (by first | (simp; done) | (simp; omega) | omega)]; simp [go_sem, World.cell?_alloc_past, *])
  obtain ⟨x2o0, x2n0, x2t0_0, x2o1, x2n1, x2t1_0⟩ : w.heap.size < xw2.heap.size ∧ xw2.heap.size ≠ w.heap.size ∧ w.heap.size < xw2.heap.size + 1 ∧ w.heap.size + 1 < xw2.heap.size ∧ xw2.heap.size ≠ w.heap.size + 1 ∧ w.heap.size + 1 < xw2.heap.size + 1 := by refine ⟨?_, ?_, ?_, ?_, ?_, ?_⟩ <;> omega
  have hBx2 : Below w.heap.size w xw2 := (by (repeat (first | (with_reducible refine Below.drew ?_) | (with_reducible refine below_drewN ?_ _) | (with_reducible refine Below.alloc ?_ (by first | omega | (simp; done) | (simp; omega) | (simp at *; omega)) _) | (with_reducible refine Below.setCell ?_ (by first | omega | (simp; done) | (simp; omega) | (simp at *; omega)) _) | (with_reducible exact Below.refl _ _) | (with_reducible assumption) | (with_reducible refine Below.trans ?_ (Below.mono (by assumption) (by first | omega | (simp; done) | (simp; omega) | (simp at *; omega)))))))
  clear hbx2 x1_0_0 x1_0_1 x1_0_2 x1_1_0 x1_1_1 x1o0 x1n0 x1t0_0 x1o1 x1n1 x1t1_0 hBx1
  go_wp2_with fail
  refine (refMatches_any a b c o h 1000 0 B _ hE hB).mono ?_
  rintro e xw3 ⟨rfl, hbx3⟩
  have zx3 := hbx3.size
  try simp at zx3
  obtain ⟨x3_0_0, x3_0_1, x3_0_2, x3_1_0, x3_1_1⟩ : xw3.cell? ⟨w.heap.size, 0, none⟩ = some (.int .i64 a) ∧ xw3.cell? ⟨w.heap.size, 1, none⟩ = some (.int .i64 b) ∧ xw3.cell? ⟨w.heap.size, 2, none⟩ = some (.int .i64 c) ∧ xw3.cell? ⟨w.heap.size + 1, 0, none⟩ = some (.int .i64 o) ∧ xw3.cell? ⟨w.heap.size + 1, 1, none⟩ = some (.int .i64 h) := by refine ⟨?_, ?_, ?_, ?_, ?_⟩ <;> (rw [(bcell hbx3).1 _ _ (by first | (simp; done) | (simp; omega) | omega)]; simp [go_sem, World.cell?_alloc_past, *])
  obtain ⟨x3o0, x3n0, x3t0_0, x3o1, x3n1, x3t1_0⟩ : w.heap.size < xw3.heap.size ∧ xw3.heap.size ≠ w.heap.size ∧ w.heap.size < xw3.heap.size + 1 ∧ w.heap.size + 1 < xw3.heap.size ∧ xw3.heap.size ≠ w.heap.size + 1 ∧ w.heap.size + 1 < xw3.heap.size + 1 := by refine ⟨?_, ?_, ?_, ?_, ?_, ?_⟩ <;> omega
  have hBx3 : Below w.heap.size w xw3 := (by (repeat (first | (with_reducible refine Below.drew ?_) | (with_reducible refine below_drewN ?_ _) | (with_reducible refine Below.alloc ?_ (by first | omega | (simp; done) | (simp; omega) | (simp at *; omega)) _) | (with_reducible refine Below.setCell ?_ (by first | omega | (simp; done) | (simp; omega) | (simp at *; omega)) _) | (with_reducible exact Below.refl _ _) | (with_reducible assumption) | (with_reducible refine Below.trans ?_ (Below.mono (by assumption) (by first | omega | (simp; done) | (simp; omega) | (simp at *; omega)))))))
  clear hbx3 x2_0_0 x2_0_1 x2_0_2 x2_1_0 x2_1_1 x2o0 x2n0 x2t0_0 x2o1 x2n1 x2t1_0 hBx2
  rcases B with _ | _
  all_goals
    go_wp2
    go_ret
    exact ⟨rfl, (by (repeat (first | (with_reducible refine Below.drew ?_) | (with_reducible refine below_drewN ?_ _) | (with_reducible refine Below.alloc ?_ (by first | omega | (simp; done) | (simp; omega) | (simp at *; omega)) _) | (with_reducible refine Below.setCell ?_ (by first | omega | (simp; done) | (simp; omega) | (simp at *; omega)) _) | (with_reducible exact Below.refl _ _) | (with_reducible assumption) | (with_reducible refine Below.trans ?_ (Below.mono (by assumption) (by first | omega | (simp; done) | (simp; omega) | (simp at *; omega)))))))⟩
set_option maxHeartbeats 1000000 in
theorem mixMatches_3 (a b c o h t E : Int) (B C : Bool) (w : World) (hE : Hid (mtE a b c o h t = E)) (hB : Hid (mtB a b c o h t = B)) (hz : E = 0) (ht : (t == 1000) = false) (t0 : 0 ≤ t) (t1 : t ≤ 1000) (hE2 : Hid (mtE a b c o h (t + 1) = 0)) (hC : Hid (mtB a b c o h (t + 1) = C)) (hBC : B = true → C = true) : Calls Try.prog 9 #[.agg #[.int .i64 a, .int .i64 b, .int .i64 c], .agg #[.int .i64 o, .int .i64 h], .int .i64 t] w fun e w' => e = .returned (.bool true) ∧ Below w.heap.size w w' := by
  subst hz
  go_enter Try.func9, Try.ntmps9
  go_wp2_with fail
  refine (fawake_any _).mono ?_
  rintro e xw1 ⟨rfl, hbx1⟩
  have zx1 := hbx1.size
  try simp at zx1
  obtain ⟨x1_0_0, x1_0_1, x1_0_2, x1_1_0, x1_1_1⟩ : xw1.cell? ⟨w.heap.size, 0, none⟩ = some (.int .i64 a) ∧ xw1.cell? ⟨w.heap.size, 1, none⟩ = some (.int .i64 b) ∧ xw1.cell? ⟨w.heap.size, 2, none⟩ = some (.int .i64 c) ∧ xw1.cell? ⟨w.heap.size + 1, 0, none⟩ = some (.int .i64 o) ∧ xw1.cell? ⟨w.heap.size + 1, 1, none⟩ = some (.int .i64 h) := by refine ⟨?_, ?_, ?_, ?_, ?_⟩ <;> (rw [(bcell hbx1).1 _ _ (by first | (simp; done) | (simp; omega) | omega)]; simp [go_sem, World.cell?_alloc_past, *])
  obtain ⟨x1o0, x1n0, x1t0_0, x1o1, x1n1, x1t1_0⟩ : w.heap.size < xw1.heap.size ∧ xw1.heap.size ≠ w.heap.size ∧ w.heap.size < xw1.heap.size + 1 ∧ w.heap.size + 1 < xw1.heap.size ∧ xw1.heap.size ≠ w.heap.size + 1 ∧ w.heap.size + 1 < xw1.heap.size + 1 := by refine ⟨?_, ?_, ?_, ?_, ?_, ?_⟩ <;> omega
  have hBx1 : Below w.heap.size w xw1 := (by (repeat (first | (with_reducible refine Below.drew ?_) | (with_reducible refine below_drewN ?_ _) | (with_reducible refine Below.alloc ?_ (by first | omega | (simp; done) | (simp; omega) | (simp at *; omega)) _) | (with_reducible refine Below.setCell ?_ (by first | omega | (simp; done) | (simp; omega) | (simp at *; omega)) _) | (with_reducible exact Below.refl _ _) | (with_reducible assumption) | (with_reducible refine Below.trans ?_ (Below.mono (by assumption) (by first | omega | (simp; done) | (simp; omega) | (simp at *; omega)))))))
  clear hbx1 
  go_wp2_with fail
  refine (Matches_any a b c o h t 0 B _ hE hB).mono ?_
  rintro e xw2 ⟨rfl, hbx2⟩
  have zx2 := hbx2.size
  try simp at zx2
  obtain ⟨x2_0_0, x2_0_1, x2_0_2, x2_1_0, x2_1_1⟩ : xw2.cell? ⟨w.heap.size, 0, none⟩ = some (.int .i64 a) ∧ xw2.cell? ⟨w.heap.size, 1, none⟩ = some (.int .i64 b) ∧ xw2.cell? ⟨w.heap.size, 2, none⟩ = some (.int .i64 c) ∧ xw2.cell? ⟨w.heap.size + 1, 0, none⟩ = some (.int .i64 o) ∧ xw2.cell? ⟨w.heap.size + 1, 1, none⟩ = some (.int .i64 h) := by refine ⟨?_, ?_, ?_, ?_, ?_⟩ <;> (rw [(bcell hbx2).1 _ _ (by first | (simp; done) | (simp; omega) | omega)]; simp [go_sem, World.cell?_alloc_past, *])
  obtain ⟨x2o0, x2n0, x2t0_0, x2o1, x2n1, x2t1_0⟩ : w.heap.size < xw2.heap.size ∧ xw2.heap.size ≠ w.heap.size ∧ w.heap.size < xw2.heap.size + 1 ∧ w.heap.size + 1 < xw2.heap.size ∧ xw2.heap.size ≠ w.heap.size + 1 ∧ w.heap.size + 1 < xw2.heap.size + 1 := by refine ⟨?_, ?_, ?_, ?_, ?_, ?_⟩ <;> omega
  have hBx2 : Below w.heap.size w xw2 := (by (repeat (first | (with_reducible refine Below.drew ?_) | (with_reducible refine below_drewN ?_ _) | (with_reducible refine Below.alloc ?_ (by first | omega | (simp; done) | (simp; omega) | (simp at *; omega)) _) | (with_reducible refine Below.setCell ?_ (by first | omega | (simp; done) | (simp; omega) | (simp at *; omega)) _) | (with_reducible exact Below.refl _ _) | (with_reducible assumption) | (with_reducible refine Below.trans ?_ (Below.mono (by assumption) (by first | omega | (simp; done) | (simp; omega) | (simp at *; omega)))))))
  clear hbx2 x1_0_0 x1_0_1 x1_0_2 x1_1_0 x1_1_1 x1o0 x1n0 x1t0_0 x1o1 x1n1 x1t1_0 hBx1
  go_wp2_with fail
  refine (refMatches_any a b c o h t 0 B _ hE hB).mono ?_
  rintro e xw3 ⟨rfl, hbx3⟩
  have zx3 := hbx3.size
  try simp at zx3
  obtain ⟨x3_0_0, x3_0_1, x3_0_2, x3_1_0, x3_1_1⟩ : xw3.cell? ⟨w.heap.size, 0, none⟩ = some (.int .i64 a) ∧ xw3.cell? ⟨w.heap.size, 1, none⟩ = some (.int .i64 b) ∧ xw3.cell? ⟨w.heap.size, 2, none⟩ = some (.int .i64 c) ∧ xw3.cell? ⟨w.heap.size + 1, 0, none⟩ = some (.int .i64 o) ∧ xw3.cell? ⟨w.heap.size + 1, 1, none⟩ = some (.int .i64 h) := by refine ⟨?_, ?_, ?_, ?_, ?_⟩ <;> (rw [(bcell hbx3).1 _ _ (by first | (simp; done) | (simp; omega) | omega)]; simp [go_sem, World.cell?_alloc_past, *])
  obtain ⟨x3o0, x3n0, x3t0_0, x3o1, x3n1, x3t1_0⟩ : w.heap.size < xw3.heap.size ∧ xw3.heap.size ≠ w.heap.size ∧ w.heap.size < xw3.heap.size + 1 ∧ w.heap.size + 1 < xw3.heap.size ∧ xw3.heap.size ≠ w.heap.size + 1 ∧ w.heap.size + 1 < xw3.heap.size + 1 := by refine ⟨?_, ?_, ?_, ?_, ?_, ?_⟩ <;> omega
  have hBx3 : Below w.heap.size w xw3 := (by (repeat (first | (with_reducible refine Below.drew ?_) | (with_reducible refine below_drewN ?_ _) | (with_reducible refine Below.alloc ?_ (by first | omega | (simp; done) | (simp; omega) | (simp at *; omega)) _) | (with_reducible refine Below.setCell ?_ (by first | omega | (simp; done) | (simp; omega) | (simp at *; omega)) _) | (with_reducible exact Below.refl _ _) | (with_reducible assumption) | (with_reducible refine Below.trans ?_ (Below.mono (by assumption) (by first | omega | (simp; done) | (simp; omega) | (simp at *; omega)))))))
  clear hbx3 x2_0_0 x2_0_1 x2_0_2 x2_1_0 x2_1_1 x2o0 x2n0 x2t0_0 x2o1 x2n1 x2t1_0 hBx2
  rcases B with _ | _
  · clear hBC
    go_wp2_with fail
    refine (Matches_any a b c o h (t + 1) 0 C _ hE2 hC).mono ?_
    rintro e xw4 ⟨rfl, hbx4⟩
    have zx4 := hbx4.size
    try simp at zx4
    obtain ⟨x4_0_0, x4_0_1, x4_0_2, x4_1_0, x4_1_1⟩ : xw4.cell? ⟨w.heap.size, 0, none⟩ = some (.int .i64 a) ∧ xw4.cell? ⟨w.heap.size, 1, none⟩ = some (.int .i64 b) ∧ xw4.cell? ⟨w.heap.size, 2, none⟩ = some (.int .i64 c) ∧ xw4.cell? ⟨w.heap.size + 1, 0, none⟩ = some (.int .i64 o) ∧ xw4.cell? ⟨w.heap.size + 1, 1, none⟩ = some (.int .i64 h) := by refine ⟨?_, ?_, ?_, ?_, ?_⟩ <;> (rw [(bcell hbx4).1 _ _ (by first | (simp; done) | (simp; omega) | omega)]; simp [go_sem, World.cell?_alloc_past, *])
    obtain ⟨x4o0, x4n0, x4t0_0, x4o1, x4n1, x4t1_0⟩ : w.heap.size < xw4.heap.size ∧ xw4.heap.size ≠ w.heap.size ∧ w.heap.size < xw4.heap.size + 1 ∧ w.heap.size + 1 < xw4.heap.size ∧ xw4.heap.size ≠ w.heap.size + 1 ∧ w.heap.size + 1 < xw4.heap.size + 1 := by refine ⟨?_, ?_, ?_, ?_, ?_, ?_⟩ <;> omega
    have hBx4 : Below w.heap.size w xw4 := (by (repeat (first | (with_reducible refine Below.drew ?_) | (with_reducible refine below_drewN ?_ _) | (with_reducible refine Below.alloc ?_ (by first | omega | (simp; done) | (simp; omega) | (simp at *; omega)) _) | (with_reducible refine Below.setCell ?_ (by first | omega | (simp; done) | (simp; omega) | (simp at *; omega)) _) | (with_reducible exact Below.refl _ _) | (with_reducible assumption) | (with_reducible refine Below.trans ?_ (Below.mono (by assumption) (by first | omega | (simp; done) | (simp; omega) | (simp at *; omega)))))))
    clear hbx4 x3_0_0 x3_0_1 x3_0_2 x3_1_0 x3_1_1 x3o0 x3n0 x3t0_0 x3o1 x3n1 x3t1_0 hBx3
    rcases C with _ | _
    all_goals
      go_wp2
      go_ret
      exact ⟨rfl, (by (repeat (first | (with_reducible refine Below.drew ?_) | (with_reducible refine below_drewN ?_ _) | (with_reducible refine Below.alloc ?_ (by first | omega | (simp; done) | (simp; omega) | (simp at *; omega)) _) | (with_reducible refine Below.setCell ?_ (by first | omega | (simp; done) | (simp; omega) | (simp at *; omega)) _) | (with_reducible exact Below.refl _ _) | (with_reducible assumption) | (with_reducible refine Below.trans ?_ (Below.mono (by assumption) (by first | omega | (simp; done) | (simp; omega) | (simp at *; omega)))))))⟩
  · obtain rfl : C = true := hBC rfl
    clear hBC
    go_wp2_with fail
    refine (Matches_any a b c o h (t + 1) 0 true _ hE2 hC).mono ?_
    rintro e xw4 ⟨rfl, hbx4⟩
    have zx4 := hbx4.size
    try simp at zx4
    obtain ⟨x4_0_0, x4_0_1, x4_0_2, x4_1_0, x4_1_1⟩ : xw4.cell? ⟨w.heap.size, 0, none⟩ = some (.int .i64 a) ∧ xw4.cell? ⟨w.heap.size, 1, none⟩ = some (.int .i64 b) ∧ xw4.cell? ⟨w.heap.size, 2, none⟩ = some (.int .i64 c) ∧ xw4.cell? ⟨w.heap.size + 1, 0, none⟩ = some (.int .i64 o) ∧ xw4.cell? ⟨w.heap.size + 1, 1, none⟩ = some (.int .i64 h) := by refine ⟨?_, ?_, ?_, ?_, ?_⟩ <;> (rw [(bcell hbx4).1 _ _ (by first | (simp; done) | (simp; omega) | omega)]; simp [go_sem, World.cell?_alloc_past, *])
    obtain ⟨x4o0, x4n0, x4t0_0, x4o1, x4n1, x4t1_0⟩ : w.heap.size < xw4.heap.size ∧ xw4.heap.size ≠ w.heap.size ∧ w.heap.size < xw4.heap.size + 1 ∧ w.heap.size + 1 < xw4.heap.size ∧ xw4.heap.size ≠ w.heap.size + 1 ∧ w.heap.size + 1 < xw4.heap.size + 1 := by refine ⟨?_, ?_, ?_, ?_, ?_, ?_⟩ <;> omega
    have hBx4 : Below w.heap.size w xw4 := (by (repeat (first | (with_reducible refine Below.drew ?_) | (with_reducible refine below_drewN ?_ _) | (with_reducible refine Below.alloc ?_ (by first | omega | (simp; done) | (simp; omega) | (simp at *; omega)) _) | (with_reducible refine Below.setCell ?_ (by first | omega | (simp; done) | (simp; omega) | (simp at *; omega)) _) | (with_reducible exact Below.refl _ _) | (with_reducible assumption) | (with_reducible refine Below.trans ?_ (Below.mono (by assumption) (by first | omega | (simp; done) | (simp; omega) | (simp at *; omega)))))))
    clear hbx4 x3_0_0 x3_0_1 x3_0_2 x3_1_0 x3_1_1 x3o0 x3n0 x3t0_0 x3o1 x3n1 x3t1_0 hBx3
    all_goals
      go_wp2
      go_ret
      exact ⟨rfl, (by (repeat (first | (with_reducible refine Below.drew ?_) | (with_reducible refine below_drewN ?_ _) | (with_reducible refine Below.alloc ?_ (by first | omega | (simp; done) | (simp; omega) | (simp at *; omega)) _) | (with_reducible refine Below.setCell ?_ (by first | omega | (simp; done) | (simp; omega) | (simp at *; omega)) _) | (with_reducible exact Below.refl _ _) | (with_reducible assumption) | (with_reducible refine Below.trans ?_ (Below.mono (by assumption) (by first | omega | (simp; done) | (simp; omega) | (simp at *; omega)))))))⟩
theorem mixMatches_any (a b c o h t : Int) (w : World) : Calls Try.prog 9 #[.agg #[.int .i64 a, .int .i64 b, .int .i64 c], .agg #[.int .i64 o, .int .i64 h], .int .i64 t] w fun e w' => e = .returned (.bool true) ∧ Below w.heap.size w w' := by
  obtain ⟨E, hE⟩ : ∃ z, Hid (mtE a b c o h t = z) := ⟨_, Lib.hid rfl⟩
  obtain ⟨B, hB⟩ : ∃ z, Hid (mtB a b c o h t = z) := ⟨_, Lib.hid rfl⟩
  by_cases hz : E = 0
  · by_cases ht : t = 1000
    · exact mixMatches_2 a b c o h t E B w hE hB hz ht
    · have h0 := hE.out
      rw [hz] at h0
      have h0' := h0
      unfold mtE at h0
      have hc : conB a b c = true := by
        by_cases hc : conB a b c = true
        · exact hc
        · rw [if_neg hc] at h0; exact absurd h0 (by omega)
      rw [if_pos hc] at h0
      have hg : gasE o h = 0 := by
        by_cases hg : gasE o h = 0
        · exact hg
        · rw [if_neg hg] at h0; exact absurd h0 hg
      rw [if_pos hg] at h0
      have hs : ¬ a + b + c = 0 := fun hs => by rw [if_pos hs] at h0; omega
      rw [if_neg hs] at h0
      have hi : 0 ≤ t ∧ t ≤ 1000 := by
        rcases inB_cases t 0 1000 with h1 | h1
        · exact inB_iff.1 h1
        · rw [rngE_f h1] at h0; omega
      have hE2 : mtE a b c o h (t + 1) = 0 := by
        unfold mtE
        rw [if_pos hc, if_pos hg, if_neg hs]
        exact rngE_t (inB_true (by omega) (by omega))
      exact mixMatches_3 a b c o h t E B _ w hE hB hz (by simpa using ht) hi.1 hi.2 (Lib.hid hE2) (Lib.hid rfl) (fun hb => mtB_more hc hi.1 hE2 (by rw [hB.out]; exact hb))
  · exact mixMatches_1 a b c o h t E B w hE hB (by simpa using hz)
end Go.Proofs.Ytjkhjjmmkdfjmaa
