/- TIDES ADD UP, part 1: where the statement asks nothing; what is known along its road. -/
import Derived.Test.YtallnjehhoengaaSApp
import Derived.Deep.CutRange
import Derived.Deep.CutBlock
import Derived.Outline
namespace Go.Proofs.Ytallnjehhoengaa
open Go.ChangeShapes Go.WideShapes Go.ChangeAt Go.RowKit
set_option linter.unusedVariables false
set_option linter.unusedSimpArgs false
attribute [local go_sem ↓] Go.wp_at_zero Go.wp_at_succ
theorem bW_is (n a b : Int) (p : Bool) (w : World) (hp : Hid (inB n a b = p)) :
    Calls Try.prog 7 #[.int .i64 n, .int .i64 a, .int .i64 b] w fun e w' => e = .returned (.bool p) ∧ w = w' := by rw [← hp.out]; exact baseWithin_any n a b w
set_option maxRecDepth 100000 in
set_option maxHeartbeats 8000000 in
theorem topTides_f0 (ma mb t : Int) (LA LB : List Wv) (A B : Option Addr) (na nb ca cb : Nat) (w : World) (hna : Hid (na = LA.length)) (hnb : Hid (nb = LB.length)) (na1 : na ≤ 9223372036854775807) (nb1 : nb ≤ 9223372036854775807) (HRA : Hid (∀ w' : World, Below w.heap.size w w' → SlRows wvV 3 w' A LA)) (HRB : Hid (∀ w' : World, Below w.heap.size w w' → SlRows wvV 3 w' B LB)) (hfa : Hid (fewB na = false)) :
    Calls Try.prog 3 #[.agg #[.int .i64 ma, .slice A na ca], .agg #[.int .i64 mb, .slice B nb cb], .int .i64 t] w fun e w' => e = .returned (.bool true) ∧ Below w.heap.size w w' := by
  go_enter Try.func3, Try.ntmps3
  go_wp2_with fail
  refine (tidal_any _).mono ?_
  rintro e xw1 ⟨rfl, hbx1⟩
  have zx1 := hbx1.size
  try simp at zx1
  obtain ⟨x1_0_0, x1_0_1, x1_1_0, x1_1_1⟩ : xw1.cell? ⟨w.heap.size, 0, none⟩ = some (.int .i64 ma) ∧ xw1.cell? ⟨w.heap.size, 1, none⟩ = some (.slice A na ca) ∧ xw1.cell? ⟨w.heap.size + 1, 0, none⟩ = some (.int .i64 mb) ∧ xw1.cell? ⟨w.heap.size + 1, 1, none⟩ = some (.slice B nb cb) := by refine ⟨?_, ?_, ?_, ?_⟩ <;> (rw [(bcell hbx1).1 _ _ (by first | (simp; done) | (simp; omega) | omega)]; simp [go_sem, World.cell?_alloc_past, *])
  obtain ⟨x1o0, x1n0, x1m0, x1t0_0, x1t0_1, x1o1, x1n1, x1m1, x1t1_0, x1t1_1⟩ : w.heap.size < xw1.heap.size ∧ xw1.heap.size ≠ w.heap.size ∧ w.heap.size ≠ xw1.heap.size ∧ w.heap.size < xw1.heap.size + 1 ∧ w.heap.size < xw1.heap.size + 1 + 1 ∧ w.heap.size + 1 < xw1.heap.size ∧ xw1.heap.size ≠ w.heap.size + 1 ∧ w.heap.size + 1 ≠ xw1.heap.size ∧ w.heap.size + 1 < xw1.heap.size + 1 ∧ w.heap.size + 1 < xw1.heap.size + 1 + 1 := by refine ⟨?_, ?_, ?_, ?_, ?_, ?_, ?_, ?_, ?_, ?_⟩ <;> omega
  have hBx1 : Below w.heap.size w xw1 := (by (repeat (first | (with_reducible refine Below.drew ?_) | (with_reducible refine below_drewN ?_ _) | (with_reducible refine Below.alloc ?_ (by first | omega | (simp; done) | (simp; omega) | (simp at *; omega)) _) | (with_reducible refine Below.setCell ?_ (by first | omega | (simp; done) | (simp; omega) | (simp at *; omega)) _) | (with_reducible exact Below.refl _ _) | (with_reducible assumption) | (with_reducible refine Below.trans ?_ (Below.mono (by assumption) (by first | omega | (simp; done) | (simp; omega) | (simp at *; omega)))))))
  clear hbx1 
  go_wp2_with fail
  refine (Few_is ma A na ca false _ (by omega) hfa).mono ?_
  rintro e xw2 ⟨rfl, hbx2⟩
  have zx2 := hbx2.size
  try simp at zx2
  obtain ⟨x2_0_0, x2_0_1, x2_1_0, x2_1_1⟩ : xw2.cell? ⟨w.heap.size, 0, none⟩ = some (.int .i64 ma) ∧ xw2.cell? ⟨w.heap.size, 1, none⟩ = some (.slice A na ca) ∧ xw2.cell? ⟨w.heap.size + 1, 0, none⟩ = some (.int .i64 mb) ∧ xw2.cell? ⟨w.heap.size + 1, 1, none⟩ = some (.slice B nb cb) := by refine ⟨?_, ?_, ?_, ?_⟩ <;> (rw [(bcell hbx2).1 _ _ (by first | (simp; done) | (simp; omega) | omega)]; simp [go_sem, World.cell?_alloc_past, *])
  obtain ⟨x2o0, x2n0, x2m0, x2t0_0, x2t0_1, x2o1, x2n1, x2m1, x2t1_0, x2t1_1⟩ : w.heap.size < xw2.heap.size ∧ xw2.heap.size ≠ w.heap.size ∧ w.heap.size ≠ xw2.heap.size ∧ w.heap.size < xw2.heap.size + 1 ∧ w.heap.size < xw2.heap.size + 1 + 1 ∧ w.heap.size + 1 < xw2.heap.size ∧ xw2.heap.size ≠ w.heap.size + 1 ∧ w.heap.size + 1 ≠ xw2.heap.size ∧ w.heap.size + 1 < xw2.heap.size + 1 ∧ w.heap.size + 1 < xw2.heap.size + 1 + 1 := by refine ⟨?_, ?_, ?_, ?_, ?_, ?_, ?_, ?_, ?_, ?_⟩ <;> omega
  have hBx2 : Below w.heap.size w xw2 := (by (repeat (first | (with_reducible refine Below.drew ?_) | (with_reducible refine below_drewN ?_ _) | (with_reducible refine Below.alloc ?_ (by first | omega | (simp; done) | (simp; omega) | (simp at *; omega)) _) | (with_reducible refine Below.setCell ?_ (by first | omega | (simp; done) | (simp; omega) | (simp at *; omega)) _) | (with_reducible exact Below.refl _ _) | (with_reducible assumption) | (with_reducible refine Below.trans ?_ (Below.mono (by assumption) (by first | omega | (simp; done) | (simp; omega) | (simp at *; omega)))))))
  clear hbx2 x1_0_0 x1_0_1 x1_1_0 x1_1_1 x1o0 x1n0 x1m0 x1t0_0 x1t0_1 x1o1 x1n1 x1m1 x1t1_0 x1t1_1 hBx1
  go_wp2
  go_ret
  exact ⟨rfl, (by (repeat (first | (with_reducible refine Below.drew ?_) | (with_reducible refine below_drewN ?_ _) | (with_reducible refine Below.alloc ?_ (by first | omega | (simp; done) | (simp; omega) | (simp at *; omega)) _) | (with_reducible refine Below.setCell ?_ (by first | omega | (simp; done) | (simp; omega) | (simp at *; omega)) _) | (with_reducible exact Below.refl _ _) | (with_reducible assumption) | (with_reducible refine Below.trans ?_ (Below.mono (by assumption) (by first | omega | (simp; done) | (simp; omega) | (simp at *; omega)))))))⟩
set_option maxRecDepth 100000 in
set_option maxHeartbeats 8000000 in
theorem topTides_f1 (ma mb t : Int) (LA LB : List Wv) (A B : Option Addr) (na nb ca cb : Nat) (w : World) (hna : Hid (na = LA.length)) (hnb : Hid (nb = LB.length)) (na1 : na ≤ 9223372036854775807) (nb1 : nb ≤ 9223372036854775807) (HRA : Hid (∀ w' : World, Below w.heap.size w w' → SlRows wvV 3 w' A LA)) (HRB : Hid (∀ w' : World, Below w.heap.size w w' → SlRows wvV 3 w' B LB)) (hfa : Hid (fewB na = true)) (hfb : Hid (fewB nb = false)) :
    Calls Try.prog 3 #[.agg #[.int .i64 ma, .slice A na ca], .agg #[.int .i64 mb, .slice B nb cb], .int .i64 t] w fun e w' => e = .returned (.bool true) ∧ Below w.heap.size w w' := by
  go_enter Try.func3, Try.ntmps3
  go_wp2_with fail
  refine (tidal_any _).mono ?_
  rintro e xw1 ⟨rfl, hbx1⟩
  have zx1 := hbx1.size
  try simp at zx1
  obtain ⟨x1_0_0, x1_0_1, x1_1_0, x1_1_1⟩ : xw1.cell? ⟨w.heap.size, 0, none⟩ = some (.int .i64 ma) ∧ xw1.cell? ⟨w.heap.size, 1, none⟩ = some (.slice A na ca) ∧ xw1.cell? ⟨w.heap.size + 1, 0, none⟩ = some (.int .i64 mb) ∧ xw1.cell? ⟨w.heap.size + 1, 1, none⟩ = some (.slice B nb cb) := by refine ⟨?_, ?_, ?_, ?_⟩ <;> (rw [(bcell hbx1).1 _ _ (by first | (simp; done) | (simp; omega) | omega)]; simp [go_sem, World.cell?_alloc_past, *])
  obtain ⟨x1o0, x1n0, x1m0, x1t0_0, x1t0_1, x1o1, x1n1, x1m1, x1t1_0, x1t1_1⟩ : w.heap.size < xw1.heap.size ∧ xw1.heap.size ≠ w.heap.size ∧ w.heap.size ≠ xw1.heap.size ∧ w.heap.size < xw1.heap.size + 1 ∧ w.heap.size < xw1.heap.size + 1 + 1 ∧ w.heap.size + 1 < xw1.heap.size ∧ xw1.heap.size ≠ w.heap.size + 1 ∧ w.heap.size + 1 ≠ xw1.heap.size ∧ w.heap.size + 1 < xw1.heap.size + 1 ∧ w.heap.size + 1 < xw1.heap.size + 1 + 1 := by refine ⟨?_, ?_, ?_, ?_, ?_, ?_, ?_, ?_, ?_, ?_⟩ <;> omega
  have hBx1 : Below w.heap.size w xw1 := (by (repeat (first | (with_reducible refine Below.drew ?_) | (with_reducible refine below_drewN ?_ _) | (with_reducible refine Below.alloc ?_ (by first | omega | (simp; done) | (simp; omega) | (simp at *; omega)) _) | (with_reducible refine Below.setCell ?_ (by first | omega | (simp; done) | (simp; omega) | (simp at *; omega)) _) | (with_reducible exact Below.refl _ _) | (with_reducible assumption) | (with_reducible refine Below.trans ?_ (Below.mono (by assumption) (by first | omega | (simp; done) | (simp; omega) | (simp at *; omega)))))))
  clear hbx1 
  go_wp2_with fail
  refine (Few_is ma A na ca true _ (by omega) hfa).mono ?_
  rintro e xw2 ⟨rfl, hbx2⟩
  have zx2 := hbx2.size
  try simp at zx2
  obtain ⟨x2_0_0, x2_0_1, x2_1_0, x2_1_1⟩ : xw2.cell? ⟨w.heap.size, 0, none⟩ = some (.int .i64 ma) ∧ xw2.cell? ⟨w.heap.size, 1, none⟩ = some (.slice A na ca) ∧ xw2.cell? ⟨w.heap.size + 1, 0, none⟩ = some (.int .i64 mb) ∧ xw2.cell? ⟨w.heap.size + 1, 1, none⟩ = some (.slice B nb cb) := by refine ⟨?_, ?_, ?_, ?_⟩ <;> (rw [(bcell hbx2).1 _ _ (by first | (simp; done) | (simp; omega) | omega)]; simp [go_sem, World.cell?_alloc_past, *])
  obtain ⟨x2o0, x2n0, x2m0, x2t0_0, x2t0_1, x2o1, x2n1, x2m1, x2t1_0, x2t1_1⟩ : w.heap.size < xw2.heap.size ∧ xw2.heap.size ≠ w.heap.size ∧ w.heap.size ≠ xw2.heap.size ∧ w.heap.size < xw2.heap.size + 1 ∧ w.heap.size < xw2.heap.size + 1 + 1 ∧ w.heap.size + 1 < xw2.heap.size ∧ xw2.heap.size ≠ w.heap.size + 1 ∧ w.heap.size + 1 ≠ xw2.heap.size ∧ w.heap.size + 1 < xw2.heap.size + 1 ∧ w.heap.size + 1 < xw2.heap.size + 1 + 1 := by refine ⟨?_, ?_, ?_, ?_, ?_, ?_, ?_, ?_, ?_, ?_⟩ <;> omega
  have hBx2 : Below w.heap.size w xw2 := (by (repeat (first | (with_reducible refine Below.drew ?_) | (with_reducible refine below_drewN ?_ _) | (with_reducible refine Below.alloc ?_ (by first | omega | (simp; done) | (simp; omega) | (simp at *; omega)) _) | (with_reducible refine Below.setCell ?_ (by first | omega | (simp; done) | (simp; omega) | (simp at *; omega)) _) | (with_reducible exact Below.refl _ _) | (with_reducible assumption) | (with_reducible refine Below.trans ?_ (Below.mono (by assumption) (by first | omega | (simp; done) | (simp; omega) | (simp at *; omega)))))))
  clear hbx2 x1_0_0 x1_0_1 x1_1_0 x1_1_1 x1o0 x1n0 x1m0 x1t0_0 x1t0_1 x1o1 x1n1 x1m1 x1t1_0 x1t1_1 hBx1
  go_wp2_with fail
  refine (Few_is mb B nb cb false _ (by omega) hfb).mono ?_
  rintro e xw3 ⟨rfl, hbx3⟩
  have zx3 := hbx3.size
  try simp at zx3
  obtain ⟨x3_0_0, x3_0_1, x3_1_0, x3_1_1⟩ : xw3.cell? ⟨w.heap.size, 0, none⟩ = some (.int .i64 ma) ∧ xw3.cell? ⟨w.heap.size, 1, none⟩ = some (.slice A na ca) ∧ xw3.cell? ⟨w.heap.size + 1, 0, none⟩ = some (.int .i64 mb) ∧ xw3.cell? ⟨w.heap.size + 1, 1, none⟩ = some (.slice B nb cb) := by refine ⟨?_, ?_, ?_, ?_⟩ <;> (rw [(bcell hbx3).1 _ _ (by first | (simp; done) | (simp; omega) | omega)]; simp [go_sem, World.cell?_alloc_past, *])
  obtain ⟨x3o0, x3n0, x3m0, x3t0_0, x3t0_1, x3o1, x3n1, x3m1, x3t1_0, x3t1_1⟩ : w.heap.size < xw3.heap.size ∧ xw3.heap.size ≠ w.heap.size ∧ w.heap.size ≠ xw3.heap.size ∧ w.heap.size < xw3.heap.size + 1 ∧ w.heap.size < xw3.heap.size + 1 + 1 ∧ w.heap.size + 1 < xw3.heap.size ∧ xw3.heap.size ≠ w.heap.size + 1 ∧ w.heap.size + 1 ≠ xw3.heap.size ∧ w.heap.size + 1 < xw3.heap.size + 1 ∧ w.heap.size + 1 < xw3.heap.size + 1 + 1 := by refine ⟨?_, ?_, ?_, ?_, ?_, ?_, ?_, ?_, ?_, ?_⟩ <;> omega
  have hBx3 : Below w.heap.size w xw3 := (by (repeat (first | (with_reducible refine Below.drew ?_) | (with_reducible refine below_drewN ?_ _) | (with_reducible refine Below.alloc ?_ (by first | omega | (simp; done) | (simp; omega) | (simp at *; omega)) _) | (with_reducible refine Below.setCell ?_ (by first | omega | (simp; done) | (simp; omega) | (simp at *; omega)) _) | (with_reducible exact Below.refl _ _) | (with_reducible assumption) | (with_reducible refine Below.trans ?_ (Below.mono (by assumption) (by first | omega | (simp; done) | (simp; omega) | (simp at *; omega)))))))
  clear hbx3 x2_0_0 x2_0_1 x2_1_0 x2_1_1 x2o0 x2n0 x2m0 x2t0_0 x2t0_1 x2o1 x2n1 x2m1 x2t1_0 x2t1_1 hBx2
  go_wp2
  go_ret
  exact ⟨rfl, (by (repeat (first | (with_reducible refine Below.drew ?_) | (with_reducible refine below_drewN ?_ _) | (with_reducible refine Below.alloc ?_ (by first | omega | (simp; done) | (simp; omega) | (simp at *; omega)) _) | (with_reducible refine Below.setCell ?_ (by first | omega | (simp; done) | (simp; omega) | (simp at *; omega)) _) | (with_reducible exact Below.refl _ _) | (with_reducible assumption) | (with_reducible refine Below.trans ?_ (Below.mono (by assumption) (by first | omega | (simp; done) | (simp; omega) | (simp at *; omega)))))))⟩
set_option maxRecDepth 100000 in
set_option maxHeartbeats 8000000 in
theorem topTides_f2 (ma mb t : Int) (LA LB : List Wv) (A B : Option Addr) (na nb ca cb : Nat) (w : World) (hna : Hid (na = LA.length)) (hnb : Hid (nb = LB.length)) (na1 : na ≤ 1000000) (nb1 : nb ≤ 1000000) (HRA : Hid (∀ w' : World, Below w.heap.size w w' → SlRows wvV 3 w' A LA)) (HRB : Hid (∀ w' : World, Below w.heap.size w w' → SlRows wvV 3 w' B LB)) (hfa : Hid (fewB na = true)) (hfb : Hid (fewB nb = true)) (E : Int) (hta : Hid (tidE ma LA = E)) (hE : (E != 0) = true) :
    Calls Try.prog 3 #[.agg #[.int .i64 ma, .slice A na ca], .agg #[.int .i64 mb, .slice B nb cb], .int .i64 t] w fun e w' => e = .returned (.bool true) ∧ Below w.heap.size w w' := by
  go_enter Try.func3, Try.ntmps3
  go_wp2_with fail
  refine (tidal_any _).mono ?_
  rintro e xw1 ⟨rfl, hbx1⟩
  have zx1 := hbx1.size
  try simp at zx1
  obtain ⟨x1_0_0, x1_0_1, x1_1_0, x1_1_1⟩ : xw1.cell? ⟨w.heap.size, 0, none⟩ = some (.int .i64 ma) ∧ xw1.cell? ⟨w.heap.size, 1, none⟩ = some (.slice A na ca) ∧ xw1.cell? ⟨w.heap.size + 1, 0, none⟩ = some (.int .i64 mb) ∧ xw1.cell? ⟨w.heap.size + 1, 1, none⟩ = some (.slice B nb cb) := by refine ⟨?_, ?_, ?_, ?_⟩ <;> (rw [(bcell hbx1).1 _ _ (by first | (simp; done) | (simp; omega) | omega)]; simp [go_sem, World.cell?_alloc_past, *])
  obtain ⟨x1o0, x1n0, x1m0, x1t0_0, x1t0_1, x1o1, x1n1, x1m1, x1t1_0, x1t1_1⟩ : w.heap.size < xw1.heap.size ∧ xw1.heap.size ≠ w.heap.size ∧ w.heap.size ≠ xw1.heap.size ∧ w.heap.size < xw1.heap.size + 1 ∧ w.heap.size < xw1.heap.size + 1 + 1 ∧ w.heap.size + 1 < xw1.heap.size ∧ xw1.heap.size ≠ w.heap.size + 1 ∧ w.heap.size + 1 ≠ xw1.heap.size ∧ w.heap.size + 1 < xw1.heap.size + 1 ∧ w.heap.size + 1 < xw1.heap.size + 1 + 1 := by refine ⟨?_, ?_, ?_, ?_, ?_, ?_, ?_, ?_, ?_, ?_⟩ <;> omega
  have hBx1 : Below w.heap.size w xw1 := (by (repeat (first | (with_reducible refine Below.drew ?_) | (with_reducible refine below_drewN ?_ _) | (with_reducible refine Below.alloc ?_ (by first | omega | (simp; done) | (simp; omega) | (simp at *; omega)) _) | (with_reducible refine Below.setCell ?_ (by first | omega | (simp; done) | (simp; omega) | (simp at *; omega)) _) | (with_reducible exact Below.refl _ _) | (with_reducible assumption) | (with_reducible refine Below.trans ?_ (Below.mono (by assumption) (by first | omega | (simp; done) | (simp; omega) | (simp at *; omega)))))))
  clear hbx1 
  go_wp2_with fail
  refine (Few_is ma A na ca true _ (by omega) hfa).mono ?_
  rintro e xw2 ⟨rfl, hbx2⟩
  have zx2 := hbx2.size
  try simp at zx2
  obtain ⟨x2_0_0, x2_0_1, x2_1_0, x2_1_1⟩ : xw2.cell? ⟨w.heap.size, 0, none⟩ = some (.int .i64 ma) ∧ xw2.cell? ⟨w.heap.size, 1, none⟩ = some (.slice A na ca) ∧ xw2.cell? ⟨w.heap.size + 1, 0, none⟩ = some (.int .i64 mb) ∧ xw2.cell? ⟨w.heap.size + 1, 1, none⟩ = some (.slice B nb cb) := by refine ⟨?_, ?_, ?_, ?_⟩ <;> (rw [(bcell hbx2).1 _ _ (by first | (simp; done) | (simp; omega) | omega)]; simp [go_sem, World.cell?_alloc_past, *])
  obtain ⟨x2o0, x2n0, x2m0, x2t0_0, x2t0_1, x2o1, x2n1, x2m1, x2t1_0, x2t1_1⟩ : w.heap.size < xw2.heap.size ∧ xw2.heap.size ≠ w.heap.size ∧ w.heap.size ≠ xw2.heap.size ∧ w.heap.size < xw2.heap.size + 1 ∧ w.heap.size < xw2.heap.size + 1 + 1 ∧ w.heap.size + 1 < xw2.heap.size ∧ xw2.heap.size ≠ w.heap.size + 1 ∧ w.heap.size + 1 ≠ xw2.heap.size ∧ w.heap.size + 1 < xw2.heap.size + 1 ∧ w.heap.size + 1 < xw2.heap.size + 1 + 1 := by refine ⟨?_, ?_, ?_, ?_, ?_, ?_, ?_, ?_, ?_, ?_⟩ <;> omega
  have hBx2 : Below w.heap.size w xw2 := (by (repeat (first | (with_reducible refine Below.drew ?_) | (with_reducible refine below_drewN ?_ _) | (with_reducible refine Below.alloc ?_ (by first | omega | (simp; done) | (simp; omega) | (simp at *; omega)) _) | (with_reducible refine Below.setCell ?_ (by first | omega | (simp; done) | (simp; omega) | (simp at *; omega)) _) | (with_reducible exact Below.refl _ _) | (with_reducible assumption) | (with_reducible refine Below.trans ?_ (Below.mono (by assumption) (by first | omega | (simp; done) | (simp; omega) | (simp at *; omega)))))))
  clear hbx2 x1_0_0 x1_0_1 x1_1_0 x1_1_1 x1o0 x1n0 x1m0 x1t0_0 x1t0_1 x1o1 x1n1 x1m1 x1t1_0 x1t1_1 hBx1
  go_wp2_with fail
  refine (Few_is mb B nb cb true _ (by omega) hfb).mono ?_
  rintro e xw3 ⟨rfl, hbx3⟩
  have zx3 := hbx3.size
  try simp at zx3
  obtain ⟨x3_0_0, x3_0_1, x3_1_0, x3_1_1⟩ : xw3.cell? ⟨w.heap.size, 0, none⟩ = some (.int .i64 ma) ∧ xw3.cell? ⟨w.heap.size, 1, none⟩ = some (.slice A na ca) ∧ xw3.cell? ⟨w.heap.size + 1, 0, none⟩ = some (.int .i64 mb) ∧ xw3.cell? ⟨w.heap.size + 1, 1, none⟩ = some (.slice B nb cb) := by refine ⟨?_, ?_, ?_, ?_⟩ <;> (rw [(bcell hbx3).1 _ _ (by first | (simp; done) | (simp; omega) | omega)]; simp [go_sem, World.cell?_alloc_past, *])
  obtain ⟨x3o0, x3n0, x3m0, x3t0_0, x3t0_1, x3o1, x3n1, x3m1, x3t1_0, x3t1_1⟩ : w.heap.size < xw3.heap.size ∧ xw3.heap.size ≠ w.heap.size ∧ w.heap.size ≠ xw3.heap.size ∧ w.heap.size < xw3.heap.size + 1 ∧ w.heap.size < xw3.heap.size + 1 + 1 ∧ w.heap.size + 1 < xw3.heap.size ∧ xw3.heap.size ≠ w.heap.size + 1 ∧ w.heap.size + 1 ≠ xw3.heap.size ∧ w.heap.size + 1 < xw3.heap.size + 1 ∧ w.heap.size + 1 < xw3.heap.size + 1 + 1 := by refine ⟨?_, ?_, ?_, ?_, ?_, ?_, ?_, ?_, ?_, ?_⟩ <;> omega
  have hBx3 : Below w.heap.size w xw3 := (by (repeat (first | (with_reducible refine Below.drew ?_) | (with_reducible refine below_drewN ?_ _) | (with_reducible refine Below.alloc ?_ (by first | omega | (simp; done) | (simp; omega) | (simp at *; omega)) _) | (with_reducible refine Below.setCell ?_ (by first | omega | (simp; done) | (simp; omega) | (simp at *; omega)) _) | (with_reducible exact Below.refl _ _) | (with_reducible assumption) | (with_reducible refine Below.trans ?_ (Below.mono (by assumption) (by first | omega | (simp; done) | (simp; omega) | (simp at *; omega)))))))
  clear hbx3 x2_0_0 x2_0_1 x2_1_0 x2_1_1 x2o0 x2n0 x2m0 x2t0_0 x2t0_1 x2o1 x2n1 x2m1 x2t1_0 x2t1_1 hBx2
  go_wp2_with fail
  refine (refTide_is ma LA A ca na E _ hna na1 (Lib.hid (HRA.out _ (by (repeat (first | (with_reducible refine Below.drew ?_) | (with_reducible refine below_drewN ?_ _) | (with_reducible refine Below.alloc ?_ (by first | omega | (simp; done) | (simp; omega) | (simp at *; omega)) _) | (with_reducible refine Below.setCell ?_ (by first | omega | (simp; done) | (simp; omega) | (simp at *; omega)) _) | (with_reducible exact Below.refl _ _) | (with_reducible assumption) | (with_reducible refine Below.trans ?_ (Below.mono (by assumption) (by first | omega | (simp; done) | (simp; omega) | (simp at *; omega))))))))) hta).mono ?_
  rintro e xw4 ⟨rfl, hbx4⟩
  have zx4 := hbx4.size
  try simp at zx4
  obtain ⟨x4_0_0, x4_0_1, x4_1_0, x4_1_1⟩ : xw4.cell? ⟨w.heap.size, 0, none⟩ = some (.int .i64 ma) ∧ xw4.cell? ⟨w.heap.size, 1, none⟩ = some (.slice A na ca) ∧ xw4.cell? ⟨w.heap.size + 1, 0, none⟩ = some (.int .i64 mb) ∧ xw4.cell? ⟨w.heap.size + 1, 1, none⟩ = some (.slice B nb cb) := by refine ⟨?_, ?_, ?_, ?_⟩ <;> (rw [(bcell hbx4).1 _ _ (by first | (simp; done) | (simp; omega) | omega)]; simp [go_sem, World.cell?_alloc_past, *])
  obtain ⟨x4o0, x4n0, x4m0, x4t0_0, x4t0_1, x4o1, x4n1, x4m1, x4t1_0, x4t1_1⟩ : w.heap.size < xw4.heap.size ∧ xw4.heap.size ≠ w.heap.size ∧ w.heap.size ≠ xw4.heap.size ∧ w.heap.size < xw4.heap.size + 1 ∧ w.heap.size < xw4.heap.size + 1 + 1 ∧ w.heap.size + 1 < xw4.heap.size ∧ xw4.heap.size ≠ w.heap.size + 1 ∧ w.heap.size + 1 ≠ xw4.heap.size ∧ w.heap.size + 1 < xw4.heap.size + 1 ∧ w.heap.size + 1 < xw4.heap.size + 1 + 1 := by refine ⟨?_, ?_, ?_, ?_, ?_, ?_, ?_, ?_, ?_, ?_⟩ <;> omega
  have hBx4 : Below w.heap.size w xw4 := (by (repeat (first | (with_reducible refine Below.drew ?_) | (with_reducible refine below_drewN ?_ _) | (with_reducible refine Below.alloc ?_ (by first | omega | (simp; done) | (simp; omega) | (simp at *; omega)) _) | (with_reducible refine Below.setCell ?_ (by first | omega | (simp; done) | (simp; omega) | (simp at *; omega)) _) | (with_reducible exact Below.refl _ _) | (with_reducible assumption) | (with_reducible refine Below.trans ?_ (Below.mono (by assumption) (by first | omega | (simp; done) | (simp; omega) | (simp at *; omega)))))))
  clear hbx4 x3_0_0 x3_0_1 x3_1_0 x3_1_1 x3o0 x3n0 x3m0 x3t0_0 x3t0_1 x3o1 x3n1 x3m1 x3t1_0 x3t1_1 hBx3
  go_wp2
  go_ret
  exact ⟨rfl, (by (repeat (first | (with_reducible refine Below.drew ?_) | (with_reducible refine below_drewN ?_ _) | (with_reducible refine Below.alloc ?_ (by first | omega | (simp; done) | (simp; omega) | (simp at *; omega)) _) | (with_reducible refine Below.setCell ?_ (by first | omega | (simp; done) | (simp; omega) | (simp at *; omega)) _) | (with_reducible exact Below.refl _ _) | (with_reducible assumption) | (with_reducible refine Below.trans ?_ (Below.mono (by assumption) (by first | omega | (simp; done) | (simp; omega) | (simp at *; omega)))))))⟩
set_option maxRecDepth 100000 in
set_option maxHeartbeats 8000000 in
theorem topTides_f3 (ma mb t : Int) (LA LB : List Wv) (A B : Option Addr) (na nb ca cb : Nat) (w : World) (hna : Hid (na = LA.length)) (hnb : Hid (nb = LB.length)) (na1 : na ≤ 1000000) (nb1 : nb ≤ 1000000) (HRA : Hid (∀ w' : World, Below w.heap.size w w' → SlRows wvV 3 w' A LA)) (HRB : Hid (∀ w' : World, Below w.heap.size w w' → SlRows wvV 3 w' B LB)) (hfa : Hid (fewB na = true)) (hfb : Hid (fewB nb = true)) (hta : Hid (tidE ma LA = 0)) (E : Int) (htb : Hid (tidE mb LB = E)) (hE : (E != 0) = true) :
    Calls Try.prog 3 #[.agg #[.int .i64 ma, .slice A na ca], .agg #[.int .i64 mb, .slice B nb cb], .int .i64 t] w fun e w' => e = .returned (.bool true) ∧ Below w.heap.size w w' := by
  go_enter Try.func3, Try.ntmps3
  go_wp2_with fail
  refine (tidal_any _).mono ?_
  rintro e xw1 ⟨rfl, hbx1⟩
  have zx1 := hbx1.size
  try simp at zx1
  obtain ⟨x1_0_0, x1_0_1, x1_1_0, x1_1_1⟩ : xw1.cell? ⟨w.heap.size, 0, none⟩ = some (.int .i64 ma) ∧ xw1.cell? ⟨w.heap.size, 1, none⟩ = some (.slice A na ca) ∧ xw1.cell? ⟨w.heap.size + 1, 0, none⟩ = some (.int .i64 mb) ∧ xw1.cell? ⟨w.heap.size + 1, 1, none⟩ = some (.slice B nb cb) := by refine ⟨?_, ?_, ?_, ?_⟩ <;> (rw [(bcell hbx1).1 _ _ (by first | (simp; done) | (simp; omega) | omega)]; simp [go_sem, World.cell?_alloc_past, *])
  obtain ⟨x1o0, x1n0, x1m0, x1t0_0, x1t0_1, x1o1, x1n1, x1m1, x1t1_0, x1t1_1⟩ : w.heap.size < xw1.heap.size ∧ xw1.heap.size ≠ w.heap.size ∧ w.heap.size ≠ xw1.heap.size ∧ w.heap.size < xw1.heap.size + 1 ∧ w.heap.size < xw1.heap.size + 1 + 1 ∧ w.heap.size + 1 < xw1.heap.size ∧ xw1.heap.size ≠ w.heap.size + 1 ∧ w.heap.size + 1 ≠ xw1.heap.size ∧ w.heap.size + 1 < xw1.heap.size + 1 ∧ w.heap.size + 1 < xw1.heap.size + 1 + 1 := by refine ⟨?_, ?_, ?_, ?_, ?_, ?_, ?_, ?_, ?_, ?_⟩ <;> omega
  have hBx1 : Below w.heap.size w xw1 := (by (repeat (first | (with_reducible refine Below.drew ?_) | (with_reducible refine below_drewN ?_ _) | (with_reducible refine Below.alloc ?_ (by first | omega | (simp; done) | (simp; omega) | (simp at *; omega)) _) | (with_reducible refine Below.setCell ?_ (by first | omega | (simp; done) | (simp; omega) | (simp at *; omega)) _) | (with_reducible exact Below.refl _ _) | (with_reducible assumption) | (with_reducible refine Below.trans ?_ (Below.mono (by assumption) (by first | omega | (simp; done) | (simp; omega) | (simp at *; omega)))))))
  clear hbx1 
  go_wp2_with fail
  refine (Few_is ma A na ca true _ (by omega) hfa).mono ?_
  rintro e xw2 ⟨rfl, hbx2⟩
  have zx2 := hbx2.size
  try simp at zx2
  obtain ⟨x2_0_0, x2_0_1, x2_1_0, x2_1_1⟩ : xw2.cell? ⟨w.heap.size, 0, none⟩ = some (.int .i64 ma) ∧ xw2.cell? ⟨w.heap.size, 1, none⟩ = some (.slice A na ca) ∧ xw2.cell? ⟨w.heap.size + 1, 0, none⟩ = some (.int .i64 mb) ∧ xw2.cell? ⟨w.heap.size + 1, 1, none⟩ = some (.slice B nb cb) := by refine ⟨?_, ?_, ?_, ?_⟩ <;> (rw [(bcell hbx2).1 _ _ (by first | (simp; done) | (simp; omega) | omega)]; simp [go_sem, World.cell?_alloc_past, *])
  obtain ⟨x2o0, x2n0, x2m0, x2t0_0, x2t0_1, x2o1, x2n1, x2m1, x2t1_0, x2t1_1⟩ : w.heap.size < xw2.heap.size ∧ xw2.heap.size ≠ w.heap.size ∧ w.heap.size ≠ xw2.heap.size ∧ w.heap.size < xw2.heap.size + 1 ∧ w.heap.size < xw2.heap.size + 1 + 1 ∧ w.heap.size + 1 < xw2.heap.size ∧ xw2.heap.size ≠ w.heap.size + 1 ∧ w.heap.size + 1 ≠ xw2.heap.size ∧ w.heap.size + 1 < xw2.heap.size + 1 ∧ w.heap.size + 1 < xw2.heap.size + 1 + 1 := by refine ⟨?_, ?_, ?_, ?_, ?_, ?_, ?_, ?_, ?_, ?_⟩ <;> omega
  have hBx2 : Below w.heap.size w xw2 := (by (repeat (first | (with_reducible refine Below.drew ?_) | (with_reducible refine below_drewN ?_ _) | (with_reducible refine Below.alloc ?_ (by first | omega | (simp; done) | (simp; omega) | (simp at *; omega)) _) | (with_reducible refine Below.setCell ?_ (by first | omega | (simp; done) | (simp; omega) | (simp at *; omega)) _) | (with_reducible exact Below.refl _ _) | (with_reducible assumption) | (with_reducible refine Below.trans ?_ (Below.mono (by assumption) (by first | omega | (simp; done) | (simp; omega) | (simp at *; omega)))))))
  clear hbx2 x1_0_0 x1_0_1 x1_1_0 x1_1_1 x1o0 x1n0 x1m0 x1t0_0 x1t0_1 x1o1 x1n1 x1m1 x1t1_0 x1t1_1 hBx1
  go_wp2_with fail
  refine (Few_is mb B nb cb true _ (by omega) hfb).mono ?_
  rintro e xw3 ⟨rfl, hbx3⟩
  have zx3 := hbx3.size
  try simp at zx3
  obtain ⟨x3_0_0, x3_0_1, x3_1_0, x3_1_1⟩ : xw3.cell? ⟨w.heap.size, 0, none⟩ = some (.int .i64 ma) ∧ xw3.cell? ⟨w.heap.size, 1, none⟩ = some (.slice A na ca) ∧ xw3.cell? ⟨w.heap.size + 1, 0, none⟩ = some (.int .i64 mb) ∧ xw3.cell? ⟨w.heap.size + 1, 1, none⟩ = some (.slice B nb cb) := by refine ⟨?_, ?_, ?_, ?_⟩ <;> (rw [(bcell hbx3).1 _ _ (by first | (simp; done) | (simp; omega) | omega)]; simp [go_sem, World.cell?_alloc_past, *])
  obtain ⟨x3o0, x3n0, x3m0, x3t0_0, x3t0_1, x3o1, x3n1, x3m1, x3t1_0, x3t1_1⟩ : w.heap.size < xw3.heap.size ∧ xw3.heap.size ≠ w.heap.size ∧ w.heap.size ≠ xw3.heap.size ∧ w.heap.size < xw3.heap.size + 1 ∧ w.heap.size < xw3.heap.size + 1 + 1 ∧ w.heap.size + 1 < xw3.heap.size ∧ xw3.heap.size ≠ w.heap.size + 1 ∧ w.heap.size + 1 ≠ xw3.heap.size ∧ w.heap.size + 1 < xw3.heap.size + 1 ∧ w.heap.size + 1 < xw3.heap.size + 1 + 1 := by refine ⟨?_, ?_, ?_, ?_, ?_, ?_, ?_, ?_, ?_, ?_⟩ <;> omega
  have hBx3 : Below w.heap.size w xw3 := (by (repeat (first | (with_reducible refine Below.drew ?_) | (with_reducible refine below_drewN ?_ _) | (with_reducible refine Below.alloc ?_ (by first | omega | (simp; done) | (simp; omega) | (simp at *; omega)) _) | (with_reducible refine Below.setCell ?_ (by first | omega | (simp; done) | (simp; omega) | (simp at *; omega)) _) | (with_reducible exact Below.refl _ _) | (with_reducible assumption) | (with_reducible refine Below.trans ?_ (Below.mono (by assumption) (by first | omega | (simp; done) | (simp; omega) | (simp at *; omega)))))))
  clear hbx3 x2_0_0 x2_0_1 x2_1_0 x2_1_1 x2o0 x2n0 x2m0 x2t0_0 x2t0_1 x2o1 x2n1 x2m1 x2t1_0 x2t1_1 hBx2
  go_wp2_with fail
  refine (refTide_is ma LA A ca na 0 _ hna na1 (Lib.hid (HRA.out _ (by (repeat (first | (with_reducible refine Below.drew ?_) | (with_reducible refine below_drewN ?_ _) | (with_reducible refine Below.alloc ?_ (by first | omega | (simp; done) | (simp; omega) | (simp at *; omega)) _) | (with_reducible refine Below.setCell ?_ (by first | omega | (simp; done) | (simp; omega) | (simp at *; omega)) _) | (with_reducible exact Below.refl _ _) | (with_reducible assumption) | (with_reducible refine Below.trans ?_ (Below.mono (by assumption) (by first | omega | (simp; done) | (simp; omega) | (simp at *; omega))))))))) hta).mono ?_
  rintro e xw4 ⟨rfl, hbx4⟩
  have zx4 := hbx4.size
  try simp at zx4
  obtain ⟨x4_0_0, x4_0_1, x4_1_0, x4_1_1⟩ : xw4.cell? ⟨w.heap.size, 0, none⟩ = some (.int .i64 ma) ∧ xw4.cell? ⟨w.heap.size, 1, none⟩ = some (.slice A na ca) ∧ xw4.cell? ⟨w.heap.size + 1, 0, none⟩ = some (.int .i64 mb) ∧ xw4.cell? ⟨w.heap.size + 1, 1, none⟩ = some (.slice B nb cb) := by refine ⟨?_, ?_, ?_, ?_⟩ <;> (rw [(bcell hbx4).1 _ _ (by first | (simp; done) | (simp; omega) | omega)]; simp [go_sem, World.cell?_alloc_past, *])
  obtain ⟨x4o0, x4n0, x4m0, x4t0_0, x4t0_1, x4o1, x4n1, x4m1, x4t1_0, x4t1_1⟩ : w.heap.size < xw4.heap.size ∧ xw4.heap.size ≠ w.heap.size ∧ w.heap.size ≠ xw4.heap.size ∧ w.heap.size < xw4.heap.size + 1 ∧ w.heap.size < xw4.heap.size + 1 + 1 ∧ w.heap.size + 1 < xw4.heap.size ∧ xw4.heap.size ≠ w.heap.size + 1 ∧ w.heap.size + 1 ≠ xw4.heap.size ∧ w.heap.size + 1 < xw4.heap.size + 1 ∧ w.heap.size + 1 < xw4.heap.size + 1 + 1 := by refine ⟨?_, ?_, ?_, ?_, ?_, ?_, ?_, ?_, ?_, ?_⟩ <;> omega
  have hBx4 : Below w.heap.size w xw4 := (by (repeat (first | (with_reducible refine Below.drew ?_) | (with_reducible refine below_drewN ?_ _) | (with_reducible refine Below.alloc ?_ (by first | omega | (simp; done) | (simp; omega) | (simp at *; omega)) _) | (with_reducible refine Below.setCell ?_ (by first | omega | (simp; done) | (simp; omega) | (simp at *; omega)) _) | (with_reducible exact Below.refl _ _) | (with_reducible assumption) | (with_reducible refine Below.trans ?_ (Below.mono (by assumption) (by first | omega | (simp; done) | (simp; omega) | (simp at *; omega)))))))
  clear hbx4 x3_0_0 x3_0_1 x3_1_0 x3_1_1 x3o0 x3n0 x3m0 x3t0_0 x3t0_1 x3o1 x3n1 x3m1 x3t1_0 x3t1_1 hBx3
  go_wp2_with fail
  refine (refTide_is mb LB B cb nb E _ hnb nb1 (Lib.hid (HRB.out _ (by (repeat (first | (with_reducible refine Below.drew ?_) | (with_reducible refine below_drewN ?_ _) | (with_reducible refine Below.alloc ?_ (by first | omega | (simp; done) | (simp; omega) | (simp at *; omega)) _) | (with_reducible refine Below.setCell ?_ (by first | omega | (simp; done) | (simp; omega) | (simp at *; omega)) _) | (with_reducible exact Below.refl _ _) | (with_reducible assumption) | (with_reducible refine Below.trans ?_ (Below.mono (by assumption) (by first | omega | (simp; done) | (simp; omega) | (simp at *; omega))))))))) htb).mono ?_
  rintro e xw5 ⟨rfl, hbx5⟩
  have zx5 := hbx5.size
  try simp at zx5
  obtain ⟨x5_0_0, x5_0_1, x5_1_0, x5_1_1⟩ : xw5.cell? ⟨w.heap.size, 0, none⟩ = some (.int .i64 ma) ∧ xw5.cell? ⟨w.heap.size, 1, none⟩ = some (.slice A na ca) ∧ xw5.cell? ⟨w.heap.size + 1, 0, none⟩ = some (.int .i64 mb) ∧ xw5.cell? ⟨w.heap.size + 1, 1, none⟩ = some (.slice B nb cb) := by refine ⟨?_, ?_, ?_, ?_⟩ <;> (rw [(bcell hbx5).1 _ _ (by first | (simp; done) | (simp; omega) | omega)]; simp [go_sem, World.cell?_alloc_past, *])
  obtain ⟨x5o0, x5n0, x5m0, x5t0_0, x5t0_1, x5o1, x5n1, x5m1, x5t1_0, x5t1_1⟩ : w.heap.size < xw5.heap.size ∧ xw5.heap.size ≠ w.heap.size ∧ w.heap.size ≠ xw5.heap.size ∧ w.heap.size < xw5.heap.size + 1 ∧ w.heap.size < xw5.heap.size + 1 + 1 ∧ w.heap.size + 1 < xw5.heap.size ∧ xw5.heap.size ≠ w.heap.size + 1 ∧ w.heap.size + 1 ≠ xw5.heap.size ∧ w.heap.size + 1 < xw5.heap.size + 1 ∧ w.heap.size + 1 < xw5.heap.size + 1 + 1 := by refine ⟨?_, ?_, ?_, ?_, ?_, ?_, ?_, ?_, ?_, ?_⟩ <;> omega
  have hBx5 : Below w.heap.size w xw5 := (by (repeat (first | (with_reducible refine Below.drew ?_) | (with_reducible refine below_drewN ?_ _) | (with_reducible refine Below.alloc ?_ (by first | omega | (simp; done) | (simp; omega) | (simp at *; omega)) _) | (with_reducible refine Below.setCell ?_ (by first | omega | (simp; done) | (simp; omega) | (simp at *; omega)) _) | (with_reducible exact Below.refl _ _) | (with_reducible assumption) | (with_reducible refine Below.trans ?_ (Below.mono (by assumption) (by first | omega | (simp; done) | (simp; omega) | (simp at *; omega)))))))
  clear hbx5 x4_0_0 x4_0_1 x4_1_0 x4_1_1 x4o0 x4n0 x4m0 x4t0_0 x4t0_1 x4o1 x4n1 x4m1 x4t1_0 x4t1_1 hBx4
  go_wp2
  go_ret
  exact ⟨rfl, (by (repeat (first | (with_reducible refine Below.drew ?_) | (with_reducible refine below_drewN ?_ _) | (with_reducible refine Below.alloc ?_ (by first | omega | (simp; done) | (simp; omega) | (simp at *; omega)) _) | (with_reducible refine Below.setCell ?_ (by first | omega | (simp; done) | (simp; omega) | (simp at *; omega)) _) | (with_reducible exact Below.refl _ _) | (with_reducible assumption) | (with_reducible refine Below.trans ?_ (Below.mono (by assumption) (by first | omega | (simp; done) | (simp; omega) | (simp at *; omega)))))))⟩
set_option maxRecDepth 100000 in
set_option maxHeartbeats 8000000 in
theorem topTides_f4 (ma mb t : Int) (LA LB : List Wv) (A B : Option Addr) (na nb ca cb : Nat) (w : World) (hna : Hid (na = LA.length)) (hnb : Hid (nb = LB.length)) (na1 : na ≤ 1000000) (nb1 : nb ≤ 1000000) (HRA : Hid (∀ w' : World, Below w.heap.size w w' → SlRows wvV 3 w' A LA)) (HRB : Hid (∀ w' : World, Below w.heap.size w w' → SlRows wvV 3 w' B LB)) (hfa : Hid (fewB na = true)) (hfb : Hid (fewB nb = true)) (hta : Hid (tidE ma LA = 0)) (htb : Hid (tidE mb LB = 0)) (hlen : 10 < na + nb) (na2 : na ≤ 10) (nb2 : nb ≤ 10) :
    Calls Try.prog 3 #[.agg #[.int .i64 ma, .slice A na ca], .agg #[.int .i64 mb, .slice B nb cb], .int .i64 t] w fun e w' => e = .returned (.bool true) ∧ Below w.heap.size w w' := by
  have i1 : IntKind.i64.wrap ((na : Int) + nb) = (na : Int) + nb := IntWalk.i64_in _ (by omega)
  have i2 : (10 : Int) < (na : Int) + nb := by omega
  clear hlen
  go_enter Try.func3, Try.ntmps3
  go_wp2_with fail
  refine (tidal_any _).mono ?_
  rintro e xw1 ⟨rfl, hbx1⟩
  have zx1 := hbx1.size
  try simp at zx1
  obtain ⟨x1_0_0, x1_0_1, x1_1_0, x1_1_1⟩ : xw1.cell? ⟨w.heap.size, 0, none⟩ = some (.int .i64 ma) ∧ xw1.cell? ⟨w.heap.size, 1, none⟩ = some (.slice A na ca) ∧ xw1.cell? ⟨w.heap.size + 1, 0, none⟩ = some (.int .i64 mb) ∧ xw1.cell? ⟨w.heap.size + 1, 1, none⟩ = some (.slice B nb cb) := by refine ⟨?_, ?_, ?_, ?_⟩ <;> (rw [(bcell hbx1).1 _ _ (by first | (simp; done) | (simp; omega) | omega)]; simp [go_sem, World.cell?_alloc_past, *])
  obtain ⟨x1o0, x1n0, x1m0, x1t0_0, x1t0_1, x1o1, x1n1, x1m1, x1t1_0, x1t1_1⟩ : w.heap.size < xw1.heap.size ∧ xw1.heap.size ≠ w.heap.size ∧ w.heap.size ≠ xw1.heap.size ∧ w.heap.size < xw1.heap.size + 1 ∧ w.heap.size < xw1.heap.size + 1 + 1 ∧ w.heap.size + 1 < xw1.heap.size ∧ xw1.heap.size ≠ w.heap.size + 1 ∧ w.heap.size + 1 ≠ xw1.heap.size ∧ w.heap.size + 1 < xw1.heap.size + 1 ∧ w.heap.size + 1 < xw1.heap.size + 1 + 1 := by refine ⟨?_, ?_, ?_, ?_, ?_, ?_, ?_, ?_, ?_, ?_⟩ <;> omega
  have hBx1 : Below w.heap.size w xw1 := (by (repeat (first | (with_reducible refine Below.drew ?_) | (with_reducible refine below_drewN ?_ _) | (with_reducible refine Below.alloc ?_ (by first | omega | (simp; done) | (simp; omega) | (simp at *; omega)) _) | (with_reducible refine Below.setCell ?_ (by first | omega | (simp; done) | (simp; omega) | (simp at *; omega)) _) | (with_reducible exact Below.refl _ _) | (with_reducible assumption) | (with_reducible refine Below.trans ?_ (Below.mono (by assumption) (by first | omega | (simp; done) | (simp; omega) | (simp at *; omega)))))))
  clear hbx1 
  go_wp2_with fail
  refine (Few_is ma A na ca true _ (by omega) hfa).mono ?_
  rintro e xw2 ⟨rfl, hbx2⟩
  have zx2 := hbx2.size
  try simp at zx2
  obtain ⟨x2_0_0, x2_0_1, x2_1_0, x2_1_1⟩ : xw2.cell? ⟨w.heap.size, 0, none⟩ = some (.int .i64 ma) ∧ xw2.cell? ⟨w.heap.size, 1, none⟩ = some (.slice A na ca) ∧ xw2.cell? ⟨w.heap.size + 1, 0, none⟩ = some (.int .i64 mb) ∧ xw2.cell? ⟨w.heap.size + 1, 1, none⟩ = some (.slice B nb cb) := by refine ⟨?_, ?_, ?_, ?_⟩ <;> (rw [(bcell hbx2).1 _ _ (by first | (simp; done) | (simp; omega) | omega)]; simp [go_sem, World.cell?_alloc_past, *])
  obtain ⟨x2o0, x2n0, x2m0, x2t0_0, x2t0_1, x2o1, x2n1, x2m1, x2t1_0, x2t1_1⟩ : w.heap.size < xw2.heap.size ∧ xw2.heap.size ≠ w.heap.size ∧ w.heap.size ≠ xw2.heap.size ∧ w.heap.size < xw2.heap.size + 1 ∧ w.heap.size < xw2.heap.size + 1 + 1 ∧ w.heap.size + 1 < xw2.heap.size ∧ xw2.heap.size ≠ w.heap.size + 1 ∧ w.heap.size + 1 ≠ xw2.heap.size ∧ w.heap.size + 1 < xw2.heap.size + 1 ∧ w.heap.size + 1 < xw2.heap.size + 1 + 1 := by refine ⟨?_, ?_, ?_, ?_, ?_, ?_, ?_, ?_, ?_, ?_⟩ <;> omega
  have hBx2 : Below w.heap.size w xw2 := (by (repeat (first | (with_reducible refine Below.drew ?_) | (with_reducible refine below_drewN ?_ _) | (with_reducible refine Below.alloc ?_ (by first | omega | (simp; done) | (simp; omega) | (simp at *; omega)) _) | (with_reducible refine Below.setCell ?_ (by first | omega | (simp; done) | (simp; omega) | (simp at *; omega)) _) | (with_reducible exact Below.refl _ _) | (with_reducible assumption) | (with_reducible refine Below.trans ?_ (Below.mono (by assumption) (by first | omega | (simp; done) | (simp; omega) | (simp at *; omega)))))))
  clear hbx2 x1_0_0 x1_0_1 x1_1_0 x1_1_1 x1o0 x1n0 x1m0 x1t0_0 x1t0_1 x1o1 x1n1 x1m1 x1t1_0 x1t1_1 hBx1
  go_wp2_with fail
  refine (Few_is mb B nb cb true _ (by omega) hfb).mono ?_
  rintro e xw3 ⟨rfl, hbx3⟩
  have zx3 := hbx3.size
  try simp at zx3
  obtain ⟨x3_0_0, x3_0_1, x3_1_0, x3_1_1⟩ : xw3.cell? ⟨w.heap.size, 0, none⟩ = some (.int .i64 ma) ∧ xw3.cell? ⟨w.heap.size, 1, none⟩ = some (.slice A na ca) ∧ xw3.cell? ⟨w.heap.size + 1, 0, none⟩ = some (.int .i64 mb) ∧ xw3.cell? ⟨w.heap.size + 1, 1, none⟩ = some (.slice B nb cb) := by refine ⟨?_, ?_, ?_, ?_⟩ <;> (rw [(bcell hbx3).1 _ _ (by first | (simp; done) | (simp; omega) | omega)]; simp [go_sem, World.cell?_alloc_past, *])
  obtain ⟨x3o0, x3n0, x3m0, x3t0_0, x3t0_1, x3o1, x3n1, x3m1, x3t1_0, x3t1_1⟩ : w.heap.size < xw3.heap.size ∧ xw3.heap.size ≠ w.heap.size ∧ w.heap.size ≠ xw3.heap.size ∧ w.heap.size < xw3.heap.size + 1 ∧ w.heap.size < xw3.heap.size + 1 + 1 ∧ w.heap.size + 1 < xw3.heap.size ∧ xw3.heap.size ≠ w.heap.size + 1 ∧ w.heap.size + 1 ≠ xw3.heap.size ∧ w.heap.size + 1 < xw3.heap.size + 1 ∧ w.heap.size + 1 < xw3.heap.size + 1 + 1 := by refine ⟨?_, ?_, ?_, ?_, ?_, ?_, ?_, ?_, ?_, ?_⟩ <;> omega
  have hBx3 : Below w.heap.size w xw3 := (by (repeat (first | (with_reducible refine Below.drew ?_) | (with_reducible refine below_drewN ?_ _) | (with_reducible refine Below.alloc ?_ (by first | omega | (simp; done) | (simp; omega) | (simp at *; omega)) _) | (with_reducible refine Below.setCell ?_ (by first | omega | (simp; done) | (simp; omega) | (simp at *; omega)) _) | (with_reducible exact Below.refl _ _) | (with_reducible assumption) | (with_reducible refine Below.trans ?_ (Below.mono (by assumption) (by first | omega | (simp; done) | (simp; omega) | (simp at *; omega)))))))
  clear hbx3 x2_0_0 x2_0_1 x2_1_0 x2_1_1 x2o0 x2n0 x2m0 x2t0_0 x2t0_1 x2o1 x2n1 x2m1 x2t1_0 x2t1_1 hBx2
  go_wp2_with fail
  refine (refTide_is ma LA A ca na 0 _ hna na1 (Lib.hid (HRA.out _ (by (repeat (first | (with_reducible refine Below.drew ?_) | (with_reducible refine below_drewN ?_ _) | (with_reducible refine Below.alloc ?_ (by first | omega | (simp; done) | (simp; omega) | (simp at *; omega)) _) | (with_reducible refine Below.setCell ?_ (by first | omega | (simp; done) | (simp; omega) | (simp at *; omega)) _) | (with_reducible exact Below.refl _ _) | (with_reducible assumption) | (with_reducible refine Below.trans ?_ (Below.mono (by assumption) (by first | omega | (simp; done) | (simp; omega) | (simp at *; omega))))))))) hta).mono ?_
  rintro e xw4 ⟨rfl, hbx4⟩
  have zx4 := hbx4.size
  try simp at zx4
  obtain ⟨x4_0_0, x4_0_1, x4_1_0, x4_1_1⟩ : xw4.cell? ⟨w.heap.size, 0, none⟩ = some (.int .i64 ma) ∧ xw4.cell? ⟨w.heap.size, 1, none⟩ = some (.slice A na ca) ∧ xw4.cell? ⟨w.heap.size + 1, 0, none⟩ = some (.int .i64 mb) ∧ xw4.cell? ⟨w.heap.size + 1, 1, none⟩ = some (.slice B nb cb) := by refine ⟨?_, ?_, ?_, ?_⟩ <;> (rw [(bcell hbx4).1 _ _ (by first | (simp; done) | (simp; omega) | omega)]; simp [go_sem, World.cell?_alloc_past, *])
  obtain ⟨x4o0, x4n0, x4m0, x4t0_0, x4t0_1, x4o1, x4n1, x4m1, x4t1_0, x4t1_1⟩ : w.heap.size < xw4.heap.size ∧ xw4.heap.size ≠ w.heap.size ∧ w.heap.size ≠ xw4.heap.size ∧ w.heap.size < xw4.heap.size + 1 ∧ w.heap.size < xw4.heap.size + 1 + 1 ∧ w.heap.size + 1 < xw4.heap.size ∧ xw4.heap.size ≠ w.heap.size + 1 ∧ w.heap.size + 1 ≠ xw4.heap.size ∧ w.heap.size + 1 < xw4.heap.size + 1 ∧ w.heap.size + 1 < xw4.heap.size + 1 + 1 := by refine ⟨?_, ?_, ?_, ?_, ?_, ?_, ?_, ?_, ?_, ?_⟩ <;> omega
  have hBx4 : Below w.heap.size w xw4 := (by (repeat (first | (with_reducible refine Below.drew ?_) | (with_reducible refine below_drewN ?_ _) | (with_reducible refine Below.alloc ?_ (by first | omega | (simp; done) | (simp; omega) | (simp at *; omega)) _) | (with_reducible refine Below.setCell ?_ (by first | omega | (simp; done) | (simp; omega) | (simp at *; omega)) _) | (with_reducible exact Below.refl _ _) | (with_reducible assumption) | (with_reducible refine Below.trans ?_ (Below.mono (by assumption) (by first | omega | (simp; done) | (simp; omega) | (simp at *; omega)))))))
  clear hbx4 x3_0_0 x3_0_1 x3_1_0 x3_1_1 x3o0 x3n0 x3m0 x3t0_0 x3t0_1 x3o1 x3n1 x3m1 x3t1_0 x3t1_1 hBx3
  go_wp2_with fail
  refine (refTide_is mb LB B cb nb 0 _ hnb nb1 (Lib.hid (HRB.out _ (by (repeat (first | (with_reducible refine Below.drew ?_) | (with_reducible refine below_drewN ?_ _) | (with_reducible refine Below.alloc ?_ (by first | omega | (simp; done) | (simp; omega) | (simp at *; omega)) _) | (with_reducible refine Below.setCell ?_ (by first | omega | (simp; done) | (simp; omega) | (simp at *; omega)) _) | (with_reducible exact Below.refl _ _) | (with_reducible assumption) | (with_reducible refine Below.trans ?_ (Below.mono (by assumption) (by first | omega | (simp; done) | (simp; omega) | (simp at *; omega))))))))) htb).mono ?_
  rintro e xw5 ⟨rfl, hbx5⟩
  have zx5 := hbx5.size
  try simp at zx5
  obtain ⟨x5_0_0, x5_0_1, x5_1_0, x5_1_1⟩ : xw5.cell? ⟨w.heap.size, 0, none⟩ = some (.int .i64 ma) ∧ xw5.cell? ⟨w.heap.size, 1, none⟩ = some (.slice A na ca) ∧ xw5.cell? ⟨w.heap.size + 1, 0, none⟩ = some (.int .i64 mb) ∧ xw5.cell? ⟨w.heap.size + 1, 1, none⟩ = some (.slice B nb cb) := by refine ⟨?_, ?_, ?_, ?_⟩ <;> (rw [(bcell hbx5).1 _ _ (by first | (simp; done) | (simp; omega) | omega)]; simp [go_sem, World.cell?_alloc_past, *])
  obtain ⟨x5o0, x5n0, x5m0, x5t0_0, x5t0_1, x5o1, x5n1, x5m1, x5t1_0, x5t1_1⟩ : w.heap.size < xw5.heap.size ∧ xw5.heap.size ≠ w.heap.size ∧ w.heap.size ≠ xw5.heap.size ∧ w.heap.size < xw5.heap.size + 1 ∧ w.heap.size < xw5.heap.size + 1 + 1 ∧ w.heap.size + 1 < xw5.heap.size ∧ xw5.heap.size ≠ w.heap.size + 1 ∧ w.heap.size + 1 ≠ xw5.heap.size ∧ w.heap.size + 1 < xw5.heap.size + 1 ∧ w.heap.size + 1 < xw5.heap.size + 1 + 1 := by refine ⟨?_, ?_, ?_, ?_, ?_, ?_, ?_, ?_, ?_, ?_⟩ <;> omega
  have hBx5 : Below w.heap.size w xw5 := (by (repeat (first | (with_reducible refine Below.drew ?_) | (with_reducible refine below_drewN ?_ _) | (with_reducible refine Below.alloc ?_ (by first | omega | (simp; done) | (simp; omega) | (simp at *; omega)) _) | (with_reducible refine Below.setCell ?_ (by first | omega | (simp; done) | (simp; omega) | (simp at *; omega)) _) | (with_reducible exact Below.refl _ _) | (with_reducible assumption) | (with_reducible refine Below.trans ?_ (Below.mono (by assumption) (by first | omega | (simp; done) | (simp; omega) | (simp at *; omega)))))))
  clear hbx5 x4_0_0 x4_0_1 x4_1_0 x4_1_1 x4o0 x4n0 x4m0 x4t0_0 x4t0_1 x4o1 x4n1 x4m1 x4t1_0 x4t1_1 hBx4
  go_wp2
  go_ret
  exact ⟨rfl, (by (repeat (first | (with_reducible refine Below.drew ?_) | (with_reducible refine below_drewN ?_ _) | (with_reducible refine Below.alloc ?_ (by first | omega | (simp; done) | (simp; omega) | (simp at *; omega)) _) | (with_reducible refine Below.setCell ?_ (by first | omega | (simp; done) | (simp; omega) | (simp at *; omega)) _) | (with_reducible exact Below.refl _ _) | (with_reducible assumption) | (with_reducible refine Below.trans ?_ (Below.mono (by assumption) (by first | omega | (simp; done) | (simp; omega) | (simp at *; omega)))))))⟩
set_option maxRecDepth 100000 in
set_option maxHeartbeats 8000000 in
theorem topTides_f5 (ma mb t : Int) (LA LB : List Wv) (A B : Option Addr) (na nb ca cb : Nat) (w : World) (hna : Hid (na = LA.length)) (hnb : Hid (nb = LB.length)) (na1 : na ≤ 1000000) (nb1 : nb ≤ 1000000) (HRA : Hid (∀ w' : World, Below w.heap.size w w' → SlRows wvV 3 w' A LA)) (HRB : Hid (∀ w' : World, Below w.heap.size w w' → SlRows wvV 3 w' B LB)) (hfa : Hid (fewB na = true)) (hfb : Hid (fewB nb = true)) (hta : Hid (tidE ma LA = 0)) (htb : Hid (tidE mb LB = 0)) (hlen : na + nb ≤ 10) (ma0 : -100000 ≤ ma) (ma1 : ma ≤ 100000) (mb0 : -100000 ≤ mb) (mb1 : mb ≤ 100000) (hws : Hid (inB (ma + mb) (-100000) 100000 = false)) :
    Calls Try.prog 3 #[.agg #[.int .i64 ma, .slice A na ca], .agg #[.int .i64 mb, .slice B nb cb], .int .i64 t] w fun e w' => e = .returned (.bool true) ∧ Below w.heap.size w w' := by
  have i1 : IntKind.i64.wrap ((na : Int) + nb) = (na : Int) + nb := IntWalk.i64_in _ (by omega)
  have i2 : ¬ (10 : Int) < (na : Int) + nb := by omega
  have i3 : IntKind.i64.wrap (ma + mb) = ma + mb := IntWalk.i64_in _ (by omega)
  go_enter Try.func3, Try.ntmps3
  go_wp2_with fail
  refine (tidal_any _).mono ?_
  rintro e xw1 ⟨rfl, hbx1⟩
  have zx1 := hbx1.size
  try simp at zx1
  obtain ⟨x1_0_0, x1_0_1, x1_1_0, x1_1_1⟩ : xw1.cell? ⟨w.heap.size, 0, none⟩ = some (.int .i64 ma) ∧ xw1.cell? ⟨w.heap.size, 1, none⟩ = some (.slice A na ca) ∧ xw1.cell? ⟨w.heap.size + 1, 0, none⟩ = some (.int .i64 mb) ∧ xw1.cell? ⟨w.heap.size + 1, 1, none⟩ = some (.slice B nb cb) := by refine ⟨?_, ?_, ?_, ?_⟩ <;> (rw [(bcell hbx1).1 _ _ (by first | (simp; done) | (simp; omega) | omega)]; simp [go_sem, World.cell?_alloc_past, *])
  obtain ⟨x1o0, x1n0, x1m0, x1t0_0, x1t0_1, x1o1, x1n1, x1m1, x1t1_0, x1t1_1⟩ : w.heap.size < xw1.heap.size ∧ xw1.heap.size ≠ w.heap.size ∧ w.heap.size ≠ xw1.heap.size ∧ w.heap.size < xw1.heap.size + 1 ∧ w.heap.size < xw1.heap.size + 1 + 1 ∧ w.heap.size + 1 < xw1.heap.size ∧ xw1.heap.size ≠ w.heap.size + 1 ∧ w.heap.size + 1 ≠ xw1.heap.size ∧ w.heap.size + 1 < xw1.heap.size + 1 ∧ w.heap.size + 1 < xw1.heap.size + 1 + 1 := by refine ⟨?_, ?_, ?_, ?_, ?_, ?_, ?_, ?_, ?_, ?_⟩ <;> omega
  have hBx1 : Below w.heap.size w xw1 := (by (repeat (first | (with_reducible refine Below.drew ?_) | (with_reducible refine below_drewN ?_ _) | (with_reducible refine Below.alloc ?_ (by first | omega | (simp; done) | (simp; omega) | (simp at *; omega)) _) | (with_reducible refine Below.setCell ?_ (by first | omega | (simp; done) | (simp; omega) | (simp at *; omega)) _) | (with_reducible exact Below.refl _ _) | (with_reducible assumption) | (with_reducible refine Below.trans ?_ (Below.mono (by assumption) (by first | omega | (simp; done) | (simp; omega) | (simp at *; omega)))))))
  clear hbx1 
  go_wp2_with fail
  refine (Few_is ma A na ca true _ (by omega) hfa).mono ?_
  rintro e xw2 ⟨rfl, hbx2⟩
  have zx2 := hbx2.size
  try simp at zx2
  obtain ⟨x2_0_0, x2_0_1, x2_1_0, x2_1_1⟩ : xw2.cell? ⟨w.heap.size, 0, none⟩ = some (.int .i64 ma) ∧ xw2.cell? ⟨w.heap.size, 1, none⟩ = some (.slice A na ca) ∧ xw2.cell? ⟨w.heap.size + 1, 0, none⟩ = some (.int .i64 mb) ∧ xw2.cell? ⟨w.heap.size + 1, 1, none⟩ = some (.slice B nb cb) := by refine ⟨?_, ?_, ?_, ?_⟩ <;> (rw [(bcell hbx2).1 _ _ (by first | (simp; done) | (simp; omega) | omega)]; simp [go_sem, World.cell?_alloc_past, *])
  obtain ⟨x2o0, x2n0, x2m0, x2t0_0, x2t0_1, x2o1, x2n1, x2m1, x2t1_0, x2t1_1⟩ : w.heap.size < xw2.heap.size ∧ xw2.heap.size ≠ w.heap.size ∧ w.heap.size ≠ xw2.heap.size ∧ w.heap.size < xw2.heap.size + 1 ∧ w.heap.size < xw2.heap.size + 1 + 1 ∧ w.heap.size + 1 < xw2.heap.size ∧ xw2.heap.size ≠ w.heap.size + 1 ∧ w.heap.size + 1 ≠ xw2.heap.size ∧ w.heap.size + 1 < xw2.heap.size + 1 ∧ w.heap.size + 1 < xw2.heap.size + 1 + 1 := by refine ⟨?_, ?_, ?_, ?_, ?_, ?_, ?_, ?_, ?_, ?_⟩ <;> omega
  have hBx2 : Below w.heap.size w xw2 := (by (repeat (first | (with_reducible refine Below.drew ?_) | (with_reducible refine below_drewN ?_ _) | (with_reducible refine Below.alloc ?_ (by first | omega | (simp; done) | (simp; omega) | (simp at *; omega)) _) | (with_reducible refine Below.setCell ?_ (by first | omega | (simp; done) | (simp; omega) | (simp at *; omega)) _) | (with_reducible exact Below.refl _ _) | (with_reducible assumption) | (with_reducible refine Below.trans ?_ (Below.mono (by assumption) (by first | omega | (simp; done) | (simp; omega) | (simp at *; omega)))))))
  clear hbx2 x1_0_0 x1_0_1 x1_1_0 x1_1_1 x1o0 x1n0 x1m0 x1t0_0 x1t0_1 x1o1 x1n1 x1m1 x1t1_0 x1t1_1 hBx1
  go_wp2_with fail
  refine (Few_is mb B nb cb true _ (by omega) hfb).mono ?_
  rintro e xw3 ⟨rfl, hbx3⟩
  have zx3 := hbx3.size
  try simp at zx3
  obtain ⟨x3_0_0, x3_0_1, x3_1_0, x3_1_1⟩ : xw3.cell? ⟨w.heap.size, 0, none⟩ = some (.int .i64 ma) ∧ xw3.cell? ⟨w.heap.size, 1, none⟩ = some (.slice A na ca) ∧ xw3.cell? ⟨w.heap.size + 1, 0, none⟩ = some (.int .i64 mb) ∧ xw3.cell? ⟨w.heap.size + 1, 1, none⟩ = some (.slice B nb cb) := by refine ⟨?_, ?_, ?_, ?_⟩ <;> (rw [(bcell hbx3).1 _ _ (by first | (simp; done) | (simp; omega) | omega)]; simp [go_sem, World.cell?_alloc_past, *])
  obtain ⟨x3o0, x3n0, x3m0, x3t0_0, x3t0_1, x3o1, x3n1, x3m1, x3t1_0, x3t1_1⟩ : w.heap.size < xw3.heap.size ∧ xw3.heap.size ≠ w.heap.size ∧ w.heap.size ≠ xw3.heap.size ∧ w.heap.size < xw3.heap.size + 1 ∧ w.heap.size < xw3.heap.size + 1 + 1 ∧ w.heap.size + 1 < xw3.heap.size ∧ xw3.heap.size ≠ w.heap.size + 1 ∧ w.heap.size + 1 ≠ xw3.heap.size ∧ w.heap.size + 1 < xw3.heap.size + 1 ∧ w.heap.size + 1 < xw3.heap.size + 1 + 1 := by refine ⟨?_, ?_, ?_, ?_, ?_, ?_, ?_, ?_, ?_, ?_⟩ <;> omega
  have hBx3 : Below w.heap.size w xw3 := (by (repeat (first | (with_reducible refine Below.drew ?_) | (with_reducible refine below_drewN ?_ _) | (with_reducible refine Below.alloc ?_ (by first | omega | (simp; done) | (simp; omega) | (simp at *; omega)) _) | (with_reducible refine Below.setCell ?_ (by first | omega | (simp; done) | (simp; omega) | (simp at *; omega)) _) | (with_reducible exact Below.refl _ _) | (with_reducible assumption) | (with_reducible refine Below.trans ?_ (Below.mono (by assumption) (by first | omega | (simp; done) | (simp; omega) | (simp at *; omega)))))))
  clear hbx3 x2_0_0 x2_0_1 x2_1_0 x2_1_1 x2o0 x2n0 x2m0 x2t0_0 x2t0_1 x2o1 x2n1 x2m1 x2t1_0 x2t1_1 hBx2
  go_wp2_with fail
  refine (refTide_is ma LA A ca na 0 _ hna na1 (Lib.hid (HRA.out _ (by (repeat (first | (with_reducible refine Below.drew ?_) | (with_reducible refine below_drewN ?_ _) | (with_reducible refine Below.alloc ?_ (by first | omega | (simp; done) | (simp; omega) | (simp at *; omega)) _) | (with_reducible refine Below.setCell ?_ (by first | omega | (simp; done) | (simp; omega) | (simp at *; omega)) _) | (with_reducible exact Below.refl _ _) | (with_reducible assumption) | (with_reducible refine Below.trans ?_ (Below.mono (by assumption) (by first | omega | (simp; done) | (simp; omega) | (simp at *; omega))))))))) hta).mono ?_
  rintro e xw4 ⟨rfl, hbx4⟩
  have zx4 := hbx4.size
  try simp at zx4
  obtain ⟨x4_0_0, x4_0_1, x4_1_0, x4_1_1⟩ : xw4.cell? ⟨w.heap.size, 0, none⟩ = some (.int .i64 ma) ∧ xw4.cell? ⟨w.heap.size, 1, none⟩ = some (.slice A na ca) ∧ xw4.cell? ⟨w.heap.size + 1, 0, none⟩ = some (.int .i64 mb) ∧ xw4.cell? ⟨w.heap.size + 1, 1, none⟩ = some (.slice B nb cb) := by refine ⟨?_, ?_, ?_, ?_⟩ <;> (rw [(bcell hbx4).1 _ _ (by first | (simp; done) | (simp; omega) | omega)]; simp [go_sem, World.cell?_alloc_past, *])
  obtain ⟨x4o0, x4n0, x4m0, x4t0_0, x4t0_1, x4o1, x4n1, x4m1, x4t1_0, x4t1_1⟩ : w.heap.size < xw4.heap.size ∧ xw4.heap.size ≠ w.heap.size ∧ w.heap.size ≠ xw4.heap.size ∧ w.heap.size < xw4.heap.size + 1 ∧ w.heap.size < xw4.heap.size + 1 + 1 ∧ w.heap.size + 1 < xw4.heap.size ∧ xw4.heap.size ≠ w.heap.size + 1 ∧ w.heap.size + 1 ≠ xw4.heap.size ∧ w.heap.size + 1 < xw4.heap.size + 1 ∧ w.heap.size + 1 < xw4.heap.size + 1 + 1 := by refine ⟨?_, ?_, ?_, ?_, ?_, ?_, ?_, ?_, ?_, ?_⟩ <;> omega
  have hBx4 : Below w.heap.size w xw4 := (by (repeat (first | (with_reducible refine Below.drew ?_) | (with_reducible refine below_drewN ?_ _) | (with_reducible refine Below.alloc ?_ (by first | omega | (simp; done) | (simp; omega) | (simp at *; omega)) _) | (with_reducible refine Below.setCell ?_ (by first | omega | (simp; done) | (simp; omega) | (simp at *; omega)) _) | (with_reducible exact Below.refl _ _) | (with_reducible assumption) | (with_reducible refine Below.trans ?_ (Below.mono (by assumption) (by first | omega | (simp; done) | (simp; omega) | (simp at *; omega)))))))
  clear hbx4 x3_0_0 x3_0_1 x3_1_0 x3_1_1 x3o0 x3n0 x3m0 x3t0_0 x3t0_1 x3o1 x3n1 x3m1 x3t1_0 x3t1_1 hBx3
  go_wp2_with fail
  refine (refTide_is mb LB B cb nb 0 _ hnb nb1 (Lib.hid (HRB.out _ (by (repeat (first | (with_reducible refine Below.drew ?_) | (with_reducible refine below_drewN ?_ _) | (with_reducible refine Below.alloc ?_ (by first | omega | (simp; done) | (simp; omega) | (simp at *; omega)) _) | (with_reducible refine Below.setCell ?_ (by first | omega | (simp; done) | (simp; omega) | (simp at *; omega)) _) | (with_reducible exact Below.refl _ _) | (with_reducible assumption) | (with_reducible refine Below.trans ?_ (Below.mono (by assumption) (by first | omega | (simp; done) | (simp; omega) | (simp at *; omega))))))))) htb).mono ?_
  rintro e xw5 ⟨rfl, hbx5⟩
  have zx5 := hbx5.size
  try simp at zx5
  obtain ⟨x5_0_0, x5_0_1, x5_1_0, x5_1_1⟩ : xw5.cell? ⟨w.heap.size, 0, none⟩ = some (.int .i64 ma) ∧ xw5.cell? ⟨w.heap.size, 1, none⟩ = some (.slice A na ca) ∧ xw5.cell? ⟨w.heap.size + 1, 0, none⟩ = some (.int .i64 mb) ∧ xw5.cell? ⟨w.heap.size + 1, 1, none⟩ = some (.slice B nb cb) := by refine ⟨?_, ?_, ?_, ?_⟩ <;> (rw [(bcell hbx5).1 _ _ (by first | (simp; done) | (simp; omega) | omega)]; simp [go_sem, World.cell?_alloc_past, *])
  obtain ⟨x5o0, x5n0, x5m0, x5t0_0, x5t0_1, x5o1, x5n1, x5m1, x5t1_0, x5t1_1⟩ : w.heap.size < xw5.heap.size ∧ xw5.heap.size ≠ w.heap.size ∧ w.heap.size ≠ xw5.heap.size ∧ w.heap.size < xw5.heap.size + 1 ∧ w.heap.size < xw5.heap.size + 1 + 1 ∧ w.heap.size + 1 < xw5.heap.size ∧ xw5.heap.size ≠ w.heap.size + 1 ∧ w.heap.size + 1 ≠ xw5.heap.size ∧ w.heap.size + 1 < xw5.heap.size + 1 ∧ w.heap.size + 1 < xw5.heap.size + 1 + 1 := by refine ⟨?_, ?_, ?_, ?_, ?_, ?_, ?_, ?_, ?_, ?_⟩ <;> omega
  have hBx5 : Below w.heap.size w xw5 := (by (repeat (first | (with_reducible refine Below.drew ?_) | (with_reducible refine below_drewN ?_ _) | (with_reducible refine Below.alloc ?_ (by first | omega | (simp; done) | (simp; omega) | (simp at *; omega)) _) | (with_reducible refine Below.setCell ?_ (by first | omega | (simp; done) | (simp; omega) | (simp at *; omega)) _) | (with_reducible exact Below.refl _ _) | (with_reducible assumption) | (with_reducible refine Below.trans ?_ (Below.mono (by assumption) (by first | omega | (simp; done) | (simp; omega) | (simp at *; omega)))))))
  clear hbx5 x4_0_0 x4_0_1 x4_1_0 x4_1_1 x4o0 x4n0 x4m0 x4t0_0 x4t0_1 x4o1 x4n1 x4m1 x4t1_0 x4t1_1 hBx4
  go_wp2_with (first | (go_at_call 7; ((with_reducible refine (bW_is _ _ _ false _ hws).mono ?_)); rintro e w' ⟨rfl, rfl⟩))
  go_ret
  exact ⟨rfl, (by (repeat (first | (with_reducible refine Below.drew ?_) | (with_reducible refine below_drewN ?_ _) | (with_reducible refine Below.alloc ?_ (by first | omega | (simp; done) | (simp; omega) | (simp at *; omega)) _) | (with_reducible refine Below.setCell ?_ (by first | omega | (simp; done) | (simp; omega) | (simp at *; omega)) _) | (with_reducible exact Below.refl _ _) | (with_reducible assumption) | (with_reducible refine Below.trans ?_ (Below.mono (by assumption) (by first | omega | (simp; done) | (simp; omega) | (simp at *; omega)))))))⟩
set_option maxRecDepth 100000 in
set_option maxHeartbeats 8000000 in
theorem topTides_f6 (ma mb t : Int) (LA LB : List Wv) (A B : Option Addr) (na nb ca cb : Nat) (w : World) (hna : Hid (na = LA.length)) (hnb : Hid (nb = LB.length)) (na1 : na ≤ 1000000) (nb1 : nb ≤ 1000000) (HRA : Hid (∀ w' : World, Below w.heap.size w w' → SlRows wvV 3 w' A LA)) (HRB : Hid (∀ w' : World, Below w.heap.size w w' → SlRows wvV 3 w' B LB)) (hfa : Hid (fewB na = true)) (hfb : Hid (fewB nb = true)) (hta : Hid (tidE ma LA = 0)) (htb : Hid (tidE mb LB = 0)) (hlen : na + nb ≤ 10) (ma0 : -100000 ≤ ma) (ma1 : ma ≤ 100000) (mb0 : -100000 ≤ mb) (mb1 : mb ≤ 100000) (hws : Hid (inB (ma + mb) (-100000) 100000 = true)) (hmin : Hid (inB t 0 1000000 = false)) :
    Calls Try.prog 3 #[.agg #[.int .i64 ma, .slice A na ca], .agg #[.int .i64 mb, .slice B nb cb], .int .i64 t] w fun e w' => e = .returned (.bool true) ∧ Below w.heap.size w w' := by
  have i1 : IntKind.i64.wrap ((na : Int) + nb) = (na : Int) + nb := IntWalk.i64_in _ (by omega)
  have i2 : ¬ (10 : Int) < (na : Int) + nb := by omega
  have i3 : IntKind.i64.wrap (ma + mb) = ma + mb := IntWalk.i64_in _ (by omega)
  go_enter Try.func3, Try.ntmps3
  go_wp2_with fail
  refine (tidal_any _).mono ?_
  rintro e xw1 ⟨rfl, hbx1⟩
  have zx1 := hbx1.size
  try simp at zx1
  obtain ⟨x1_0_0, x1_0_1, x1_1_0, x1_1_1⟩ : xw1.cell? ⟨w.heap.size, 0, none⟩ = some (.int .i64 ma) ∧ xw1.cell? ⟨w.heap.size, 1, none⟩ = some (.slice A na ca) ∧ xw1.cell? ⟨w.heap.size + 1, 0, none⟩ = some (.int .i64 mb) ∧ xw1.cell? ⟨w.heap.size + 1, 1, none⟩ = some (.slice B nb cb) := by refine ⟨?_, ?_, ?_, ?_⟩ <;> (rw [(bcell hbx1).1 _ _ (by first | (simp; done) | (simp; omega) | omega)]; simp [go_sem, World.cell?_alloc_past, *])
  obtain ⟨x1o0, x1n0, x1m0, x1t0_0, x1t0_1, x1o1, x1n1, x1m1, x1t1_0, x1t1_1⟩ : w.heap.size < xw1.heap.size ∧ xw1.heap.size ≠ w.heap.size ∧ w.heap.size ≠ xw1.heap.size ∧ w.heap.size < xw1.heap.size + 1 ∧ w.heap.size < xw1.heap.size + 1 + 1 ∧ w.heap.size + 1 < xw1.heap.size ∧ xw1.heap.size ≠ w.heap.size + 1 ∧ w.heap.size + 1 ≠ xw1.heap.size ∧ w.heap.size + 1 < xw1.heap.size + 1 ∧ w.heap.size + 1 < xw1.heap.size + 1 + 1 := by refine ⟨?_, ?_, ?_, ?_, ?_, ?_, ?_, ?_, ?_, ?_⟩ <;> omega
  have hBx1 : Below w.heap.size w xw1 := (by (repeat (first | (with_reducible refine Below.drew ?_) | (with_reducible refine below_drewN ?_ _) | (with_reducible refine Below.alloc ?_ (by first | omega | (simp; done) | (simp; omega) | (simp at *; omega)) _) | (with_reducible refine Below.setCell ?_ (by first | omega | (simp; done) | (simp; omega) | (simp at *; omega)) _) | (with_reducible exact Below.refl _ _) | (with_reducible assumption) | (with_reducible refine Below.trans ?_ (Below.mono (by assumption) (by first | omega | (simp; done) | (simp; omega) | (simp at *; omega)))))))
  clear hbx1 
  go_wp2_with fail
  refine (Few_is ma A na ca true _ (by omega) hfa).mono ?_
  rintro e xw2 ⟨rfl, hbx2⟩
  have zx2 := hbx2.size
  try simp at zx2
  obtain ⟨x2_0_0, x2_0_1, x2_1_0, x2_1_1⟩ : xw2.cell? ⟨w.heap.size, 0, none⟩ = some (.int .i64 ma) ∧ xw2.cell? ⟨w.heap.size, 1, none⟩ = some (.slice A na ca) ∧ xw2.cell? ⟨w.heap.size + 1, 0, none⟩ = some (.int .i64 mb) ∧ xw2.cell? ⟨w.heap.size + 1, 1, none⟩ = some (.slice B nb cb) := by refine ⟨?_, ?_, ?_, ?_⟩ <;> (rw [(bcell hbx2).1 _ _ (by first | (simp; done) | (simp; omega) | omega)]; simp [go_sem, World.cell?_alloc_past, *])
  obtain ⟨x2o0, x2n0, x2m0, x2t0_0, x2t0_1, x2o1, x2n1, x2m1, x2t1_0, x2t1_1⟩ : w.heap.size < xw2.heap.size ∧ xw2.heap.size ≠ w.heap.size ∧ w.heap.size ≠ xw2.heap.size ∧ w.heap.size < xw2.heap.size + 1 ∧ w.heap.size < xw2.heap.size + 1 + 1 ∧ w.heap.size + 1 < xw2.heap.size ∧ xw2.heap.size ≠ w.heap.size + 1 ∧ w.heap.size + 1 ≠ xw2.heap.size ∧ w.heap.size + 1 < xw2.heap.size + 1 ∧ w.heap.size + 1 < xw2.heap.size + 1 + 1 := by refine ⟨?_, ?_, ?_, ?_, ?_, ?_, ?_, ?_, ?_, ?_⟩ <;> omega
  have hBx2 : Below w.heap.size w xw2 := (by (repeat (first | (with_reducible refine Below.drew ?_) | (with_reducible refine below_drewN ?_ _) | (with_reducible refine Below.alloc ?_ (by first | omega | (simp; done) | (simp; omega) | (simp at *; omega)) _) | (with_reducible refine Below.setCell ?_ (by first | omega | (simp; done) | (simp; omega) | (simp at *; omega)) _) | (with_reducible exact Below.refl _ _) | (with_reducible assumption) | (with_reducible refine Below.trans ?_ (Below.mono (by assumption) (by first | omega | (simp; done) | (simp; omega) | (simp at *; omega)))))))
  clear hbx2 x1_0_0 x1_0_1 x1_1_0 x1_1_1 x1o0 x1n0 x1m0 x1t0_0 x1t0_1 x1o1 x1n1 x1m1 x1t1_0 x1t1_1 hBx1
  go_wp2_with fail
  refine (Few_is mb B nb cb true _ (by omega) hfb).mono ?_
  rintro e xw3 ⟨rfl, hbx3⟩
  have zx3 := hbx3.size
  try simp at zx3
  obtain ⟨x3_0_0, x3_0_1, x3_1_0, x3_1_1⟩ : xw3.cell? ⟨w.heap.size, 0, none⟩ = some (.int .i64 ma) ∧ xw3.cell? ⟨w.heap.size, 1, none⟩ = some (.slice A na ca) ∧ xw3.cell? ⟨w.heap.size + 1, 0, none⟩ = some (.int .i64 mb) ∧ xw3.cell? ⟨w.heap.size + 1, 1, none⟩ = some (.slice B nb cb) := by refine ⟨?_, ?_, ?_, ?_⟩ <;> (rw [(bcell hbx3).1 _ _ (by first | (simp; done) | (simp; omega) | omega)]; simp [go_sem, World.cell?_alloc_past, *])
  obtain ⟨x3o0, x3n0, x3m0, x3t0_0, x3t0_1, x3o1, x3n1, x3m1, x3t1_0, x3t1_1⟩ : w.heap.size < xw3.heap.size ∧ xw3.heap.size ≠ w.heap.size ∧ w.heap.size ≠ xw3.heap.size ∧ w.heap.size < xw3.heap.size + 1 ∧ w.heap.size < xw3.heap.size + 1 + 1 ∧ w.heap.size + 1 < xw3.heap.size ∧ xw3.heap.size ≠ w.heap.size + 1 ∧ w.heap.size + 1 ≠ xw3.heap.size ∧ w.heap.size + 1 < xw3.heap.size + 1 ∧ w.heap.size + 1 < xw3.heap.size + 1 + 1 := by refine ⟨?_, ?_, ?_, ?_, ?_, ?_, ?_, ?_, ?_, ?_⟩ <;> omega
  have hBx3 : Below w.heap.size w xw3 := (by (repeat (first | (with_reducible refine Below.drew ?_) | (with_reducible refine below_drewN ?_ _) | (with_reducible refine Below.alloc ?_ (by first | omega | (simp; done) | (simp; omega) | (simp at *; omega)) _) | (with_reducible refine Below.setCell ?_ (by first | omega | (simp; done) | (simp; omega) | (simp at *; omega)) _) | (with_reducible exact Below.refl _ _) | (with_reducible assumption) | (with_reducible refine Below.trans ?_ (Below.mono (by assumption) (by first | omega | (simp; done) | (simp; omega) | (simp at *; omega)))))))
  clear hbx3 x2_0_0 x2_0_1 x2_1_0 x2_1_1 x2o0 x2n0 x2m0 x2t0_0 x2t0_1 x2o1 x2n1 x2m1 x2t1_0 x2t1_1 hBx2
  go_wp2_with fail
  refine (refTide_is ma LA A ca na 0 _ hna na1 (Lib.hid (HRA.out _ (by (repeat (first | (with_reducible refine Below.drew ?_) | (with_reducible refine below_drewN ?_ _) | (with_reducible refine Below.alloc ?_ (by first | omega | (simp; done) | (simp; omega) | (simp at *; omega)) _) | (with_reducible refine Below.setCell ?_ (by first | omega | (simp; done) | (simp; omega) | (simp at *; omega)) _) | (with_reducible exact Below.refl _ _) | (with_reducible assumption) | (with_reducible refine Below.trans ?_ (Below.mono (by assumption) (by first | omega | (simp; done) | (simp; omega) | (simp at *; omega))))))))) hta).mono ?_
  rintro e xw4 ⟨rfl, hbx4⟩
  have zx4 := hbx4.size
  try simp at zx4
  obtain ⟨x4_0_0, x4_0_1, x4_1_0, x4_1_1⟩ : xw4.cell? ⟨w.heap.size, 0, none⟩ = some (.int .i64 ma) ∧ xw4.cell? ⟨w.heap.size, 1, none⟩ = some (.slice A na ca) ∧ xw4.cell? ⟨w.heap.size + 1, 0, none⟩ = some (.int .i64 mb) ∧ xw4.cell? ⟨w.heap.size + 1, 1, none⟩ = some (.slice B nb cb) := by refine ⟨?_, ?_, ?_, ?_⟩ <;> (rw [(bcell hbx4).1 _ _ (by first | (simp; done) | (simp; omega) | omega)]; simp [go_sem, World.cell?_alloc_past, *])
  obtain ⟨x4o0, x4n0, x4m0, x4t0_0, x4t0_1, x4o1, x4n1, x4m1, x4t1_0, x4t1_1⟩ : w.heap.size < xw4.heap.size ∧ xw4.heap.size ≠ w.heap.size ∧ w.heap.size ≠ xw4.heap.size ∧ w.heap.size < xw4.heap.size + 1 ∧ w.heap.size < xw4.heap.size + 1 + 1 ∧ w.heap.size + 1 < xw4.heap.size ∧ xw4.heap.size ≠ w.heap.size + 1 ∧ w.heap.size + 1 ≠ xw4.heap.size ∧ w.heap.size + 1 < xw4.heap.size + 1 ∧ w.heap.size + 1 < xw4.heap.size + 1 + 1 := by refine ⟨?_, ?_, ?_, ?_, ?_, ?_, ?_, ?_, ?_, ?_⟩ <;> omega
  have hBx4 : Below w.heap.size w xw4 := (by (repeat (first | (with_reducible refine Below.drew ?_) | (with_reducible refine below_drewN ?_ _) | (with_reducible refine Below.alloc ?_ (by first | omega | (simp; done) | (simp; omega) | (simp at *; omega)) _) | (with_reducible refine Below.setCell ?_ (by first | omega | (simp; done) | (simp; omega) | (simp at *; omega)) _) | (with_reducible exact Below.refl _ _) | (with_reducible assumption) | (with_reducible refine Below.trans ?_ (Below.mono (by assumption) (by first | omega | (simp; done) | (simp; omega) | (simp at *; omega)))))))
  clear hbx4 x3_0_0 x3_0_1 x3_1_0 x3_1_1 x3o0 x3n0 x3m0 x3t0_0 x3t0_1 x3o1 x3n1 x3m1 x3t1_0 x3t1_1 hBx3
  go_wp2_with fail
  refine (refTide_is mb LB B cb nb 0 _ hnb nb1 (Lib.hid (HRB.out _ (by (repeat (first | (with_reducible refine Below.drew ?_) | (with_reducible refine below_drewN ?_ _) | (with_reducible refine Below.alloc ?_ (by first | omega | (simp; done) | (simp; omega) | (simp at *; omega)) _) | (with_reducible refine Below.setCell ?_ (by first | omega | (simp; done) | (simp; omega) | (simp at *; omega)) _) | (with_reducible exact Below.refl _ _) | (with_reducible assumption) | (with_reducible refine Below.trans ?_ (Below.mono (by assumption) (by first | omega | (simp; done) | (simp; omega) | (simp at *; omega))))))))) htb).mono ?_
  rintro e xw5 ⟨rfl, hbx5⟩
  have zx5 := hbx5.size
  try simp at zx5
  obtain ⟨x5_0_0, x5_0_1, x5_1_0, x5_1_1⟩ : xw5.cell? ⟨w.heap.size, 0, none⟩ = some (.int .i64 ma) ∧ xw5.cell? ⟨w.heap.size, 1, none⟩ = some (.slice A na ca) ∧ xw5.cell? ⟨w.heap.size + 1, 0, none⟩ = some (.int .i64 mb) ∧ xw5.cell? ⟨w.heap.size + 1, 1, none⟩ = some (.slice B nb cb) := by refine ⟨?_, ?_, ?_, ?_⟩ <;> (rw [(bcell hbx5).1 _ _ (by first | (simp; done) | (simp; omega) | omega)]; simp [go_sem, World.cell?_alloc_past, *])
  obtain ⟨x5o0, x5n0, x5m0, x5t0_0, x5t0_1, x5o1, x5n1, x5m1, x5t1_0, x5t1_1⟩ : w.heap.size < xw5.heap.size ∧ xw5.heap.size ≠ w.heap.size ∧ w.heap.size ≠ xw5.heap.size ∧ w.heap.size < xw5.heap.size + 1 ∧ w.heap.size < xw5.heap.size + 1 + 1 ∧ w.heap.size + 1 < xw5.heap.size ∧ xw5.heap.size ≠ w.heap.size + 1 ∧ w.heap.size + 1 ≠ xw5.heap.size ∧ w.heap.size + 1 < xw5.heap.size + 1 ∧ w.heap.size + 1 < xw5.heap.size + 1 + 1 := by refine ⟨?_, ?_, ?_, ?_, ?_, ?_, ?_, ?_, ?_, ?_⟩ <;> omega
  have hBx5 : Below w.heap.size w xw5 := (by (repeat (first | (with_reducible refine Below.drew ?_) | (with_reducible refine below_drewN ?_ _) | (with_reducible refine Below.alloc ?_ (by first | omega | (simp; done) | (simp; omega) | (simp at *; omega)) _) | (with_reducible refine Below.setCell ?_ (by first | omega | (simp; done) | (simp; omega) | (simp at *; omega)) _) | (with_reducible exact Below.refl _ _) | (with_reducible assumption) | (with_reducible refine Below.trans ?_ (Below.mono (by assumption) (by first | omega | (simp; done) | (simp; omega) | (simp at *; omega)))))))
  clear hbx5 x4_0_0 x4_0_1 x4_1_0 x4_1_1 x4o0 x4n0 x4m0 x4t0_0 x4t0_1 x4o1 x4n1 x4m1 x4t1_0 x4t1_1 hBx4
  go_wp2_with (first | (go_at_call 7; ((with_reducible refine (bW_is _ _ _ true _ hws).mono ?_)); rintro e w' ⟨rfl, rfl⟩) | (go_at_call 8; ((with_reducible refine (isMin_is _ false _ hmin).mono ?_)); rintro e w' ⟨rfl, rfl⟩))
  go_ret
  exact ⟨rfl, (by (repeat (first | (with_reducible refine Below.drew ?_) | (with_reducible refine below_drewN ?_ _) | (with_reducible refine Below.alloc ?_ (by first | omega | (simp; done) | (simp; omega) | (simp at *; omega)) _) | (with_reducible refine Below.setCell ?_ (by first | omega | (simp; done) | (simp; omega) | (simp at *; omega)) _) | (with_reducible exact Below.refl _ _) | (with_reducible assumption) | (with_reducible refine Below.trans ?_ (Below.mono (by assumption) (by first | omega | (simp; done) | (simp; omega) | (simp at *; omega)))))))⟩
def S7 (p3 p4 : Nat) (ma mb : Int) (A B : Option Addr) (na nb ca cb : Nat) (V : World) : Prop := V.cell? ⟨p3, 0, none⟩ = some (.int .i64 ma) ∧ V.cell? ⟨p3, 1, none⟩ = some (.slice A na ca) ∧ V.cell? ⟨p4, 0, none⟩ = some (.int .i64 mb) ∧ V.cell? ⟨p4, 1, none⟩ = some (.slice B nb cb)
/-- What is known of the world ahead of the level of both tables. -/
def R7 (w : World) (p3 p4 p7 p9 : Nat) (ma mb x0 x1 y0 y1 : Int) (A B : Option Addr) (na nb ca cb : Nat) (V : World) : Prop := S7 p3 p4 ma mb A B na nb ca cb V ∧ V.cell? ⟨p7, 0, none⟩ = some (.int .i64 x0) ∧ V.cell? ⟨p7, 1, none⟩ = some (.int .i64 x1) ∧ V.cell? ⟨p9, 0, none⟩ = some (.int .i64 y0) ∧ V.cell? ⟨p9, 1, none⟩ = some (.int .i64 y1) ∧ p3 < V.heap.size ∧ p4 < V.heap.size ∧ p7 < V.heap.size ∧ p9 < V.heap.size ∧ Below w.heap.size w V
def C7 (u : World) (z0 z1 : Int) (s11 s12 : Value) (wx : World) : Prop := ∃ zb : Nat, s11 = .pointer (some ⟨zb, 0, none⟩) ∧ s12 = .int .i64 0 ∧ wx.cell? ⟨zb, 0, none⟩ = some (.int .i64 z0) ∧ wx.cell? ⟨zb, 1, none⟩ = some (.int .i64 z1) ∧ zb < wx.heap.size ∧ u.heap.size ≤ zb ∧ Below u.heap.size u wx
theorem lev_bd {m : Int} {L : List Wv} (hL : ∀ x ∈ L, WvOk x) (h10 : L.length ≤ 10) (m0 : -100000 ≤ m) (m1 : m ≤ 100000) (t : Int) : -2000000 ≤ levLo m L t ∧ levLo m L t ≤ 2000000 ∧ -2000000 ≤ levHi m L t ∧ levHi m L t ≤ 2000000 := by
  obtain ⟨h1, h2, h3⟩ := sum_bd hL t
  unfold levLo levHi dnO upO
  omega
end Go.Proofs.Ytallnjehhoengaa
