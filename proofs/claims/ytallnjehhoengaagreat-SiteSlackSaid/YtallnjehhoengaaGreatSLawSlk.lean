/- SiteSlack: the statement returns true for every table, minute and limit. -/
import Derived.Test.YtallnjehhoengaaGreatSSlk
import Derived.Outline
namespace Go.Proofs.YtallnjehhoengaaGreat
open Go.ChangeShapes Go.WideShapes Go.ChangeAt Go.RowKit
set_option linter.unusedVariables false
set_option linter.unusedSimpArgs false
attribute [local go_sem ↓] Go.wp_at_zero Go.wp_at_succ
theorem wthin_is (n a b : Int) (x : Bool) (w : World) (hb : Hid (inB n a b = x)) :
    Calls Tryz.prog 16 #[.int .i64 n, .int .i64 a, .int .i64 b] w fun e w' => e = .returned (.bool x) ∧ w = w' := by
  have := baseWithin_any n a b w
  rw [hb.out] at this; exact this
set_option maxRecDepth 100000 in
set_option maxHeartbeats 1000000 in
theorem siteSlk_few (m t l : Int) (A : Option Addr) (n cap : Nat) (w : World) (hl : n ≤ 9223372036854775807) (hF : Hid (fewB n = false)) :
    Calls Tryz.prog 7 #[.agg #[.int .i64 m, .slice A n cap], .int .i64 t, .int .i64 l] w fun e w' => e = .returned (.bool true) ∧ Below w.heap.size w w' := by
  go_enter Tryz.func7, Tryz.ntmps7
  go_wp2_with fail
  refine (awake_any _).mono ?_
  rintro e xw1 ⟨rfl, hbx1⟩
  have zx1 := hbx1.size
  try simp at zx1
  obtain ⟨x1_0_0, x1_0_1⟩ : xw1.cell? ⟨w.heap.size, 0, none⟩ = some (.int .i64 m) ∧ xw1.cell? ⟨w.heap.size, 1, none⟩ = some (.slice A n cap) := by refine ⟨?_, ?_⟩ <;> (rw [(bcell hbx1).1 _ _ (by first | (simp; done) | (simp; omega) | omega)]; simp [go_sem, World.cell?_alloc_past, *])
  obtain ⟨x1o0, x1n0, x1m0, x1t0_0⟩ : w.heap.size < xw1.heap.size ∧ xw1.heap.size ≠ w.heap.size ∧ w.heap.size ≠ xw1.heap.size ∧ w.heap.size < xw1.heap.size + 1 := by refine ⟨?_, ?_, ?_, ?_⟩ <;> omega
  have hBx1 : Below w.heap.size w xw1 := (by (repeat (first | (with_reducible refine Below.drew ?_) | (with_reducible refine below_drewN ?_ _) | (with_reducible refine Below.alloc ?_ (by first | omega | (simp; done) | (simp; omega) | (simp at *; omega)) _) | (with_reducible refine Below.setCell ?_ (by first | omega | (simp; done) | (simp; omega) | (simp at *; omega)) _) | (with_reducible exact Below.refl _ _) | (with_reducible assumption) | (with_reducible refine Below.trans ?_ (Below.mono (by assumption) (by first | omega | (simp; done) | (simp; omega) | (simp at *; omega)))))))
  clear hbx1 
  go_wp2_with fail
  refine (few_is m A n cap false _ hl hF).mono ?_
  rintro e xw2 ⟨rfl, hbx2⟩
  have zx2 := hbx2.size
  try simp at zx2
  obtain ⟨x2_0_0, x2_0_1⟩ : xw2.cell? ⟨w.heap.size, 0, none⟩ = some (.int .i64 m) ∧ xw2.cell? ⟨w.heap.size, 1, none⟩ = some (.slice A n cap) := by refine ⟨?_, ?_⟩ <;> (rw [(bcell hbx2).1 _ _ (by first | (simp; done) | (simp; omega) | omega)]; simp [go_sem, World.cell?_alloc_past, *])
  obtain ⟨x2o0, x2n0, x2m0, x2t0_0⟩ : w.heap.size < xw2.heap.size ∧ xw2.heap.size ≠ w.heap.size ∧ w.heap.size ≠ xw2.heap.size ∧ w.heap.size < xw2.heap.size + 1 := by refine ⟨?_, ?_, ?_, ?_⟩ <;> omega
  have hBx2 : Below w.heap.size w xw2 := (by (repeat (first | (with_reducible refine Below.drew ?_) | (with_reducible refine below_drewN ?_ _) | (with_reducible refine Below.alloc ?_ (by first | omega | (simp; done) | (simp; omega) | (simp at *; omega)) _) | (with_reducible refine Below.setCell ?_ (by first | omega | (simp; done) | (simp; omega) | (simp at *; omega)) _) | (with_reducible exact Below.refl _ _) | (with_reducible assumption) | (with_reducible refine Below.trans ?_ (Below.mono (by assumption) (by first | omega | (simp; done) | (simp; omega) | (simp at *; omega)))))))
  clear hbx2 x1_0_0 x1_0_1 x1o0 x1n0 x1m0 x1t0_0 hBx1
  go_wp2
  go_ret
  exact ⟨rfl, hBx2⟩
set_option maxRecDepth 100000 in
set_option maxHeartbeats 2000000 in
theorem siteSlk_t (m t l F : Int) (L : List Wv) (A : Option Addr) (n cap : Nat) (w : World) (hn : Hid (n = L.length)) (hl : n ≤ 12) (hF : Hid (fewB n = true)) (HR : Hid (∀ w' : World, Below w.heap.size w w' → SlRows wvV 3 w' A L)) (CA : Hid (A = none → n = 0 ∧ cap = 0)) (hE : Hid (tidE m L = F)) (hz : (F != 0) = true) (hlv : Hid (slaE m L t l = F)) :
    Calls Tryz.prog 7 #[.agg #[.int .i64 m, .slice A n cap], .int .i64 t, .int .i64 l] w fun e w' => e = .returned (.bool true) ∧ Below w.heap.size w w' := by
  have hM : Hid (inB t 0 1000000 = inB t 0 1000000) := Lib.hid rfl
  have hW : Hid (inB l 0 10000000 = inB l 0 10000000) := Lib.hid rfl
  have hz2 : (F == 0) = false := by simpa [bne] using hz
  go_enter Tryz.func7, Tryz.ntmps7
  go_wp2_with fail
  refine (awake_any _).mono ?_
  rintro e xw1 ⟨rfl, hbx1⟩
  have zx1 := hbx1.size
  try simp at zx1
  obtain ⟨x1_0_0, x1_0_1⟩ : xw1.cell? ⟨w.heap.size, 0, none⟩ = some (.int .i64 m) ∧ xw1.cell? ⟨w.heap.size, 1, none⟩ = some (.slice A n cap) := by refine ⟨?_, ?_⟩ <;> (rw [(bcell hbx1).1 _ _ (by first | (simp; done) | (simp; omega) | omega)]; simp [go_sem, World.cell?_alloc_past, *])
  obtain ⟨x1o0, x1n0, x1m0, x1t0_0⟩ : w.heap.size < xw1.heap.size ∧ xw1.heap.size ≠ w.heap.size ∧ w.heap.size ≠ xw1.heap.size ∧ w.heap.size < xw1.heap.size + 1 := by refine ⟨?_, ?_, ?_, ?_⟩ <;> omega
  have hBx1 : Below w.heap.size w xw1 := (by (repeat (first | (with_reducible refine Below.drew ?_) | (with_reducible refine below_drewN ?_ _) | (with_reducible refine Below.alloc ?_ (by first | omega | (simp; done) | (simp; omega) | (simp at *; omega)) _) | (with_reducible refine Below.setCell ?_ (by first | omega | (simp; done) | (simp; omega) | (simp at *; omega)) _) | (with_reducible exact Below.refl _ _) | (with_reducible assumption) | (with_reducible refine Below.trans ?_ (Below.mono (by assumption) (by first | omega | (simp; done) | (simp; omega) | (simp at *; omega)))))))
  clear hbx1 
  go_wp2_with fail
  refine (few_is m A n cap true _ (by omega) hF).mono ?_
  rintro e xw2 ⟨rfl, hbx2⟩
  have zx2 := hbx2.size
  try simp at zx2
  obtain ⟨x2_0_0, x2_0_1⟩ : xw2.cell? ⟨w.heap.size, 0, none⟩ = some (.int .i64 m) ∧ xw2.cell? ⟨w.heap.size, 1, none⟩ = some (.slice A n cap) := by refine ⟨?_, ?_⟩ <;> (rw [(bcell hbx2).1 _ _ (by first | (simp; done) | (simp; omega) | omega)]; simp [go_sem, World.cell?_alloc_past, *])
  obtain ⟨x2o0, x2n0, x2m0, x2t0_0⟩ : w.heap.size < xw2.heap.size ∧ xw2.heap.size ≠ w.heap.size ∧ w.heap.size ≠ xw2.heap.size ∧ w.heap.size < xw2.heap.size + 1 := by refine ⟨?_, ?_, ?_, ?_⟩ <;> omega
  have hBx2 : Below w.heap.size w xw2 := (by (repeat (first | (with_reducible refine Below.drew ?_) | (with_reducible refine below_drewN ?_ _) | (with_reducible refine Below.alloc ?_ (by first | omega | (simp; done) | (simp; omega) | (simp at *; omega)) _) | (with_reducible refine Below.setCell ?_ (by first | omega | (simp; done) | (simp; omega) | (simp at *; omega)) _) | (with_reducible exact Below.refl _ _) | (with_reducible assumption) | (with_reducible refine Below.trans ?_ (Below.mono (by assumption) (by first | omega | (simp; done) | (simp; omega) | (simp at *; omega)))))))
  clear hbx2 x1_0_0 x1_0_1 x1o0 x1n0 x1m0 x1t0_0 hBx1
  go_wp2_with fail
  refine (own_is m L A n cap _ hn (by omega) (Lib.hid (HR.out _ hBx2)) CA).mono ?_
  rintro e xw3 ⟨G, cg, rfl, hG, hbx3⟩
  have zx3 := hbx3.size
  try simp at zx3
  obtain ⟨x3_0_0, x3_0_1⟩ : xw3.cell? ⟨w.heap.size, 0, none⟩ = some (.int .i64 m) ∧ xw3.cell? ⟨w.heap.size, 1, none⟩ = some (.slice A n cap) := by refine ⟨?_, ?_⟩ <;> (rw [(bcell hbx3).1 _ _ (by first | (simp; done) | (simp; omega) | omega)]; simp [go_sem, World.cell?_alloc_past, *])
  obtain ⟨x3o0, x3n0, x3m0, x3t0_0⟩ : w.heap.size < xw3.heap.size ∧ xw3.heap.size ≠ w.heap.size ∧ w.heap.size ≠ xw3.heap.size ∧ w.heap.size < xw3.heap.size + 1 := by refine ⟨?_, ?_, ?_, ?_⟩ <;> omega
  have hBx3 : Below w.heap.size w xw3 := (by (repeat (first | (with_reducible refine Below.drew ?_) | (with_reducible refine below_drewN ?_ _) | (with_reducible refine Below.alloc ?_ (by first | omega | (simp; done) | (simp; omega) | (simp at *; omega)) _) | (with_reducible refine Below.setCell ?_ (by first | omega | (simp; done) | (simp; omega) | (simp at *; omega)) _) | (with_reducible exact Below.refl _ _) | (with_reducible assumption) | (with_reducible refine Below.trans ?_ (Below.mono (by assumption) (by first | omega | (simp; done) | (simp; omega) | (simp at *; omega)))))))
  clear hbx3 x2_0_0 x2_0_1 x2o0 x2n0 x2m0 x2t0_0 hBx2
  have HG := Lib.hid hG
  clear hG
  go_wp2_with fail
  refine (SlackAt_bad m L G cg n t l F _ hn (by omega) HG hlv hz).mono ?_
  rintro e xw4 ⟨rfl, hbx4⟩
  have zx4 := hbx4.size
  try simp at zx4
  obtain ⟨x4_0_0, x4_0_1⟩ : xw4.cell? ⟨w.heap.size, 0, none⟩ = some (.int .i64 m) ∧ xw4.cell? ⟨w.heap.size, 1, none⟩ = some (.slice A n cap) := by refine ⟨?_, ?_⟩ <;> (rw [(bcell hbx4).1 _ _ (by first | (simp; done) | (simp; omega) | omega)]; simp [go_sem, World.cell?_alloc_past, *])
  obtain ⟨x4o0, x4n0, x4m0, x4t0_0⟩ : w.heap.size < xw4.heap.size ∧ xw4.heap.size ≠ w.heap.size ∧ w.heap.size ≠ xw4.heap.size ∧ w.heap.size < xw4.heap.size + 1 := by refine ⟨?_, ?_, ?_, ?_⟩ <;> omega
  have hBx4 : Below w.heap.size w xw4 := (by (repeat (first | (with_reducible refine Below.drew ?_) | (with_reducible refine below_drewN ?_ _) | (with_reducible refine Below.alloc ?_ (by first | omega | (simp; done) | (simp; omega) | (simp at *; omega)) _) | (with_reducible refine Below.setCell ?_ (by first | omega | (simp; done) | (simp; omega) | (simp at *; omega)) _) | (with_reducible exact Below.refl _ _) | (with_reducible assumption) | (with_reducible refine Below.trans ?_ (Below.mono (by assumption) (by first | omega | (simp; done) | (simp; omega) | (simp at *; omega)))))))
  clear hbx4 x3_0_0 x3_0_1 x3o0 x3n0 x3m0 x3t0_0 hBx3
  go_wp2_with fail
  refine (refTide_is m L A cap n F _ hn (by omega) (Lib.hid (HR.out _ (by (repeat (first | (with_reducible refine Below.drew ?_) | (with_reducible refine below_drewN ?_ _) | (with_reducible refine Below.alloc ?_ (by first | omega | (simp; done) | (simp; omega) | (simp at *; omega)) _) | (with_reducible refine Below.setCell ?_ (by first | omega | (simp; done) | (simp; omega) | (simp at *; omega)) _) | (with_reducible exact Below.refl _ _) | (with_reducible assumption) | (with_reducible refine Below.trans ?_ (Below.mono (by assumption) (by first | omega | (simp; done) | (simp; omega) | (simp at *; omega))))))))) hE).mono ?_
  rintro e xw5 ⟨rfl, hbx5⟩
  have zx5 := hbx5.size
  try simp at zx5
  obtain ⟨x5_0_0, x5_0_1⟩ : xw5.cell? ⟨w.heap.size, 0, none⟩ = some (.int .i64 m) ∧ xw5.cell? ⟨w.heap.size, 1, none⟩ = some (.slice A n cap) := by refine ⟨?_, ?_⟩ <;> (rw [(bcell hbx5).1 _ _ (by first | (simp; done) | (simp; omega) | omega)]; simp [go_sem, World.cell?_alloc_past, *])
  obtain ⟨x5o0, x5n0, x5m0, x5t0_0⟩ : w.heap.size < xw5.heap.size ∧ xw5.heap.size ≠ w.heap.size ∧ w.heap.size ≠ xw5.heap.size ∧ w.heap.size < xw5.heap.size + 1 := by refine ⟨?_, ?_, ?_, ?_⟩ <;> omega
  have hBx5 : Below w.heap.size w xw5 := (by (repeat (first | (with_reducible refine Below.drew ?_) | (with_reducible refine below_drewN ?_ _) | (with_reducible refine Below.alloc ?_ (by first | omega | (simp; done) | (simp; omega) | (simp at *; omega)) _) | (with_reducible refine Below.setCell ?_ (by first | omega | (simp; done) | (simp; omega) | (simp at *; omega)) _) | (with_reducible exact Below.refl _ _) | (with_reducible assumption) | (with_reducible refine Below.trans ?_ (Below.mono (by assumption) (by first | omega | (simp; done) | (simp; omega) | (simp at *; omega)))))))
  clear hbx5 x4_0_0 x4_0_1 x4o0 x4n0 x4m0 x4t0_0 hBx4
  go_wp2_with (first | (go_at_call 23; ((with_reducible refine (isMin_is _ _ _ hM).mono ?_)); rintro e w' ⟨rfl, rfl⟩) | (go_at_call 16; ((with_reducible refine (wthin_is l 0 10000000 _ _ hW).mono ?_)); rintro e w' ⟨rfl, rfl⟩))
  go_ret
  exact ⟨rfl, hBx5⟩
set_option maxRecDepth 100000 in
set_option maxHeartbeats 2000000 in
theorem siteSlk_m (m t l : Int) (L : List Wv) (A : Option Addr) (n cap : Nat) (w : World) (hn : Hid (n = L.length)) (hl : n ≤ 12) (hF : Hid (fewB n = true)) (HR : Hid (∀ w' : World, Below w.heap.size w w' → SlRows wvV 3 w' A L)) (CA : Hid (A = none → n = 0 ∧ cap = 0)) (hE : Hid (tidE m L = 0)) (hM : Hid (inB t 0 1000000 = false)) (hlv : Hid (slaE m L t l = 2)) :
    Calls Tryz.prog 7 #[.agg #[.int .i64 m, .slice A n cap], .int .i64 t, .int .i64 l] w fun e w' => e = .returned (.bool true) ∧ Below w.heap.size w w' := by
  have hW : Hid (inB l 0 10000000 = inB l 0 10000000) := Lib.hid rfl
  go_enter Tryz.func7, Tryz.ntmps7
  go_wp2_with fail
  refine (awake_any _).mono ?_
  rintro e xw1 ⟨rfl, hbx1⟩
  have zx1 := hbx1.size
  try simp at zx1
  obtain ⟨x1_0_0, x1_0_1⟩ : xw1.cell? ⟨w.heap.size, 0, none⟩ = some (.int .i64 m) ∧ xw1.cell? ⟨w.heap.size, 1, none⟩ = some (.slice A n cap) := by refine ⟨?_, ?_⟩ <;> (rw [(bcell hbx1).1 _ _ (by first | (simp; done) | (simp; omega) | omega)]; simp [go_sem, World.cell?_alloc_past, *])
  obtain ⟨x1o0, x1n0, x1m0, x1t0_0⟩ : w.heap.size < xw1.heap.size ∧ xw1.heap.size ≠ w.heap.size ∧ w.heap.size ≠ xw1.heap.size ∧ w.heap.size < xw1.heap.size + 1 := by refine ⟨?_, ?_, ?_, ?_⟩ <;> omega
  have hBx1 : Below w.heap.size w xw1 := (by (repeat (first | (with_reducible refine Below.drew ?_) | (with_reducible refine below_drewN ?_ _) | (with_reducible refine Below.alloc ?_ (by first | omega | (simp; done) | (simp; omega) | (simp at *; omega)) _) | (with_reducible refine Below.setCell ?_ (by first | omega | (simp; done) | (simp; omega) | (simp at *; omega)) _) | (with_reducible exact Below.refl _ _) | (with_reducible assumption) | (with_reducible refine Below.trans ?_ (Below.mono (by assumption) (by first | omega | (simp; done) | (simp; omega) | (simp at *; omega)))))))
  clear hbx1 
  go_wp2_with fail
  refine (few_is m A n cap true _ (by omega) hF).mono ?_
  rintro e xw2 ⟨rfl, hbx2⟩
  have zx2 := hbx2.size
  try simp at zx2
  obtain ⟨x2_0_0, x2_0_1⟩ : xw2.cell? ⟨w.heap.size, 0, none⟩ = some (.int .i64 m) ∧ xw2.cell? ⟨w.heap.size, 1, none⟩ = some (.slice A n cap) := by refine ⟨?_, ?_⟩ <;> (rw [(bcell hbx2).1 _ _ (by first | (simp; done) | (simp; omega) | omega)]; simp [go_sem, World.cell?_alloc_past, *])
  obtain ⟨x2o0, x2n0, x2m0, x2t0_0⟩ : w.heap.size < xw2.heap.size ∧ xw2.heap.size ≠ w.heap.size ∧ w.heap.size ≠ xw2.heap.size ∧ w.heap.size < xw2.heap.size + 1 := by refine ⟨?_, ?_, ?_, ?_⟩ <;> omega
  have hBx2 : Below w.heap.size w xw2 := (by (repeat (first | (with_reducible refine Below.drew ?_) | (with_reducible refine below_drewN ?_ _) | (with_reducible refine Below.alloc ?_ (by first | omega | (simp; done) | (simp; omega) | (simp at *; omega)) _) | (with_reducible refine Below.setCell ?_ (by first | omega | (simp; done) | (simp; omega) | (simp at *; omega)) _) | (with_reducible exact Below.refl _ _) | (with_reducible assumption) | (with_reducible refine Below.trans ?_ (Below.mono (by assumption) (by first | omega | (simp; done) | (simp; omega) | (simp at *; omega)))))))
  clear hbx2 x1_0_0 x1_0_1 x1o0 x1n0 x1m0 x1t0_0 hBx1
  go_wp2_with fail
  refine (own_is m L A n cap _ hn (by omega) (Lib.hid (HR.out _ hBx2)) CA).mono ?_
  rintro e xw3 ⟨G, cg, rfl, hG, hbx3⟩
  have zx3 := hbx3.size
  try simp at zx3
  obtain ⟨x3_0_0, x3_0_1⟩ : xw3.cell? ⟨w.heap.size, 0, none⟩ = some (.int .i64 m) ∧ xw3.cell? ⟨w.heap.size, 1, none⟩ = some (.slice A n cap) := by refine ⟨?_, ?_⟩ <;> (rw [(bcell hbx3).1 _ _ (by first | (simp; done) | (simp; omega) | omega)]; simp [go_sem, World.cell?_alloc_past, *])
  obtain ⟨x3o0, x3n0, x3m0, x3t0_0⟩ : w.heap.size < xw3.heap.size ∧ xw3.heap.size ≠ w.heap.size ∧ w.heap.size ≠ xw3.heap.size ∧ w.heap.size < xw3.heap.size + 1 := by refine ⟨?_, ?_, ?_, ?_⟩ <;> omega
  have hBx3 : Below w.heap.size w xw3 := (by (repeat (first | (with_reducible refine Below.drew ?_) | (with_reducible refine below_drewN ?_ _) | (with_reducible refine Below.alloc ?_ (by first | omega | (simp; done) | (simp; omega) | (simp at *; omega)) _) | (with_reducible refine Below.setCell ?_ (by first | omega | (simp; done) | (simp; omega) | (simp at *; omega)) _) | (with_reducible exact Below.refl _ _) | (with_reducible assumption) | (with_reducible refine Below.trans ?_ (Below.mono (by assumption) (by first | omega | (simp; done) | (simp; omega) | (simp at *; omega)))))))
  clear hbx3 x2_0_0 x2_0_1 x2o0 x2n0 x2m0 x2t0_0 hBx2
  have HG := Lib.hid hG
  clear hG
  go_wp2_with fail
  refine (SlackAt_bad m L G cg n t l 2 _ hn (by omega) HG hlv (by decide)).mono ?_
  rintro e xw4 ⟨rfl, hbx4⟩
  have zx4 := hbx4.size
  try simp at zx4
  obtain ⟨x4_0_0, x4_0_1⟩ : xw4.cell? ⟨w.heap.size, 0, none⟩ = some (.int .i64 m) ∧ xw4.cell? ⟨w.heap.size, 1, none⟩ = some (.slice A n cap) := by refine ⟨?_, ?_⟩ <;> (rw [(bcell hbx4).1 _ _ (by first | (simp; done) | (simp; omega) | omega)]; simp [go_sem, World.cell?_alloc_past, *])
  obtain ⟨x4o0, x4n0, x4m0, x4t0_0⟩ : w.heap.size < xw4.heap.size ∧ xw4.heap.size ≠ w.heap.size ∧ w.heap.size ≠ xw4.heap.size ∧ w.heap.size < xw4.heap.size + 1 := by refine ⟨?_, ?_, ?_, ?_⟩ <;> omega
  have hBx4 : Below w.heap.size w xw4 := (by (repeat (first | (with_reducible refine Below.drew ?_) | (with_reducible refine below_drewN ?_ _) | (with_reducible refine Below.alloc ?_ (by first | omega | (simp; done) | (simp; omega) | (simp at *; omega)) _) | (with_reducible refine Below.setCell ?_ (by first | omega | (simp; done) | (simp; omega) | (simp at *; omega)) _) | (with_reducible exact Below.refl _ _) | (with_reducible assumption) | (with_reducible refine Below.trans ?_ (Below.mono (by assumption) (by first | omega | (simp; done) | (simp; omega) | (simp at *; omega)))))))
  clear hbx4 x3_0_0 x3_0_1 x3o0 x3n0 x3m0 x3t0_0 hBx3
  go_wp2_with fail
  refine (refTide_is m L A cap n 0 _ hn (by omega) (Lib.hid (HR.out _ (by (repeat (first | (with_reducible refine Below.drew ?_) | (with_reducible refine below_drewN ?_ _) | (with_reducible refine Below.alloc ?_ (by first | omega | (simp; done) | (simp; omega) | (simp at *; omega)) _) | (with_reducible refine Below.setCell ?_ (by first | omega | (simp; done) | (simp; omega) | (simp at *; omega)) _) | (with_reducible exact Below.refl _ _) | (with_reducible assumption) | (with_reducible refine Below.trans ?_ (Below.mono (by assumption) (by first | omega | (simp; done) | (simp; omega) | (simp at *; omega))))))))) hE).mono ?_
  rintro e xw5 ⟨rfl, hbx5⟩
  have zx5 := hbx5.size
  try simp at zx5
  obtain ⟨x5_0_0, x5_0_1⟩ : xw5.cell? ⟨w.heap.size, 0, none⟩ = some (.int .i64 m) ∧ xw5.cell? ⟨w.heap.size, 1, none⟩ = some (.slice A n cap) := by refine ⟨?_, ?_⟩ <;> (rw [(bcell hbx5).1 _ _ (by first | (simp; done) | (simp; omega) | omega)]; simp [go_sem, World.cell?_alloc_past, *])
  obtain ⟨x5o0, x5n0, x5m0, x5t0_0⟩ : w.heap.size < xw5.heap.size ∧ xw5.heap.size ≠ w.heap.size ∧ w.heap.size ≠ xw5.heap.size ∧ w.heap.size < xw5.heap.size + 1 := by refine ⟨?_, ?_, ?_, ?_⟩ <;> omega
  have hBx5 : Below w.heap.size w xw5 := (by (repeat (first | (with_reducible refine Below.drew ?_) | (with_reducible refine below_drewN ?_ _) | (with_reducible refine Below.alloc ?_ (by first | omega | (simp; done) | (simp; omega) | (simp at *; omega)) _) | (with_reducible refine Below.setCell ?_ (by first | omega | (simp; done) | (simp; omega) | (simp at *; omega)) _) | (with_reducible exact Below.refl _ _) | (with_reducible assumption) | (with_reducible refine Below.trans ?_ (Below.mono (by assumption) (by first | omega | (simp; done) | (simp; omega) | (simp at *; omega)))))))
  clear hbx5 x4_0_0 x4_0_1 x4o0 x4n0 x4m0 x4t0_0 hBx4
  go_wp2_with (first | (go_at_call 23; ((with_reducible refine (isMin_is _ _ _ hM).mono ?_)); rintro e w' ⟨rfl, rfl⟩) | (go_at_call 16; ((with_reducible refine (wthin_is l 0 10000000 _ _ hW).mono ?_)); rintro e w' ⟨rfl, rfl⟩))
  go_ret
  exact ⟨rfl, hBx5⟩
set_option maxRecDepth 100000 in
set_option maxHeartbeats 2000000 in
theorem siteSlk_l (m t l : Int) (L : List Wv) (A : Option Addr) (n cap : Nat) (w : World) (hn : Hid (n = L.length)) (hl : n ≤ 12) (hF : Hid (fewB n = true)) (HR : Hid (∀ w' : World, Below w.heap.size w w' → SlRows wvV 3 w' A L)) (CA : Hid (A = none → n = 0 ∧ cap = 0)) (hE : Hid (tidE m L = 0)) (hM : Hid (inB t 0 1000000 = true)) (hW : Hid (inB l 0 10000000 = false)) (hlv : Hid (slaE m L t l = 2)) :
    Calls Tryz.prog 7 #[.agg #[.int .i64 m, .slice A n cap], .int .i64 t, .int .i64 l] w fun e w' => e = .returned (.bool true) ∧ Below w.heap.size w w' := by
  go_enter Tryz.func7, Tryz.ntmps7
  go_wp2_with fail
  refine (awake_any _).mono ?_
  rintro e xw1 ⟨rfl, hbx1⟩
  have zx1 := hbx1.size
  try simp at zx1
  obtain ⟨x1_0_0, x1_0_1⟩ : xw1.cell? ⟨w.heap.size, 0, none⟩ = some (.int .i64 m) ∧ xw1.cell? ⟨w.heap.size, 1, none⟩ = some (.slice A n cap) := by refine ⟨?_, ?_⟩ <;> (rw [(bcell hbx1).1 _ _ (by first | (simp; done) | (simp; omega) | omega)]; simp [go_sem, World.cell?_alloc_past, *])
  obtain ⟨x1o0, x1n0, x1m0, x1t0_0⟩ : w.heap.size < xw1.heap.size ∧ xw1.heap.size ≠ w.heap.size ∧ w.heap.size ≠ xw1.heap.size ∧ w.heap.size < xw1.heap.size + 1 := by refine ⟨?_, ?_, ?_, ?_⟩ <;> omega
  have hBx1 : Below w.heap.size w xw1 := (by (repeat (first | (with_reducible refine Below.drew ?_) | (with_reducible refine below_drewN ?_ _) | (with_reducible refine Below.alloc ?_ (by first | omega | (simp; done) | (simp; omega) | (simp at *; omega)) _) | (with_reducible refine Below.setCell ?_ (by first | omega | (simp; done) | (simp; omega) | (simp at *; omega)) _) | (with_reducible exact Below.refl _ _) | (with_reducible assumption) | (with_reducible refine Below.trans ?_ (Below.mono (by assumption) (by first | omega | (simp; done) | (simp; omega) | (simp at *; omega)))))))
  clear hbx1 
  go_wp2_with fail
  refine (few_is m A n cap true _ (by omega) hF).mono ?_
  rintro e xw2 ⟨rfl, hbx2⟩
  have zx2 := hbx2.size
  try simp at zx2
  obtain ⟨x2_0_0, x2_0_1⟩ : xw2.cell? ⟨w.heap.size, 0, none⟩ = some (.int .i64 m) ∧ xw2.cell? ⟨w.heap.size, 1, none⟩ = some (.slice A n cap) := by refine ⟨?_, ?_⟩ <;> (rw [(bcell hbx2).1 _ _ (by first | (simp; done) | (simp; omega) | omega)]; simp [go_sem, World.cell?_alloc_past, *])
  obtain ⟨x2o0, x2n0, x2m0, x2t0_0⟩ : w.heap.size < xw2.heap.size ∧ xw2.heap.size ≠ w.heap.size ∧ w.heap.size ≠ xw2.heap.size ∧ w.heap.size < xw2.heap.size + 1 := by refine ⟨?_, ?_, ?_, ?_⟩ <;> omega
  have hBx2 : Below w.heap.size w xw2 := (by (repeat (first | (with_reducible refine Below.drew ?_) | (with_reducible refine below_drewN ?_ _) | (with_reducible refine Below.alloc ?_ (by first | omega | (simp; done) | (simp; omega) | (simp at *; omega)) _) | (with_reducible refine Below.setCell ?_ (by first | omega | (simp; done) | (simp; omega) | (simp at *; omega)) _) | (with_reducible exact Below.refl _ _) | (with_reducible assumption) | (with_reducible refine Below.trans ?_ (Below.mono (by assumption) (by first | omega | (simp; done) | (simp; omega) | (simp at *; omega)))))))
  clear hbx2 x1_0_0 x1_0_1 x1o0 x1n0 x1m0 x1t0_0 hBx1
  go_wp2_with fail
  refine (own_is m L A n cap _ hn (by omega) (Lib.hid (HR.out _ hBx2)) CA).mono ?_
  rintro e xw3 ⟨G, cg, rfl, hG, hbx3⟩
  have zx3 := hbx3.size
  try simp at zx3
  obtain ⟨x3_0_0, x3_0_1⟩ : xw3.cell? ⟨w.heap.size, 0, none⟩ = some (.int .i64 m) ∧ xw3.cell? ⟨w.heap.size, 1, none⟩ = some (.slice A n cap) := by refine ⟨?_, ?_⟩ <;> (rw [(bcell hbx3).1 _ _ (by first | (simp; done) | (simp; omega) | omega)]; simp [go_sem, World.cell?_alloc_past, *])
  obtain ⟨x3o0, x3n0, x3m0, x3t0_0⟩ : w.heap.size < xw3.heap.size ∧ xw3.heap.size ≠ w.heap.size ∧ w.heap.size ≠ xw3.heap.size ∧ w.heap.size < xw3.heap.size + 1 := by refine ⟨?_, ?_, ?_, ?_⟩ <;> omega
  have hBx3 : Below w.heap.size w xw3 := (by (repeat (first | (with_reducible refine Below.drew ?_) | (with_reducible refine below_drewN ?_ _) | (with_reducible refine Below.alloc ?_ (by first | omega | (simp; done) | (simp; omega) | (simp at *; omega)) _) | (with_reducible refine Below.setCell ?_ (by first | omega | (simp; done) | (simp; omega) | (simp at *; omega)) _) | (with_reducible exact Below.refl _ _) | (with_reducible assumption) | (with_reducible refine Below.trans ?_ (Below.mono (by assumption) (by first | omega | (simp; done) | (simp; omega) | (simp at *; omega)))))))
  clear hbx3 x2_0_0 x2_0_1 x2o0 x2n0 x2m0 x2t0_0 hBx2
  have HG := Lib.hid hG
  clear hG
  go_wp2_with fail
  refine (SlackAt_bad m L G cg n t l 2 _ hn (by omega) HG hlv (by decide)).mono ?_
  rintro e xw4 ⟨rfl, hbx4⟩
  have zx4 := hbx4.size
  try simp at zx4
  obtain ⟨x4_0_0, x4_0_1⟩ : xw4.cell? ⟨w.heap.size, 0, none⟩ = some (.int .i64 m) ∧ xw4.cell? ⟨w.heap.size, 1, none⟩ = some (.slice A n cap) := by refine ⟨?_, ?_⟩ <;> (rw [(bcell hbx4).1 _ _ (by first | (simp; done) | (simp; omega) | omega)]; simp [go_sem, World.cell?_alloc_past, *])
  obtain ⟨x4o0, x4n0, x4m0, x4t0_0⟩ : w.heap.size < xw4.heap.size ∧ xw4.heap.size ≠ w.heap.size ∧ w.heap.size ≠ xw4.heap.size ∧ w.heap.size < xw4.heap.size + 1 := by refine ⟨?_, ?_, ?_, ?_⟩ <;> omega
  have hBx4 : Below w.heap.size w xw4 := (by (repeat (first | (with_reducible refine Below.drew ?_) | (with_reducible refine below_drewN ?_ _) | (with_reducible refine Below.alloc ?_ (by first | omega | (simp; done) | (simp; omega) | (simp at *; omega)) _) | (with_reducible refine Below.setCell ?_ (by first | omega | (simp; done) | (simp; omega) | (simp at *; omega)) _) | (with_reducible exact Below.refl _ _) | (with_reducible assumption) | (with_reducible refine Below.trans ?_ (Below.mono (by assumption) (by first | omega | (simp; done) | (simp; omega) | (simp at *; omega)))))))
  clear hbx4 x3_0_0 x3_0_1 x3o0 x3n0 x3m0 x3t0_0 hBx3
  go_wp2_with fail
  refine (refTide_is m L A cap n 0 _ hn (by omega) (Lib.hid (HR.out _ (by (repeat (first | (with_reducible refine Below.drew ?_) | (with_reducible refine below_drewN ?_ _) | (with_reducible refine Below.alloc ?_ (by first | omega | (simp; done) | (simp; omega) | (simp at *; omega)) _) | (with_reducible refine Below.setCell ?_ (by first | omega | (simp; done) | (simp; omega) | (simp at *; omega)) _) | (with_reducible exact Below.refl _ _) | (with_reducible assumption) | (with_reducible refine Below.trans ?_ (Below.mono (by assumption) (by first | omega | (simp; done) | (simp; omega) | (simp at *; omega))))))))) hE).mono ?_
  rintro e xw5 ⟨rfl, hbx5⟩
  have zx5 := hbx5.size
  try simp at zx5
  obtain ⟨x5_0_0, x5_0_1⟩ : xw5.cell? ⟨w.heap.size, 0, none⟩ = some (.int .i64 m) ∧ xw5.cell? ⟨w.heap.size, 1, none⟩ = some (.slice A n cap) := by refine ⟨?_, ?_⟩ <;> (rw [(bcell hbx5).1 _ _ (by first | (simp; done) | (simp; omega) | omega)]; simp [go_sem, World.cell?_alloc_past, *])
  obtain ⟨x5o0, x5n0, x5m0, x5t0_0⟩ : w.heap.size < xw5.heap.size ∧ xw5.heap.size ≠ w.heap.size ∧ w.heap.size ≠ xw5.heap.size ∧ w.heap.size < xw5.heap.size + 1 := by refine ⟨?_, ?_, ?_, ?_⟩ <;> omega
  have hBx5 : Below w.heap.size w xw5 := (by (repeat (first | (with_reducible refine Below.drew ?_) | (with_reducible refine below_drewN ?_ _) | (with_reducible refine Below.alloc ?_ (by first | omega | (simp; done) | (simp; omega) | (simp at *; omega)) _) | (with_reducible refine Below.setCell ?_ (by first | omega | (simp; done) | (simp; omega) | (simp at *; omega)) _) | (with_reducible exact Below.refl _ _) | (with_reducible assumption) | (with_reducible refine Below.trans ?_ (Below.mono (by assumption) (by first | omega | (simp; done) | (simp; omega) | (simp at *; omega)))))))
  clear hbx5 x4_0_0 x4_0_1 x4o0 x4n0 x4m0 x4t0_0 hBx4
  go_wp2_with (first | (go_at_call 23; ((with_reducible refine (isMin_is _ _ _ hM).mono ?_)); rintro e w' ⟨rfl, rfl⟩) | (go_at_call 16; ((with_reducible refine (wthin_is l 0 10000000 _ _ hW).mono ?_)); rintro e w' ⟨rfl, rfl⟩))
  go_ret
  exact ⟨rfl, hBx5⟩
set_option maxRecDepth 100000 in
set_option maxHeartbeats 4000000 in
theorem siteSlk_a (m t l l2 x y s s2 : Int) (L : List Wv) (A : Option Addr) (n cap : Nat) (w : World) (hn : Hid (n = L.length)) (hl : n ≤ 10) (hF : Hid (fewB n = true)) (HR : Hid (∀ w' : World, Below w.heap.size w w' → SlRows wvV 3 w' A L)) (CA : Hid (A = none → n = 0 ∧ cap = 0)) (hE : Hid (tidE m L = 0)) (hM : Hid (inB t 0 1000000 = true)) (hW : Hid (inB l 0 10000000 = true)) (hlv : Hid (slaE m L t l = 0)) (hlv2 : Hid (slaE m L t l2 = 0)) (he2 : Hid (min (l + 100) 10000000 = l2))
    (HW : Hid (∀ x ∈ L, WvOk x)) (m0 : -100000 ≤ m) (m1 : m ≤ 100000) (t0 : 0 ≤ t) (t1 : t ≤ 1000000) (l0 : 0 ≤ l) (l1 : l ≤ 10000000) (hx : Hid (levLo m L t = x)) (hy : Hid (levHi m L t = y)) (hs : Hid (slkV x y l = s)) (hs2 : Hid (slkV x y l2 = s2)) (ss : s ≤ s2) :
    Calls Tryz.prog 7 #[.agg #[.int .i64 m, .slice A n cap], .int .i64 t, .int .i64 l] w fun e w' => e = .returned (.bool true) ∧ Below w.heap.size w w' := by
  have e1 : IntKind.i64.wrap (l + 100) = l + 100 := IntWalk.i64_in _ (by omega)
  go_enter Tryz.func7, Tryz.ntmps7
  go_wp2_with fail
  refine (awake_any _).mono ?_
  rintro e xw1 ⟨rfl, hbx1⟩
  have zx1 := hbx1.size
  try simp at zx1
  obtain ⟨x1_0_0, x1_0_1⟩ : xw1.cell? ⟨w.heap.size, 0, none⟩ = some (.int .i64 m) ∧ xw1.cell? ⟨w.heap.size, 1, none⟩ = some (.slice A n cap) := by refine ⟨?_, ?_⟩ <;> (rw [(bcell hbx1).1 _ _ (by first | (simp; done) | (simp; omega) | omega)]; simp [go_sem, World.cell?_alloc_past, *])
  obtain ⟨x1o0, x1n0, x1m0, x1t0_0⟩ : w.heap.size < xw1.heap.size ∧ xw1.heap.size ≠ w.heap.size ∧ w.heap.size ≠ xw1.heap.size ∧ w.heap.size < xw1.heap.size + 1 := by refine ⟨?_, ?_, ?_, ?_⟩ <;> omega
  have hBx1 : Below w.heap.size w xw1 := (by (repeat (first | (with_reducible refine Below.drew ?_) | (with_reducible refine below_drewN ?_ _) | (with_reducible refine Below.alloc ?_ (by first | omega | (simp; done) | (simp; omega) | (simp at *; omega)) _) | (with_reducible refine Below.setCell ?_ (by first | omega | (simp; done) | (simp; omega) | (simp at *; omega)) _) | (with_reducible exact Below.refl _ _) | (with_reducible assumption) | (with_reducible refine Below.trans ?_ (Below.mono (by assumption) (by first | omega | (simp; done) | (simp; omega) | (simp at *; omega)))))))
  clear hbx1 
  go_wp2_with fail
  refine (few_is m A n cap true _ (by omega) hF).mono ?_
  rintro e xw2 ⟨rfl, hbx2⟩
  have zx2 := hbx2.size
  try simp at zx2
  obtain ⟨x2_0_0, x2_0_1⟩ : xw2.cell? ⟨w.heap.size, 0, none⟩ = some (.int .i64 m) ∧ xw2.cell? ⟨w.heap.size, 1, none⟩ = some (.slice A n cap) := by refine ⟨?_, ?_⟩ <;> (rw [(bcell hbx2).1 _ _ (by first | (simp; done) | (simp; omega) | omega)]; simp [go_sem, World.cell?_alloc_past, *])
  obtain ⟨x2o0, x2n0, x2m0, x2t0_0⟩ : w.heap.size < xw2.heap.size ∧ xw2.heap.size ≠ w.heap.size ∧ w.heap.size ≠ xw2.heap.size ∧ w.heap.size < xw2.heap.size + 1 := by refine ⟨?_, ?_, ?_, ?_⟩ <;> omega
  have hBx2 : Below w.heap.size w xw2 := (by (repeat (first | (with_reducible refine Below.drew ?_) | (with_reducible refine below_drewN ?_ _) | (with_reducible refine Below.alloc ?_ (by first | omega | (simp; done) | (simp; omega) | (simp at *; omega)) _) | (with_reducible refine Below.setCell ?_ (by first | omega | (simp; done) | (simp; omega) | (simp at *; omega)) _) | (with_reducible exact Below.refl _ _) | (with_reducible assumption) | (with_reducible refine Below.trans ?_ (Below.mono (by assumption) (by first | omega | (simp; done) | (simp; omega) | (simp at *; omega)))))))
  clear hbx2 x1_0_0 x1_0_1 x1o0 x1n0 x1m0 x1t0_0 hBx1
  go_wp2_with fail
  refine (own_is m L A n cap _ hn (by omega) (Lib.hid (HR.out _ hBx2)) CA).mono ?_
  rintro e xw3 ⟨G, cg, rfl, hG, hbx3⟩
  have zx3 := hbx3.size
  try simp at zx3
  obtain ⟨x3_0_0, x3_0_1⟩ : xw3.cell? ⟨w.heap.size, 0, none⟩ = some (.int .i64 m) ∧ xw3.cell? ⟨w.heap.size, 1, none⟩ = some (.slice A n cap) := by refine ⟨?_, ?_⟩ <;> (rw [(bcell hbx3).1 _ _ (by first | (simp; done) | (simp; omega) | omega)]; simp [go_sem, World.cell?_alloc_past, *])
  obtain ⟨x3o0, x3n0, x3m0, x3t0_0⟩ : w.heap.size < xw3.heap.size ∧ xw3.heap.size ≠ w.heap.size ∧ w.heap.size ≠ xw3.heap.size ∧ w.heap.size < xw3.heap.size + 1 := by refine ⟨?_, ?_, ?_, ?_⟩ <;> omega
  have hBx3 : Below w.heap.size w xw3 := (by (repeat (first | (with_reducible refine Below.drew ?_) | (with_reducible refine below_drewN ?_ _) | (with_reducible refine Below.alloc ?_ (by first | omega | (simp; done) | (simp; omega) | (simp at *; omega)) _) | (with_reducible refine Below.setCell ?_ (by first | omega | (simp; done) | (simp; omega) | (simp at *; omega)) _) | (with_reducible exact Below.refl _ _) | (with_reducible assumption) | (with_reducible refine Below.trans ?_ (Below.mono (by assumption) (by first | omega | (simp; done) | (simp; omega) | (simp at *; omega)))))))
  clear hbx3 x2_0_0 x2_0_1 x2o0 x2n0 x2m0 x2t0_0 hBx2
  have HG := Lib.hid hG
  clear hG
  go_wp2_with fail
  refine (SlackAt_good m L G cg n t l x y s _ hn (by omega) HG hlv hx hy hs).mono ?_
  rintro e xw4 ⟨rfl, hbx4⟩
  have zx4 := hbx4.size
  try simp at zx4
  obtain ⟨x4_0_0, x4_0_1⟩ : xw4.cell? ⟨w.heap.size, 0, none⟩ = some (.int .i64 m) ∧ xw4.cell? ⟨w.heap.size, 1, none⟩ = some (.slice A n cap) := by refine ⟨?_, ?_⟩ <;> (rw [(bcell hbx4).1 _ _ (by first | (simp; done) | (simp; omega) | omega)]; simp [go_sem, World.cell?_alloc_past, *])
  obtain ⟨x4o0, x4n0, x4m0, x4t0_0⟩ : w.heap.size < xw4.heap.size ∧ xw4.heap.size ≠ w.heap.size ∧ w.heap.size ≠ xw4.heap.size ∧ w.heap.size < xw4.heap.size + 1 := by refine ⟨?_, ?_, ?_, ?_⟩ <;> omega
  have hBx4 : Below w.heap.size w xw4 := (by (repeat (first | (with_reducible refine Below.drew ?_) | (with_reducible refine below_drewN ?_ _) | (with_reducible refine Below.alloc ?_ (by first | omega | (simp; done) | (simp; omega) | (simp at *; omega)) _) | (with_reducible refine Below.setCell ?_ (by first | omega | (simp; done) | (simp; omega) | (simp at *; omega)) _) | (with_reducible exact Below.refl _ _) | (with_reducible assumption) | (with_reducible refine Below.trans ?_ (Below.mono (by assumption) (by first | omega | (simp; done) | (simp; omega) | (simp at *; omega)))))))
  clear hbx4 x3_0_0 x3_0_1 x3o0 x3n0 x3m0 x3t0_0 hBx3
  go_wp2_with fail
  refine (refTide_is m L A cap n 0 _ hn (by omega) (Lib.hid (HR.out _ (by (repeat (first | (with_reducible refine Below.drew ?_) | (with_reducible refine below_drewN ?_ _) | (with_reducible refine Below.alloc ?_ (by first | omega | (simp; done) | (simp; omega) | (simp at *; omega)) _) | (with_reducible refine Below.setCell ?_ (by first | omega | (simp; done) | (simp; omega) | (simp at *; omega)) _) | (with_reducible exact Below.refl _ _) | (with_reducible assumption) | (with_reducible refine Below.trans ?_ (Below.mono (by assumption) (by first | omega | (simp; done) | (simp; omega) | (simp at *; omega))))))))) hE).mono ?_
  rintro e xw5 ⟨rfl, hbx5⟩
  have zx5 := hbx5.size
  try simp at zx5
  obtain ⟨x5_0_0, x5_0_1⟩ : xw5.cell? ⟨w.heap.size, 0, none⟩ = some (.int .i64 m) ∧ xw5.cell? ⟨w.heap.size, 1, none⟩ = some (.slice A n cap) := by refine ⟨?_, ?_⟩ <;> (rw [(bcell hbx5).1 _ _ (by first | (simp; done) | (simp; omega) | omega)]; simp [go_sem, World.cell?_alloc_past, *])
  obtain ⟨x5o0, x5n0, x5m0, x5t0_0⟩ : w.heap.size < xw5.heap.size ∧ xw5.heap.size ≠ w.heap.size ∧ w.heap.size ≠ xw5.heap.size ∧ w.heap.size < xw5.heap.size + 1 := by refine ⟨?_, ?_, ?_, ?_⟩ <;> omega
  have hBx5 : Below w.heap.size w xw5 := (by (repeat (first | (with_reducible refine Below.drew ?_) | (with_reducible refine below_drewN ?_ _) | (with_reducible refine Below.alloc ?_ (by first | omega | (simp; done) | (simp; omega) | (simp at *; omega)) _) | (with_reducible refine Below.setCell ?_ (by first | omega | (simp; done) | (simp; omega) | (simp at *; omega)) _) | (with_reducible exact Below.refl _ _) | (with_reducible assumption) | (with_reducible refine Below.trans ?_ (Below.mono (by assumption) (by first | omega | (simp; done) | (simp; omega) | (simp at *; omega)))))))
  clear hbx5 x4_0_0 x4_0_1 x4o0 x4n0 x4m0 x4t0_0 hBx4
  clear HG
  go_wp2_with (first | (go_at_call 23; ((with_reducible refine (isMin_is _ _ _ hM).mono ?_)); rintro e w' ⟨rfl, rfl⟩) | (go_at_call 16; ((with_reducible refine (wthin_is l 0 10000000 _ _ hW).mono ?_)); rintro e w' ⟨rfl, rfl⟩))
  refine (refSlack_is m L A cap n x y t l s _ hn (by omega) HW m0 m1 t0 (by omega) (Lib.hid (HR.out _ (by (repeat (first | (with_reducible refine Below.drew ?_) | (with_reducible refine below_drewN ?_ _) | (with_reducible refine Below.alloc ?_ (by first | omega | (simp; done) | (simp; omega) | (simp at *; omega)) _) | (with_reducible refine Below.setCell ?_ (by first | omega | (simp; done) | (simp; omega) | (simp at *; omega)) _) | (with_reducible exact Below.refl _ _) | (with_reducible assumption) | (with_reducible refine Below.trans ?_ (Below.mono (by assumption) (by first | omega | (simp; done) | (simp; omega) | (simp at *; omega))))))))) hx hy l0 l1 hs).mono ?_
  rintro e xw6 ⟨rfl, hbx6⟩
  have zx6 := hbx6.size
  try simp at zx6
  obtain ⟨x6_0_0, x6_0_1⟩ : xw6.cell? ⟨w.heap.size, 0, none⟩ = some (.int .i64 m) ∧ xw6.cell? ⟨w.heap.size, 1, none⟩ = some (.slice A n cap) := by refine ⟨?_, ?_⟩ <;> (rw [(bcell hbx6).1 _ _ (by first | (simp; done) | (simp; omega) | omega)]; simp [go_sem, World.cell?_alloc_past, *])
  obtain ⟨x6o0, x6n0, x6m0, x6t0_0⟩ : w.heap.size < xw6.heap.size ∧ xw6.heap.size ≠ w.heap.size ∧ w.heap.size ≠ xw6.heap.size ∧ w.heap.size < xw6.heap.size + 1 := by refine ⟨?_, ?_, ?_, ?_⟩ <;> omega
  have hBx6 : Below w.heap.size w xw6 := (by (repeat (first | (with_reducible refine Below.drew ?_) | (with_reducible refine below_drewN ?_ _) | (with_reducible refine Below.alloc ?_ (by first | omega | (simp; done) | (simp; omega) | (simp at *; omega)) _) | (with_reducible refine Below.setCell ?_ (by first | omega | (simp; done) | (simp; omega) | (simp at *; omega)) _) | (with_reducible exact Below.refl _ _) | (with_reducible assumption) | (with_reducible refine Below.trans ?_ (Below.mono (by assumption) (by first | omega | (simp; done) | (simp; omega) | (simp at *; omega)))))))
  clear hbx6 x5_0_0 x5_0_1 x5o0 x5n0 x5m0 x5t0_0 hBx5
  go_wp2_with fail
  refine (own_is m L A n cap _ hn (by omega) (Lib.hid (HR.out _ (by (repeat (first | (with_reducible refine Below.drew ?_) | (with_reducible refine below_drewN ?_ _) | (with_reducible refine Below.alloc ?_ (by first | omega | (simp; done) | (simp; omega) | (simp at *; omega)) _) | (with_reducible refine Below.setCell ?_ (by first | omega | (simp; done) | (simp; omega) | (simp at *; omega)) _) | (with_reducible exact Below.refl _ _) | (with_reducible assumption) | (with_reducible refine Below.trans ?_ (Below.mono (by assumption) (by first | omega | (simp; done) | (simp; omega) | (simp at *; omega))))))))) CA).mono ?_
  rintro e xw7 ⟨G2, cg2, rfl, hG2, hbx7⟩
  have zx7 := hbx7.size
  try simp at zx7
  obtain ⟨x7_0_0, x7_0_1⟩ : xw7.cell? ⟨w.heap.size, 0, none⟩ = some (.int .i64 m) ∧ xw7.cell? ⟨w.heap.size, 1, none⟩ = some (.slice A n cap) := by refine ⟨?_, ?_⟩ <;> (rw [(bcell hbx7).1 _ _ (by first | (simp; done) | (simp; omega) | omega)]; simp [go_sem, World.cell?_alloc_past, *])
  obtain ⟨x7o0, x7n0, x7m0, x7t0_0⟩ : w.heap.size < xw7.heap.size ∧ xw7.heap.size ≠ w.heap.size ∧ w.heap.size ≠ xw7.heap.size ∧ w.heap.size < xw7.heap.size + 1 := by refine ⟨?_, ?_, ?_, ?_⟩ <;> omega
  have hBx7 : Below w.heap.size w xw7 := (by (repeat (first | (with_reducible refine Below.drew ?_) | (with_reducible refine below_drewN ?_ _) | (with_reducible refine Below.alloc ?_ (by first | omega | (simp; done) | (simp; omega) | (simp at *; omega)) _) | (with_reducible refine Below.setCell ?_ (by first | omega | (simp; done) | (simp; omega) | (simp at *; omega)) _) | (with_reducible exact Below.refl _ _) | (with_reducible assumption) | (with_reducible refine Below.trans ?_ (Below.mono (by assumption) (by first | omega | (simp; done) | (simp; omega) | (simp at *; omega)))))))
  clear hbx7 x6_0_0 x6_0_1 x6o0 x6n0 x6m0 x6t0_0 hBx6
  have HG2 := Lib.hid hG2
  clear hG2
  go_wp2_with fail
  rw [he2.out]
  refine (SlackAt_good m L G2 cg2 n t l2 x y s2 _ hn (by omega) HG2 hlv2 hx hy hs2).mono ?_
  rintro e xw8 ⟨rfl, hbx8⟩
  have zx8 := hbx8.size
  try simp at zx8
  obtain ⟨x8_0_0, x8_0_1⟩ : xw8.cell? ⟨w.heap.size, 0, none⟩ = some (.int .i64 m) ∧ xw8.cell? ⟨w.heap.size, 1, none⟩ = some (.slice A n cap) := by refine ⟨?_, ?_⟩ <;> (rw [(bcell hbx8).1 _ _ (by first | (simp; done) | (simp; omega) | omega)]; simp [go_sem, World.cell?_alloc_past, *])
  obtain ⟨x8o0, x8n0, x8m0, x8t0_0⟩ : w.heap.size < xw8.heap.size ∧ xw8.heap.size ≠ w.heap.size ∧ w.heap.size ≠ xw8.heap.size ∧ w.heap.size < xw8.heap.size + 1 := by refine ⟨?_, ?_, ?_, ?_⟩ <;> omega
  have hBx8 : Below w.heap.size w xw8 := (by (repeat (first | (with_reducible refine Below.drew ?_) | (with_reducible refine below_drewN ?_ _) | (with_reducible refine Below.alloc ?_ (by first | omega | (simp; done) | (simp; omega) | (simp at *; omega)) _) | (with_reducible refine Below.setCell ?_ (by first | omega | (simp; done) | (simp; omega) | (simp at *; omega)) _) | (with_reducible exact Below.refl _ _) | (with_reducible assumption) | (with_reducible refine Below.trans ?_ (Below.mono (by assumption) (by first | omega | (simp; done) | (simp; omega) | (simp at *; omega)))))))
  clear hbx8 x7_0_0 x7_0_1 x7o0 x7n0 x7m0 x7t0_0 hBx7
  go_wp2
  go_ret
  exact ⟨rfl, hBx8⟩
theorem siteSlack_any (m : Int) (L : List Wv) (A : Option Addr) (cap : Nat) (t l : Int) (w : World) (hl : L.length ≤ 9223372036854775807) (hca : A = none → cap = 0) (hA : SlRows wvV 3 w A L) :
    Calls Tryz.prog 7 #[.agg #[.int .i64 m, .slice A L.length cap], .int .i64 t, .int .i64 l] w fun e w' => e = .returned (.bool true) ∧ Below w.heap.size w w' := by
  have HR : Hid (∀ w' : World, Below w.heap.size w w' → SlRows wvV 3 w' A L) := Lib.hid fun w' h => hA.below h
  have CA : Hid (A = none → L.length = 0 ∧ cap = 0) := Lib.hid fun h => by
    refine ⟨?_, hca h⟩
    subst h
    rcases hA with h | ⟨b, off, h, _⟩
    · rw [h]; rfl
    · cases h
  cases hf : fewB L.length with
  | false => exact siteSlk_few m t l A L.length cap w hl (Lib.hid hf)
  | true =>
    have h12 : L.length ≤ 12 := by unfold fewB at hf; simp at hf; omega
    by_cases h1 : tidE m L = 0
    · obtain ⟨m0, m1, h10, hW⟩ := tidE_ok h1
      rcases inB_cases t 0 1000000 with h2 | h2
      · rcases inB_cases l 0 10000000 with h3 | h3
        · obtain ⟨t0, t1⟩ := inB_iff.1 h2
          obtain ⟨l0, l1⟩ := inB_iff.1 h3
          have E : ∀ k, 0 ≤ k → k ≤ 10000000 → Hid (slaE m L t k = 0) := fun k k0 k1 => Lib.hid (by unfold slaE; rw [h1, rngE_t h2, rngE_t (inB_iff.2 ⟨k0, k1⟩)]; rfl)
          exact siteSlk_a m t l _ _ _ _ _ L A L.length cap w (Lib.hid rfl) h10 (Lib.hid hf) HR CA (Lib.hid h1) (Lib.hid h2) (Lib.hid h3) (E l l0 l1) (E _ (by omega) (by omega)) (Lib.hid rfl) (Lib.hid hW) m0 m1 t0 t1 l0 l1 (Lib.hid rfl) (Lib.hid rfl) (Lib.hid rfl) (Lib.hid rfl) (slkV_mono (by omega))
        · exact siteSlk_l m t l L A L.length cap w (Lib.hid rfl) h12 (Lib.hid hf) HR CA (Lib.hid h1) (Lib.hid h2) (Lib.hid h3) (Lib.hid (by unfold slaE; rw [h1, rngE_t h2, rngE_f h3]; rfl))
      · exact siteSlk_m m t l L A L.length cap w (Lib.hid rfl) h12 (Lib.hid hf) HR CA (Lib.hid h1) (Lib.hid h2) (Lib.hid (by unfold slaE; rw [h1, rngE_f h2]; rfl))
    · exact siteSlk_t m t l _ L A L.length cap w (Lib.hid rfl) h12 (Lib.hid hf) HR CA (Lib.hid rfl) (by simpa using h1) (Lib.hid (by unfold slaE firE; rw [if_neg h1]))
end Go.Proofs.YtallnjehhoengaaGreat
